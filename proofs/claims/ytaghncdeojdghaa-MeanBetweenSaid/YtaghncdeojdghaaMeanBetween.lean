/-
  The mean is between the least and the greatest; the variance is nought just where all are the same; in whatever order. No conditions.
-/
import Derived.Test.YtaghncdeojdghaaBetween
import Derived.Deep.RegionLaw
namespace Go.Proofs.Ytaghncdeojdghaa.meanBetween
open Go.Proofs.Ytaghncdeojdghaa Go.Proofs.Ytaghncdeojdghaa.D Go.ChangeShapes Go.WideShapes Go.ChangeAt Go.RowKit

theorem step_append_own {P : Program} {ops : Array Oper} {o : Oper} {a : Act} {w : World} {K : Act → World → Prop} {Q : Exit → Act → World → Prop} {E : Prop} (hgd : o.guard = none) (s x : Operand) (t : TypeId)
    (ho : o.op = .call { callee := .builtin .append, args := #[s, x], argTypes := #[t, t] })
    (base : Nat) (e : TypeId) (i : TypeInfo) (z : Value) (size bytes : Nat) (ht : P.underlying t = some (.slice e)) (hi : P.info? e = some i) (hz : i.zero = some z)
    (hsize : i.size = size) (hby : i.bytes = bytes) (hzs : z.cells.size = size) (hsz : 0 < size)
    (v : Value) (n : Nat) (xs : List Value) (hs : a.eval s = v) (hown : w.ownsRow base e size v n xs)
    (ad : Addr) (m c : Nat) (news : List Value) (hx : a.eval x = .slice (some ad) m c) (hl : news.length = m * size) (hnews : ∀ j u, news[j]? = some u → w.cell? (ad.add j) = some u) (h1 : ∀ u ∈ news, u.oneCell' = true)
    (h63 : n + m ≤ maxLen) (hbytes : (n + m) * bytes ≤ 140737488355328) (hbase : base ≤ w.heap.size)
    (h : ∀ v' w', w'.ownsRow base e size v' (n + m) (xs ++ news) → w.grownBy w' v.ownBlock → K (a.put o.dst v') w') :
    if Region.wanted o (yielded ops a.tmps) = true then Oper.wp P o a w K Q else E := by
  have hw : Region.wanted o (yielded ops a.tmps) = true := by simp [Region.wanted, hgd]
  rw [if_pos hw]
  exact wp_append_own w s x t ho base e i z size bytes ht hi hz hsize hby hzs hsz v n xs hs hown ad m c news hx hl hnews h1 h63 hbytes hbase fun v' w' h2 h3 _ => h v' w' h2 h3

/-- a count's rest -/
def cv (n : Int) : Nat := (IntKind.u64.wrap n).toNat % 1000001
theorem cv_le (n : Int) : cv n ≤ 1000000 := by unfold cv; omega
theorem cv_of (n : Int) : ∃ u : Nat, IntKind.u64.wrap n = (u : Int) ∧ (u : Int).tmod 1000001 = (cv n : Int) := by
  obtain ⟨u, hu, _⟩ := u64_nat n
  refine ⟨u, hu, ?_⟩
  have h := tmod_nat u 1000001
  rw [show ((1000001 : Nat) : Int) = 1000001 from rfl] at h
  rw [h]; unfold cv; rw [hu, Int.toNat_natCast]
def ms (l : List Int) : List Int := l.map fun n => (cv n : Int)
theorem ms_length (l : List Int) : (ms l).length = l.length := by simp [ms]
theorem ms_snoc {l : List Int} {k : Nat} (h : k < l.length) : ms (l.take (k + 1)) = ms (l.take k) ++ [(cv (l.getD k 0) : Int)] := by
  rw [takeI_snoc h]; simp [ms]
theorem held_ms (l : List Int) : held (ms l) = l.map cv := by
  unfold held ms
  rw [List.map_map]
  exact List.map_congr_left fun n _ => hn_small (cv_le n)
theorem ms_getD {l : List Int} {i : Nat} (h : i < l.length) : (ms l).getD i 0 = (((l.map cv).getD i 0 : Nat) : Int) := by
  simp [ms, h]

theorem long (t : Int) (p : Option Addr) (n cap : Nat) (w : World) (h : n < 1 ∨ 200 < n) :
    Calls Try.prog 4 #[.slice p n cap, .int .i64 t] w fun e w' => e = .returned (.bool true) ∧ Below w.heap.size w w' := by
  rcases h with h | h
  · obtain rfl : n = 0 := by omega
    go_enter Try.func4, Try.ntmps4
    go_wp2_with fail
    refine (awake_any _).mono ?_; rintro e w' ⟨rfl, hb⟩
    go_wp2_with fail
    go_ret
    exact ⟨rfl, hb⟩
  · go_enter Try.func4, Try.ntmps4
    go_wp2_with fail
    refine (awake_any _).mono ?_; rintro e w' ⟨rfl, hb⟩
    go_wp2_with fail
    go_ret
    exact ⟨rfl, hb⟩

set_option maxHeartbeats 4000000 in
theorem short (t : Int) (l : List Int) (p : Option Addr) (cap : Nat) (w : World) (hr : RI w (.slice p l.length cap) l) (h0 : 1 ≤ l.length) (hl : l.length ≤ 200) :
    Calls Try.prog 4 #[.slice p l.length cap, .int .i64 t] w fun e w' => e = .returned (.bool true) ∧ Below w.heap.size w w' := by
  obtain ⟨i0, hi, hz0, hz1, hz2⟩ := info_parts info_int
  obtain ⟨u, hu, _⟩ := u64_nat t
  obtain ⟨r, hr'⟩ : ∃ r, r = u % l.length := ⟨_, rfl⟩
  have hrn : r < l.length := by rw [hr']; exact Nat.mod_lt _ h0
  have tm : (u : Int).tmod (l.length : Int) = (r : Int) := by rw [hr']; exact tmod_nat u l.length
  have R := Lib.hid hr
  obtain ⟨B, hB⟩ : ∃ B, B = w.heap.size := ⟨_, rfl⟩
  have HB := Lib.hid hB
  have R0 : Hid (Below B w w) := Lib.hid (Below.refl _ _)
  have TM := Lib.hid (And.intro hu (And.intro tm hrn))
  rw [← hB]
  clear hr hB hu tm hrn hr'
  go_enter Try.func4, Try.ntmps4
  go_wp2
  go_loopw [5, 27] (fun v i wr => ∃ k : Nat, k ≤ l.length ∧ i = .int .i64 k ∧ wr.ownsRow B 3 1 v (ms (l.take k)).length ((ms (l.take k)).map iv) ∧ Below B w wr) (fun _ i _ => l.length - (intOf i).toNat)
  case atStart => exact ⟨0, Nat.zero_le _, rfl, World.ownsRow_nil _ _ _ _, R0.out⟩
  case round =>
    clear R0
    obtain ⟨k, hk, rfl, hown, hbel⟩ := hrel
    by_cases hlt : k < l.length
    · obtain ⟨b, off, rfl, hc⟩ := ri_some (ri_below R.out (by rw [← HB.out]; exact hbel)) (by omega)
      have hcell := hc k hlt
      obtain ⟨x, hx, hm⟩ := cv_of (l.getD k 0)
      have HS := Lib.hid (ms_snoc hlt)
      have hcv := cv_le (l.getD k 0)
      have hlen : (ms (l.take k)).length = k := by rw [ms_length, List.length_take]; omega
      have HL := Lib.hid hlen
      rw [hlen] at hown
      have HO := Lib.hid hown
      have HBel := Lib.hid hbel
      have hsz : B ≤ wr.heap.size := by have := hbel.size; rw [← HB.out] at this; exact this
      clear hlen hown hbel hc R HB TM
      generalize cv (l.getD k 0) = c at *
      generalize l.getD k 0 = y at *
      go_wp2_with (at_builtin; refine wpList_append_own _ rfl _ _ 22 rfl B 3 i0 (.int .i64 0) 1 8 Try.underlying22 hi hz0 hz1 hz2 rfl (by decide) _ _ _ rfl (HO.out.alloc _) ⟨wr.heap.size, 0, none⟩ 1 1 [.int .i64 (c : Int)] rfl rfl ?c1 ?c2 ?c3 ?c4 ?c5 ?_)
      case c1 =>
        intro j u hj
        match j, hj with
        | 0, hj => simp at hj; subst hj; simp [Addr.add]
      case c2 => intro u hu; simp at hu; subst hu; rfl
      case c3 => unfold maxLen; omega
      case c4 => omega
      case c5 => simp; omega
      intro v' w1 hown1 hgrow _
      have hb1 : Below B w w1 := (HBel.out.alloc hsz _).grown hgrow (by rw [size_alloc]; omega) (by intro q hq; exact (HO.out.lt q hq).1)
      have hown2 : w1.ownsRow B 3 1 v' (ms (l.take (k + 1))).length ((ms (l.take (k + 1))).map iv) := by
        rw [HS.out, List.length_append, List.map_append, HL.out]; exact hown1
      clear hown1 hgrow HO HBel
      go_wp2
      go_roundw
      case rel => exact ⟨k + 1, by omega, by go_num, hown2, hb1⟩
      case measure => simp [intOf]; omega
    · obtain rfl : k = l.length := by omega
      rw [List.take_length] at hown
      have hO : OwnI B wr _ (ms l) := hown
      have hsz : B ≤ wr.heap.size := by have := hbel.size; rw [← HB.out] at this; exact this
      have HBel := Lib.hid hbel
      obtain ⟨pm, cm, rfl⟩ := hO.shape
      obtain ⟨g, rfl, hcm, hw⟩ := hO.some (by rw [ms_length]; omega)
      have HW := Lib.hid hw
      have RM := Lib.hid hO.ri
      rw [ms_length] at hcm
      rw [ms_length l]
      have c0 : wr.cell? ⟨g, 0, none⟩ = some (.int .i64 (((l.map cv).getD 0 0 : Nat) : Int)) := by
        have := hw 0 (by rw [ms_length]; omega)
        rwa [ms_getD (by omega)] at this
      have M0 := Lib.hid (show (l.map cv).getD 0 0 = least (l.map cv) 0 from rfl)
      have M1 := Lib.hid (show (l.map cv).getD 0 0 = most (l.map cv) 0 from rfl)
      clear hown hbel hO R HB hw
      generalize (l.map cv).getD 0 0 = z0 at *
      have hnpos : (0 : Int) < (l.length : Int) := by omega
      go_wp2
      go_quiet (fail)
      obtain ⟨wq, hwq⟩ : ∃ wq, wq = wr.drewN nq := ⟨_, rfl⟩
      have HQ : Hid (IW wq g (ms l)) := Lib.hid (by rw [hwq]; exact HW.out)
      have RQ : Hid (RI wq (.slice (some ⟨g, 0, none⟩) l.length cm) (ms l)) := Lib.hid (by rw [hwq]; have := ri_drew RM.out nq; rwa [ms_length] at this)
      have BQ : Hid (Below B w wq) := Lib.hid (by rw [hwq]; exact below_drewN HBel.out nq)
      have hszq : B ≤ wq.heap.size := by rw [hwq]; exact hsz
      rw [← hwq]
      clear hwq HW RM HBel hsz c0
      go_wp2
      go_loop [8, 9, 47] (fun lo hi i => ∃ j : Nat, j ≤ l.length ∧ lo = .int .i64 ((least (l.map cv) j : Nat) : Int) ∧ hi = .int .i64 ((most (l.map cv) j : Nat) : Int) ∧ i = .int .i64 j) (fun _ _ i => l.length - (intOf i).toNat)
      case atStart => exact ⟨0, Nat.zero_le _, by rw [M0.out], by rw [M1.out], rfl⟩
      case round =>
        obtain ⟨j, hj, rfl, rfl, rfl⟩ := hrel
        by_cases hlt : j < l.length
        · have hcell : wq.cell? ⟨g, j, none⟩ = some (.int .i64 (((l.map cv).getD j 0 : Nat) : Int)) := by
            have := HQ.out j (by rw [ms_length]; exact hlt)
            rwa [ms_getD hlt] at this
          have EL := Lib.hid (least_step (m := l.map cv) (j := j) (by simpa using hlt))
          have EM := Lib.hid (most_step (m := l.map cv) (j := j) (by simpa using hlt))
          clear M0 M1 HQ RQ BQ TM
          generalize (l.map cv).getD j 0 = x at *
          generalize least (l.map cv) j = lo at *
          generalize most (l.map cv) j = hi' at *
          go_wp2
          all_goals
            go_round
            case rel => exact ⟨j + 1, by omega, by rw [EL.out]; go_num, by rw [EM.out]; go_num, by go_num⟩
            case measure => simp [intOf]; omega
        · obtain rfl : j = l.length := by omega
          have hCl : (l.map cv).length = l.length := by simp
          have hC : ∀ x ∈ l.map cv, x ≤ 1000000 := by
            intro x hx; obtain ⟨n, _, rfl⟩ := List.mem_map.1 hx; exact cv_le n
          have hF := least_is (m := l.map cv) (by omega)
          have hG := most_is (m := l.map cv) (by omega)
          rw [hCl] at hF hG
          have X := Lib.hid (betw (by omega) (by omega) hC hF.1 hF.2 hG.1 hG.2)
          have hla := hC _ hF.1
          have hlb := hC _ hG.1
          obtain ⟨hu, tm, hrn⟩ := TM.out
          clear hCl hC hF hG M0 M1 TM
          generalize least (l.map cv) l.length = a at *
          generalize most (l.map cv) l.length = b at *
          have hne : ¬ ((l.length : Int) = 0) := by omega
          have hncz : (l.length : Int) ≤ (cm : Int) := by omega
          have hkz : (r : Int) ≤ (l.length : Int) := by omega
          have hk0 : (0 : Int) ≤ (r : Int) := by omega
          have hkc : (r : Int) ≤ (cm : Int) := by omega
          have HX : Hid (((wq.alloc (.cells #[] 3)).drew).ownsRow wq.heap.size 3 1 (.slice (some ⟨wq.heap.size, 0, none⟩) 0 0) 0 []) := Lib.hid (World.ownsRow_made wq #[] 0 (Nat.le_refl _) (by decide) rfl).drew
          have HX0 : Hid (Below wq.heap.size wq ((wq.alloc (.cells #[] 3)).drew)) := Lib.hid ((Below.refl _ _).alloc (Nat.le_refl _) _).drew
          obtain ⟨A, hA, hAc⟩ := drop_cellsI (w1 := wq) (w2 := wq) (g := g) (cm := cm) (k := r) (m := ms l) (by rw [ms_length]; exact hcm) (by rw [ms_length]; omega) HQ.out (Below.refl _ _)
          have HA := Lib.hid hAc
          have HT := Lib.hid (take_cellsI (w1 := wq) (w2 := wq) (g := g) (k := r) (m := ms l) HQ.out (Below.refl _ _))
          have L1 := Lib.hid (show (((ms l).drop r).map iv).length = (l.length - r) * 1 by rw [List.length_map, List.length_drop, ms_length, Nat.mul_one])
          have L2 := Lib.hid (show (((ms l).take r).map iv).length = r * 1 by rw [List.length_map, List.length_take, ms_length, Nat.mul_one, Nat.min_eq_left (by omega)])
          have OC : Hid (∀ (q : List Int), ∀ u ∈ q.map iv, u.oneCell' = true) := Lib.hid (fun q u hu => by obtain ⟨x, _, rfl⟩ := List.mem_map.1 hu; rfl)
          clear hAc HQ
          go_wp2_with fail
          go_region_law (first
            | (refine step_append_own rfl (.tmp 65) (.tmp 68) 22 rfl wq.heap.size 3 i0 (.int .i64 0) 1 8 Try.underlying22 hi hz0 hz1 hz2 rfl (by decide) (.slice (some ⟨wq.heap.size, 0, none⟩) 0 0) 0 [] (by simp [Act.eval]) HX.out A (l.length - r) (cm - r) (((ms l).drop r).map iv) (by simp [Act.eval]) L1.out (HA.out _ HX0.out) (OC.out _) (by unfold maxLen; omega) (by omega) (by simp) ?_
               intro v1 w3 own1 gr1
               have OW := Lib.hid own1
               have GR := Lib.hid (show Below wq.heap.size wq w3 from HX0.out.grown gr1 HX0.out.size (fun q hq => by cases hq; exact Nat.le_refl _))
               clear own1 gr1)
            | (refine step_append_own rfl (.tmp 69) (.tmp 72) 22 rfl wq.heap.size 3 i0 (.int .i64 0) 1 8 Try.underlying22 hi hz0 hz1 hz2 rfl (by decide) v1 (0 + (l.length - r)) ([] ++ ((ms l).drop r).map iv) (by simp [Act.eval]) OW.out ⟨g, 0, none⟩ r cm (((ms l).take r).map iv) (by simp [Act.eval]) L2.out (HT.out _ GR.out) (OC.out _) (by unfold maxLen; omega) (by omega) GR.out.size ?_
               intro v2 w4 own2 gr2
               have OV := Lib.hid (show OwnI wq.heap.size w4 v2 ((ms l).drop r ++ (ms l).take r) by
                 unfold OwnI
                 rw [List.length_append, List.length_drop, List.length_take, ms_length, Nat.min_eq_left (by omega), List.map_append]
                 simpa using own2)
               have GX := Lib.hid (show Below wq.heap.size wq w4 from GR.out.grown gr2 GR.out.size (fun q hq => (OW.out.lt q hq).1))
               clear own2 gr2))
          have RM := Lib.hid (ri_below RQ.out GX.out)
          have RT := Lib.hid OV.out.ri
          have BT := Lib.hid (show Below B w w4 from BQ.out.trans (GX.out.mono hszq))
          have hsz4 : B ≤ w4.heap.size := Nat.le_trans hszq GX.out.size
          have lim1 : (ms l).length ≤ maxLen := by rw [ms_length]; unfold maxLen; omega
          have lim2 : ((ms l).drop r ++ (ms l).take r).length ≤ maxLen := by
            rw [List.length_append, List.length_drop, List.length_take, ms_length]; unfold maxLen; omega
          obtain ⟨x, hx⟩ : ∃ x, ofV (l.map cv) = x := ⟨_, rfl⟩
          obtain ⟨v, hv⟩ : ∃ x, varV (l.map cv) = x := ⟨_, rfl⟩
          obtain ⟨y, hy⟩ : ∃ x, unV (l.map cv) = x := ⟨_, rfl⟩
          obtain ⟨t1, t2, t3⟩ := held_turn (ms l) r
          have C1 := Lib.hid (of_is (l := ms l) (x := x) (by rw [held_ms, hx]) lim1)
          have C2 := Lib.hid (var_is (l := ms l) (x := v) (by rw [held_ms, hv]) lim1)
          have C3 := Lib.hid (of_is (x := x) (by rw [ofV_congr t1 t2, held_ms, hx]) lim2)
          have C4 := Lib.hid (var_is (x := v) (by rw [varV_congr t1 t2 t3, held_ms, hv]) lim2)
          have C5 := Lib.hid (un_is (l := ms l) (x := y) (by rw [held_ms, hy]) lim1)
          obtain ⟨q1, q2, q3, q4, q5, q6, q7⟩ := X.out
          rw [hx] at q1 q2 q5
          rw [hv] at q3 q4 q6
          rw [hy] at q7
          have i1 : ((a : Int) == (b : Int)) = decide (a = b) := by rw [Bool.eq_iff_iff]; simp; omega
          clear RQ GX OV OW GR BQ HX HX0 HA HT L1 L2 OC X hA hx hv hy t1 t2 t3 lim1 lim2 hu tm
          generalize decide (a = b) = d at *
          generalize hrs : (ms l).drop r ++ (ms l).take r = rs at *
          clear hrs
          by_cases hb : b = 0
          · have i2 : ((b : Int) == 0) = true := by rw [hb]; rfl
            clear q7 C5 hb
            go_wp2_with fail
            refine (C1.out _ _ RM.out).mono ?_; rintro e w5 ⟨rfl, h5⟩
            have B5 := Lib.hid (below_drew h5)
            have M5 := Lib.hid (ri_next RM.out h5)
            have T5 := Lib.hid (ri_next RT.out h5)
            clear h5 RM RT
            go_wp2_with fail
            refine (C2.out _ _ M5.out).mono ?_; rintro e w6 ⟨rfl, h6⟩
            have B6 := Lib.hid (below_next B5.out h6)
            have T6 := Lib.hid (ri_next T5.out h6)
            clear h6 T5 M5 B5
            go_wp2_with fail
            refine (C3.out _ _ T6.out).mono ?_; rintro e w7 ⟨rfl, h7⟩
            have B7 := Lib.hid (below_next B6.out h7)
            have T7 := Lib.hid (ri_next T6.out h7)
            clear h7 T6 B6
            go_wp2_with fail
            refine (C4.out _ _ T7.out).mono ?_; rintro e w8 ⟨rfl, h8⟩
            have B8 := Lib.hid (below_next B7.out h8)
            clear h8 T7 B7
            go_wp2_with fail
            refine (awake_any _).mono ?_; rintro e w9 ⟨rfl, h9⟩
            go_wp2_with fail
            go_ret
            exact ⟨rfl, BT.out.trans ((below_more B8.out h9).mono hsz4)⟩
          · have i2 : ((b : Int) == 0) = false := beq_eq_false_iff_ne.2 (by omega)
            have q8 := q7 (by omega)
            clear q7 hb
            go_wp2_with fail
            refine (C1.out _ _ RM.out).mono ?_; rintro e w5 ⟨rfl, h5⟩
            have B5 := Lib.hid (below_drew h5)
            have M5 := Lib.hid (ri_next RM.out h5)
            have T5 := Lib.hid (ri_next RT.out h5)
            clear h5 RM RT
            go_wp2_with fail
            refine (C2.out _ _ M5.out).mono ?_; rintro e w6 ⟨rfl, h6⟩
            have B6 := Lib.hid (below_next B5.out h6)
            have M6 := Lib.hid (ri_next M5.out h6)
            have T6 := Lib.hid (ri_next T5.out h6)
            clear h6 T5 M5 B5
            go_wp2_with fail
            refine (C3.out _ _ T6.out).mono ?_; rintro e w7 ⟨rfl, h7⟩
            have B7 := Lib.hid (below_next B6.out h7)
            have M7 := Lib.hid (ri_next M6.out h7)
            have T7 := Lib.hid (ri_next T6.out h7)
            clear h7 T6 M6 B6
            go_wp2_with fail
            refine (C4.out _ _ T7.out).mono ?_; rintro e w8 ⟨rfl, h8⟩
            have B8 := Lib.hid (below_next B7.out h8)
            have M8 := Lib.hid (ri_next M7.out h8)
            clear h8 T7 M7 B7
            go_wp2_with fail
            refine (C5.out _ _ (by have := M8.out; first | exact this | rwa [ms_length] at this)).mono ?_; rintro e w9 ⟨rfl, h9⟩
            have B9 := Lib.hid (below_next B8.out h9)
            clear h9 M8 B8
            go_wp2_with fail
            refine (awake_any _).mono ?_; rintro e w10 ⟨rfl, h10⟩
            go_wp2_with fail
            go_ret
            exact ⟨rfl, BT.out.trans ((below_more B9.out h10).mono hsz4)⟩

theorem walk (l0 : List Int) (v0 : Value) (a1 : Int) (w : World) (w0 : IntsIn .i64 w v0 l0) (_ : (Lit.int .i64 a1).wf = true) :
    Calls Try.prog 4 #[v0, .int .i64 a1] w fun e w' => e = .returned (.bool true) ∧ Below w.heap.size w w' := by
  have hr := ri_in w0
  obtain ⟨p, cap, rfl, _⟩ := w0
  by_cases h : 1 ≤ l0.length ∧ l0.length ≤ 200
  · exact short a1 l0 p cap w hr h.1 h.2
  · exact long a1 p _ cap w (by omega)

set_option maxRecDepth 100000 in
theorem lifted (os : Os) (started : os.Started) (H : Type) (enc : TypeId × Value → H) :
    ReturnsInHanded {} Try.checked os 4 .any (Rows.meanBetweenSpec.pre6 enc Try.prog Try.f4 Rows.meanBetweenRow.domain false) (Rows.meanBetweenSpec.post enc Try.prog Try.f4 false true false false) := by
  refine returnsInHanded_of_change (C := Try.checked) own started (by kernel_rfl) Try.func4
    (ChangeSpec.witness6 (enc := enc) (C := Try.checked) false ⟨#[], #[.slice none 0 0, .int .i64 0], []⟩ 8 (by kernel_rfl) (by kernel_rfl) (by kernel_rfl) (by kernel_rfl)) ?_
  intro W base args ds gs before hval0 hW hcnd _
  have hval : ∀ (j : Nat) t v, Try.f4.params[j]? = some t → args[j]? = some v → Value.okWide Try.prog W .any base t v := hval0
  have hW' := hW
  have hlt := hW.lt
  obtain ⟨p, q, hA0, hV, hpq, hfz, hnd⟩ := hW
  have hA : DataW.TrodAll enc Try.prog W 0 (fun _ => true) true Try.f4.params.toList args.toList ds p := hA0
  rw [Try.params4] at hA hval
  obtain ⟨v0, vs0, d0, ds0, p0, q0, hargs, rfl, hp, h0, r0⟩ := trodAll_cons hA
  obtain ⟨v1, vs1, d1, ds1, p1, q1, rfl, rfl, rfl, h1, r1⟩ := trodAll_cons r0
  obtain ⟨rfl, rfl, rfl⟩ := trodAll_nil r1
  obtain rfl : args = #[v0, v1] := by cases args; simp_all
  obtain ⟨rfl, rfl⟩ := trodVars_none hV
  have hlt' : ∀ x ∈ before, x.block < W.heap.size := fun x hx => hlt x hx
  obtain ⟨l0, w0⟩ := ints_in Try.underlying22 Try.underlying3 (by kernel_rfl) (hval 0 22 v0 rfl rfl) (fun x hx => hlt' x (by rw [hpq, hp]; simp [hx])) h0
  obtain ⟨a1, rfl, rfl, rfl, w1⟩ := open_int Try.underlying3 (hval 1 3 v1 rfl rfl) h1
  refine (walk l0 v0 a1 W w0 w1).mono fun e W' ⟨he, hb⟩ => ?_
  subst he
  exact ⟨_, rfl, law_post rfl (by kernel_rfl) hW' (by rw [Try.params4]; intro t ht; simp only [List.mem_cons, List.not_mem_nil, or_false] at ht; (repeat' (first | (rcases ht with rfl | ht) | subst ht)) <;> exact ⟨by kernel_rfl, of_decide_eq_true (by kernel_rfl)⟩) rfl hb⟩

theorem over : Rows.meanBetweenRow.holds Try.pinned (OpenSpec.ofChange Rows.meanBetweenSpec) :=
  OpenClaim.holds_of_wide 4 Try.f4 rfl rfl rfl rfl rfl rfl rfl ⟨rfl, rfl, rfl, rfl, rfl⟩ rfl rfl rfl rfl rfl (by kernel_rfl) Try.func4 (by kernel_rfl)
    (of_decide_eq_true (by kernel_rfl)) (by unfold Func.isWrapper; first | (rw [if_pos (by decide +kernel)]; kernel_rfl) | (rw [if_neg (by decide +kernel)]; exact ⟨rfl, rfl⟩))
    (fun os started H enc _ => lifted os started H enc)

theorem proved : Rows.MeanBetweenSaid := over
end Go.Proofs.Ytaghncdeojdghaa.meanBetween
