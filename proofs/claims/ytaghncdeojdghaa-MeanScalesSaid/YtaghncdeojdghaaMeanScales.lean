/-
  Counts twice as large have a mean twice as large, a variance four times; so uneven as before. No conditions.
-/
import Derived.Test.YtaghncdeojdghaaOwnI
import Derived.Test.YtaghncdeojdghaaScale
namespace Go.Proofs.Ytaghncdeojdghaa.meanScales
open Go.Proofs.Ytaghncdeojdghaa Go.Proofs.Ytaghncdeojdghaa.D Go.ChangeShapes Go.WideShapes Go.ChangeAt Go.RowKit

/-- a count's rest -/
def cv (n : Int) : Nat := (IntKind.u64.wrap n).toNat % 400001
theorem cv_le (n : Int) : cv n ≤ 400000 := by unfold cv; omega
theorem cv_of (n : Int) : ∃ u : Nat, IntKind.u64.wrap n = (u : Int) ∧ (u : Int).tmod 400001 = (cv n : Int) := by
  obtain ⟨u, hu, _⟩ := u64_nat n
  refine ⟨u, hu, ?_⟩
  have h := tmod_nat u 400001
  rw [show ((400001 : Nat) : Int) = 400001 from rfl] at h
  rw [h]; unfold cv; rw [hu, Int.toNat_natCast]
def sc (l : List Int) : List Int := l.map fun n => (cv n : Int)
def db (l : List Int) : List Int := l.map fun n => 2 * (cv n : Int)
theorem sc_length (l : List Int) : (sc l).length = l.length := by simp [sc]
theorem db_length (l : List Int) : (db l).length = l.length := by simp [db]
theorem sc_snoc {l : List Int} {k : Nat} (h : k < l.length) : sc (l.take (k + 1)) = sc (l.take k) ++ [(cv (l.getD k 0) : Int)] := by
  rw [takeI_snoc h]; simp [sc]
theorem db_snoc {l : List Int} {k : Nat} (h : k < l.length) : db (l.take (k + 1)) = db (l.take k) ++ [2 * (cv (l.getD k 0) : Int)] := by
  rw [takeI_snoc h]; simp [db]
theorem held_sc (l : List Int) : held (sc l) = l.map cv := by
  unfold held sc
  rw [List.map_map]
  refine List.map_congr_left fun n _ => ?_
  exact hn_small (Nat.le_trans (cv_le n) (by decide))
theorem held_db (l : List Int) : held (db l) = dbl (l.map cv) := by
  unfold held db dbl
  rw [List.map_map, List.map_map]
  refine List.map_congr_left fun n _ => ?_
  have h := cv_le n
  have e : 2 * (cv n : Int) = ((cv n * 2 : Nat) : Int) := by omega
  show hn (2 * (cv n : Int)) = cv n * 2
  rw [e]; exact hn_small (by omega)

theorem long (p : Option Addr) (n cap : Nat) (w : World) (h : n < 1 ∨ 100 < n) :
    Calls Try.prog 6 #[.slice p n cap] w fun e w' => e = .returned (.bool true) ∧ Below w.heap.size w w' := by
  rcases h with h | h
  · obtain rfl : n = 0 := by omega
    go_enter Try.func6, Try.ntmps6
    go_wp2_with fail
    refine (awake_any _).mono ?_; rintro e w' ⟨rfl, hb⟩
    go_wp2_with fail
    go_ret
    exact ⟨rfl, hb⟩
  · go_enter Try.func6, Try.ntmps6
    go_wp2_with fail
    refine (awake_any _).mono ?_; rintro e w' ⟨rfl, hb⟩
    go_wp2_with fail
    go_ret
    exact ⟨rfl, hb⟩

set_option maxHeartbeats 4000000 in
theorem short (l : List Int) (p : Option Addr) (cap : Nat) (w : World) (hr : RI w (.slice p l.length cap) l) (h0 : 1 ≤ l.length) (hl : l.length ≤ 100) :
    Calls Try.prog 6 #[.slice p l.length cap] w fun e w' => e = .returned (.bool true) ∧ Below w.heap.size w w' := by
  obtain ⟨i0, hi, hz0, hz1, hz2⟩ := info_parts info_int
  have hC : ∀ x ∈ l.map cv, x ≤ 400000 := by
    intro x hx; obtain ⟨n, _, rfl⟩ := List.mem_map.1 hx; exact cv_le n
  have hC6 : ∀ x ∈ l.map cv, x ≤ 1000000 := fun x hx => Nat.le_trans (hC x hx) (by decide)
  have hCl : (l.map cv).length = l.length := by simp
  have F1 := of_dbl hC6 (by omega) (by omega)
  have F2 := var_dbl hC (by omega) (by omega)
  have F3 := un_dbl hC6
  have F4 := un_kinds (l.map cv)
  have lim1 : (sc l).length ≤ maxLen := by rw [sc_length]; unfold maxLen; omega
  have lim2 : (db l).length ≤ maxLen := by rw [db_length]; unfold maxLen; omega
  obtain ⟨x1, hx1⟩ : ∃ x, ofV (l.map cv) = x := ⟨_, rfl⟩
  obtain ⟨x2, hx2⟩ : ∃ x, ofV (dbl (l.map cv)) = x := ⟨_, rfl⟩
  obtain ⟨y1, hy1⟩ : ∃ x, varV (l.map cv) = x := ⟨_, rfl⟩
  obtain ⟨y2, hy2⟩ : ∃ x, varV (dbl (l.map cv)) = x := ⟨_, rfl⟩
  obtain ⟨z, hz⟩ : ∃ x, unV (l.map cv) = x := ⟨_, rfl⟩
  have A1 := Lib.hid (of_is (l := sc l) (x := x1) (by rw [held_sc, hx1]) lim1)
  have A2 := Lib.hid (of_is (l := db l) (x := x2) (by rw [held_db, hx2]) lim2)
  have A3 := Lib.hid (var_is (l := sc l) (x := y1) (by rw [held_sc, hy1]) lim1)
  have A4 := Lib.hid (var_is (l := db l) (x := y2) (by rw [held_db, hy2]) lim2)
  have A5 := Lib.hid (un_is (l := sc l) (x := z) (by rw [held_sc, hz]) lim1)
  have A6 := Lib.hid (un_is (l := db l) (x := z) (by rw [held_db, F3, hz]) lim2)
  have m1 : ∀ w, (binOp .mul 25 (.float .f64 4611686018427387904) (.float .f64 x1)).run Try.prog w = .ok (.float .f64 x2) w := fun w => run_float_arith w .mul _ .f64 _ _ _ (by rw [hx1, hx2] at F1; exact F1)
  have m2 : ∀ w, (binOp .mul 25 (.float .f64 4616189618054758400) (.float .f64 y1)).run Try.prog w = .ok (.float .f64 y2) w := fun w => run_float_arith w .mul _ .f64 _ _ _ (by rw [hy1, hy2] at F2; exact F2)
  have n1 : nan x2 = false := by
    rw [← hx2]; refine nan_small ?_
    unfold ofV; rw [dbl_length, if_neg (by omega)]
    unfold Q; split
    · decide
    · exact rn_inf _ _
  have n2 : nan y2 = false := by
    rw [← hy2]; refine nan_small ?_
    unfold varV; rw [dbl_length, if_neg (by omega)]
    unfold Q; split
    · decide
    · exact rn_inf _ _
  have q1 : (FloatKind.f64.format.order x2 x2 == some .eq) = true := by rw [eql_key, n1]; simp
  have q2 : (FloatKind.f64.format.order y2 y2 == some .eq) = true := by rw [eql_key, n2]; simp
  have q3 : (FloatKind.f64.format.order z z == some .eq) = !nan z := by rw [eql_key]; simp
  have q4 : (FloatKind.f64.format.order z z != some .eq) = nan z := self_ne z
  have R := Lib.hid hr
  obtain ⟨B, hB⟩ : ∃ B, B = w.heap.size := ⟨_, rfl⟩
  have HB := Lib.hid hB
  have R0 : Hid (Below B w w) := Lib.hid (Below.refl _ _)
  have M := Lib.hid (And.intro m1 (And.intro m2 (And.intro q1 (And.intro q2 (And.intro q3 q4)))))
  rw [← hB]
  clear hr hB hC hC6 hCl F1 F2 F3 F4 lim1 lim2 hx1 hx2 hy1 hy2 hz m1 m2 n1 n2 q1 q2 q3 q4
  go_enter Try.func6, Try.ntmps6
  go_wp2
  go_loopw [3, 4, 20] (fun v u i wr => ∃ k : Nat, k ≤ l.length ∧ i = .int .i64 k ∧ wr.ownsRow B 3 1 v (sc (l.take k)).length ((sc (l.take k)).map iv) ∧ wr.ownsRow B 3 1 u (db (l.take k)).length ((db (l.take k)).map iv) ∧ Hid (Ap v u) ∧ Below B w wr) (fun _ _ i _ => l.length - (intOf i).toNat)
  case atStart => exact ⟨0, Nat.zero_le _, rfl, World.ownsRow_nil _ _ _ _, World.ownsRow_nil _ _ _ _, Lib.hid (.inl rfl), R0.out⟩
  case round =>
    clear R0
    obtain ⟨k, hk, rfl, hown, hownb, AP, hbel⟩ := hrel
    by_cases hlt : k < l.length
    · obtain ⟨b, off, rfl, hc⟩ := ri_some (ri_below R.out (by rw [← HB.out]; exact hbel)) (by omega)
      have hcell := hc k hlt
      obtain ⟨x, hx, hm⟩ := cv_of (l.getD k 0)
      have HS := Lib.hid (sc_snoc hlt)
      have HD := Lib.hid (db_snoc hlt)
      have hcv := cv_le (l.getD k 0)
      have hlen : (sc (l.take k)).length = k := by rw [sc_length, List.length_take]; omega
      have hlen2 : (db (l.take k)).length = k := by rw [db_length, List.length_take]; omega
      have HL := Lib.hid hlen
      have HL2 := Lib.hid hlen2
      rw [hlen] at hown
      rw [hlen2] at hownb
      have HO := Lib.hid hown
      have HP := Lib.hid hownb
      have HBel := Lib.hid hbel
      have hsz : B ≤ wr.heap.size := by have := hbel.size; rw [← HB.out] at this; exact this
      clear hlen hlen2 hown hownb hbel hc R A1 A2 A3 A4 A5 A6 M HB
      generalize cv (l.getD k 0) = c at *
      generalize l.getD k 0 = y at *
      go_wp2_with (at_builtin; refine wpList_append_own_at _ rfl _ _ 22 rfl B 3 i0 (.int .i64 0) 1 8 Try.underlying22 hi hz0 hz1 hz2 rfl (by decide) _ _ _ rfl (HO.out.alloc _) ⟨wr.heap.size, 0, none⟩ 1 1 [.int .i64 (c : Int)] rfl rfl ?c1 ?c2 ?c3 ?c4 ?c5 ?_)
      case c1 =>
        intro j u hj
        match j, hj with
        | 0, hj => simp at hj; subst hj; simp [Addr.add]
      case c2 => intro u hu; simp at hu; subst hu; rfl
      case c3 => unfold maxLen; omega
      case c4 => omega
      case c5 => simp; omega
      intro v' w1 hown1 hgrow _ hat
      have HB1 := Lib.hid (show Below B w w1 from (HBel.out.alloc hsz _).grown hgrow (by rw [size_alloc]; omega) (by intro q hq; exact (HO.out.lt q hq).1))
      have AP1 := Lib.hid (AP.out.flip.step HP.out hat (Nat.le_succ _)).flip
      have HP1 := Lib.hid (AP.out.flip.keeps (HP.out.alloc _) hgrow)
      have HO1 := Lib.hid hown1
      have hsz1 : B ≤ w1.heap.size := Nat.le_trans (by rw [size_alloc]; omega) hgrow.size
      clear hown1 hgrow hat HO HP AP HBel hcell
      go_wp2_with (at_builtin; refine wpList_append_own_at _ rfl _ _ 22 rfl B 3 i0 (.int .i64 0) 1 8 Try.underlying22 hi hz0 hz1 hz2 rfl (by decide) _ _ _ rfl (HP1.out.alloc _) ⟨w1.heap.size, 0, none⟩ 1 1 [.int .i64 (2 * (c : Int))] rfl rfl ?d1 ?d2 ?d3 ?d4 ?d5 ?_)
      case d1 =>
        intro j u hj
        match j, hj with
        | 0, hj => simp at hj; subst hj; simp [Addr.add]
      case d2 => intro u hu; simp at hu; subst hu; rfl
      case d3 => unfold maxLen; omega
      case d4 => omega
      case d5 => simp; omega
      intro u' w2 hown2 hgrow _ hat
      have hb2 : Below B w w2 := (HB1.out.alloc hsz1 _).grown hgrow (by rw [size_alloc]; omega) (by intro q hq; exact (HP1.out.lt q hq).1)
      have hap2 : Hid (Ap v' u') := Lib.hid (AP1.out.step HO1.out hat (Nat.le_succ _))
      have hO2 := AP1.out.keeps (HO1.out.alloc _) hgrow
      have ra : w2.ownsRow B 3 1 v' (sc (l.take (k + 1))).length ((sc (l.take (k + 1))).map iv) := by
        rw [HS.out, List.length_append, List.map_append, HL.out]; exact hO2
      have rb : w2.ownsRow B 3 1 u' (db (l.take (k + 1))).length ((db (l.take (k + 1))).map iv) := by
        rw [HD.out, List.length_append, List.map_append, HL2.out]; exact hown2
      clear hown2 hgrow hat HO1 HP1 AP1 HB1 hO2
      go_wp2
      go_roundw
      case rel => exact ⟨k + 1, by omega, by go_num, ra, rb, hap2, hb2⟩
      case measure => simp [intOf]; omega
    · obtain rfl : k = l.length := by omega
      rw [List.take_length] at hown hownb
      obtain ⟨m1, m2, q1, q2, q3, q4⟩ := M.out
      have hO : OwnI B wr _ (sc l) := hown
      have hP : OwnI B wr _ (db l) := hownb
      have RA := Lib.hid hO.ri
      have RB := Lib.hid hP.ri
      have hsz : B ≤ wr.heap.size := by have := hbel.size; rw [← HB.out] at this; exact this
      have HBel := Lib.hid hbel
      obtain ⟨pa, ca, rfl⟩ := hO.shape
      obtain ⟨pb, cb, rfl⟩ := hP.shape
      clear hown hownb hbel hO hP R HB AP M
      cases hz : nan z <;> rw [hz] at q3 q4 <;> clear hz
      all_goals
        go_wp2_with fail
        refine (A5.out _ _ RA.out).mono ?_; rintro e w1 ⟨rfl, h1⟩
        have B1 := Lib.hid (below_drew h1)
        have L1 := Lib.hid (ri_next RA.out h1)
        have M1 := Lib.hid (ri_next RB.out h1)
        clear h1
        go_wp2_with fail
        refine (A6.out _ _ M1.out).mono ?_; rintro e w2 ⟨rfl, h2⟩
        have B2 := Lib.hid (below_next B1.out h2)
        have L2 := Lib.hid (ri_next L1.out h2)
        have M2 := Lib.hid (ri_next M1.out h2)
        clear h2 L1 M1 B1
        go_wp2_with fail
        refine (A2.out _ _ M2.out).mono ?_; rintro e w3 ⟨rfl, h3⟩
        have B3 := Lib.hid (below_next B2.out h3)
        have L3 := Lib.hid (ri_next L2.out h3)
        have M3 := Lib.hid (ri_next M2.out h3)
        clear h3 L2 M2 B2
        go_wp2_with fail
        refine (A1.out _ _ L3.out).mono ?_; rintro e w4 ⟨rfl, h4⟩
        have B4 := Lib.hid (below_next B3.out h4)
        have L4 := Lib.hid (ri_next L3.out h4)
        have M4 := Lib.hid (ri_next M3.out h4)
        clear h4 L3 M3 B3
        go_wp2_with fail
        refine (A4.out _ _ M4.out).mono ?_; rintro e w5 ⟨rfl, h5⟩
        have B5 := Lib.hid (below_next B4.out h5)
        have L5 := Lib.hid (ri_next L4.out h5)
        clear h5 L4 M4 B4
        go_wp2_with fail
        refine (A3.out _ _ L5.out).mono ?_; rintro e w6 ⟨rfl, h6⟩
        have B6 := Lib.hid (below_next B5.out h6)
        clear h6 L5 B5
        go_wp2_with fail
        refine (awake_any _).mono ?_; rintro e w7 ⟨rfl, h7⟩
        go_wp2_with fail
        go_ret
        exact ⟨rfl, HBel.out.trans ((below_more B6.out h7).mono hsz)⟩

theorem walk (l0 : List Int) (v0 : Value) (w : World) (w0 : IntsIn .i64 w v0 l0) :
    Calls Try.prog 6 #[v0] w fun e w' => e = .returned (.bool true) ∧ Below w.heap.size w w' := by
  have hr := ri_in w0
  obtain ⟨p, cap, rfl, _⟩ := w0
  by_cases h : 1 ≤ l0.length ∧ l0.length ≤ 100
  · exact short l0 p cap w hr h.1 h.2
  · exact long p _ cap w (by omega)

set_option maxRecDepth 100000 in
theorem lifted (os : Os) (started : os.Started) (H : Type) (enc : TypeId × Value → H) :
    ReturnsInHanded {} Try.checked os 6 .any (Rows.meanScalesSpec.pre6 enc Try.prog Try.f6 Rows.meanScalesRow.domain false) (Rows.meanScalesSpec.post enc Try.prog Try.f6 false true false false) := by
  refine returnsInHanded_of_change (C := Try.checked) own started (by kernel_rfl) Try.func6
    (ChangeSpec.witness6 (enc := enc) (C := Try.checked) false ⟨#[], #[.slice none 0 0], []⟩ 8 (by kernel_rfl) (by kernel_rfl) (by kernel_rfl) (by kernel_rfl)) ?_
  intro W base args ds gs before hval0 hW hcnd _
  have hval : ∀ (j : Nat) t v, Try.f6.params[j]? = some t → args[j]? = some v → Value.okWide Try.prog W .any base t v := hval0
  have hW' := hW
  have hlt := hW.lt
  obtain ⟨p, q, hA0, hV, hpq, hfz, hnd⟩ := hW
  have hA : DataW.TrodAll enc Try.prog W 0 (fun _ => true) true Try.f6.params.toList args.toList ds p := hA0
  rw [Try.params6] at hA hval
  obtain ⟨v0, vs0, d0, ds0, p0, q0, hargs, rfl, hp, h0, r0⟩ := trodAll_cons hA
  obtain ⟨rfl, rfl, rfl⟩ := trodAll_nil r0
  obtain rfl : args = #[v0] := by cases args; simp_all
  obtain ⟨rfl, rfl⟩ := trodVars_none hV
  have hlt' : ∀ x ∈ before, x.block < W.heap.size := fun x hx => hlt x hx
  obtain ⟨l0, w0⟩ := ints_in Try.underlying22 Try.underlying3 (by kernel_rfl) (hval 0 22 v0 rfl rfl) (fun x hx => hlt' x (by rw [hpq, hp]; simp [hx])) h0
  refine (walk l0 v0 W w0).mono fun e W' ⟨he, hb⟩ => ?_
  subst he
  exact ⟨_, rfl, law_post rfl (by kernel_rfl) hW' (by rw [Try.params6]; intro t ht; simp only [List.mem_cons, List.not_mem_nil, or_false] at ht; (repeat' (first | (rcases ht with rfl | ht) | subst ht)) <;> exact ⟨by kernel_rfl, of_decide_eq_true (by kernel_rfl)⟩) rfl hb⟩

theorem over : Rows.meanScalesRow.holds Try.pinned (OpenSpec.ofChange Rows.meanScalesSpec) :=
  OpenClaim.holds_of_wide 6 Try.f6 rfl rfl rfl rfl rfl rfl rfl ⟨rfl, rfl, rfl, rfl, rfl⟩ rfl rfl rfl rfl rfl (by kernel_rfl) Try.func6 (by kernel_rfl)
    (of_decide_eq_true (by kernel_rfl)) (by unfold Func.isWrapper; first | (rw [if_pos (by decide +kernel)]; kernel_rfl) | (rw [if_neg (by decide +kernel)]; exact ⟨rfl, rfl⟩))
    (fun os started H enc _ => lifted os started H enc)

theorem proved : Rows.MeanScalesSaid := over
end Go.Proofs.Ytaghncdeojdghaa.meanScales
