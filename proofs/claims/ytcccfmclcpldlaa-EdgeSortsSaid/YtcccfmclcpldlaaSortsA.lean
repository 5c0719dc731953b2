/-
  EdgeSorts over a list that is not empty and not too long.
-/
import Derived.Test.YtcccfmclcpldlaaRef2
import Derived.Deep.RegionLaw
import Derived.StillTailTactics
namespace Go.Proofs.Ytcccfmclcpldlaa.edgeSorts
open Go.Proofs.Ytcccfmclcpldlaa Go.Proofs.Ytcccfmclcpldlaa.D Go.ChangeShapes Go.WideShapes Go.ChangeAt Go.RowKit

theorem step_append_own {P : Program} {ops : Array Oper} {o : Oper} {a : Act} {w : World} {K : Act → World → Prop} {Q : Exit → Act → World → Prop} {E : Prop} (hgd : o.guard = none) (s x : Operand) (t : TypeId)
    (ho : o.op = .call { callee := .builtin .append, args := #[s, x], argTypes := #[t, t] })
    (base : Nat) (e : TypeId) (i : TypeInfo) (z : Value) (size bytes : Nat) (ht : P.underlying t = some (.slice e)) (hi : P.info? e = some i) (hz : i.zero = some z)
    (hsize : i.size = size) (hby : i.bytes = bytes) (hzs : z.cells.size = size) (hsz : 0 < size)
    (v : Value) (n : Nat) (xs : List Value) (hs : a.eval s = v) (hown : w.ownsRow base e size v n xs)
    (ad : Addr) (m c : Nat) (news : List Value) (hx : a.eval x = .slice (some ad) m c) (hl : news.length = m * size) (hnews : ∀ j u, news[j]? = some u → w.cell? (ad.add j) = some u) (h1 : ∀ u ∈ news, u.oneCell' = true)
    (h63 : n + m ≤ maxLen) (hbytes : (n + m) * bytes ≤ 140737488355328) (hbase : base ≤ w.heap.size)
    (h : ∀ v' w', w'.ownsRow base e size v' (n + m) (xs ++ news) → w.grownBy w' v.ownBlock → K (a.put o.dst v') w') :
    if Region.wanted o (yielded ops a.tmps) = true then Oper.wp P o a w K Q else E := by
  have hw : Region.wanted o (yielded ops a.tmps) = true := by simp [Region.wanted, hgd]
  rw [if_pos hw]
  exact wp_append_own w s x t ho base e i z size bytes ht hi hz hsize hby hzs hsz v n xs hs hown ad m c news hx hl hnews h1 h63 hbytes hbase fun v' w' h2 h3 _ => h v' w' h2 h3

theorem long (t : Int) (p : Option Addr) (n cap : Nat) (w : World) (h : 100 < n) :
    Calls Try.prog 5 #[.slice p n cap, .int .i64 t] w fun e w' => e = .returned (.bool true) ∧ Below w.heap.size w w' := by
  go_enter Try.func5, Try.ntmps5
  go_wp2_with fail
  refine (awake_any _).mono ?_; rintro e w' ⟨rfl, hb⟩
  go_wp2_with fail
  go_ret
  exact ⟨rfl, hb⟩

theorem turn_in (t : Int) (n : Nat) (hn : n ≤ 100) : ∃ k : Nat, wrap64 ((IntKind.u64.wrap t).tmod ((n : Int) + 1)) = (k : Int) ∧ k ≤ n := by
  have h0 : IntKind.u64.wrap t = t % 18446744073709551616 := by simp [IntKind.wrap, IntKind.bits, IntKind.signed]
  have h1 : 0 ≤ t % 18446744073709551616 := Int.emod_nonneg _ (by decide)
  rw [h0, Int.tmod_eq_emod_of_nonneg h1]
  have h2 := Int.emod_nonneg (t % 18446744073709551616) (show (n : Int) + 1 ≠ 0 by omega)
  have h3 := Int.emod_lt_of_pos (t % 18446744073709551616) (show (0 : Int) < (n : Int) + 1 by omega)
  refine ⟨((t % 18446744073709551616) % ((n : Int) + 1)).toNat, ?_, by omega⟩
  unfold wrap64
  omega

theorem own_cap {B c : Nat} {w : World} {p : Option Addr} {n : Nat} {l : List Nat} (h : Own B w (.slice p n c) l) : l.length ≤ c ∧ ((p = none ∧ l.length = 0 ∧ c = 0) ∨ ∃ g, p = some ⟨g, 0, none⟩) := by
  obtain ⟨_, ⟨h1, h2⟩ | ⟨g, cap, cur, h1, _, _, h3, _⟩⟩ := h
  · injection h1 with h4 h5 h6
    exact ⟨by omega, .inl ⟨h4, h2, h6⟩⟩
  · injection h1 with h4 h5 h6
    exact ⟨by omega, .inr ⟨g, h4⟩⟩

theorem below_more' {w w1 w2 : World} (h : Below w.heap.size w w1) (h2 : Below w1.heap.size w1 w2) : Below w.heap.size w w2 := h.trans (h2.mono h.size)

theorem reads_words {w : World} {g n c : Nat} {l : List Nat} (h : Reads w (.slice (some ⟨g, 0, none⟩) n c) l) : Words w g 0 l := by
  obtain ⟨p, cap, h1, rfl | ⟨b, off, rfl, hw⟩⟩ := h
  · intro i hi; exact absurd hi (by simp)
  · injection h1 with h2
    injection h2 with h2
    injection h2 with h2 h3
    subst h2 h3
    exact hw

theorem drop_cells {w1 w2 : World} {g cm k : Nat} {m : List Nat} (hc : m.length ≤ cm) (hk : k ≤ m.length) (h : Words w1 g 0 m) (hb : Below w1.heap.size w1 w2) :
    ∃ A, (if cm = k then some (⟨g, 0, none⟩ : Addr) else some ⟨g, k, none⟩) = some A ∧ ∀ W : World, Below w2.heap.size w2 W → ∀ j u, ((m.drop k).map fl)[j]? = some u → W.cell? (A.add j) = some u := by
  by_cases hck : cm = k
  · refine ⟨⟨g, 0, none⟩, by rw [if_pos hck], fun W _ j u hj => ?_⟩
    rw [List.drop_of_length_le (by omega)] at hj
    simp at hj
  · refine ⟨⟨g, k, none⟩, by rw [if_neg hck], fun W hW j u hj => ?_⟩
    have hjl : k + j < m.length := by
      have := (List.getElem?_eq_some_iff.1 hj).1
      simp at this; omega
    have e : (⟨g, k, none⟩ : Addr).add j = ⟨g, k + j, none⟩ := Go.WideShapes.add_plain ..
    have h1 := h (k + j) hjl
    rw [Nat.zero_add] at h1
    have h2 : w2.cell? ⟨g, k + j, none⟩ = some (.float .f64 (m.getD (k + j) 0)) := by rw [hb.cell (World.block_lt_of_cell? w1 _ h1)]; exact h1
    rw [e, hW.cell (World.block_lt_of_cell? w2 _ h2), h2]
    simp [hjl] at hj
    simp [hjl, ← hj, fl]

theorem take_cells {w1 w2 : World} {g k : Nat} {m : List Nat} (h : Words w1 g 0 m) (hb : Below w1.heap.size w1 w2) (W : World) (hW : Below w2.heap.size w2 W) (j : Nat) (u : Value) (hj : ((m.take k).map fl)[j]? = some u) : W.cell? ((⟨g, 0, none⟩ : Addr).add j) = some u := by
  have hjl : j < m.length ∧ j < k := by
    have := (List.getElem?_eq_some_iff.1 hj).1
    simp at this; omega
  have e : (⟨g, 0, none⟩ : Addr).add j = ⟨g, 0 + j, none⟩ := Go.WideShapes.add_plain ..
  have h1 := h j hjl.1
  have h2 : w2.cell? ⟨g, 0 + j, none⟩ = some (.float .f64 (m.getD j 0)) := by rw [hb.cell (World.block_lt_of_cell? w1 _ h1)]; exact h1
  rw [e, hW.cell (World.block_lt_of_cell? w2 _ h2), h2]
  simp [hjl.1, hjl.2] at hj
  simp [hjl.1, ← hj, fl]

theorem perm_turn (m : List Nat) (k : Nat) : m.Perm (m.drop k ++ m.take k) := by
  have := List.perm_append_comm (l₁ := m.take k) (l₂ := m.drop k)
  rwa [List.take_append_drop] at this
theorem sorted_same {l a b : List Nat} (h1 : l.Perm a) (h2 : l.Perm b) (s1 : AscP a) (s2 : AscP b) : sameL a b = true := by
  unfold sameL
  rw [decide_eq_true_eq]
  have hp : (a.map rk).Perm (b.map rk) := (h1.symm.trans h2).map rk
  have p1 : (a.map rk).Pairwise (· ≤ ·) := List.pairwise_map.2 s1
  have p2 : (b.map rk).Pairwise (· ≤ ·) := List.pairwise_map.2 s2
  exact hp.eq_of_pairwise (fun _ _ _ _ h g => Int.le_antisymm h g) p1 p2
theorem minV_lt {l : List Nat} (h : Small l) : minV l < 2 ^ 64 := by
  unfold minV; split
  · decide
  · exact minAt_small h _ (by omega)
theorem maxV_lt {l : List Nat} (h : Small l) : maxV l < 2 ^ 64 := by
  unfold maxV; split
  · decide
  · exact maxAt_small h _ (by omega)

set_option maxHeartbeats 4000000 in
theorem some_case (t : Int) (p : Option Addr) (n cap : Nat) (m : List Nat) (w : World) (hn : n ≤ 100) (hpos : 0 < n) (hm : m.length = n)
    (O : Hid (Calls Try.prog 14 #[.slice p n cap] w fun e w' => ∃ v', e = .returned v' ∧ Own w.heap.size w' v' m ∧ Below w.heap.size w w')) (SM : Hid (Small m)) :
    Calls Try.prog 5 #[.slice p n cap, .int .i64 t] w fun e w' => e = .returned (.bool true) ∧ Below w.heap.size w w' := by
  have HM := Lib.hid hm
  clear hm
  go_enter Try.func5, Try.ntmps5
  go_wp2_with fail
  refine O.out.mono ?_; rintro e w1 ⟨vm, rfl, ho, hb1⟩
  have R := Lib.hid ho.reads
  have B1 := Lib.hid hb1
  obtain ⟨pm, cm, rfl⟩ := own_shape ho
  rw [HM.out]
  have HO := Lib.hid ho
  clear O ho hb1
  go_wp2_with fail
  obtain ⟨k, hk, hkn⟩ := turn_in t n (by omega)
  rw [hk]
  clear hk
  refine (sort_any (.slice pm n cm) m _ (by have := R.out; rwa [HM.out] at this) (by rw [HM.out]; omega)).mono ?_; rintro e w2 ⟨va, d, rfl, pd, ad, od, hb2⟩
  have hdn : d.length = n := by rw [← pd.length_eq]; exact HM.out
  obtain ⟨ga, ca, rfl, hra⟩ := own_read od (by omega)
  have PD := Lib.hid pd
  have AD := Lib.hid ad
  have B2 := Lib.hid hb2
  have OD := Lib.hid od
  have CA := Lib.hid hra
  have DN := Lib.hid hdn
  rw [hdn]
  clear pd ad od hb2 hra hdn
  obtain ⟨hnc, ⟨rfl, hn0, rfl⟩ | ⟨g, rfl⟩⟩ := own_cap HO.out
  · rw [HM.out] at hn0; omega
  · rw [HM.out] at hnc
    have hkz : (k : Int) ≤ (n : Int) := by omega
    have hk0 : (0 : Int) ≤ (k : Int) := by omega
    have hncz : (n : Int) ≤ (cm : Int) := by omega
    have hkc : (k : Int) ≤ (cm : Int) := by omega
    obtain ⟨i0, hi, hz0, hz1, hz2⟩ := info_parts info_f64
    have W1 := Lib.hid (reads_words R.out)
    have hg1 : Hid (Below w1.heap.size w1 w2) := B2
    have HX : Hid (((w2.alloc (.cells #[] 25)).drew).ownsRow w2.heap.size 25 1 (.slice (some ⟨w2.heap.size, 0, none⟩) 0 0) 0 []) := Lib.hid (World.ownsRow_made w2 #[] 0 (Nat.le_refl _) (by decide) rfl).drew
    have HX0 : Hid (Below w2.heap.size w2 ((w2.alloc (.cells #[] 25)).drew)) := Lib.hid ((Below.refl _ _).alloc (Nat.le_refl _) _).drew
    obtain ⟨A, hA, hAc⟩ : ∃ A, (if cm = k then some (⟨g, 0, none⟩ : Addr) else some ⟨g, k, none⟩) = some A ∧ ∀ W : World, Below w2.heap.size w2 W → ∀ j u, ((m.drop k).map fl)[j]? = some u → W.cell? (A.add j) = some u :=
      drop_cells (by rw [HM.out]; omega) (by rw [HM.out]; exact hkn) W1.out B2.out
    have HA := Lib.hid hAc
    have HT : Hid (∀ W : World, Below w2.heap.size w2 W → ∀ j u, ((m.take k).map fl)[j]? = some u → W.cell? ((⟨g, 0, none⟩ : Addr).add j) = some u) := Lib.hid (take_cells W1.out B2.out)
    have L1 := Lib.hid (show ((m.drop k).map fl).length = (n - k) * 1 by rw [List.length_map, List.length_drop, HM.out, Nat.mul_one])
    have L2 := Lib.hid (show ((m.take k).map fl).length = k * 1 by rw [List.length_map, List.length_take, HM.out, Nat.mul_one, Nat.min_eq_left hkn])
    have OC : Hid (∀ (q : List Nat), ∀ u ∈ q.map fl, u.oneCell' = true) := Lib.hid (fun q u hu => by obtain ⟨x, _, rfl⟩ := List.mem_map.1 hu; rfl)
    clear hAc
    go_wp2_with fail
    go_region_law (first
      | (refine step_append_own rfl (.tmp 26) (.tmp 29) 27 rfl w2.heap.size 25 i0 (.float .f64 0) 1 8 Try.underlying27 hi hz0 hz1 hz2 rfl (by decide) (.slice (some ⟨w2.heap.size, 0, none⟩) 0 0) 0 [] (by simp [Act.eval]) HX.out A (n - k) (cm - k) ((m.drop k).map fl) (by simp [Act.eval]) L1.out (HA.out _ HX0.out) (OC.out _) (by unfold maxLen; omega) (by omega) (by simp) ?_
         intro v1 w3 own1 gr1
         have OW := Lib.hid own1
         have GR := Lib.hid (show Below w2.heap.size w2 w3 from HX0.out.grown gr1 HX0.out.size (fun q hq => by cases hq; exact Nat.le_refl _))
         clear own1 gr1)
      | (refine step_append_own rfl (.tmp 30) (.tmp 33) 27 rfl w2.heap.size 25 i0 (.float .f64 0) 1 8 Try.underlying27 hi hz0 hz1 hz2 rfl (by decide) v1 (0 + (n - k)) ([] ++ (m.drop k).map fl) (by simp [Act.eval]) OW.out ⟨g, 0, none⟩ k cm ((m.take k).map fl) (by simp [Act.eval]) L2.out (HT.out _ GR.out) (OC.out _) (by unfold maxLen; omega) (by omega) GR.out.size ?_
         intro v2 w4 own2 gr2
         have OV := Lib.hid (show Own w2.heap.size w4 v2 (m.drop k ++ m.take k) by
           unfold Own
           rw [List.length_append, List.length_drop, List.length_take, HM.out, Nat.min_eq_left hkn, List.map_append]
           simpa using own2)
         have GX := Lib.hid (show Below w2.heap.size w2 w4 from GR.out.grown gr2 GR.out.size (fun q hq => (OW.out.lt q hq).1))
         clear own2 gr2)
      | (go_simp; go_at_call 23
         refine (sort_any v2 (m.drop k ++ m.take k) _ OV.out.reads (by rw [List.length_append, List.length_drop, List.length_take, HM.out]; omega)).mono ?_; rintro e w5 ⟨vb, d2, rfl, pd2, ad2, od2, hb5⟩))
    have PM : Hid (m.Perm d2) := Lib.hid ((perm_turn m k).trans pd2)
    have W5 := Lib.hid (show Below w1.heap.size w1 w5 from (below_more' B2.out GX.out).trans (hb5.mono (Nat.le_trans B2.out.size GX.out.size)))
    have S5 := Lib.hid (show Below w2.heap.size w2 w5 from GX.out.trans (hb5.mono GX.out.size))
    have RV := Lib.hid od2.reads
    have A2 := Lib.hid ((asc_iff d2).1 ad2)
    clear pd2 ad2 od2 hb5
    have T1 : ((n : Int) != (n : Int)) = false := by simp
    have RA := Lib.hid (OD.out.reads)
    have AP := Lib.hid ((asc_iff d).1 AD.out)
    have SD := Lib.hid (small_perm PD.out SM.out)
    have SD2 := Lib.hid (small_perm PM.out SM.out)
    have DM := Lib.hid (show d.length ≤ maxLen by rw [DN.out]; unfold maxLen; omega)
    have E1 := Lib.hid (sorted_same PD.out PM.out AP.out A2.out)
    go_wp2_with fail
    refine (same_rd _ vb d d2 _ (by have := RA.out.below S5.out; rwa [DN.out] at this) RV.out DM.out SD.out SD2.out).mono ?_; rintro e w6 ⟨rfl, hb6⟩
    rw [E1.out]
    have S6 := Lib.hid (show Below w2.heap.size w2 w6 from S5.out.trans (hb6.mono S5.out.size))
    have W6 := Lib.hid (show Below w1.heap.size w1 w6 from W5.out.trans (hb6.mono W5.out.size))
    clear hb6
    go_wp2_with fail
    refine (sort_any _ d _ (by have := RA.out.below S6.out; rwa [DN.out] at this) (by rw [DN.out]; omega)).mono ?_; rintro e w7 ⟨vc, d3, rfl, pd3, ad3, od3, hb7⟩
    have S7 := Lib.hid (show Below w2.heap.size w2 w7 from S6.out.trans (hb7.mono S6.out.size))
    have W7 := Lib.hid (show Below w1.heap.size w1 w7 from W6.out.trans (hb7.mono W6.out.size))
    have RC := Lib.hid od3.reads
    have E2 := Lib.hid (sorted_same pd3 (List.Perm.refl d) ((asc_iff d3).1 ad3) AP.out)
    have SD3 := Lib.hid (small_perm pd3 SD.out)
    have DM3 := Lib.hid (show d3.length ≤ maxLen by rw [← pd3.length_eq]; exact DM.out)
    clear pd3 ad3 od3 hb7
    go_wp2_with fail
    refine (same_rd vc _ d3 d _ RC.out (by have := RA.out.below S7.out; rwa [DN.out] at this) DM3.out SD3.out SD.out).mono ?_; rintro e w8 ⟨rfl, hb8⟩
    rw [E2.out]
    have S8 := Lib.hid (show Below w2.heap.size w2 w8 from S7.out.trans (hb8.mono S7.out.size))
    have W8 := Lib.hid (show Below w1.heap.size w1 w8 from W7.out.trans (hb8.mono W7.out.size))
    clear hb8
    go_wp2
    go_loopw [9] (fun i wr => ∃ j : Nat, j + 1 ≤ n ∧ i = .int .i64 ((j : Int) + 1) ∧ Hid (Below w8.heap.size w8 wr)) (fun i _ => n - (intOf i).toNat)
    case atStart => exact ⟨0, by omega, rfl, Lib.hid (Below.refl _ _)⟩
    case round =>
      obtain ⟨j, hj, rfl, HW⟩ := hrel
      have SR := Lib.hid (show Below w2.heap.size w2 wr from S8.out.trans (HW.out.mono S8.out.size))
      have WR := Lib.hid (show Below w1.heap.size w1 wr from W8.out.trans (HW.out.mono W8.out.size))
      have cell : Hid (∀ q, q < n → wr.cell? ⟨ga, q, none⟩ = some (.float .f64 (d.getD q 0))) := Lib.hid (fun q hq => by
        have := CA.out q (by rw [DN.out]; exact hq)
        rw [SR.out.cell (World.block_lt_of_cell? w2 _ this)]; exact this)
      by_cases hlt : j + 1 < n
      · have c1 := cell.out (j + 1) hlt
        have c0 := cell.out j (by omega)
        have G := Lib.hid (cmp_all (d.getD (j + 1) 0) (d.getD j 0))
        have D : decide (cmp3 (rk (d.getD (j + 1) 0)) (rk (d.getD j 0)) < 0) = false := by
          rw [cmp3_neg, decide_eq_false_iff_not]
          have := AD.out j (j + 1) (by omega) (by rw [DN.out]; exact hlt)
          omega
        generalize d.getD (j + 1) 0 = x at *
        generalize d.getD j 0 = y at *
        have i1 : (j : Int) + 1 < (n : Int) := by omega
        have i2 : (0 : Int) ≤ (j : Int) + 1 := by omega
        have i3 : (j : Int) < (n : Int) := by omega
        have i4 : (0 : Int) ≤ (j : Int) := by omega
        go_wp2
        go_quiet ((go_at_call 19; exact Calls.quiet_of_same ((G.out _).mono fun e w' ⟨h1, h2⟩ => ⟨h1, h2.symm⟩)))
        go_wp2
        go_roundw
        case rel => exact ⟨j + 1, by omega, by go_num, Lib.hid (below_drewN HW.out nq)⟩
        case measure => simp [intOf]; omega
      · have hz : ((n : Int) == 0) = false := beq_eq_false_iff_ne.2 (by omega)
        have c0 := cell.out 0 hpos
        obtain ⟨r, hr⟩ : ∃ r, n = r + 1 := ⟨n - 1, by omega⟩
        have cr := cell.out r (by omega)
        have F1 := Lib.hid (first_min PD.out AP.out (by rw [HM.out]; exact hpos))
        have F2 : Hid (rk (d.getD r 0) = rk (maxV m)) := Lib.hid (by have := last_max PD.out AP.out (by rw [HM.out]; exact hpos); rwa [HM.out, hr, Nat.add_sub_cancel] at this)
        have X1 := Lib.hid (SD.out 0 (by rw [DN.out]; exact hpos))
        have X2 := Lib.hid (SD.out r (by rw [DN.out]; omega))
        have N1 := Lib.hid (same_is (minV m) (d.getD 0 0) (minV_lt SM.out) X1.out true (by rw [F1.out]; simp))
        have N2 := Lib.hid (same_is (maxV m) (d.getD r 0) (maxV_lt SM.out) X2.out true (by rw [F2.out]; simp))
        have MN : Hid (∀ W, Below w1.heap.size w1 W → Calls Try.prog 25 #[.slice (some ⟨g, 0, none⟩) n cm] W fun e w' => e = .returned (.float .f64 (minV m)) ∧ W = w') := Lib.hid (fun W hW => by
          have h1 := R.out.below hW
          rw [HM.out] at h1
          exact min_rd _ m W h1 (by rw [HM.out]; unfold maxLen; omega) SM.out)
        have MX : Hid (∀ W, Below w1.heap.size w1 W → Calls Try.prog 27 #[.slice (some ⟨g, 0, none⟩) n cm] W fun e w' => e = .returned (.float .f64 (maxV m)) ∧ W = w') := Lib.hid (fun W hW => by
          have h1 := R.out.below hW
          rw [HM.out] at h1
          exact max_rd _ m W h1 (by rw [HM.out]; unfold maxLen; omega) SM.out)
        subst hr
        generalize d.getD 0 0 = y at *
        generalize d.getD r 0 = z at *
        have i1 : (0 : Int) < (r : Int) + 1 := by omega
        have i2 : (r : Int) < (r : Int) + 1 := by omega
        have i4 : (0 : Int) ≤ (r : Int) := by omega
        go_wp2
        have hwr : IntKind.i64.wrap (r : Int) = (r : Int) := IntWalk.i64_in _ (by omega)
        go_region_law (first
          | (go_simp; go_at_call 25; refine (MN.out _ WR.out.drew).mono ?_; rintro e w9 ⟨rfl, rfl⟩)
          | (go_simp; go_at_call 21; first | (refine (N1.out _).mono ?_; rintro e w9 ⟨rfl, rfl⟩) | (refine (N2.out _).mono ?_; rintro e w9 ⟨rfl, rfl⟩))
          | (go_simp; go_at_call 27; refine (MX.out _ WR.out.drew).mono ?_; rintro e w9 ⟨rfl, rfl⟩)
          | (go_simp; go_at_call 12; refine (awake_any _).mono ?_; rintro e w9 ⟨rfl, hb9⟩))
        all_goals (go_wp2; go_ret; exact ⟨rfl, below_more' B1.out (below_more' WR.out.drew hb9)⟩)
end Go.Proofs.Ytcccfmclcpldlaa.edgeSorts
