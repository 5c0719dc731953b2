/-
  Contracts of package carve: what stands for a block that is taken, the blocks behind it, the words that are written.
-/
import Derived.Test.YtlpbdnfecnochaaCrd
import Derived.Test.YtlpbdnfecnochaaCcg
import Derived.Test.YtlpbdnfecnochaaEde
namespace Go.Proofs.Ytlpbdnfecnochaa
set_option maxRecDepth 100000
open Go.RowKit

theorem canC_no {l : List Bk} {i n : Int} (h : canC l i n = false) : mayS l = false ∨ i < 0 ∨ (l.length : Int) ≤ i ∨ (0 ≤ i ∧ i < l.length ∧ ((bAt l i).u = true ∨ takN (bAt l i).s n = 0)) := by
  by_cases h1 : mayS l = true
  · by_cases h2 : i < 0
    · exact .inr (.inl h2)
    · by_cases h3 : (l.length : Int) ≤ i
      · exact .inr (.inr (.inl h3))
      · refine .inr (.inr (.inr ⟨by omega, by omega, ?_⟩))
        by_cases h4 : (bAt l i).u = true
        · exact .inl h4
        · refine .inr ?_
          by_cases h5 : takN (bAt l i).s n = 0
          · exact h5
          · rw [canC_yes.2 ⟨h1, by omega, by omega, by simpa using h4, h5⟩] at h
            cases h
  · exact .inl (by simpa using h1)

set_option maxHeartbeats 1000000 in
theorem parts_no (l : List Bk) (i n : Int) (v : Value) (w : World) (hv : RA blkE w v l) (hl : l.length ≤ 1000) (h : canC l i n = false) :
    Calls Try.prog 27 #[v, .int .i64 i, .int .i64 n] w fun e w' => e = .returned (.slice none 0 0) ∧ Below w.heap.size w w' := by
  have C1 := Lib.hid (words_is l v w hv hl)
  have C2 := Lib.hid (fun (w' : World) (hb : Below w.heap.size w w') => may_is (szW l) l v (mayS l) w' (ra_below hv hb) hl (may_szW l))
  have H0 := Lib.hid (fun (w' : World) (hb : Below w.heap.size w w') => ra_below hv hb)
  obtain ⟨p, cap, rfl, hlc, hcm⟩ := ra_shape hv
  generalize szW l = z at *
  rcases canC_no h with h | h | h | ⟨h0, h1, h⟩
  · rw [h] at C2
    generalize l.length = L at *
    clear hv hl h hlc hcm
    go_enter Try.func27, Try.ntmps27
    go_wp2_with fail
    refine (C1.out).mono ?_; rintro e w1 ⟨rfl, b1⟩
    have D1 := Lib.hid b1
    go_wp2_with fail
    refine (C2.out w1 D1.out).mono ?_; rintro e w2 ⟨rfl, b2⟩
    have D2 := Lib.hid (below_more D1.out b2)
    clear b1 b2
    go_wp2_with fail
    go_ret
    exact ⟨rfl, D2.out⟩
  all_goals
    cases hm : mayS l
    · rw [hm] at C2
      generalize l.length = L at *
      clear hv hl h hlc hcm
      go_enter Try.func27, Try.ntmps27
      go_wp2_with fail
      refine (C1.out).mono ?_; rintro e w1 ⟨rfl, b1⟩
      have D1 := Lib.hid b1
      go_wp2_with fail
      refine (C2.out w1 D1.out).mono ?_; rintro e w2 ⟨rfl, b2⟩
      have D2 := Lib.hid (below_more D1.out b2)
      clear b1 b2
      go_wp2_with fail
      go_ret
      exact ⟨rfl, D2.out⟩
    rw [hm] at C2
  · generalize l.length = L at *
    clear hv hl hm hlc hcm
    go_enter Try.func27, Try.ntmps27
    go_wp2_with fail
    refine (C1.out).mono ?_; rintro e w1 ⟨rfl, b1⟩
    have D1 := Lib.hid b1
    go_wp2_with fail
    refine (C2.out w1 D1.out).mono ?_; rintro e w2 ⟨rfl, b2⟩
    have D2 := Lib.hid (below_more D1.out b2)
    clear b1 b2
    go_wp2_with fail
    go_ret
    exact ⟨rfl, D2.out⟩
  · have h2 : ¬ i < 0 := by omega
    have h3 : i ≥ (l.length : Int) := h
    generalize l.length = L at *
    clear hv hl hm hlc hcm h
    go_enter Try.func27, Try.ntmps27
    go_wp2_with fail
    refine (C1.out).mono ?_; rintro e w1 ⟨rfl, b1⟩
    have D1 := Lib.hid b1
    go_wp2_with fail
    refine (C2.out w1 D1.out).mono ?_; rintro e w2 ⟨rfl, b2⟩
    have D2 := Lib.hid (below_more D1.out b2)
    clear b1 b2
    go_wp2_with fail
    go_ret
    exact ⟨rfl, D2.out⟩
  · obtain ⟨k, rfl⟩ : ∃ k : Nat, i = k := ⟨i.toNat, by omega⟩
    have h2 : ¬ (k : Int) < 0 := by omega
    have h3 : ¬ (k : Int) ≥ (l.length : Int) := by omega
    have h4 : ¬ (l.length : Int) ≤ (k : Int) := by omega
    have hk : k < l.length := by omega
    have HX := Lib.hid (fun (w' : World) (hb : Below w.heap.size w w') => blk_at (H0.out w' hb) (Nat.lt_of_le_of_lt (Nat.zero_le _) hk))
    have hwf := (ra_ok hv).at_ hk
    have HK := Lib.hid hk
    have hB : bAt l (k : Int) = l.getD k default := by rw [bAt, Int.toNat_natCast]
    rw [hB] at h
    obtain ⟨⟨a, s, u⟩, hb⟩ : ∃ c, l.getD k default = c := ⟨_, rfl⟩
    rw [hb] at h hwf
    simp only at h
    have HB := Lib.hid hb
    have HW := Lib.hid hwf
    clear hv hl hm hlc hcm hk h0 hB hb hwf
    go_enter Try.func27, Try.ntmps27
    go_wp2_with fail
    refine (C1.out).mono ?_; rintro e w1 ⟨rfl, b1⟩
    have D1 := Lib.hid b1
    go_wp2_with fail
    refine (C2.out w1 D1.out).mono ?_; rintro e w2 ⟨rfl, b2⟩
    have D2 := Lib.hid (below_more D1.out b2)
    clear b1 b2
    obtain ⟨b, off, rfl, _, hx⟩ := HX.out w2 D2.out
    obtain ⟨hld, _, _, hu, _⟩ := hx k HK.out
    rw [HB.out] at hld hu
    have hu : w2.cell? ⟨b, off + k * 3 + 2, none⟩ = some (.bool u) := hu
    clear hx
    obtain ⟨W, hW, HWW⟩ := blk_boxed w2 ⟨a, s, u⟩
    have c1 : W.cell? ⟨w2.heap.size, 1, none⟩ = some (.int .i64 s) := HWW.out.1.c1
    cases u with
    | true =>
      clear h
      generalize l.length = L at *
      go_wp2_with fail
      go_ret
      exact ⟨rfl, D2.out⟩
    | false =>
      have h : takN s n = 0 := by
        rcases h with h | h
        · cases h
        · exact h
      have C3 := Lib.hid (takes_is s n 0 HW.out.ws h W)
      have D3 := Lib.hid (below_more D2.out HWW.out.2)
      clear h
      generalize l.length = L at *
      go_wp2_with fail
      refine (C3.out).mono ?_; rintro e w' ⟨rfl, rfl⟩
      go_wp2_with fail
      go_ret
      exact ⟨rfl, D3.out⟩

set_option maxHeartbeats 1000000 in
theorem parts_yes (l : List Bk) (i n : Int) (v : Value) (w : World) (hv : RA blkE w v l) (hl : l.length ≤ 1000) (h : canC l i n = true) :
    Calls Try.prog 27 #[v, .int .i64 i, .int .i64 n] w fun e w' => (∃ u, e = .returned u ∧ OwnA blkE w.heap.size w' u (prtB (bAt l i) n)) ∧ Below w.heap.size w w' := by
  have C1 := Lib.hid (words_is l v w hv hl)
  have C2 := Lib.hid (fun (w' : World) (hb : Below w.heap.size w w') => may_is (szW l) l v (mayS l) w' (ra_below hv hb) hl (may_szW l))
  have H0 := Lib.hid (fun (w' : World) (hb : Below w.heap.size w w') => ra_below hv hb)
  obtain ⟨p, cap, rfl, hlc, hcm⟩ := ra_shape hv
  obtain ⟨hm, h0, h1, hu, ht⟩ := canC_yes.1 h
  have hz := mayF_sizes (mayL_yes.1 hm).2 _ (bAt_mem h0 h1)
  have hz2 := (mayL_yes.1 hm).1
  rw [hm] at C2
  generalize szW l = z at *
  obtain ⟨k, rfl⟩ : ∃ k : Nat, i = k := ⟨i.toNat, by omega⟩
  have h2 : ¬ (k : Int) < 0 := by omega
  have h3 : ¬ (k : Int) ≥ (l.length : Int) := by omega
  have h4 : ¬ (l.length : Int) ≤ (k : Int) := by omega
  have hk : k < l.length := by omega
  have HX := Lib.hid (fun (w' : World) (hb : Below w.heap.size w w') => blk_at (H0.out w' hb) (Nat.lt_of_le_of_lt (Nat.zero_le _) hk))
  have HK := Lib.hid hk
  have hB : bAt l (k : Int) = l.getD k default := by rw [bAt, Int.toNat_natCast]
  have hwf := (ra_ok hv).at_ hk
  rw [hB] at hu ht hz ⊢
  obtain ⟨⟨a, s, u⟩, hb⟩ : ∃ c, l.getD k default = c := ⟨_, rfl⟩
  rw [hb] at hu ht hwf hz ⊢
  simp only at hu ht hz
  subst hu
  obtain ⟨⟨s1, s2⟩, a1, a2⟩ := hz
  obtain ⟨q1, q2, q3⟩ := hz2
  obtain ⟨t, hte⟩ : ∃ t, takN s n = t := ⟨_, rfl⟩
  obtain ⟨t1, t2, t3, t4⟩ := takN_some ht
  rw [hte] at ht t2 t3 t4
  have HB := Lib.hid hb
  have HS : Hid (2 ≤ s ∧ s ≤ 512 ∧ 0 ≤ a ∧ a ≤ 512) := Lib.hid ⟨s1, s2, a1, by omega⟩
  have C3 := Lib.hid (takes_is s n t hwf.ws hte)
  have n1 : (t == 0) = false := beq_eq_false_iff_ne.2 ht
  have HT := Lib.hid hte
  clear hv hl hlc hcm hk h0 hB hb hwf s1 s2 a1 a2 q1 q2 q3 h hm h1
  go_enter Try.func27, Try.ntmps27
  go_wp2_with fail
  refine (C1.out).mono ?_; rintro e w1 ⟨rfl, b1⟩
  have D1 := Lib.hid b1
  go_wp2_with fail
  refine (C2.out w1 D1.out).mono ?_; rintro e w2 ⟨rfl, b2⟩
  have D2 := Lib.hid (below_more D1.out b2)
  clear b1 b2
  obtain ⟨b, off, rfl, _, hx⟩ := HX.out w2 D2.out
  obtain ⟨hld, _, _, hu, _⟩ := hx k HK.out
  rw [HB.out] at hld hu
  have hu : w2.cell? ⟨b, off + k * 3 + 2, none⟩ = some (.bool false) := hu
  clear hx
  obtain ⟨W, hW, HWW⟩ := blk_boxed w2 ⟨a, s, false⟩
  have c1 : W.cell? ⟨w2.heap.size, 1, none⟩ = some (.int .i64 s) := HWW.out.1.c1
  have c0 : W.cell? ⟨w2.heap.size, 0, none⟩ = some (.int .i64 a) := HWW.out.1.c0
  have D3 := Lib.hid (below_more D2.out HWW.out.2)
  obtain ⟨V, hV, HV⟩ := blk_boxed W ⟨a, t, true⟩
  have D4 := Lib.hid (below_more D3.out HV.out.2)
  have XV := HWW.out.1.below HV.out.2
  have d1 : V.cell? ⟨w2.heap.size, 1, none⟩ = some (.int .i64 s) := XV.c1
  have d0 : V.cell? ⟨w2.heap.size, 0, none⟩ = some (.int .i64 a) := XV.c0
  have hl2 := HV.out.1.load
  generalize l.length = L at *
  by_cases e : t = s
  · have n2 : (t == s) = true := by rw [e]; simp
    have O : Hid (OwnA blkE w.heap.size (V.alloc (.cells (bc ⟨a, t, true⟩) 35)) (.slice (some ⟨V.heap.size, 0, none⟩) 1 1) (prtB ⟨a, s, false⟩ n)) := Lib.hid (by
      rw [prtB, if_pos (by rw [HT.out]; exact e)]
      subst e
      exact (blk_one V (c := ⟨a, t, true⟩) (Bk.wf_of (by have := HS.out; simp only; omega) (by have := HS.out; simp only; omega) (by have := HS.out; simp only; omega) (by have := HS.out; simp only; omega))).mono D4.out.size)
    have D5 := Lib.hid (bal (o := .cells (bc ⟨a, t, true⟩) 35) D4.out)
    clear e XV t1 t2 t3 t4 ht
    go_wp2_with fail
    refine (C3.out W).mono ?_; rintro e w' ⟨rfl, rfl⟩
    go_wp2_with fail
    go_ret
    exact ⟨⟨_, rfl, O.out⟩, D5.out⟩
  · have n2 : (t == s) = false := beq_eq_false_iff_ne.2 e
    have O : Hid (OwnA blkE w.heap.size (V.alloc (.cells (bc2 ⟨a, t, true⟩ ⟨a + t, s - t, false⟩) 35)) (.slice (some ⟨V.heap.size, 0, none⟩) 2 2) (prtB ⟨a, s, false⟩ n)) := Lib.hid (by
      rw [prtB, if_neg (by rw [HT.out]; exact e)]
      simp only [HT.out]
      exact (blk_two V (x := ⟨a, t, true⟩) (y := ⟨a + t, s - t, false⟩) (Bk.wf_of (by have := HS.out; simp only; omega) (by have := HS.out; simp only; omega) (by have := HS.out; simp only; omega) (by have := HS.out; simp only; omega)) (Bk.wf_of (by have := HS.out; simp only; omega) (by have := HS.out; simp only; omega) (by have := HS.out; simp only; omega) (by have := HS.out; simp only; omega))).mono D4.out.size)
    have D5 := Lib.hid (bal (o := .cells (bc2 ⟨a, t, true⟩ ⟨a + t, s - t, false⟩) 35) D4.out)
    have j1 : IntKind.i64.wrap (a + t) = a + t := IntWalk.i64_in _ (by have := HS.out; omega)
    have j2 : IntKind.i64.wrap (s - t) = s - t := IntWalk.i64_in _ (by have := HS.out; omega)
    clear e XV t1 t2 t3 t4 ht
    go_wp2_with fail
    refine (C3.out W).mono ?_; rintro e w' ⟨rfl, rfl⟩
    go_wp2_with fail
    go_ret
    exact ⟨⟨_, rfl, O.out⟩, D5.out⟩
end Go.Proofs.Ytlpbdnfecnochaa
