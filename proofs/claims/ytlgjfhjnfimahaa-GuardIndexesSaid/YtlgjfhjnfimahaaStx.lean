/-
  The machine of package guard: a place of the row, a drop, another kind; all steps together.
-/
import Derived.Test.YtlgjfhjnfimahaaStd
namespace Go.Proofs.Ytlgjfhjnfimahaa
open Go.RowKit

set_option maxHeartbeats 1000000 in
theorem step_place (w0 : World) (bm : Nat) (rv : Value) (row : List Int) (b : Int) (r : List Int) (d n : Int) (w : World) (h : Mc w0 bm rv w (b :: r) d) (hr : RI w rv row) (hb0 : 0 ≤ b) (hb1 : b < row.length) :
    Calls Try.prog 22 #[.pointer (some ⟨bm, 0, none⟩), .agg #[.int .i64 4, .int .i64 n]] w fun e w' => e = .returned (.tuple #[]) ∧ Mc w0 bm rv w' (row.getD b.toNat 0 :: r) d := by
  have hlen := h.len
  have h1 := h.alloc (.cells #[.int .i64 4, .int .i64 n] 37)
  have hr1 := ri_below hr (bal (o := .cells #[.int .i64 4, .int .i64 n] 37) (Below.refl _ _))
  obtain ⟨p, c, hv, hc, hm⟩ := h1.view
  obtain ⟨c0, c1, _, f1, _⟩ := hv.cells
  obtain ⟨g, off, rfl, cb⟩ := hv.one
  obtain ⟨β, rfl⟩ : ∃ β : Nat, b = β := ⟨b.toNat, by omega⟩
  have hβ : β < row.length := by omega
  obtain ⟨q, cr, rfl, hl, _, hz | ⟨g2, off2, rfl, hcell⟩⟩ := hr1
  · subst hz; simp at hβ
  have cy := hcell β hβ
  rw [show ((β : Int).toNat) = β from Int.toNat_natCast β]
  generalize row.getD β 0 = y at *
  have C := Lib.hid (put_one (h1.drewN 1) y)
  unfold maxLen at hm
  obtain ⟨N, hN⟩ : ∃ N, ((β : Int) :: r).length = N := ⟨_, rfl⟩
  obtain ⟨R, hR⟩ : ∃ R, r.length = R := ⟨_, rfl⟩
  have hx : N = R + 1 := by simp only [List.length_cons] at hN; omega
  rw [hN] at c1 hc hlen
  rw [hR] at cb
  have e1 : (N : Int) - 1 = (R : Int) := by omega
  have b1 : R < N := by omega
  have b3 : N ≤ 1000 := hlen
  have b4 : (R : Int) < (N : Int) := by omega
  have b6 : (β : Int) < (row.length : Int) := by omega
  generalize row.length = L at *
  clear h h1 hr hv hlen hN hR hx hcell hb0 hb1
  go_enter Try.func22, Try.ntmps22
  go_wp2_with fail
  refine wp_region_still_tail 14 (by kernel_rfl) (by kernel_rfl) ?_
  simp only [List.take_succ_cons, List.take_zero, List.drop_succ_cons, List.drop_zero]
  change wpStill _ _ (World.drew _) _ _ _
  repeat still_step
  refine wpStill_nil ?_
  change wpList _ _ _ _ _ (World.drew _)
  go_wp2_with fail
  refine C.out.mono ?_; rintro e w1 ⟨rfl, hM⟩
  have HM := Lib.hid hM
  clear hM
  go_wp2
  go_end0
  exact ⟨rfl, HM.out⟩

set_option maxHeartbeats 1000000 in
theorem step_place_out (w0 : World) (bm : Nat) (rv : Value) (row : List Int) (b : Int) (r : List Int) (d n : Int) (w : World) (h : Mc w0 bm rv w (b :: r) d) (hr : RI w rv row) (ho : b < 0 ∨ (row.length : Int) ≤ b) :
    Calls Try.prog 22 #[.pointer (some ⟨bm, 0, none⟩), .agg #[.int .i64 4, .int .i64 n]] w fun e w' => Died e ∧ Mc w0 bm rv w' (b :: r) d := by
  have hlen := h.len
  have h1 := h.alloc (.cells #[.int .i64 4, .int .i64 n] 37)
  obtain ⟨p, c, hv, hc, hm⟩ := h1.view
  obtain ⟨c0, c1, _, f1, _⟩ := hv.cells
  obtain ⟨g, off, rfl, cb⟩ := hv.one
  obtain ⟨q, cr, rfl, _⟩ := hr
  have M := Lib.hid h1
  unfold maxLen at hm
  have HX := Lib.hid (index_dies (P := Try.prog) 22 q row.length cr .i64 b Try.underlying22 (.inr ho) (World.drew (w.alloc (.cells #[.int .i64 4, .int .i64 n] 37))))
  obtain ⟨N, hN⟩ : ∃ N, (b :: r).length = N := ⟨_, rfl⟩
  obtain ⟨R, hR⟩ : ∃ R, r.length = R := ⟨_, rfl⟩
  have hx : N = R + 1 := by simp only [List.length_cons] at hN; omega
  rw [hN] at c1 hc hlen
  rw [hR] at cb
  have e1 : (N : Int) - 1 = (R : Int) := by omega
  have b1 : R < N := by omega
  have b3 : N ≤ 1000 := hlen
  have b4 : (R : Int) < (N : Int) := by omega
  generalize row.length = L at *
  clear h h1 hv hlen hN hR hx ho
  go_enter Try.func22, Try.ntmps22
  go_wp2_with fail
  refine region_dying (fun v w' => (∃ u pv, v = .iface u pv) ∧ Mc w0 bm (.slice q L cr) w' (b :: r) d) [0, 1, 2, 3, 4, 5, 6, 7, 8, 9, 10, 11] [12] (by kernel_rfl) (by kernel_rfl) ?_ ?_
  · simp only [List.filterMap_cons, List.getElem?_toArray, List.getElem?_cons_zero, List.getElem?_cons_succ, List.filterMap_nil]
    iterate 12
      refine yields_step (v := ?_) rfl ?_ ?_
      rotate_left
      · go_simp <;> with_reducible rfl
      simp only [Act.put, List.setIfInBounds_toArray, List.set_cons_zero, List.set_cons_succ]
    intro i hi
    obtain rfl := List.mem_singleton.1 hi
    obtain ⟨u, pv, m, hx⟩ := HX.out
    exact ⟨_, _, _, rfl, rfl, exec_index rfl hx, ⟨_, _, rfl⟩, (M.out.drewN 1).drewN m⟩
  · rintro a' v w' hd ⟨⟨u, pv, rfl⟩, hM⟩
    go_wp2
    exact ⟨hd, ⟨_, _, rfl⟩, hM⟩

set_option maxHeartbeats 1000000 in
theorem step_place_nil (w0 : World) (bm : Nat) (rv : Value) (d n : Int) (w : World) (h : Mc w0 bm rv w [] d) (hsh : ∃ q L cr, rv = .slice q L cr) :
    Calls Try.prog 22 #[.pointer (some ⟨bm, 0, none⟩), .agg #[.int .i64 4, .int .i64 n]] w fun e w' => Died e ∧ Mc w0 bm rv w' [] d := by
  have h1 := h.alloc (.cells #[.int .i64 4, .int .i64 n] 37)
  obtain ⟨p, c, hv, hc, hm⟩ := h1.view
  obtain ⟨c0, c1, _, f1, _⟩ := hv.cells
  obtain ⟨q, L, cr, rfl⟩ := hsh
  have M := Lib.hid h1
  unfold maxLen at hm
  have e0 : ([] : List Int).length = 0 := rfl
  rw [e0] at c1
  clear h h1 hv hc e0
  go_enter Try.func22, Try.ntmps22
  go_wp2_with fail
  refine region_dying (fun v w' => (∃ u pv, v = .iface u pv) ∧ Mc w0 bm (.slice q L cr) w' [] d) [0, 1, 2, 3, 4, 5, 6, 7, 8, 9] [10] (by kernel_rfl) (by kernel_rfl) ?_ ?_
  · simp only [List.filterMap_cons, List.getElem?_toArray, List.getElem?_cons_zero, List.getElem?_cons_succ, List.filterMap_nil]
    iterate 10
      refine yields_step (v := ?_) rfl ?_ ?_
      rotate_left
      · go_simp <;> with_reducible rfl
      simp only [Act.put, List.setIfInBounds_toArray, List.set_cons_zero, List.set_cons_succ]
    intro i hi
    obtain rfl := List.mem_singleton.1 hi
    obtain ⟨u, pv, m, hx⟩ := index_dies (P := Try.prog) 22 p 0 c .i64 (-1) Try.underlying22 (.inr (.inl (by decide))) (World.drew (w.alloc (.cells #[.int .i64 4, .int .i64 n] 37)))
    exact ⟨_, _, _, rfl, rfl, exec_index rfl hx, ⟨_, _, rfl⟩, (M.out.drewN 1).drewN m⟩
  · rintro a' v w' hd ⟨⟨u, pv, rfl⟩, hM⟩
    go_wp2
    exact ⟨hd, ⟨_, _, rfl⟩, hM⟩

set_option maxHeartbeats 1000000 in
theorem step_drop (w0 : World) (bm : Nat) (rv : Value) (b : Int) (r : List Int) (d n : Int) (w : World) (h : Mc w0 bm rv w (b :: r) d) :
    Calls Try.prog 22 #[.pointer (some ⟨bm, 0, none⟩), .agg #[.int .i64 5, .int .i64 n]] w fun e w' => e = .returned (.tuple #[]) ∧ Mc w0 bm rv w' r d := by
  have hlen := h.len
  have h1 := h.alloc (.cells #[.int .i64 5, .int .i64 n] 37)
  obtain ⟨p, c, hv, hc, hm⟩ := h1.view
  obtain ⟨c0, c1, _, f1, _⟩ := hv.cells
  have HO : Hid (OwnI w0.heap.size (w.alloc (.cells #[.int .i64 5, .int .i64 n] 37)) (.slice p r.length c) r.reverse) := Lib.hid (by
    have := hv.own.upto (k := r.length) (by simp)
    rw [rev_take0] at this; exact this)
  have HM := Lib.hid (hv.stored (World.grownBy.refl _ none) (fun k hk => by cases hk) HO.out (by simp only [List.length_cons] at hlen; omega))
  unfold maxLen at hm
  obtain ⟨N, hN⟩ : ∃ N, (b :: r).length = N := ⟨_, rfl⟩
  obtain ⟨R, hR⟩ : ∃ R, r.length = R := ⟨_, rfl⟩
  have hx : N = R + 1 := by simp only [List.length_cons] at hN; omega
  rw [hN] at c1 hc hlen
  rw [hR] at HM
  have e1 : (N : Int) - 1 = (R : Int) := by omega
  have b1 : R < N := by omega
  have b2 : R ≤ c := by omega
  have b3 : N ≤ 1000 := hlen
  have b4 : (R : Int) ≤ (c : Int) := by omega
  clear h h1 hv hlen hN hR hx HO
  go_enter Try.func22, Try.ntmps22
  go_wp2
  go_end0
  exact ⟨rfl, HM.out⟩

set_option maxHeartbeats 1000000 in
theorem step_drop_nil (w0 : World) (bm : Nat) (rv : Value) (d n : Int) (w : World) (h : Mc w0 bm rv w [] d) :
    Calls Try.prog 22 #[.pointer (some ⟨bm, 0, none⟩), .agg #[.int .i64 5, .int .i64 n]] w fun e w' => Died e ∧ Mc w0 bm rv w' [] d := by
  have h1 := h.alloc (.cells #[.int .i64 5, .int .i64 n] 37)
  obtain ⟨p, c, hv, hc, hm⟩ := h1.view
  obtain ⟨c0, c1, _, f1, _⟩ := hv.cells
  have M := Lib.hid h1
  unfold maxLen at hm
  have e0 : ([] : List Int).length = 0 := rfl
  rw [e0] at c1
  obtain ⟨u, pv, m, hx⟩ := sliceTo_dies (P := Try.prog) 22 3 p 0 c .i64 (-1) Try.underlying22 (.inl (by decide)) (w.alloc (.cells #[.int .i64 5, .int .i64 n] 37))
  have HX := Lib.hid (show (Instr.sliceAt 22 (.slice p 0 c) none (some (.int .i64 (-1))) none).run Try.prog (w.alloc (.cells #[.int .i64 5, .int .i64 n] 37)) = _ from (run_sliceAt_slice (h := Try.underlying22) ..).trans hx)
  clear h h1 hv hc e0 hx
  go_enter Try.func22, Try.ntmps22
  go_wp2_with (refine wpList_dies (o := ⟨some 85, _, _, _, _, _⟩) rfl (exec_slice rfl HX.out) ?_)
  exact ⟨rfl, ⟨_, _, rfl⟩, M.out.drewN m⟩

set_option maxHeartbeats 1000000 in
theorem step_other (w0 : World) (bm : Nat) (rv : Value) (t : List Int) (d k n : Int) (w : World) (h : Mc w0 bm rv w t d) (h1 : ¬ k = 1) (h2 : ¬ k = 2) (h3 : ¬ k = 3) (h4 : ¬ k = 4) (h5 : ¬ k = 5) :
    Calls Try.prog 22 #[.pointer (some ⟨bm, 0, none⟩), .agg #[.int .i64 k, .int .i64 n]] w fun e w' => Died e ∧ Mc w0 bm rv w' t d := by
  have h1 := h.alloc (.cells #[.int .i64 k, .int .i64 n] 37)
  obtain ⟨p, c, hv, hc, hm⟩ := h1.view
  obtain ⟨c0, c1, _, f1, _⟩ := hv.cells
  have M := Lib.hid h1
  unfold maxLen at hm
  generalize t.length = N at *
  clear h h1 hv
  go_enter Try.func22, Try.ntmps22
  go_wp2
  exact ⟨rfl, ⟨_, _, rfl⟩, M.out⟩
end Go.Proofs.Ytlgjfhjnfimahaa
