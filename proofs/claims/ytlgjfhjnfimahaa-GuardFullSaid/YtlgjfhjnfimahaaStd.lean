/-
  The machine of package guard: steps that die.
-/
import Derived.Test.YtlgjfhjnfimahaaStp
namespace Go.Proofs.Ytlgjfhjnfimahaa
open Go.RowKit

theorem quo0 (a : Int) : ∃ u pv, ∀ w, (binOp .quo 3 (.int .i64 a) (.int .i64 0)).run Try.prog w = .halt (.panic (.iface u pv)) w := by
  refine ⟨Try.prog.rt.errorString, strVal "integer divide by zero", fun w => ?_⟩
  simp [go_sem, runtimePanic, goPanic]

theorem exec_quo {ρ : Operand → Value} {o : Oper} {t u : TypeId} {x y : Operand} {v : Value} {w w' : World} (ho : o.op = .binOp .quo t x y u) (he : eqGuard .quo t x y (ρ x) (ρ y) = pure ())
    (hr : (binOp .quo t (ρ x) (ρ y)).run Try.prog w = .halt (.panic v) w') : (execOp ρ o).run Try.prog w = .halt (.panic v) w' := by
  unfold execOp
  simp only [ho, Sem.run_bind, he, Sem.run_pure, Result.andThen_ok, hr]
  rfl

set_option maxHeartbeats 1000000 in
theorem step_div0 (w0 : World) (bm : Nat) (rv : Value) (a : Int) (r : List Int) (d n : Int) (w : World) (h : Mc w0 bm rv w (0 :: a :: r) d) :
    Calls Try.prog 22 #[.pointer (some ⟨bm, 0, none⟩), .agg #[.int .i64 3, .int .i64 n]] w fun e w' => Died e ∧ Mc w0 bm rv w' (0 :: a :: r) d := by
  have hlen := h.len
  have h1 := h.alloc (.cells #[.int .i64 3, .int .i64 n] 37)
  obtain ⟨p, c, hv, hc, hm⟩ := h1.view
  obtain ⟨_, c1, _, f1, _⟩ := hv.cells
  obtain ⟨g, off, rfl, ca, cb⟩ := hv.two
  have M := Lib.hid h1
  unfold maxLen at hm
  obtain ⟨N, hN⟩ : ∃ N, (0 :: a :: r).length = N := ⟨_, rfl⟩
  obtain ⟨K, hK⟩ : ∃ K, r.length + 1 = K := ⟨_, rfl⟩
  obtain ⟨R, hR⟩ : ∃ R, r.length = R := ⟨_, rfl⟩
  have hx : K = R + 1 ∧ N = K + 1 := by simp only [List.length_cons] at hN; omega
  rw [hN] at c1 hc hlen
  rw [hK] at cb
  rw [hR] at ca
  have e1 : (N : Int) - 1 = (K : Int) := by omega
  have e2 : (K : Int) - 1 = (R : Int) := by omega
  have b1 : R < K := by omega
  have b2 : K < N := by omega
  have b3 : N ≤ 1000 := hlen
  have e3 : IntKind.i64.wrap (R : Int) = (R : Int) := IntWalk.i64_in _ (by omega)
  have b4 : (R : Int) < (N : Int) := by omega
  have b5 : (K : Int) < (N : Int) := by omega
  clear h h1 hv hlen hN hK hR hx
  go_enter Try.func22, Try.ntmps22
  go_wp2_with fail
  refine region_dying (fun v w' => (∃ u pv, v = .iface u pv) ∧ Mc w0 bm rv w' (0 :: a :: r) d) [0, 1, 2, 3, 4, 5, 6, 7, 8, 9, 10, 11, 12, 13, 14, 15] [16] (by kernel_rfl) (by kernel_rfl) ?_ ?_
  · simp only [List.filterMap_cons, List.getElem?_toArray, List.getElem?_cons_zero, List.getElem?_cons_succ, List.filterMap_nil]
    iterate 16
      refine yields_step (v := ?_) rfl ?_ ?_
      rotate_left
      · go_simp <;> with_reducible rfl
      simp only [Act.put, List.setIfInBounds_toArray, List.set_cons_zero, List.set_cons_succ]
    intro i hi
    obtain rfl := List.mem_singleton.1 hi
    obtain ⟨u, pv, hq⟩ := quo0 a
    exact ⟨_, _, _, rfl, rfl, exec_quo rfl rfl (hq _), ⟨_, _, rfl⟩, M.out.drewN 1⟩
  · rintro a' v w' hd ⟨⟨u, pv, rfl⟩, hM⟩
    go_wp2
    exact ⟨hd, ⟨_, _, rfl⟩, hM⟩
set_option maxHeartbeats 1000000 in
theorem step_add_nil (w0 : World) (bm : Nat) (rv : Value) (d n : Int) (w : World) (h : Mc w0 bm rv w [] d) :
    Calls Try.prog 22 #[.pointer (some ⟨bm, 0, none⟩), .agg #[.int .i64 2, .int .i64 n]] w fun e w' => Died e ∧ Mc w0 bm rv w' [] d := by
  have h1 := h.alloc (.cells #[.int .i64 2, .int .i64 n] 37)
  obtain ⟨p, c, hv, hc, hm⟩ := h1.view
  obtain ⟨_, c1, _, f1, _⟩ := hv.cells
  have M := Lib.hid h1
  unfold maxLen at hm
  have e0 : ([] : List Int).length = 0 := rfl
  rw [e0] at c1
  have e3 : IntKind.i64.wrap (-2) = -2 := by decide
  clear h h1 hv hc e0
  go_enter Try.func22, Try.ntmps22
  go_wp2_with fail
  refine region_dying (fun v w' => (∃ u pv, v = .iface u pv) ∧ Mc w0 bm rv w' [] d) [0, 1, 2, 3, 4, 5, 6, 9, 10, 11, 12, 13] [7, 14] (by kernel_rfl) (by kernel_rfl) ?_ ?_
  · simp only [List.filterMap_cons, List.getElem?_toArray, List.getElem?_cons_zero, List.getElem?_cons_succ, List.filterMap_nil]
    iterate 12
      refine yields_step (v := ?_) rfl ?_ ?_
      rotate_left
      · go_simp <;> with_reducible rfl
      simp only [Act.put, List.setIfInBounds_toArray, List.set_cons_zero, List.set_cons_succ]
    intro i hi
    simp only [List.mem_cons, List.not_mem_nil, or_false] at hi
    rcases hi with rfl | rfl
    · obtain ⟨u, pv, m, hx⟩ := index_dies (P := Try.prog) 22 p 0 c .i64 (-2) Try.underlying22 (.inr (.inl (by decide))) (World.drew (w.alloc (.cells #[.int .i64 2, .int .i64 n] 37)))
      exact ⟨_, _, _, rfl, rfl, exec_index rfl hx, ⟨_, _, rfl⟩, (M.out.drewN 1).drewN m⟩
    · obtain ⟨u, pv, m, hx⟩ := index_dies (P := Try.prog) 22 p 0 c .i64 (-1) Try.underlying22 (.inr (.inl (by decide))) (World.drew (w.alloc (.cells #[.int .i64 2, .int .i64 n] 37)))
      exact ⟨_, _, _, rfl, rfl, exec_index rfl hx, ⟨_, _, rfl⟩, (M.out.drewN 1).drewN m⟩
  · rintro a' v w' hd ⟨⟨u, pv, rfl⟩, hM⟩
    go_wp2
    exact ⟨hd, ⟨_, _, rfl⟩, hM⟩

set_option maxHeartbeats 1000000 in
theorem step_add_one (w0 : World) (bm : Nat) (rv : Value) (b : Int) (d n : Int) (w : World) (h : Mc w0 bm rv w [b] d) :
    Calls Try.prog 22 #[.pointer (some ⟨bm, 0, none⟩), .agg #[.int .i64 2, .int .i64 n]] w fun e w' => Died e ∧ Mc w0 bm rv w' [b] d := by
  have h1 := h.alloc (.cells #[.int .i64 2, .int .i64 n] 37)
  obtain ⟨p, c, hv, hc, hm⟩ := h1.view
  obtain ⟨_, c1, _, f1, _⟩ := hv.cells
  obtain ⟨g, off, rfl, cb⟩ := hv.one
  have M := Lib.hid h1
  unfold maxLen at hm
  have e0 : [b].length = 1 := rfl
  rw [e0] at c1
  have cb' : (w.alloc (.cells #[.int .i64 2, .int .i64 n] 37)).cell? ⟨g, off, none⟩ = some (.int .i64 b) := cb
  have e3 : IntKind.i64.wrap (-1) = -1 := by decide
  clear h h1 hv hc e0 cb
  go_enter Try.func22, Try.ntmps22
  go_wp2_with fail
  refine region_dying (fun v w' => (∃ u pv, v = .iface u pv) ∧ Mc w0 bm rv w' [b] d) [0, 1, 2, 3, 4, 5, 6, 9, 10, 11, 12, 13, 14, 15] [7] (by kernel_rfl) (by kernel_rfl) ?_ ?_
  · simp only [List.filterMap_cons, List.getElem?_toArray, List.getElem?_cons_zero, List.getElem?_cons_succ, List.filterMap_nil]
    iterate 14
      refine yields_step (v := ?_) rfl ?_ ?_
      rotate_left
      · go_simp <;> with_reducible rfl
      simp only [Act.put, List.setIfInBounds_toArray, List.set_cons_zero, List.set_cons_succ]
    intro i hi
    obtain rfl := List.mem_singleton.1 hi
    obtain ⟨u, pv, m, hx⟩ := index_dies (P := Try.prog) 22 (some ⟨g, off, none⟩) 1 c .i64 (-1) Try.underlying22 (.inr (.inl (by decide))) (World.drew (w.alloc (.cells #[.int .i64 2, .int .i64 n] 37)))
    exact ⟨_, _, _, rfl, rfl, exec_index rfl hx, ⟨_, _, rfl⟩, (M.out.drewN 1).drewN m⟩
  · rintro a' v w' hd ⟨⟨u, pv, rfl⟩, hM⟩
    go_wp2
    exact ⟨hd, ⟨_, _, rfl⟩, hM⟩

set_option maxHeartbeats 1000000 in
theorem step_div_nil (w0 : World) (bm : Nat) (rv : Value) (d n : Int) (w : World) (h : Mc w0 bm rv w [] d) :
    Calls Try.prog 22 #[.pointer (some ⟨bm, 0, none⟩), .agg #[.int .i64 3, .int .i64 n]] w fun e w' => Died e ∧ Mc w0 bm rv w' [] d := by
  have h1 := h.alloc (.cells #[.int .i64 3, .int .i64 n] 37)
  obtain ⟨p, c, hv, hc, hm⟩ := h1.view
  obtain ⟨_, c1, _, f1, _⟩ := hv.cells
  have M := Lib.hid h1
  unfold maxLen at hm
  have e0 : ([] : List Int).length = 0 := rfl
  rw [e0] at c1
  have e3 : IntKind.i64.wrap (-2) = -2 := by decide
  clear h h1 hv hc e0
  go_enter Try.func22, Try.ntmps22
  go_wp2_with fail
  refine region_dying (fun v w' => (∃ u pv, v = .iface u pv) ∧ Mc w0 bm rv w' [] d) [0, 1, 2, 3, 4, 5, 6, 9, 10, 11, 12, 13] [7, 14] (by kernel_rfl) (by kernel_rfl) ?_ ?_
  · simp only [List.filterMap_cons, List.getElem?_toArray, List.getElem?_cons_zero, List.getElem?_cons_succ, List.filterMap_nil]
    iterate 12
      refine yields_step (v := ?_) rfl ?_ ?_
      rotate_left
      · go_simp <;> with_reducible rfl
      simp only [Act.put, List.setIfInBounds_toArray, List.set_cons_zero, List.set_cons_succ]
    intro i hi
    simp only [List.mem_cons, List.not_mem_nil, or_false] at hi
    rcases hi with rfl | rfl
    · obtain ⟨u, pv, m, hx⟩ := index_dies (P := Try.prog) 22 p 0 c .i64 (-2) Try.underlying22 (.inr (.inl (by decide))) (World.drew (w.alloc (.cells #[.int .i64 3, .int .i64 n] 37)))
      exact ⟨_, _, _, rfl, rfl, exec_index rfl hx, ⟨_, _, rfl⟩, (M.out.drewN 1).drewN m⟩
    · obtain ⟨u, pv, m, hx⟩ := index_dies (P := Try.prog) 22 p 0 c .i64 (-1) Try.underlying22 (.inr (.inl (by decide))) (World.drew (w.alloc (.cells #[.int .i64 3, .int .i64 n] 37)))
      exact ⟨_, _, _, rfl, rfl, exec_index rfl hx, ⟨_, _, rfl⟩, (M.out.drewN 1).drewN m⟩
  · rintro a' v w' hd ⟨⟨u, pv, rfl⟩, hM⟩
    go_wp2
    exact ⟨hd, ⟨_, _, rfl⟩, hM⟩

set_option maxHeartbeats 1000000 in
theorem step_div_one (w0 : World) (bm : Nat) (rv : Value) (b : Int) (d n : Int) (w : World) (h : Mc w0 bm rv w [b] d) :
    Calls Try.prog 22 #[.pointer (some ⟨bm, 0, none⟩), .agg #[.int .i64 3, .int .i64 n]] w fun e w' => Died e ∧ Mc w0 bm rv w' [b] d := by
  have h1 := h.alloc (.cells #[.int .i64 3, .int .i64 n] 37)
  obtain ⟨p, c, hv, hc, hm⟩ := h1.view
  obtain ⟨_, c1, _, f1, _⟩ := hv.cells
  obtain ⟨g, off, rfl, cb⟩ := hv.one
  have M := Lib.hid h1
  unfold maxLen at hm
  have e0 : [b].length = 1 := rfl
  rw [e0] at c1
  have cb' : (w.alloc (.cells #[.int .i64 3, .int .i64 n] 37)).cell? ⟨g, off, none⟩ = some (.int .i64 b) := cb
  have e3 : IntKind.i64.wrap (-1) = -1 := by decide
  clear h h1 hv hc e0 cb
  go_enter Try.func22, Try.ntmps22
  go_wp2_with fail
  refine region_dying (fun v w' => (∃ u pv, v = .iface u pv) ∧ Mc w0 bm rv w' [b] d) [0, 1, 2, 3, 4, 5, 6, 9, 10, 11, 12, 13, 14, 15] [7] (by kernel_rfl) (by kernel_rfl) ?_ ?_
  · simp only [List.filterMap_cons, List.getElem?_toArray, List.getElem?_cons_zero, List.getElem?_cons_succ, List.filterMap_nil]
    iterate 14
      refine yields_step (v := ?_) rfl ?_ ?_
      rotate_left
      · go_simp <;> with_reducible rfl
      simp only [Act.put, List.setIfInBounds_toArray, List.set_cons_zero, List.set_cons_succ]
    intro i hi
    obtain rfl := List.mem_singleton.1 hi
    obtain ⟨u, pv, m, hx⟩ := index_dies (P := Try.prog) 22 (some ⟨g, off, none⟩) 1 c .i64 (-1) Try.underlying22 (.inr (.inl (by decide))) (World.drew (w.alloc (.cells #[.int .i64 3, .int .i64 n] 37)))
    exact ⟨_, _, _, rfl, rfl, exec_index rfl hx, ⟨_, _, rfl⟩, (M.out.drewN 1).drewN m⟩
  · rintro a' v w' hd ⟨⟨u, pv, rfl⟩, hM⟩
    go_wp2
    exact ⟨hd, ⟨_, _, rfl⟩, hM⟩

end Go.Proofs.Ytlgjfhjnfimahaa
