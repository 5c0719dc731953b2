/-
  Contracts of guard.Index, guard.Div.
-/
import Derived.Test.YtlgjfhjnfimahaaHolds
import Derived.Test.YtlgjfhjnfimahaaMem
namespace Go.Proofs.Ytlgjfhjnfimahaa
open Go.RowKit

theorem okvar_alloc (w : World) (T : TypeId) : OkVar w (w.alloc (.cells #[.bool false] T)) := by
  have h : Whole (w.alloc (.cells #[.bool false] T)) w.heap.size T #[.bool false] := heap_alloc_new w _
  exact ⟨by rw [h.at_]; rfl, h.free 0⟩

theorem idx1_in (p0 p1 p2 : Addr) (v u : Value) (l : List Int) (i : Int) (w : World) (hr : RI w v l) (h0 : w.cell? p0 = some v) (h1 : w.cell? p1 = some (.int .i64 i)) (h2 : w.cell? p2 = some u) (hz : w.frozen? p2 = false) (hi : 0 ≤ i) (hl : i < l.length) :
    Calls Try.prog 16 #[.pointer (some p0), .pointer (some p1), .pointer (some p2)] w fun e w' => e = .returned (.tuple #[]) ∧ w' = w.setCell p2 (.int .i64 (l.getD i.toNat 0)) := by
  obtain ⟨k, rfl⟩ : ∃ k : Nat, i = k := ⟨i.toNat, by omega⟩
  have hk : k < l.length := by omega
  obtain ⟨p, cap, rfl, _, _, rfl | ⟨b, off, rfl, hc⟩⟩ := hr
  · simp at hk
  have hcell := hc k hk
  clear hc
  obtain ⟨y, hy⟩ : ∃ y, l.getD k 0 = y := ⟨_, rfl⟩
  rw [hy] at hcell
  have Y := Lib.hid hy.symm
  clear hy
  go_enter Try.func16, Try.ntmps16
  go_wp2
  go_end0
  exact ⟨rfl, by rw [Y.out]; rfl⟩

theorem idx1_out (p0 p1 p2 : Addr) (v : Value) (l : List Int) (i : Int) (w : World) (hr : RI w v l) (h0 : w.cell? p0 = some v) (h1 : w.cell? p1 = some (.int .i64 i)) (ho : i < 0 ∨ (l.length : Int) ≤ i) :
    Calls Try.prog 16 #[.pointer (some p0), .pointer (some p1), .pointer (some p2)] w fun e w' => (∃ u pv, e = .panicked [{ v := .iface u pv, recovered := false }]) ∧ ∃ n, w' = w.drewN n := by
  obtain ⟨p, cap, rfl, _, _, _⟩ := hr
  obtain ⟨u, pv, n, hx⟩ := index_dies (P := Try.prog) 22 p l.length cap .i64 i Try.underlying22 (.inr ho) w
  go_enter Try.func16, Try.ntmps16
  go_wp2_with (refine wpList_dies (o := ⟨some 5, _, _, _, _, _⟩) rfl (exec_index rfl hx) ?_)
  exact ⟨rfl, ⟨_, _, rfl⟩, _, rfl⟩

theorem index_in (v : Value) (l : List Int) (i : Int) (w : World) (hr : RI w v l) (hi : 0 ≤ i) (hl : i < l.length) :
    Calls Try.prog 9 #[v, .int .i64 i] w fun e w' => e = .returned (.tuple #[.int .i64 (l.getD i.toNat 0), .bool true]) ∧ Below w.heap.size w w' := by
  have hmf : ∀ (fn : Fn) (first cap : Array Value) (w : World), (Instr.makeFunc fn first cap).run Try.prog w = .ok (.func fn first cap) w := fun _ _ _ _ => rfl
  have R := Lib.hid hr
  have C := Lib.hid fun p0 p1 p2 w a b c d e => idx1_in p0 p1 p2 v (.int .i64 0) l i w a b c d e hi hl
  obtain ⟨p, cap, rfl, _⟩ := hr
  generalize l.getD i.toNat 0 = y at *
  go_enter Try.func9, Try.ntmps9
  go_wp2_with fail
  refine (holds_ret 16 _ _ (fun w' => w' = ((((w.alloc (.cells #[.slice p l.length cap] 22)).alloc (.cells #[.int .i64 i] 3)).alloc (.cells #[.int .i64 0] 3)).alloc (.cells #[.bool false] 4)).setCell ⟨w.heap.size + 2, 0, none⟩ (.int .i64 y)) (fun w => by simp [go_sem]) ?_).mono ?_
  · refine (C.out _ _ _ _ (ri_below R.out (bal (bal (bal (bal (Below.refl _ _)))))) ?_ ?_ ?_ ?_).mono ?_
    · simp [go_sem]
    · simp [go_sem]
    · simp [go_sem]
    · simp [go_sem]
    · rintro e w' ⟨rfl, rfl⟩
      exact ⟨rfl, rfl, by simp [go_sem], by simp [go_sem]⟩
  rintro e w' ⟨rfl, w1, rfl, rfl⟩
  go_wp2_with fail
  go_ret2
  exact ⟨rfl, bal (bal (bal (bal (Below.refl _ _))))⟩

theorem index_out (v : Value) (l : List Int) (i : Int) (w : World) (hr : RI w v l) (ho : i < 0 ∨ (l.length : Int) ≤ i) :
    Calls Try.prog 9 #[v, .int .i64 i] w fun e w' => e = .returned (.tuple #[.int .i64 0, .bool false]) ∧ Below w.heap.size w w' := by
  have hmf : ∀ (fn : Fn) (first cap : Array Value) (w : World), (Instr.makeFunc fn first cap).run Try.prog w = .ok (.func fn first cap) w := fun _ _ _ _ => rfl
  have R := Lib.hid hr
  have C := Lib.hid fun p0 p1 p2 w a b c => idx1_out p0 p1 p2 v l i w a b c ho
  obtain ⟨p, cap, rfl, _⟩ := hr
  clear ho
  go_enter Try.func9, Try.ntmps9
  go_wp2_with fail
  refine (holds_dies 16 _ _ (fun w' => ∃ n, w' = ((((w.alloc (.cells #[.slice p l.length cap] 22)).alloc (.cells #[.int .i64 i] 3)).alloc (.cells #[.int .i64 0] 3)).alloc (.cells #[.bool false] 4)).drewN n) (fun w => by simp [go_sem]) ?_).mono ?_
  · refine (C.out _ _ _ _ (ri_below R.out (bal (bal (bal (bal (Below.refl _ _)))))) ?_ ?_).mono ?_
    · simp [go_sem]
    · simp [go_sem]
    · rintro e w' ⟨h, n, rfl⟩
      exact ⟨h, ⟨n, rfl⟩, by simp [go_sem], by simp [go_sem]⟩
  rintro e w' ⟨rfl, w1, ⟨n, rfl⟩, rfl⟩
  go_wp2_with fail
  go_ret2
  refine ⟨rfl, ?_⟩
  exact ((below_drewN (bal (bal (bal (bal (Below.refl _ _))))) n).setCell (by simp; omega) _)

theorem div1_in (p0 p1 p2 : Addr) (u : Value) (a b : Int) (w : World) (hb : ¬ b = 0) (h0 : w.cell? p0 = some (.int .i64 a)) (h1 : w.cell? p1 = some (.int .i64 b)) (h2 : w.cell? p2 = some u) (hz : w.frozen? p2 = false) :
    Calls Try.prog 18 #[.pointer (some p0), .pointer (some p1), .pointer (some p2)] w fun e w' => e = .returned (.tuple #[]) ∧ w' = w.setCell p2 (.int .i64 (wrap64 (a.tdiv b))) := by
  go_enter Try.func18, Try.ntmps18
  go_wp2
  go_end0
  exact ⟨rfl, rfl⟩

theorem div1_out (p0 p1 p2 : Addr) (a : Int) (w : World) (h0 : w.cell? p0 = some (.int .i64 a)) (h1 : w.cell? p1 = some (.int .i64 0)) :
    Calls Try.prog 18 #[.pointer (some p0), .pointer (some p1), .pointer (some p2)] w fun e w' => (∃ u pv, e = .panicked [{ v := .iface u pv, recovered := false }]) ∧ w' = w := by
  go_enter Try.func18, Try.ntmps18
  go_wp2
  exact ⟨rfl, ⟨_, _, rfl⟩, rfl⟩

theorem div_in (a b : Int) (w : World) (hb : ¬ b = 0) :
    Calls Try.prog 12 #[.int .i64 a, .int .i64 b] w fun e w' => e = .returned (.tuple #[.int .i64 (wrap64 (a.tdiv b)), .bool true]) ∧ Below w.heap.size w w' := by
  have hmf : ∀ (fn : Fn) (first cap : Array Value) (w : World), (Instr.makeFunc fn first cap).run Try.prog w = .ok (.func fn first cap) w := fun _ _ _ _ => rfl
  have C := Lib.hid fun p0 p1 p2 w => div1_in p0 p1 p2 (.int .i64 0) a b w hb
  clear hb
  generalize wrap64 (a.tdiv b) = y at *
  go_enter Try.func12, Try.ntmps12
  go_wp2_with fail
  refine (holds_ret 18 _ _ (fun w' => w' = ((((w.alloc (.cells #[.int .i64 a] 3)).alloc (.cells #[.int .i64 b] 3)).alloc (.cells #[.int .i64 0] 3)).alloc (.cells #[.bool false] 4)).setCell ⟨w.heap.size + 2, 0, none⟩ (.int .i64 y)) (fun w => by simp [go_sem]) ?_).mono ?_
  · refine (C.out _ _ _ _ ?_ ?_ ?_ ?_).mono ?_
    · simp [go_sem]
    · simp [go_sem]
    · simp [go_sem]
    · simp [go_sem]
    · rintro e w' ⟨rfl, rfl⟩
      exact ⟨rfl, rfl, by simp [go_sem], by simp [go_sem]⟩
  rintro e w' ⟨rfl, w1, rfl, rfl⟩
  go_wp2_with fail
  go_ret2
  exact ⟨rfl, bal (bal (bal (bal (Below.refl _ _))))⟩

theorem div_out (a : Int) (w : World) :
    Calls Try.prog 12 #[.int .i64 a, .int .i64 0] w fun e w' => e = .returned (.tuple #[.int .i64 0, .bool false]) ∧ Below w.heap.size w w' := by
  have hmf : ∀ (fn : Fn) (first cap : Array Value) (w : World), (Instr.makeFunc fn first cap).run Try.prog w = .ok (.func fn first cap) w := fun _ _ _ _ => rfl
  have C := Lib.hid fun p0 p1 p2 w => div1_out p0 p1 p2 a w
  go_enter Try.func12, Try.ntmps12
  go_wp2_with fail
  refine (holds_dies 18 _ _ (fun w' => w' = (((w.alloc (.cells #[.int .i64 a] 3)).alloc (.cells #[.int .i64 0] 3)).alloc (.cells #[.int .i64 0] 3)).alloc (.cells #[.bool false] 4)) (fun w => by simp [go_sem]) ?_).mono ?_
  · refine (C.out _ _ _ _ ?_ ?_).mono ?_
    · simp [go_sem]
    · simp [go_sem]
    · rintro e w' ⟨h, rfl⟩
      exact ⟨h, rfl, by simp [go_sem], by simp [go_sem]⟩
  rintro e w' ⟨rfl, w1, rfl, rfl⟩
  go_wp2_with fail
  go_ret2
  exact ⟨rfl, bal (bal (bal (bal (Below.refl _ _))))⟩

end Go.Proofs.Ytlgjfhjnfimahaa
