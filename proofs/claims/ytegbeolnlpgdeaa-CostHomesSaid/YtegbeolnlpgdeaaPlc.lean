/-
  A plan in a variable; contracts of package plan and of the reference's Pages, Device.
-/
import Derived.Test.YtegbeolnlpgdeaaPln
import Derived.Deep.WholeRow
namespace Go.Proofs.Ytegbeolnlpgdeaa
set_option maxRecDepth 100000
open Go.RowKit

theorem info_plan : (Try.prog.info? 26).map (·.size) = some 4 := by kernel_rfl
/-- a whole one loaded -/
def planLoad (p : Value) : Sem Value := Instr.loadAt 26 p
@[go_sem ↓] theorem loadAt_plan (p : Value) : Instr.loadAt 26 p = planLoad p := rfl

/-- block g holds a plan -/
def Pq (w : World) (g : Nat) (l s p b : Int) : Prop := Whole w g 26 #[Value.int IntKind.i64 l, Value.int IntKind.i64 s, Value.int IntKind.i64 p, Value.int IntKind.i64 b]
theorem Pq.c0 {w : World} {g : Nat} {l s p b : Int} (h : Pq w g l s p b) : w.cell? ⟨g, 0, none⟩ = some (.int .i64 l) := Whole.at_ h 0
theorem Pq.c1 {w : World} {g : Nat} {l s p b : Int} (h : Pq w g l s p b) : w.cell? ⟨g, 1, none⟩ = some (.int .i64 s) := Whole.at_ h 1
theorem Pq.load {w : World} {g : Nat} {l s p b : Int} (h : Pq w g l s p b) : (planLoad (.pointer (some ⟨g, 0, none⟩))).run Try.prog w = .ok (Value.agg #[Value.int IntKind.i64 l, Value.int IntKind.i64 s, Value.int IntKind.i64 p, Value.int IntKind.i64 b]) w :=
  run_loadAt_mid (P := Try.prog) w g 0 26 [.int .i64 l, .int .i64 s, .int .i64 p, .int .i64 b] _ (fun j v hv => by
    rw [Whole.at_ h, Nat.zero_add, ← hv]; simp) Try.underlying26 rfl (by rw [info_plan]; rfl)
theorem Pq.below {w w' : World} {g : Nat} {l s p b : Int} (h : Pq w g l s p b) (hb : Below w.heap.size w w') : Pq w' g l s p b := (hb.block g (Whole.lt h)).trans h
theorem plan_boxed (w : World) (l s p b : Int) : ∃ W, w.alloc (.cells #[Value.int IntKind.i64 l, Value.int IntKind.i64 s, Value.int IntKind.i64 p, Value.int IntKind.i64 b] 26) = W ∧ Hid (Pq W w.heap.size l s p b ∧ Below w.heap.size w W) :=
  ⟨_, rfl, Lib.hid ⟨heap_alloc_last w _, bal (Below.refl _ _)⟩⟩


/-- such a plan, in whole numbers -/
def MayN (l s p b : Nat) : Prop := (1 ≤ l ∧ l ≤ 64) ∧ s ≤ 16 ∧ (1 ≤ p ∧ p ≤ 1000) ∧ 1 ≤ b ∧ b ≤ 100
theorem MayN.may {l s p b : Nat} (h : MayN l s p b) : May (l : Int) (s : Int) (p : Int) (b : Int) := by unfold MayN at h; unfold May; omega
theorem May.nat {l s p b : Int} (h : May l s p b) : ∃ L S P B : Nat, l = L ∧ s = S ∧ p = P ∧ b = B ∧ MayN L S P B := by
  unfold May at h
  exact ⟨l.toNat, s.toNat, p.toNat, b.toNat, by omega, by omega, by omega, by omega, by unfold MayN; omega⟩


end Go.Proofs.Ytegbeolnlpgdeaa
