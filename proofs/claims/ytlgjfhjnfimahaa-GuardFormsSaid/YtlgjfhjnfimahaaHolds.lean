/-
  holds: what it tells of a function that comes to its end, and of one that panics.
-/
import Derived.Test.YtlgjfhjnfimahaaDie
import Derived.Defers
import Derived.Recover
import Derived.Laws.Pointers
namespace Go.Proofs.Ytlgjfhjnfimahaa
open Go.RowKit

theorem catch_panicking (p : Addr) (x : Bool) (u : TypeId) (pv : Value) (older : List PanicEntry) (w : World) (hc : w.cell? p = some (.bool x)) (hz : w.frozen? p = false) :
    CallsD Try.prog 21 #[.pointer (some p)] (.panicking ({ v := .iface u pv, recovered := false } :: older)) w fun e u' w' =>
      e = .returned (.tuple #[]) ∧ u' = .panicking ({ v := .iface u pv, recovered := true } :: older) ∧ w' = w.setCell p (.bool false) := by
  refine callsD_of_wpS Try.func21 rfl fun c₀ cs hu => ?_
  apply wpS_seq
  apply wpS_region
  simp [wpOpsS, go_sem, recoverD, hu, Try.ntmps21, Exit.thenS]
  refine wpS_cond (t := true) (by simp [Act.eval, Array.replicate]) ?_
  simp only [if_true]
  apply wpS_region
  simp [wpOpsS, go_sem, hc, hz, bodyPostS, results, Try.results21]

theorem catch_idle (p : Addr) (w : World) :
    CallsD Try.prog 21 #[.pointer (some p)] .returning w fun e u' w' => e = .returned (.tuple #[]) ∧ u' = .returning ∧ w' = w := by
  refine callsD_of_wpS Try.func21 rfl fun c₀ cs hu => ?_
  apply wpS_seq
  apply wpS_region
  simp [wpOpsS, go_sem, recoverD, hu, Try.ntmps21, Exit.thenS]
  refine wpS_cond (t := false) (by simp [Act.eval, Array.replicate]) ?_
  simp only [Bool.false_eq_true, if_false]
  refine wpS_of_wp (wp_skip ?_)
  cases c₀
  simp_all [bodyPostS, results, Try.results21]

/-- the variable of the named result can be read and written -/
def OkVar (w0 w : World) : Prop := w.cell? ⟨w0.heap.size, 0, none⟩ = some (.bool false) ∧ w.frozen? ⟨w0.heap.size, 0, none⟩ = false

theorem holds_ret (f : FuncId) (cap : Array Value) (w : World) (R : World → Prop) (hi : ∀ w, (callFunc f cap).run Try.prog w = .ok (.enter f cap) w)
    (hcall : Calls Try.prog f cap (w.alloc (.cells #[.bool false] 4)) fun e w' => e = .returned (.tuple #[]) ∧ R w' ∧ OkVar w w') :
    Calls Try.prog 15 #[.func (.func f) #[] cap] w fun e w' => e = .returned (.bool true) ∧ ∃ w1, R w1 ∧ w' = w1.setCell ⟨w.heap.size, 0, none⟩ (.bool true) := by
  have hmf : ∀ (fn : Fn) (first cap : Array Value) (w : World), (Instr.makeFunc fn first cap).run Try.prog w = .ok (.func fn first cap) w := fun _ _ _ _ => rfl
  have H := Lib.hid hcall
  clear hcall
  go_enter_defers Try.func15, Try.ntmps15
  go_wp2_with fail
  refine (H.out).mono ?_; rintro e w1 ⟨rfl, hR, hc, hz⟩
  have HR := Lib.hid hR
  clear hR
  go_wp2
  refine leaves_cons (f := 21) (args := #[.pointer (some ⟨w.heap.size, 0, none⟩)]) (by simp) (by simp [go_sem]) ?_
  refine (catch_idle ⟨w.heap.size, 0, none⟩ _).mono ?_
  rintro e u' w'' ⟨rfl, rfl, rfl⟩
  simp [Leaves, settle, results, Try.results15, go_sem, hc]
  exact ⟨w1, HR.out, rfl⟩

theorem holds_dies (f : FuncId) (cap : Array Value) (w : World) (R : World → Prop) (hi : ∀ w, (callFunc f cap).run Try.prog w = .ok (.enter f cap) w)
    (hcall : Calls Try.prog f cap (w.alloc (.cells #[.bool false] 4)) fun e w' => (∃ u pv, e = .panicked [{ v := .iface u pv, recovered := false }]) ∧ R w' ∧ OkVar w w') :
    Calls Try.prog 15 #[.func (.func f) #[] cap] w fun e w' => e = .returned (.bool false) ∧ ∃ w1, R w1 ∧ w' = w1.setCell ⟨w.heap.size, 0, none⟩ (.bool false) := by
  have hmf : ∀ (fn : Fn) (first cap : Array Value) (w : World), (Instr.makeFunc fn first cap).run Try.prog w = .ok (.func fn first cap) w := fun _ _ _ _ => rfl
  have H := Lib.hid hcall
  clear hcall
  go_enter_defers Try.func15, Try.ntmps15
  go_wp2_with fail
  refine (H.out).mono ?_; rintro e w1 ⟨⟨u, pv, rfl⟩, hR, hc, hz⟩
  have HR := Lib.hid hR
  clear hR
  go_wp2
  refine leaves_cons (f := 21) (args := #[.pointer (some ⟨w.heap.size, 0, none⟩)]) (by simp) (by simp [go_sem]) ?_
  refine (catch_panicking ⟨w.heap.size, 0, none⟩ false u pv [] _ hc hz).mono ?_
  rintro e u' w'' ⟨rfl, rfl, rfl⟩
  simp [Leaves, settle, results, Try.results15, go_sem, hc]
  exact ⟨w1, HR.out, rfl⟩

end Go.Proofs.Ytlgjfhjnfimahaa
