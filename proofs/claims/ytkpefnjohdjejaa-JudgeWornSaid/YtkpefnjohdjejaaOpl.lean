/-
  Operations written out.
-/
import Derived.Test.YtkpefnjohdjejaaHop
namespace Go.Proofs.Ytkpefnjohdjejaa
set_option maxRecDepth 100000
open Go.ChangeShapes Go.WideShapes Go.ChangeAt Go.RowKit

/-- operations written out -/
def opBuild (ps : Array (Nat × Value)) : Sem Value := Instr.build 33 ps
@[go_sem ↓] theorem build_op (ps : Array (Nat × Value)) : Instr.build 33 ps = opBuild ps := rfl
theorem built_op0 (d : Int) : Try.prog.built 33 [(0, .int .i64 d)] = some (pxc ⟨d, 0, 0, 0, .slice none 0 0, []⟩) := by kernel_rfl
theorem built_op01 (d o : Int) : Try.prog.built 33 [(0, .int .i64 d), (1, .int .i64 o)] = some (pxc ⟨d, o, 0, 0, .slice none 0 0, []⟩) := by kernel_rfl
theorem built_op02 (d n : Int) : Try.prog.built 33 [(0, .int .i64 d), (2, .int .i64 n)] = some (pxc ⟨d, 0, n, 0, .slice none 0 0, []⟩) := by kernel_rfl
theorem built_op012 (d o n : Int) : Try.prog.built 33 [(0, .int .i64 d), (1, .int .i64 o), (2, .int .i64 n)] = some (pxc ⟨d, o, n, 0, .slice none 0 0, []⟩) := by kernel_rfl
theorem built_op014 (d o : Int) (p : Option Addr) (n c : Nat) : Try.prog.built 33 [(0, .int .i64 d), (1, .int .i64 o), (4, .slice p n c)] = some (pxc ⟨d, o, 0, 0, .slice p n c, []⟩) := by kernel_rfl
@[go_sem] theorem run_opBuild0 (w : World) (d : Int) : (opBuild #[(0, .int .i64 d)]).run Try.prog w = .ok (.agg (pxc ⟨d, 0, 0, 0, .slice none 0 0, []⟩)) w := run_build w _ _ _ (built_op0 d)
@[go_sem] theorem run_opBuild01 (w : World) (d o : Int) : (opBuild #[(0, .int .i64 d), (1, .int .i64 o)]).run Try.prog w = .ok (.agg (pxc ⟨d, o, 0, 0, .slice none 0 0, []⟩)) w := run_build w _ _ _ (built_op01 d o)
@[go_sem] theorem run_opBuild02 (w : World) (d n : Int) : (opBuild #[(0, .int .i64 d), (2, .int .i64 n)]).run Try.prog w = .ok (.agg (pxc ⟨d, 0, n, 0, .slice none 0 0, []⟩)) w := run_build w _ _ _ (built_op02 d n)
@[go_sem] theorem run_opBuild012 (w : World) (d o n : Int) : (opBuild #[(0, .int .i64 d), (1, .int .i64 o), (2, .int .i64 n)]).run Try.prog w = .ok (.agg (pxc ⟨d, o, n, 0, .slice none 0 0, []⟩)) w := run_build w _ _ _ (built_op012 d o n)
@[go_sem] theorem run_opBuild014 (w : World) (d o : Int) (p : Option Addr) (n c : Nat) : (opBuild #[(0, .int .i64 d), (1, .int .i64 o), (4, .slice p n c)]).run Try.prog w = .ok (.agg (pxc ⟨d, o, 0, 0, .slice p n c, []⟩)) w := run_build w _ _ _ (built_op014 d o p n c)
theorem built_op04 (d : Int) (p : Option Addr) (n c : Nat) : Try.prog.built 33 [(0, .int .i64 d), (4, .slice p n c)] = some (pxc ⟨d, 0, 0, 0, .slice p n c, []⟩) := by kernel_rfl
@[go_sem] theorem run_opBuild04 (w : World) (d : Int) (p : Option Addr) (n c : Nat) : (opBuild #[(0, .int .i64 d), (4, .slice p n c)]).run Try.prog w = .ok (.agg (pxc ⟨d, 0, 0, 0, .slice p n c, []⟩)) w := run_build w _ _ _ (built_op04 d p n c)
end Go.Proofs.Ytkpefnjohdjejaa
