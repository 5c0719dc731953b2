/-
  No cell of these rows narrows 'for every input' (looked for: loops, veiled, ifaces, maps, wideKeys, modest, calm, conditions, laid).
  DERIVED. THE GIVEN ROWS OF THIS SEAT. 5 by the template 'for every input the law returns true; each argument reads behind the call as it read before'; 0 by the template 'total and deterministic' (their statements: YtlpmpnhkghbdmaaTotals.lean).
  GIVEN WITH THE SEED: the statements are not yours to turn. If you find one false, say at which input.
  Laid BY PROGRAM, IN A SANDBOX (cutbox-rows.mjs): the forced cells as the released guide's own fill.sh prints them over the translation 4784807baf1088a6… (all of the seat's roots in one cut). By AI agents, Wed Nov 11 2026. No macro, syntax, notation, axiom, sorry.
-/
import Derived.Test.YtlpmpnhkghbdmaaChecked
import GoSem.Claim
import GoSem.ClaimJoined
import GoSem.ClaimMapViews
import Derived.JoinedTies
import Derived.KernelRfl
namespace Go.Proofs.Ytlpmpnhkghbdmaa
/- THE CELL 'sum', in the pinned program and in every row, IS THE sha256 OF THE DUMP (.gsa) THAT YtlpmpnhkghbdmaaProg.lean LOADS. Nothing in Lean hashes anything: it is a label: what it is worth is what the hold of that sum in a sandbox is worth. -/
noncomputable def Try.pinned : Pinned := { name := "ytlpmpnhkghbdmaa", sum := "4784807baf1088a6cae9de54e1fbf6f70156a8658455d443f382ec42cfee727b", checked := Try.checked }
namespace Rows
def none {H : Type} : Left H := { results := [], args := [] }

/-- 'darninglaw7.LinesKeep': WHATEVER THE INPUT: true; the input reads as it did. -/
def linesKeepSpec : ChangeSpec := { name := "linesKeep", fn := fun _ => fun
  | [d1, d2, d3, d4] => { results := [.lit (.bool true)], args := [d1, d2, d3, d4] }
  | _ => none }
def linesKeepRow : OpenClaim := { program := "ytlpmpnhkghbdmaa", sum := "4784807baf1088a6cae9de54e1fbf6f70156a8658455d443f382ec42cfee727b", func := "darning/darninglaw7.LinesKeep", spec := "linesKeep", unfollowed := true, recurses := true, apart := false }
def LinesKeepSaid : Prop := linesKeepRow.holds Try.pinned (OpenSpec.ofChange linesKeepSpec)

/-- ITS FALSE NEIGHBOUR: 'it returns false'. Refute it at one input. -/
def linesKeepWrong : ChangeSpec := { name := "linesKeep", fn := fun _ => fun
  | [d1, d2, d3, d4] => { results := [.lit (.bool false)], args := [d1, d2, d3, d4] }
  | _ => none }
def LinesKeepWrongFalsely : Prop := linesKeepRow.holds Try.pinned (OpenSpec.ofChange linesKeepWrong)

/-- 'darninglaw7.LinesCut': WHATEVER THE INPUT: true; the input reads as it did. -/
def linesCutSpec : ChangeSpec := { name := "linesCut", fn := fun _ => fun
  | [d1, d2, d3, d4, d5, d6, d7] => { results := [.lit (.bool true)], args := [d1, d2, d3, d4, d5, d6, d7] }
  | _ => none }
def linesCutRow : OpenClaim := { program := "ytlpmpnhkghbdmaa", sum := "4784807baf1088a6cae9de54e1fbf6f70156a8658455d443f382ec42cfee727b", func := "darning/darninglaw7.LinesCut", spec := "linesCut", unfollowed := true, recurses := true, apart := false }
def LinesCutSaid : Prop := linesCutRow.holds Try.pinned (OpenSpec.ofChange linesCutSpec)

/-- ITS FALSE NEIGHBOUR: 'it returns false'. Refute it at one input. -/
def linesCutWrong : ChangeSpec := { name := "linesCut", fn := fun _ => fun
  | [d1, d2, d3, d4, d5, d6, d7] => { results := [.lit (.bool false)], args := [d1, d2, d3, d4, d5, d6, d7] }
  | _ => none }
def LinesCutWrongFalsely : Prop := linesCutRow.holds Try.pinned (OpenSpec.ofChange linesCutWrong)

/-- 'darninglaw7.LinesNil': WHATEVER THE INPUT: true; the input reads as it did. -/
def linesNilSpec : ChangeSpec := { name := "linesNil", fn := fun _ => fun
  | [d1, d2] => { results := [.lit (.bool true)], args := [d1, d2] }
  | _ => none }
def linesNilRow : OpenClaim := { program := "ytlpmpnhkghbdmaa", sum := "4784807baf1088a6cae9de54e1fbf6f70156a8658455d443f382ec42cfee727b", func := "darning/darninglaw7.LinesNil", spec := "linesNil", unfollowed := true, recurses := true, apart := false }
def LinesNilSaid : Prop := linesNilRow.holds Try.pinned (OpenSpec.ofChange linesNilSpec)

/-- ITS FALSE NEIGHBOUR: 'it returns false'. Refute it at one input. -/
def linesNilWrong : ChangeSpec := { name := "linesNil", fn := fun _ => fun
  | [d1, d2] => { results := [.lit (.bool false)], args := [d1, d2] }
  | _ => none }
def LinesNilWrongFalsely : Prop := linesNilRow.holds Try.pinned (OpenSpec.ofChange linesNilWrong)

/-- 'darninglaw7.LinesUse': WHATEVER THE INPUT: true; the input reads as it did. -/
def linesUseSpec : ChangeSpec := { name := "linesUse", fn := fun _ => fun
  | [d1, d2, d3] => { results := [.lit (.bool true)], args := [d1, d2, d3] }
  | _ => none }
def linesUseRow : OpenClaim := { program := "ytlpmpnhkghbdmaa", sum := "4784807baf1088a6cae9de54e1fbf6f70156a8658455d443f382ec42cfee727b", func := "darning/darninglaw7.LinesUse", spec := "linesUse", unfollowed := true, recurses := true, apart := false }
def LinesUseSaid : Prop := linesUseRow.holds Try.pinned (OpenSpec.ofChange linesUseSpec)

/-- ITS FALSE NEIGHBOUR: 'it returns false'. Refute it at one input. -/
def linesUseWrong : ChangeSpec := { name := "linesUse", fn := fun _ => fun
  | [d1, d2, d3] => { results := [.lit (.bool false)], args := [d1, d2, d3] }
  | _ => none }
def LinesUseWrongFalsely : Prop := linesUseRow.holds Try.pinned (OpenSpec.ofChange linesUseWrong)

/-- 'darninglaw7.LinesDead': WHATEVER THE INPUT: true; the input reads as it did. -/
def linesDeadSpec : ChangeSpec := { name := "linesDead", fn := fun _ => fun
  | [d1, d2] => { results := [.lit (.bool true)], args := [d1, d2] }
  | _ => none }
def linesDeadRow : OpenClaim := { program := "ytlpmpnhkghbdmaa", sum := "4784807baf1088a6cae9de54e1fbf6f70156a8658455d443f382ec42cfee727b", func := "darning/darninglaw7.LinesDead", spec := "linesDead", unfollowed := true, recurses := true, apart := false }
def LinesDeadSaid : Prop := linesDeadRow.holds Try.pinned (OpenSpec.ofChange linesDeadSpec)

/-- ITS FALSE NEIGHBOUR: 'it returns false'. Refute it at one input. -/
def linesDeadWrong : ChangeSpec := { name := "linesDead", fn := fun _ => fun
  | [d1, d2] => { results := [.lit (.bool false)], args := [d1, d2] }
  | _ => none }
def LinesDeadWrongFalsely : Prop := linesDeadRow.holds Try.pinned (OpenSpec.ofChange linesDeadWrong)

/- THE SECOND FORM. 'bulk': how many values and letters a reading holds, each counted each time it is reached (what is shared counts as often as it is met; a slice's spare places count too). A statement '..UptoSaid' is the law's where the arguments, and the package variables that the reading takes, are together of bulk at most 1048576: NARROWER than '..Said'. Prove '..Said' where nothing that the law and all that it calls make is longer than what came in: it says more and counts as full. Else prove '..UptoSaid'. A law counts once. -/
mutual
def uptoBulk {H : Type} : DataW H → Nat
  | .lit (.string bytes) => bytes.length + 1
  | .lit _ => 1
  | .nil => 1
  | .ptr d => uptoBulk d + 1
  | .slice elems spare => uptoBulkAll elems + uptoBulkAll spare + 1
  | .agg parts => uptoBulkAll parts + 1
  | .iface _ d => uptoBulk d + 1
  | .map entries => uptoBulkEntries entries + 1
  | .held _ => 1
def uptoBulkAll {H : Type} : List (DataW H) → Nat
  | [] => 0
  | d :: r => uptoBulk d + uptoBulkAll r
def uptoBulkEntries {H : Type} : List (Lit × DataW H) → Nat
  | [] => 0
  | x :: r => uptoBulkEntry x + uptoBulkEntries r
def uptoBulkEntry {H : Type} : Lit × DataW H → Nat
  | (.string bytes, d) => bytes.length + uptoBulk d + 1
  | (_, d) => uptoBulk d + 1
 end
def uptoSmall : (H : Type) → List (DataW H) → Bool := fun _ ds => decide (uptoBulkAll ds ≤ 1048576)
def OpenSpec.upto (s : _root_.Go.ChangeSpec) : _root_.Go.OpenSpec := { _root_.Go.OpenSpec.ofChange s with cond := some uptoSmall }

/-- 'darninglaw7.LinesKeep', WHERE WHAT IT READS IS OF BULK AT MOST 1048576: true; the input reads as it did. -/
def linesKeepUptoRow : OpenClaim := { program := "ytlpmpnhkghbdmaa", sum := "4784807baf1088a6cae9de54e1fbf6f70156a8658455d443f382ec42cfee727b", func := "darning/darninglaw7.LinesKeep", spec := "linesKeep", unfollowed := true, recurses := true, apart := false, narrowed := true }
def LinesKeepUptoSaid : Prop := linesKeepUptoRow.holds Try.pinned (OpenSpec.upto linesKeepSpec)

/-- 'darninglaw7.LinesCut', WHERE WHAT IT READS IS OF BULK AT MOST 1048576: true; the input reads as it did. -/
def linesCutUptoRow : OpenClaim := { program := "ytlpmpnhkghbdmaa", sum := "4784807baf1088a6cae9de54e1fbf6f70156a8658455d443f382ec42cfee727b", func := "darning/darninglaw7.LinesCut", spec := "linesCut", unfollowed := true, recurses := true, apart := false, narrowed := true }
def LinesCutUptoSaid : Prop := linesCutUptoRow.holds Try.pinned (OpenSpec.upto linesCutSpec)

/-- 'darninglaw7.LinesNil', WHERE WHAT IT READS IS OF BULK AT MOST 1048576: true; the input reads as it did. -/
def linesNilUptoRow : OpenClaim := { program := "ytlpmpnhkghbdmaa", sum := "4784807baf1088a6cae9de54e1fbf6f70156a8658455d443f382ec42cfee727b", func := "darning/darninglaw7.LinesNil", spec := "linesNil", unfollowed := true, recurses := true, apart := false, narrowed := true }
def LinesNilUptoSaid : Prop := linesNilUptoRow.holds Try.pinned (OpenSpec.upto linesNilSpec)

/-- 'darninglaw7.LinesUse', WHERE WHAT IT READS IS OF BULK AT MOST 1048576: true; the input reads as it did. -/
def linesUseUptoRow : OpenClaim := { program := "ytlpmpnhkghbdmaa", sum := "4784807baf1088a6cae9de54e1fbf6f70156a8658455d443f382ec42cfee727b", func := "darning/darninglaw7.LinesUse", spec := "linesUse", unfollowed := true, recurses := true, apart := false, narrowed := true }
def LinesUseUptoSaid : Prop := linesUseUptoRow.holds Try.pinned (OpenSpec.upto linesUseSpec)

/-- 'darninglaw7.LinesDead', WHERE WHAT IT READS IS OF BULK AT MOST 1048576: true; the input reads as it did. -/
def linesDeadUptoRow : OpenClaim := { program := "ytlpmpnhkghbdmaa", sum := "4784807baf1088a6cae9de54e1fbf6f70156a8658455d443f382ec42cfee727b", func := "darning/darninglaw7.LinesDead", spec := "linesDead", unfollowed := true, recurses := true, apart := false, narrowed := true }
def LinesDeadUptoSaid : Prop := linesDeadUptoRow.holds Try.pinned (OpenSpec.upto linesDeadSpec)

end Rows
end Go.Proofs.Ytlpmpnhkghbdmaa
