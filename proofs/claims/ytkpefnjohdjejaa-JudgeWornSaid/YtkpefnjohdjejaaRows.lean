/-
  No cell of these rows narrows 'for every input' (looked for: loops, veiled, ifaces, maps, wideKeys, modest, calm, conditions, laid).
  DERIVED. THE GIVEN ROWS OF THIS SEAT. 4 by the template 'for every input the law returns true; each argument reads behind the call as it read before'; 0 by the template 'total and deterministic' (their statements: YtkpefnjohdjejaaTotals.lean).
  GIVEN WITH THE SEED: the statements are not yours to turn. If you find one false, say at which input.
  Laid BY PROGRAM, IN A SANDBOX (cutbox-rows.mjs): the forced cells as the released guide's own fill.sh prints them over the translation e6c94e29f98a3959… (all of the seat's roots in one cut). By AI agents, Wed Nov 11 2026. No macro, syntax, notation, axiom, sorry.
-/
import Derived.Test.YtkpefnjohdjejaaChecked
import GoSem.Claim
import GoSem.ClaimJoined
import GoSem.ClaimMapViews
import Derived.JoinedTies
import Derived.KernelRfl
namespace Go.Proofs.Ytkpefnjohdjejaa
/- THE CELL 'sum', in the pinned program and in every row, IS THE sha256 OF THE DUMP (.gsa) THAT YtkpefnjohdjejaaProg.lean LOADS. Nothing in Lean hashes anything: it is a label: what it is worth is what the hold of that sum in a sandbox is worth. -/
noncomputable def Try.pinned : Pinned := { name := "ytkpefnjohdjejaa", sum := "e6c94e29f98a39597932020e34abfec1ff0c1a26688f7519e6ab7aafc544d2db", checked := Try.checked }
namespace Rows
def none {H : Type} : Left H := { results := [], args := [] }

/-- 'darninglaw25.JudgeSees': WHATEVER THE INPUT: true; the input reads as it did. -/
def judgeSeesSpec : ChangeSpec := { name := "judgeSees", fn := fun _ => fun
  | [d1, d2] => { results := [.lit (.bool true)], args := [d1, d2] }
  | _ => none }
def judgeSeesRow : OpenClaim := { program := "ytkpefnjohdjejaa", sum := "e6c94e29f98a39597932020e34abfec1ff0c1a26688f7519e6ab7aafc544d2db", func := "darning/darninglaw25.JudgeSees", spec := "judgeSees", unfollowed := true, recurses := true, apart := false }
def JudgeSeesSaid : Prop := judgeSeesRow.holds Try.pinned (OpenSpec.ofChange judgeSeesSpec)

/-- ITS FALSE NEIGHBOUR: 'it returns false'. Refute it at one input. -/
def judgeSeesWrong : ChangeSpec := { name := "judgeSees", fn := fun _ => fun
  | [d1, d2] => { results := [.lit (.bool false)], args := [d1, d2] }
  | _ => none }
def JudgeSeesWrongFalsely : Prop := judgeSeesRow.holds Try.pinned (OpenSpec.ofChange judgeSeesWrong)

/-- 'darninglaw25.JudgeNil': WHATEVER THE INPUT: true; the input reads as it did. -/
def judgeNilSpec : ChangeSpec := { name := "judgeNil", fn := fun _ => fun
  | [d] => { results := [.lit (.bool true)], args := [d] }
  | _ => none }
def judgeNilRow : OpenClaim := { program := "ytkpefnjohdjejaa", sum := "e6c94e29f98a39597932020e34abfec1ff0c1a26688f7519e6ab7aafc544d2db", func := "darning/darninglaw25.JudgeNil", spec := "judgeNil", unfollowed := true, recurses := true, apart := false }
def JudgeNilSaid : Prop := judgeNilRow.holds Try.pinned (OpenSpec.ofChange judgeNilSpec)

/-- ITS FALSE NEIGHBOUR: 'it returns false'. Refute it at one input. -/
def judgeNilWrong : ChangeSpec := { name := "judgeNil", fn := fun _ => fun
  | [d] => { results := [.lit (.bool false)], args := [d] }
  | _ => none }
def JudgeNilWrongFalsely : Prop := judgeNilRow.holds Try.pinned (OpenSpec.ofChange judgeNilWrong)

/-- 'darninglaw25.JudgeLies': WHATEVER THE INPUT: true; the input reads as it did. -/
def judgeLiesSpec : ChangeSpec := { name := "judgeLies", fn := fun _ => fun
  | [d1, d2, d3] => { results := [.lit (.bool true)], args := [d1, d2, d3] }
  | _ => none }
def judgeLiesRow : OpenClaim := { program := "ytkpefnjohdjejaa", sum := "e6c94e29f98a39597932020e34abfec1ff0c1a26688f7519e6ab7aafc544d2db", func := "darning/darninglaw25.JudgeLies", spec := "judgeLies", unfollowed := true, recurses := true, apart := false }
def JudgeLiesSaid : Prop := judgeLiesRow.holds Try.pinned (OpenSpec.ofChange judgeLiesSpec)

/-- ITS FALSE NEIGHBOUR: 'it returns false'. Refute it at one input. -/
def judgeLiesWrong : ChangeSpec := { name := "judgeLies", fn := fun _ => fun
  | [d1, d2, d3] => { results := [.lit (.bool false)], args := [d1, d2, d3] }
  | _ => none }
def JudgeLiesWrongFalsely : Prop := judgeLiesRow.holds Try.pinned (OpenSpec.ofChange judgeLiesWrong)

/-- 'darninglaw25.JudgeWorn': WHATEVER THE INPUT: true; the input reads as it did. -/
def judgeWornSpec : ChangeSpec := { name := "judgeWorn", fn := fun _ => fun
  | [d1, d2] => { results := [.lit (.bool true)], args := [d1, d2] }
  | _ => none }
def judgeWornRow : OpenClaim := { program := "ytkpefnjohdjejaa", sum := "e6c94e29f98a39597932020e34abfec1ff0c1a26688f7519e6ab7aafc544d2db", func := "darning/darninglaw25.JudgeWorn", spec := "judgeWorn", unfollowed := true, recurses := true, apart := false }
def JudgeWornSaid : Prop := judgeWornRow.holds Try.pinned (OpenSpec.ofChange judgeWornSpec)

/-- ITS FALSE NEIGHBOUR: 'it returns false'. Refute it at one input. -/
def judgeWornWrong : ChangeSpec := { name := "judgeWorn", fn := fun _ => fun
  | [d1, d2] => { results := [.lit (.bool false)], args := [d1, d2] }
  | _ => none }
def JudgeWornWrongFalsely : Prop := judgeWornRow.holds Try.pinned (OpenSpec.ofChange judgeWornWrong)

/- THE SECOND FORM. 'bulk': how many values and letters a reading holds, each counted each time it is reached (what is shared counts as often as it is met; a slice's spare places count too). A statement '..UptoSaid' is the law's where the arguments, and the package variables that the reading takes, are together of bulk at most 1048576: NARROWER than '..Said'. Prove '..Said' where nothing that the law and all that it calls make is longer than what came in: it says more and counts as full. Else prove '..UptoSaid'. A law counts once. -/
mutual
def uptoBulk {H : Type} : DataW H → Nat
  | .lit (.string bytes) => bytes.length + 1
  | .lit _ => 1
  | .nil => 1
  | .ptr d => uptoBulk d + 1
  | .slice elems spare => uptoBulkAll elems + uptoBulkAll spare + 1
  | .agg parts => uptoBulkAll parts + 1
  | .iface _ d => uptoBulk d + 1
  | .map entries => uptoBulkEntries entries + 1
  | .held _ => 1
def uptoBulkAll {H : Type} : List (DataW H) → Nat
  | [] => 0
  | d :: r => uptoBulk d + uptoBulkAll r
def uptoBulkEntries {H : Type} : List (Lit × DataW H) → Nat
  | [] => 0
  | x :: r => uptoBulkEntry x + uptoBulkEntries r
def uptoBulkEntry {H : Type} : Lit × DataW H → Nat
  | (.string bytes, d) => bytes.length + uptoBulk d + 1
  | (_, d) => uptoBulk d + 1
 end
def uptoSmall : (H : Type) → List (DataW H) → Bool := fun _ ds => decide (uptoBulkAll ds ≤ 1048576)
def OpenSpec.upto (s : _root_.Go.ChangeSpec) : _root_.Go.OpenSpec := { _root_.Go.OpenSpec.ofChange s with cond := some uptoSmall }

/-- 'darninglaw25.JudgeSees', WHERE WHAT IT READS IS OF BULK AT MOST 1048576: true; the input reads as it did. -/
def judgeSeesUptoRow : OpenClaim := { program := "ytkpefnjohdjejaa", sum := "e6c94e29f98a39597932020e34abfec1ff0c1a26688f7519e6ab7aafc544d2db", func := "darning/darninglaw25.JudgeSees", spec := "judgeSees", unfollowed := true, recurses := true, apart := false, narrowed := true }
def JudgeSeesUptoSaid : Prop := judgeSeesUptoRow.holds Try.pinned (OpenSpec.upto judgeSeesSpec)

/-- 'darninglaw25.JudgeNil', WHERE WHAT IT READS IS OF BULK AT MOST 1048576: true; the input reads as it did. -/
def judgeNilUptoRow : OpenClaim := { program := "ytkpefnjohdjejaa", sum := "e6c94e29f98a39597932020e34abfec1ff0c1a26688f7519e6ab7aafc544d2db", func := "darning/darninglaw25.JudgeNil", spec := "judgeNil", unfollowed := true, recurses := true, apart := false, narrowed := true }
def JudgeNilUptoSaid : Prop := judgeNilUptoRow.holds Try.pinned (OpenSpec.upto judgeNilSpec)

/-- 'darninglaw25.JudgeLies', WHERE WHAT IT READS IS OF BULK AT MOST 1048576: true; the input reads as it did. -/
def judgeLiesUptoRow : OpenClaim := { program := "ytkpefnjohdjejaa", sum := "e6c94e29f98a39597932020e34abfec1ff0c1a26688f7519e6ab7aafc544d2db", func := "darning/darninglaw25.JudgeLies", spec := "judgeLies", unfollowed := true, recurses := true, apart := false, narrowed := true }
def JudgeLiesUptoSaid : Prop := judgeLiesUptoRow.holds Try.pinned (OpenSpec.upto judgeLiesSpec)

/-- 'darninglaw25.JudgeWorn', WHERE WHAT IT READS IS OF BULK AT MOST 1048576: true; the input reads as it did. -/
def judgeWornUptoRow : OpenClaim := { program := "ytkpefnjohdjejaa", sum := "e6c94e29f98a39597932020e34abfec1ff0c1a26688f7519e6ab7aafc544d2db", func := "darning/darninglaw25.JudgeWorn", spec := "judgeWorn", unfollowed := true, recurses := true, apart := false, narrowed := true }
def JudgeWornUptoSaid : Prop := judgeWornUptoRow.holds Try.pinned (OpenSpec.upto judgeWornSpec)

end Rows
end Go.Proofs.Ytkpefnjohdjejaa
