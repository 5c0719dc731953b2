/-
  No cell of these rows narrows 'for every input' (looked for: loops, veiled, ifaces, maps, wideKeys, modest, calm, conditions, laid).
  DERIVED. THE GIVEN ROWS OF THIS SEAT. 9 by the template 'for every input the law returns true; each argument reads behind the call as it read before'; 0 by the template 'total and deterministic' (their statements: YtcccfmclcpldlaaTotals.lean).
  GIVEN WITH THE SEED: the statements are not yours to turn. If you find one false, say at which input.
  Laid BY PROGRAM, IN A SANDBOX (cutbox-rows.mjs): the forced cells as the released guide's own fill.sh prints them over the translation 073df2781384a9d7… (all of the seat's roots in one cut). By AI agents, Wed Nov 11 2026. No macro, syntax, notation, axiom, sorry.
-/
import Derived.Test.YtcccfmclcpldlaaChecked
import GoSem.Claim
import GoSem.ClaimJoined
import GoSem.ClaimMapViews
import Derived.JoinedTies
import Derived.KernelRfl
namespace Go.Proofs.Ytcccfmclcpldlaa
/- THE CELL 'sum', in the pinned program and in every row, IS THE sha256 OF THE DUMP (.gsa) THAT YtcccfmclcpldlaaProg.lean LOADS. Nothing in Lean hashes anything: it is a label: what it is worth is what the hold of that sum in a sandbox is worth. -/
noncomputable def Try.pinned : Pinned := { name := "ytcccfmclcpldlaa", sum := "073df2781384a9d7d42a31231f1274de05e447bec771478886e5649958d766e3", checked := Try.checked }
namespace Rows
def none {H : Type} : Left H := { results := [], args := [] }

/-- 'darninglaw1.EdgeForms': WHATEVER THE INPUT: true; the input reads as it did. -/
def edgeFormsSpec : ChangeSpec := { name := "edgeForms", fn := fun _ => fun
  | [d1, d2, d3, d4] => { results := [.lit (.bool true)], args := [d1, d2, d3, d4] }
  | _ => none }
def edgeFormsRow : OpenClaim := { program := "ytcccfmclcpldlaa", sum := "073df2781384a9d7d42a31231f1274de05e447bec771478886e5649958d766e3", func := "darning/darninglaw1.EdgeForms", spec := "edgeForms", inPlace := ["math.Float64bits", "math.Float64frombits", "math.archTrunc"], unfollowed := true, recurses := true, apart := false }
def EdgeFormsSaid : Prop := edgeFormsRow.holds Try.pinned (OpenSpec.ofChange edgeFormsSpec)

/-- ITS FALSE NEIGHBOUR: 'it returns false'. Refute it at one input. -/
def edgeFormsWrong : ChangeSpec := { name := "edgeForms", fn := fun _ => fun
  | [d1, d2, d3, d4] => { results := [.lit (.bool false)], args := [d1, d2, d3, d4] }
  | _ => none }
def EdgeFormsWrongFalsely : Prop := edgeFormsRow.holds Try.pinned (OpenSpec.ofChange edgeFormsWrong)

/-- 'darninglaw1.EdgeOne': WHATEVER THE INPUT: true; the input reads as it did. -/
def edgeOneSpec : ChangeSpec := { name := "edgeOne", fn := fun _ => fun
  | [d1, d2, d3] => { results := [.lit (.bool true)], args := [d1, d2, d3] }
  | _ => none }
def edgeOneRow : OpenClaim := { program := "ytcccfmclcpldlaa", sum := "073df2781384a9d7d42a31231f1274de05e447bec771478886e5649958d766e3", func := "darning/darninglaw1.EdgeOne", spec := "edgeOne", inPlace := ["math.Float64frombits", "math.Float64bits", "math.archTrunc"], unfollowed := true, recurses := true, apart := false }
def EdgeOneSaid : Prop := edgeOneRow.holds Try.pinned (OpenSpec.ofChange edgeOneSpec)

/-- ITS FALSE NEIGHBOUR: 'it returns false'. Refute it at one input. -/
def edgeOneWrong : ChangeSpec := { name := "edgeOne", fn := fun _ => fun
  | [d1, d2, d3] => { results := [.lit (.bool false)], args := [d1, d2, d3] }
  | _ => none }
def EdgeOneWrongFalsely : Prop := edgeOneRow.holds Try.pinned (OpenSpec.ofChange edgeOneWrong)

/-- 'darninglaw1.EdgeSorts': WHATEVER THE INPUT: true; the input reads as it did. -/
def edgeSortsSpec : ChangeSpec := { name := "edgeSorts", fn := fun _ => fun
  | [d1, d2] => { results := [.lit (.bool true)], args := [d1, d2] }
  | _ => none }
def edgeSortsRow : OpenClaim := { program := "ytcccfmclcpldlaa", sum := "073df2781384a9d7d42a31231f1274de05e447bec771478886e5649958d766e3", func := "darning/darninglaw1.EdgeSorts", spec := "edgeSorts", inPlace := ["math.Float64bits", "math.Float64frombits", "math.archTrunc"], unfollowed := true, recurses := true, apart := false }
def EdgeSortsSaid : Prop := edgeSortsRow.holds Try.pinned (OpenSpec.ofChange edgeSortsSpec)

/-- ITS FALSE NEIGHBOUR: 'it returns false'. Refute it at one input. -/
def edgeSortsWrong : ChangeSpec := { name := "edgeSorts", fn := fun _ => fun
  | [d1, d2] => { results := [.lit (.bool false)], args := [d1, d2] }
  | _ => none }
def EdgeSortsWrongFalsely : Prop := edgeSortsRow.holds Try.pinned (OpenSpec.ofChange edgeSortsWrong)

/-- 'darninglaw1.EdgeClamps': WHATEVER THE INPUT: true; the input reads as it did. -/
def edgeClampsSpec : ChangeSpec := { name := "edgeClamps", fn := fun _ => fun
  | [d1, d2, d3] => { results := [.lit (.bool true)], args := [d1, d2, d3] }
  | _ => none }
def edgeClampsRow : OpenClaim := { program := "ytcccfmclcpldlaa", sum := "073df2781384a9d7d42a31231f1274de05e447bec771478886e5649958d766e3", func := "darning/darninglaw1.EdgeClamps", spec := "edgeClamps", inPlace := ["math.Float64frombits", "math.Float64bits", "math.archTrunc"], unfollowed := true, recurses := true, apart := false }
def EdgeClampsSaid : Prop := edgeClampsRow.holds Try.pinned (OpenSpec.ofChange edgeClampsSpec)

/-- ITS FALSE NEIGHBOUR: 'it returns false'. Refute it at one input. -/
def edgeClampsWrong : ChangeSpec := { name := "edgeClamps", fn := fun _ => fun
  | [d1, d2, d3] => { results := [.lit (.bool false)], args := [d1, d2, d3] }
  | _ => none }
def EdgeClampsWrongFalsely : Prop := edgeClampsRow.holds Try.pinned (OpenSpec.ofChange edgeClampsWrong)

/-- 'darninglaw1.EdgeWholes': WHATEVER THE INPUT: true; the input reads as it did. -/
def edgeWholesSpec : ChangeSpec := { name := "edgeWholes", fn := fun _ => fun
  | [d] => { results := [.lit (.bool true)], args := [d] }
  | _ => none }
def edgeWholesRow : OpenClaim := { program := "ytcccfmclcpldlaa", sum := "073df2781384a9d7d42a31231f1274de05e447bec771478886e5649958d766e3", func := "darning/darninglaw1.EdgeWholes", spec := "edgeWholes", inPlace := ["math.archTrunc", "math.Float64bits", "math.Float64frombits"], unfollowed := true, recurses := true, apart := false }
def EdgeWholesSaid : Prop := edgeWholesRow.holds Try.pinned (OpenSpec.ofChange edgeWholesSpec)

/-- ITS FALSE NEIGHBOUR: 'it returns false'. Refute it at one input. -/
def edgeWholesWrong : ChangeSpec := { name := "edgeWholes", fn := fun _ => fun
  | [d] => { results := [.lit (.bool false)], args := [d] }
  | _ => none }
def EdgeWholesWrongFalsely : Prop := edgeWholesRow.holds Try.pinned (OpenSpec.ofChange edgeWholesWrong)

/-- 'darninglaw1.EdgeDivs': WHATEVER THE INPUT: true; the input reads as it did. -/
def edgeDivsSpec : ChangeSpec := { name := "edgeDivs", fn := fun _ => fun
  | [d1, d2] => { results := [.lit (.bool true)], args := [d1, d2] }
  | _ => none }
def edgeDivsRow : OpenClaim := { program := "ytcccfmclcpldlaa", sum := "073df2781384a9d7d42a31231f1274de05e447bec771478886e5649958d766e3", func := "darning/darninglaw1.EdgeDivs", spec := "edgeDivs", inPlace := ["math.Float64frombits", "math.Float64bits", "math.archTrunc"], unfollowed := true, recurses := true, apart := false }
def EdgeDivsSaid : Prop := edgeDivsRow.holds Try.pinned (OpenSpec.ofChange edgeDivsSpec)

/-- ITS FALSE NEIGHBOUR: 'it returns false'. Refute it at one input. -/
def edgeDivsWrong : ChangeSpec := { name := "edgeDivs", fn := fun _ => fun
  | [d1, d2] => { results := [.lit (.bool false)], args := [d1, d2] }
  | _ => none }
def EdgeDivsWrongFalsely : Prop := edgeDivsRow.holds Try.pinned (OpenSpec.ofChange edgeDivsWrong)

/-- 'darninglaw1.EdgeNaN': WHATEVER THE INPUT: true; the input reads as it did. -/
def edgeNaNSpec : ChangeSpec := { name := "edgeNaN", fn := fun _ => fun
  | [d1, d2] => { results := [.lit (.bool true)], args := [d1, d2] }
  | _ => none }
def edgeNaNRow : OpenClaim := { program := "ytcccfmclcpldlaa", sum := "073df2781384a9d7d42a31231f1274de05e447bec771478886e5649958d766e3", func := "darning/darninglaw1.EdgeNaN", spec := "edgeNaN", inPlace := ["math.Float64frombits", "math.Float64bits", "math.archTrunc"], unfollowed := true, recurses := true, apart := false }
def EdgeNaNSaid : Prop := edgeNaNRow.holds Try.pinned (OpenSpec.ofChange edgeNaNSpec)

/-- ITS FALSE NEIGHBOUR: 'it returns false'. Refute it at one input. -/
def edgeNaNWrong : ChangeSpec := { name := "edgeNaN", fn := fun _ => fun
  | [d1, d2] => { results := [.lit (.bool false)], args := [d1, d2] }
  | _ => none }
def EdgeNaNWrongFalsely : Prop := edgeNaNRow.holds Try.pinned (OpenSpec.ofChange edgeNaNWrong)

/-- 'darninglaw1.EdgeNoughts': WHATEVER THE INPUT: true; the input reads as it did. -/
def edgeNoughtsSpec : ChangeSpec := { name := "edgeNoughts", fn := fun _ => fun
  | [d] => { results := [.lit (.bool true)], args := [d] }
  | _ => none }
def edgeNoughtsRow : OpenClaim := { program := "ytcccfmclcpldlaa", sum := "073df2781384a9d7d42a31231f1274de05e447bec771478886e5649958d766e3", func := "darning/darninglaw1.EdgeNoughts", spec := "edgeNoughts", inPlace := ["math.Float64bits", "math.Float64frombits", "math.archTrunc"], unfollowed := true, recurses := true, apart := false }
def EdgeNoughtsSaid : Prop := edgeNoughtsRow.holds Try.pinned (OpenSpec.ofChange edgeNoughtsSpec)

/-- ITS FALSE NEIGHBOUR: 'it returns false'. Refute it at one input. -/
def edgeNoughtsWrong : ChangeSpec := { name := "edgeNoughts", fn := fun _ => fun
  | [d] => { results := [.lit (.bool false)], args := [d] }
  | _ => none }
def EdgeNoughtsWrongFalsely : Prop := edgeNoughtsRow.holds Try.pinned (OpenSpec.ofChange edgeNoughtsWrong)

/-- 'darninglaw1.EdgeTurns': WHATEVER THE INPUT: true; the input reads as it did. -/
def edgeTurnsSpec : ChangeSpec := { name := "edgeTurns", fn := fun _ => fun
  | [d1, d2] => { results := [.lit (.bool true)], args := [d1, d2] }
  | _ => none }
def edgeTurnsRow : OpenClaim := { program := "ytcccfmclcpldlaa", sum := "073df2781384a9d7d42a31231f1274de05e447bec771478886e5649958d766e3", func := "darning/darninglaw1.EdgeTurns", spec := "edgeTurns", inPlace := ["math.Float64frombits", "math.Float64bits", "math.archTrunc"], unfollowed := true, recurses := true, apart := false }
def EdgeTurnsSaid : Prop := edgeTurnsRow.holds Try.pinned (OpenSpec.ofChange edgeTurnsSpec)

/-- ITS FALSE NEIGHBOUR: 'it returns false'. Refute it at one input. -/
def edgeTurnsWrong : ChangeSpec := { name := "edgeTurns", fn := fun _ => fun
  | [d1, d2] => { results := [.lit (.bool false)], args := [d1, d2] }
  | _ => none }
def EdgeTurnsWrongFalsely : Prop := edgeTurnsRow.holds Try.pinned (OpenSpec.ofChange edgeTurnsWrong)

/- THE SECOND FORM. 'bulk': how many values and letters a reading holds, each counted each time it is reached (what is shared counts as often as it is met; a slice's spare places count too). A statement '..UptoSaid' is the law's where the arguments, and the package variables that the reading takes, are together of bulk at most 1048576: NARROWER than '..Said'. Prove '..Said' where nothing that the law and all that it calls make is longer than what came in: it says more and counts as full. Else prove '..UptoSaid'. A law counts once. -/
mutual
def uptoBulk {H : Type} : DataW H → Nat
  | .lit (.string bytes) => bytes.length + 1
  | .lit _ => 1
  | .nil => 1
  | .ptr d => uptoBulk d + 1
  | .slice elems spare => uptoBulkAll elems + uptoBulkAll spare + 1
  | .agg parts => uptoBulkAll parts + 1
  | .iface _ d => uptoBulk d + 1
  | .map entries => uptoBulkEntries entries + 1
  | .held _ => 1
def uptoBulkAll {H : Type} : List (DataW H) → Nat
  | [] => 0
  | d :: r => uptoBulk d + uptoBulkAll r
def uptoBulkEntries {H : Type} : List (Lit × DataW H) → Nat
  | [] => 0
  | x :: r => uptoBulkEntry x + uptoBulkEntries r
def uptoBulkEntry {H : Type} : Lit × DataW H → Nat
  | (.string bytes, d) => bytes.length + uptoBulk d + 1
  | (_, d) => uptoBulk d + 1
 end
def uptoSmall : (H : Type) → List (DataW H) → Bool := fun _ ds => decide (uptoBulkAll ds ≤ 1048576)
def OpenSpec.upto (s : _root_.Go.ChangeSpec) : _root_.Go.OpenSpec := { _root_.Go.OpenSpec.ofChange s with cond := some uptoSmall }

/-- 'darninglaw1.EdgeForms', WHERE WHAT IT READS IS OF BULK AT MOST 1048576: true; the input reads as it did. -/
def edgeFormsUptoRow : OpenClaim := { program := "ytcccfmclcpldlaa", sum := "073df2781384a9d7d42a31231f1274de05e447bec771478886e5649958d766e3", func := "darning/darninglaw1.EdgeForms", spec := "edgeForms", inPlace := ["math.Float64bits", "math.Float64frombits", "math.archTrunc"], unfollowed := true, recurses := true, apart := false, narrowed := true }
def EdgeFormsUptoSaid : Prop := edgeFormsUptoRow.holds Try.pinned (OpenSpec.upto edgeFormsSpec)

/-- 'darninglaw1.EdgeOne', WHERE WHAT IT READS IS OF BULK AT MOST 1048576: true; the input reads as it did. -/
def edgeOneUptoRow : OpenClaim := { program := "ytcccfmclcpldlaa", sum := "073df2781384a9d7d42a31231f1274de05e447bec771478886e5649958d766e3", func := "darning/darninglaw1.EdgeOne", spec := "edgeOne", inPlace := ["math.Float64frombits", "math.Float64bits", "math.archTrunc"], unfollowed := true, recurses := true, apart := false, narrowed := true }
def EdgeOneUptoSaid : Prop := edgeOneUptoRow.holds Try.pinned (OpenSpec.upto edgeOneSpec)

/-- 'darninglaw1.EdgeSorts', WHERE WHAT IT READS IS OF BULK AT MOST 1048576: true; the input reads as it did. -/
def edgeSortsUptoRow : OpenClaim := { program := "ytcccfmclcpldlaa", sum := "073df2781384a9d7d42a31231f1274de05e447bec771478886e5649958d766e3", func := "darning/darninglaw1.EdgeSorts", spec := "edgeSorts", inPlace := ["math.Float64bits", "math.Float64frombits", "math.archTrunc"], unfollowed := true, recurses := true, apart := false, narrowed := true }
def EdgeSortsUptoSaid : Prop := edgeSortsUptoRow.holds Try.pinned (OpenSpec.upto edgeSortsSpec)

/-- 'darninglaw1.EdgeClamps', WHERE WHAT IT READS IS OF BULK AT MOST 1048576: true; the input reads as it did. -/
def edgeClampsUptoRow : OpenClaim := { program := "ytcccfmclcpldlaa", sum := "073df2781384a9d7d42a31231f1274de05e447bec771478886e5649958d766e3", func := "darning/darninglaw1.EdgeClamps", spec := "edgeClamps", inPlace := ["math.Float64frombits", "math.Float64bits", "math.archTrunc"], unfollowed := true, recurses := true, apart := false, narrowed := true }
def EdgeClampsUptoSaid : Prop := edgeClampsUptoRow.holds Try.pinned (OpenSpec.upto edgeClampsSpec)

/-- 'darninglaw1.EdgeWholes', WHERE WHAT IT READS IS OF BULK AT MOST 1048576: true; the input reads as it did. -/
def edgeWholesUptoRow : OpenClaim := { program := "ytcccfmclcpldlaa", sum := "073df2781384a9d7d42a31231f1274de05e447bec771478886e5649958d766e3", func := "darning/darninglaw1.EdgeWholes", spec := "edgeWholes", inPlace := ["math.archTrunc", "math.Float64bits", "math.Float64frombits"], unfollowed := true, recurses := true, apart := false, narrowed := true }
def EdgeWholesUptoSaid : Prop := edgeWholesUptoRow.holds Try.pinned (OpenSpec.upto edgeWholesSpec)

/-- 'darninglaw1.EdgeDivs', WHERE WHAT IT READS IS OF BULK AT MOST 1048576: true; the input reads as it did. -/
def edgeDivsUptoRow : OpenClaim := { program := "ytcccfmclcpldlaa", sum := "073df2781384a9d7d42a31231f1274de05e447bec771478886e5649958d766e3", func := "darning/darninglaw1.EdgeDivs", spec := "edgeDivs", inPlace := ["math.Float64frombits", "math.Float64bits", "math.archTrunc"], unfollowed := true, recurses := true, apart := false, narrowed := true }
def EdgeDivsUptoSaid : Prop := edgeDivsUptoRow.holds Try.pinned (OpenSpec.upto edgeDivsSpec)

/-- 'darninglaw1.EdgeNaN', WHERE WHAT IT READS IS OF BULK AT MOST 1048576: true; the input reads as it did. -/
def edgeNaNUptoRow : OpenClaim := { program := "ytcccfmclcpldlaa", sum := "073df2781384a9d7d42a31231f1274de05e447bec771478886e5649958d766e3", func := "darning/darninglaw1.EdgeNaN", spec := "edgeNaN", inPlace := ["math.Float64frombits", "math.Float64bits", "math.archTrunc"], unfollowed := true, recurses := true, apart := false, narrowed := true }
def EdgeNaNUptoSaid : Prop := edgeNaNUptoRow.holds Try.pinned (OpenSpec.upto edgeNaNSpec)

/-- 'darninglaw1.EdgeNoughts', WHERE WHAT IT READS IS OF BULK AT MOST 1048576: true; the input reads as it did. -/
def edgeNoughtsUptoRow : OpenClaim := { program := "ytcccfmclcpldlaa", sum := "073df2781384a9d7d42a31231f1274de05e447bec771478886e5649958d766e3", func := "darning/darninglaw1.EdgeNoughts", spec := "edgeNoughts", inPlace := ["math.Float64bits", "math.Float64frombits", "math.archTrunc"], unfollowed := true, recurses := true, apart := false, narrowed := true }
def EdgeNoughtsUptoSaid : Prop := edgeNoughtsUptoRow.holds Try.pinned (OpenSpec.upto edgeNoughtsSpec)

/-- 'darninglaw1.EdgeTurns', WHERE WHAT IT READS IS OF BULK AT MOST 1048576: true; the input reads as it did. -/
def edgeTurnsUptoRow : OpenClaim := { program := "ytcccfmclcpldlaa", sum := "073df2781384a9d7d42a31231f1274de05e447bec771478886e5649958d766e3", func := "darning/darninglaw1.EdgeTurns", spec := "edgeTurns", inPlace := ["math.Float64frombits", "math.Float64bits", "math.archTrunc"], unfollowed := true, recurses := true, apart := false, narrowed := true }
def EdgeTurnsUptoSaid : Prop := edgeTurnsUptoRow.holds Try.pinned (OpenSpec.upto edgeTurnsSpec)

end Rows
end Go.Proofs.Ytcccfmclcpldlaa
