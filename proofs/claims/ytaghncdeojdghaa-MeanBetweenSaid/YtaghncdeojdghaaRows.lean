/-
  No cell of these rows narrows 'for every input' (looked for: loops, veiled, ifaces, maps, wideKeys, modest, calm, conditions, laid).
  DERIVED. THE GIVEN ROWS OF THIS SEAT. 6 by the template 'for every input the law returns true; each argument reads behind the call as it read before'; 0 by the template 'total and deterministic' (their statements: YtaghncdeojdghaaTotals.lean).
  GIVEN WITH THE SEED: the statements are not yours to turn. If you find one false, say at which input.
  Laid BY PROGRAM, IN A SANDBOX (cutbox-rows.mjs): the forced cells as the released guide's own fill.sh prints them over the translation 6d1df9ec7657490e… (all of the seat's roots in one cut). By AI agents, Wed Nov 11 2026. No macro, syntax, notation, axiom, sorry.
-/
import Derived.Test.YtaghncdeojdghaaChecked
import GoSem.Claim
import GoSem.ClaimJoined
import GoSem.ClaimMapViews
import Derived.JoinedTies
import Derived.KernelRfl
namespace Go.Proofs.Ytaghncdeojdghaa
/- THE CELL 'sum', in the pinned program and in every row, IS THE sha256 OF THE DUMP (.gsa) THAT YtaghncdeojdghaaProg.lean LOADS. Nothing in Lean hashes anything: it is a label: what it is worth is what the hold of that sum in a sandbox is worth. -/
noncomputable def Try.pinned : Pinned := { name := "ytaghncdeojdghaa", sum := "6d1df9ec7657490e8d3ec1eafa30c6d90ea605429e53cd3ae536599760c9f0c8", checked := Try.checked }
namespace Rows
def none {H : Type} : Left H := { results := [], args := [] }

/-- 'darninglaw2.MeanForms': WHATEVER THE INPUT: true; the input reads as it did. -/
def meanFormsSpec : ChangeSpec := { name := "meanForms", fn := fun _ => fun
  | [d1, d2, d3] => { results := [.lit (.bool true)], args := [d1, d2, d3] }
  | _ => none }
def meanFormsRow : OpenClaim := { program := "ytaghncdeojdghaa", sum := "6d1df9ec7657490e8d3ec1eafa30c6d90ea605429e53cd3ae536599760c9f0c8", func := "darning/darninglaw2.MeanForms", spec := "meanForms", inPlace := ["math.Float64frombits", "math.Float64bits"], apart := false }
def MeanFormsSaid : Prop := meanFormsRow.holds Try.pinned (OpenSpec.ofChange meanFormsSpec)

/-- ITS FALSE NEIGHBOUR: 'it returns false'. Refute it at one input. -/
def meanFormsWrong : ChangeSpec := { name := "meanForms", fn := fun _ => fun
  | [d1, d2, d3] => { results := [.lit (.bool false)], args := [d1, d2, d3] }
  | _ => none }
def MeanFormsWrongFalsely : Prop := meanFormsRow.holds Try.pinned (OpenSpec.ofChange meanFormsWrong)

/-- 'darninglaw2.MeanBetween': WHATEVER THE INPUT: true; the input reads as it did. -/
def meanBetweenSpec : ChangeSpec := { name := "meanBetween", fn := fun _ => fun
  | [d1, d2] => { results := [.lit (.bool true)], args := [d1, d2] }
  | _ => none }
def meanBetweenRow : OpenClaim := { program := "ytaghncdeojdghaa", sum := "6d1df9ec7657490e8d3ec1eafa30c6d90ea605429e53cd3ae536599760c9f0c8", func := "darning/darninglaw2.MeanBetween", spec := "meanBetween", inPlace := ["math.Float64frombits", "math.Float64bits"], apart := false }
def MeanBetweenSaid : Prop := meanBetweenRow.holds Try.pinned (OpenSpec.ofChange meanBetweenSpec)

/-- ITS FALSE NEIGHBOUR: 'it returns false'. Refute it at one input. -/
def meanBetweenWrong : ChangeSpec := { name := "meanBetween", fn := fun _ => fun
  | [d1, d2] => { results := [.lit (.bool false)], args := [d1, d2] }
  | _ => none }
def MeanBetweenWrongFalsely : Prop := meanBetweenRow.holds Try.pinned (OpenSpec.ofChange meanBetweenWrong)

/-- 'darninglaw2.MeanEdges': WHATEVER THE INPUT: true; the input reads as it did. -/
def meanEdgesSpec : ChangeSpec := { name := "meanEdges", fn := fun _ => fun
  | [d1, d2] => { results := [.lit (.bool true)], args := [d1, d2] }
  | _ => none }
def meanEdgesRow : OpenClaim := { program := "ytaghncdeojdghaa", sum := "6d1df9ec7657490e8d3ec1eafa30c6d90ea605429e53cd3ae536599760c9f0c8", func := "darning/darninglaw2.MeanEdges", spec := "meanEdges", inPlace := ["math.Float64frombits", "math.Float64bits"], apart := false }
def MeanEdgesSaid : Prop := meanEdgesRow.holds Try.pinned (OpenSpec.ofChange meanEdgesSpec)

/-- ITS FALSE NEIGHBOUR: 'it returns false'. Refute it at one input. -/
def meanEdgesWrong : ChangeSpec := { name := "meanEdges", fn := fun _ => fun
  | [d1, d2] => { results := [.lit (.bool false)], args := [d1, d2] }
  | _ => none }
def MeanEdgesWrongFalsely : Prop := meanEdgesRow.holds Try.pinned (OpenSpec.ofChange meanEdgesWrong)

/-- 'darninglaw2.MeanScales': WHATEVER THE INPUT: true; the input reads as it did. -/
def meanScalesSpec : ChangeSpec := { name := "meanScales", fn := fun _ => fun
  | [d] => { results := [.lit (.bool true)], args := [d] }
  | _ => none }
def meanScalesRow : OpenClaim := { program := "ytaghncdeojdghaa", sum := "6d1df9ec7657490e8d3ec1eafa30c6d90ea605429e53cd3ae536599760c9f0c8", func := "darning/darninglaw2.MeanScales", spec := "meanScales", inPlace := ["math.Float64frombits", "math.Float64bits"], apart := false }
def MeanScalesSaid : Prop := meanScalesRow.holds Try.pinned (OpenSpec.ofChange meanScalesSpec)

/-- ITS FALSE NEIGHBOUR: 'it returns false'. Refute it at one input. -/
def meanScalesWrong : ChangeSpec := { name := "meanScales", fn := fun _ => fun
  | [d] => { results := [.lit (.bool false)], args := [d] }
  | _ => none }
def MeanScalesWrongFalsely : Prop := meanScalesRow.holds Try.pinned (OpenSpec.ofChange meanScalesWrong)

/-- 'darninglaw2.MeanHeld': WHATEVER THE INPUT: true; the input reads as it did. -/
def meanHeldSpec : ChangeSpec := { name := "meanHeld", fn := fun _ => fun
  | [d] => { results := [.lit (.bool true)], args := [d] }
  | _ => none }
def meanHeldRow : OpenClaim := { program := "ytaghncdeojdghaa", sum := "6d1df9ec7657490e8d3ec1eafa30c6d90ea605429e53cd3ae536599760c9f0c8", func := "darning/darninglaw2.MeanHeld", spec := "meanHeld", inPlace := ["math.Float64frombits", "math.Float64bits"], apart := false }
def MeanHeldSaid : Prop := meanHeldRow.holds Try.pinned (OpenSpec.ofChange meanHeldSpec)

/-- ITS FALSE NEIGHBOUR: 'it returns false'. Refute it at one input. -/
def meanHeldWrong : ChangeSpec := { name := "meanHeld", fn := fun _ => fun
  | [d] => { results := [.lit (.bool false)], args := [d] }
  | _ => none }
def MeanHeldWrongFalsely : Prop := meanHeldRow.holds Try.pinned (OpenSpec.ofChange meanHeldWrong)

/-- 'darninglaw2.MeanRatios': WHATEVER THE INPUT: true; the input reads as it did. -/
def meanRatiosSpec : ChangeSpec := { name := "meanRatios", fn := fun _ => fun
  | [d1, d2] => { results := [.lit (.bool true)], args := [d1, d2] }
  | _ => none }
def meanRatiosRow : OpenClaim := { program := "ytaghncdeojdghaa", sum := "6d1df9ec7657490e8d3ec1eafa30c6d90ea605429e53cd3ae536599760c9f0c8", func := "darning/darninglaw2.MeanRatios", spec := "meanRatios", inPlace := ["math.Float64bits", "math.Float64frombits"], apart := false }
def MeanRatiosSaid : Prop := meanRatiosRow.holds Try.pinned (OpenSpec.ofChange meanRatiosSpec)

/-- ITS FALSE NEIGHBOUR: 'it returns false'. Refute it at one input. -/
def meanRatiosWrong : ChangeSpec := { name := "meanRatios", fn := fun _ => fun
  | [d1, d2] => { results := [.lit (.bool false)], args := [d1, d2] }
  | _ => none }
def MeanRatiosWrongFalsely : Prop := meanRatiosRow.holds Try.pinned (OpenSpec.ofChange meanRatiosWrong)

/- THE SECOND FORM. 'bulk': how many values and letters a reading holds, each counted each time it is reached (what is shared counts as often as it is met; a slice's spare places count too). A statement '..UptoSaid' is the law's where the arguments, and the package variables that the reading takes, are together of bulk at most 1048576: NARROWER than '..Said'. Prove '..Said' where nothing that the law and all that it calls make is longer than what came in: it says more and counts as full. Else prove '..UptoSaid'. A law counts once. -/
mutual
def uptoBulk {H : Type} : DataW H → Nat
  | .lit (.string bytes) => bytes.length + 1
  | .lit _ => 1
  | .nil => 1
  | .ptr d => uptoBulk d + 1
  | .slice elems spare => uptoBulkAll elems + uptoBulkAll spare + 1
  | .agg parts => uptoBulkAll parts + 1
  | .iface _ d => uptoBulk d + 1
  | .map entries => uptoBulkEntries entries + 1
  | .held _ => 1
def uptoBulkAll {H : Type} : List (DataW H) → Nat
  | [] => 0
  | d :: r => uptoBulk d + uptoBulkAll r
def uptoBulkEntries {H : Type} : List (Lit × DataW H) → Nat
  | [] => 0
  | x :: r => uptoBulkEntry x + uptoBulkEntries r
def uptoBulkEntry {H : Type} : Lit × DataW H → Nat
  | (.string bytes, d) => bytes.length + uptoBulk d + 1
  | (_, d) => uptoBulk d + 1
 end
def uptoSmall : (H : Type) → List (DataW H) → Bool := fun _ ds => decide (uptoBulkAll ds ≤ 1048576)
def OpenSpec.upto (s : _root_.Go.ChangeSpec) : _root_.Go.OpenSpec := { _root_.Go.OpenSpec.ofChange s with cond := some uptoSmall }

/-- 'darninglaw2.MeanForms', WHERE WHAT IT READS IS OF BULK AT MOST 1048576: true; the input reads as it did. -/
def meanFormsUptoRow : OpenClaim := { program := "ytaghncdeojdghaa", sum := "6d1df9ec7657490e8d3ec1eafa30c6d90ea605429e53cd3ae536599760c9f0c8", func := "darning/darninglaw2.MeanForms", spec := "meanForms", inPlace := ["math.Float64frombits", "math.Float64bits"], apart := false, narrowed := true }
def MeanFormsUptoSaid : Prop := meanFormsUptoRow.holds Try.pinned (OpenSpec.upto meanFormsSpec)

/-- 'darninglaw2.MeanBetween', WHERE WHAT IT READS IS OF BULK AT MOST 1048576: true; the input reads as it did. -/
def meanBetweenUptoRow : OpenClaim := { program := "ytaghncdeojdghaa", sum := "6d1df9ec7657490e8d3ec1eafa30c6d90ea605429e53cd3ae536599760c9f0c8", func := "darning/darninglaw2.MeanBetween", spec := "meanBetween", inPlace := ["math.Float64frombits", "math.Float64bits"], apart := false, narrowed := true }
def MeanBetweenUptoSaid : Prop := meanBetweenUptoRow.holds Try.pinned (OpenSpec.upto meanBetweenSpec)

/-- 'darninglaw2.MeanEdges', WHERE WHAT IT READS IS OF BULK AT MOST 1048576: true; the input reads as it did. -/
def meanEdgesUptoRow : OpenClaim := { program := "ytaghncdeojdghaa", sum := "6d1df9ec7657490e8d3ec1eafa30c6d90ea605429e53cd3ae536599760c9f0c8", func := "darning/darninglaw2.MeanEdges", spec := "meanEdges", inPlace := ["math.Float64frombits", "math.Float64bits"], apart := false, narrowed := true }
def MeanEdgesUptoSaid : Prop := meanEdgesUptoRow.holds Try.pinned (OpenSpec.upto meanEdgesSpec)

/-- 'darninglaw2.MeanScales', WHERE WHAT IT READS IS OF BULK AT MOST 1048576: true; the input reads as it did. -/
def meanScalesUptoRow : OpenClaim := { program := "ytaghncdeojdghaa", sum := "6d1df9ec7657490e8d3ec1eafa30c6d90ea605429e53cd3ae536599760c9f0c8", func := "darning/darninglaw2.MeanScales", spec := "meanScales", inPlace := ["math.Float64frombits", "math.Float64bits"], apart := false, narrowed := true }
def MeanScalesUptoSaid : Prop := meanScalesUptoRow.holds Try.pinned (OpenSpec.upto meanScalesSpec)

/-- 'darninglaw2.MeanHeld', WHERE WHAT IT READS IS OF BULK AT MOST 1048576: true; the input reads as it did. -/
def meanHeldUptoRow : OpenClaim := { program := "ytaghncdeojdghaa", sum := "6d1df9ec7657490e8d3ec1eafa30c6d90ea605429e53cd3ae536599760c9f0c8", func := "darning/darninglaw2.MeanHeld", spec := "meanHeld", inPlace := ["math.Float64frombits", "math.Float64bits"], apart := false, narrowed := true }
def MeanHeldUptoSaid : Prop := meanHeldUptoRow.holds Try.pinned (OpenSpec.upto meanHeldSpec)

/-- 'darninglaw2.MeanRatios', WHERE WHAT IT READS IS OF BULK AT MOST 1048576: true; the input reads as it did. -/
def meanRatiosUptoRow : OpenClaim := { program := "ytaghncdeojdghaa", sum := "6d1df9ec7657490e8d3ec1eafa30c6d90ea605429e53cd3ae536599760c9f0c8", func := "darning/darninglaw2.MeanRatios", spec := "meanRatios", inPlace := ["math.Float64bits", "math.Float64frombits"], apart := false, narrowed := true }
def MeanRatiosUptoSaid : Prop := meanRatiosUptoRow.holds Try.pinned (OpenSpec.upto meanRatiosSpec)

end Rows
end Go.Proofs.Ytaghncdeojdghaa
