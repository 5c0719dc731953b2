/-
  No cell of these rows narrows 'for every input' (looked for: loops, veiled, ifaces, maps, wideKeys, modest, calm, conditions, laid).
  DERIVED. THE GIVEN ROWS OF THIS SEAT. 5 by the template 'for every input the law returns true; each argument reads behind the call as it read before'; 0 by the template 'total and deterministic' (their statements: YthcecfenjbdgmaaTotals.lean).
  GIVEN WITH THE SEED: the statements are not yours to turn. If you find one false, say at which input.
  Laid BY PROGRAM, IN A SANDBOX (cutbox-rows.mjs): the forced cells as the released guide's own fill.sh prints them over the translation 52d360fa0cbf4a45… (all of the seat's roots in one cut). By AI agents, Wed Nov 11 2026. No macro, syntax, notation, axiom, sorry.
-/
import Derived.Test.YthcecfenjbdgmaaChecked
import GoSem.Claim
import GoSem.ClaimJoined
import GoSem.ClaimMapViews
import Derived.JoinedTies
import Derived.KernelRfl
namespace Go.Proofs.Ythcecfenjbdgmaa
/- THE CELL 'sum', in the pinned program and in every row, IS THE sha256 OF THE DUMP (.gsa) THAT YthcecfenjbdgmaaProg.lean LOADS. Nothing in Lean hashes anything: it is a label: what it is worth is what the hold of that sum in a sandbox is worth. -/
noncomputable def Try.pinned : Pinned := { name := "ythcecfenjbdgmaa", sum := "52d360fa0cbf4a4583fd0c3a26e611095c12d8fd5cf9a1cb6c7e34a19aa2393c", checked := Try.checked }
namespace Rows
def none {H : Type} : Left H := { results := [], args := [] }

/-- 'darninglaw22.GaugeForms': WHATEVER THE INPUT: true; the input reads as it did. -/
def gaugeFormsSpec : ChangeSpec := { name := "gaugeForms", fn := fun _ => fun
  | [d1, d2, d3, d4, d5, d6, d7, d8] => { results := [.lit (.bool true)], args := [d1, d2, d3, d4, d5, d6, d7, d8] }
  | _ => none }
def gaugeFormsRow : OpenClaim := { program := "ythcecfenjbdgmaa", sum := "52d360fa0cbf4a4583fd0c3a26e611095c12d8fd5cf9a1cb6c7e34a19aa2393c", func := "darning/darninglaw22.GaugeForms", spec := "gaugeForms", inPlace := ["math.Float64frombits", "math.Float64bits"], unfollowed := true, recurses := true, apart := false }
def GaugeFormsSaid : Prop := gaugeFormsRow.holds Try.pinned (OpenSpec.ofChange gaugeFormsSpec)

/-- ITS FALSE NEIGHBOUR: 'it returns false'. Refute it at one input. -/
def gaugeFormsWrong : ChangeSpec := { name := "gaugeForms", fn := fun _ => fun
  | [d1, d2, d3, d4, d5, d6, d7, d8] => { results := [.lit (.bool false)], args := [d1, d2, d3, d4, d5, d6, d7, d8] }
  | _ => none }
def GaugeFormsWrongFalsely : Prop := gaugeFormsRow.holds Try.pinned (OpenSpec.ofChange gaugeFormsWrong)

/-- 'darninglaw22.GaugeFalls': WHATEVER THE INPUT: true; the input reads as it did. -/
def gaugeFallsSpec : ChangeSpec := { name := "gaugeFalls", fn := fun _ => fun
  | [d1, d2, d3, d4, d5] => { results := [.lit (.bool true)], args := [d1, d2, d3, d4, d5] }
  | _ => none }
def gaugeFallsRow : OpenClaim := { program := "ythcecfenjbdgmaa", sum := "52d360fa0cbf4a4583fd0c3a26e611095c12d8fd5cf9a1cb6c7e34a19aa2393c", func := "darning/darninglaw22.GaugeFalls", spec := "gaugeFalls", inPlace := ["math.Float64frombits", "math.Float64bits"], unfollowed := true, recurses := true, apart := false }
def GaugeFallsSaid : Prop := gaugeFallsRow.holds Try.pinned (OpenSpec.ofChange gaugeFallsSpec)

/-- ITS FALSE NEIGHBOUR: 'it returns false'. Refute it at one input. -/
def gaugeFallsWrong : ChangeSpec := { name := "gaugeFalls", fn := fun _ => fun
  | [d1, d2, d3, d4, d5] => { results := [.lit (.bool false)], args := [d1, d2, d3, d4, d5] }
  | _ => none }
def GaugeFallsWrongFalsely : Prop := gaugeFallsRow.holds Try.pinned (OpenSpec.ofChange gaugeFallsWrong)

/-- 'darninglaw22.GaugeEven': WHATEVER THE INPUT: true; the input reads as it did. -/
def gaugeEvenSpec : ChangeSpec := { name := "gaugeEven", fn := fun _ => fun
  | [d1, d2] => { results := [.lit (.bool true)], args := [d1, d2] }
  | _ => none }
def gaugeEvenRow : OpenClaim := { program := "ythcecfenjbdgmaa", sum := "52d360fa0cbf4a4583fd0c3a26e611095c12d8fd5cf9a1cb6c7e34a19aa2393c", func := "darning/darninglaw22.GaugeEven", spec := "gaugeEven", inPlace := ["math.Float64frombits", "math.Float64bits"], unfollowed := true, recurses := true, apart := false }
def GaugeEvenSaid : Prop := gaugeEvenRow.holds Try.pinned (OpenSpec.ofChange gaugeEvenSpec)

/-- ITS FALSE NEIGHBOUR: 'it returns false'. Refute it at one input. -/
def gaugeEvenWrong : ChangeSpec := { name := "gaugeEven", fn := fun _ => fun
  | [d1, d2] => { results := [.lit (.bool false)], args := [d1, d2] }
  | _ => none }
def GaugeEvenWrongFalsely : Prop := gaugeEvenRow.holds Try.pinned (OpenSpec.ofChange gaugeEvenWrong)

/-- 'darninglaw22.GaugeEnds': WHATEVER THE INPUT: true; the input reads as it did. -/
def gaugeEndsSpec : ChangeSpec := { name := "gaugeEnds", fn := fun _ => fun
  | [d1, d2] => { results := [.lit (.bool true)], args := [d1, d2] }
  | _ => none }
def gaugeEndsRow : OpenClaim := { program := "ythcecfenjbdgmaa", sum := "52d360fa0cbf4a4583fd0c3a26e611095c12d8fd5cf9a1cb6c7e34a19aa2393c", func := "darning/darninglaw22.GaugeEnds", spec := "gaugeEnds", inPlace := ["math.Float64frombits", "math.Float64bits"], unfollowed := true, recurses := true, apart := false }
def GaugeEndsSaid : Prop := gaugeEndsRow.holds Try.pinned (OpenSpec.ofChange gaugeEndsSpec)

/-- ITS FALSE NEIGHBOUR: 'it returns false'. Refute it at one input. -/
def gaugeEndsWrong : ChangeSpec := { name := "gaugeEnds", fn := fun _ => fun
  | [d1, d2] => { results := [.lit (.bool false)], args := [d1, d2] }
  | _ => none }
def GaugeEndsWrongFalsely : Prop := gaugeEndsRow.holds Try.pinned (OpenSpec.ofChange gaugeEndsWrong)

/-- 'darninglaw22.GaugeWears': WHATEVER THE INPUT: true; the input reads as it did. -/
def gaugeWearsSpec : ChangeSpec := { name := "gaugeWears", fn := fun _ => fun
  | [d1, d2] => { results := [.lit (.bool true)], args := [d1, d2] }
  | _ => none }
def gaugeWearsRow : OpenClaim := { program := "ythcecfenjbdgmaa", sum := "52d360fa0cbf4a4583fd0c3a26e611095c12d8fd5cf9a1cb6c7e34a19aa2393c", func := "darning/darninglaw22.GaugeWears", spec := "gaugeWears", inPlace := ["math.Float64frombits", "math.Float64bits"], unfollowed := true, recurses := true, apart := false }
def GaugeWearsSaid : Prop := gaugeWearsRow.holds Try.pinned (OpenSpec.ofChange gaugeWearsSpec)

/-- ITS FALSE NEIGHBOUR: 'it returns false'. Refute it at one input. -/
def gaugeWearsWrong : ChangeSpec := { name := "gaugeWears", fn := fun _ => fun
  | [d1, d2] => { results := [.lit (.bool false)], args := [d1, d2] }
  | _ => none }
def GaugeWearsWrongFalsely : Prop := gaugeWearsRow.holds Try.pinned (OpenSpec.ofChange gaugeWearsWrong)

/- THE SECOND FORM. 'bulk': how many values and letters a reading holds, each counted each time it is reached (what is shared counts as often as it is met; a slice's spare places count too). A statement '..UptoSaid' is the law's where the arguments, and the package variables that the reading takes, are together of bulk at most 1048576: NARROWER than '..Said'. Prove '..Said' where nothing that the law and all that it calls make is longer than what came in: it says more and counts as full. Else prove '..UptoSaid'. A law counts once. -/
mutual
def uptoBulk {H : Type} : DataW H → Nat
  | .lit (.string bytes) => bytes.length + 1
  | .lit _ => 1
  | .nil => 1
  | .ptr d => uptoBulk d + 1
  | .slice elems spare => uptoBulkAll elems + uptoBulkAll spare + 1
  | .agg parts => uptoBulkAll parts + 1
  | .iface _ d => uptoBulk d + 1
  | .map entries => uptoBulkEntries entries + 1
  | .held _ => 1
def uptoBulkAll {H : Type} : List (DataW H) → Nat
  | [] => 0
  | d :: r => uptoBulk d + uptoBulkAll r
def uptoBulkEntries {H : Type} : List (Lit × DataW H) → Nat
  | [] => 0
  | x :: r => uptoBulkEntry x + uptoBulkEntries r
def uptoBulkEntry {H : Type} : Lit × DataW H → Nat
  | (.string bytes, d) => bytes.length + uptoBulk d + 1
  | (_, d) => uptoBulk d + 1
 end
def uptoSmall : (H : Type) → List (DataW H) → Bool := fun _ ds => decide (uptoBulkAll ds ≤ 1048576)
def OpenSpec.upto (s : _root_.Go.ChangeSpec) : _root_.Go.OpenSpec := { _root_.Go.OpenSpec.ofChange s with cond := some uptoSmall }

/-- 'darninglaw22.GaugeForms', WHERE WHAT IT READS IS OF BULK AT MOST 1048576: true; the input reads as it did. -/
def gaugeFormsUptoRow : OpenClaim := { program := "ythcecfenjbdgmaa", sum := "52d360fa0cbf4a4583fd0c3a26e611095c12d8fd5cf9a1cb6c7e34a19aa2393c", func := "darning/darninglaw22.GaugeForms", spec := "gaugeForms", inPlace := ["math.Float64frombits", "math.Float64bits"], unfollowed := true, recurses := true, apart := false, narrowed := true }
def GaugeFormsUptoSaid : Prop := gaugeFormsUptoRow.holds Try.pinned (OpenSpec.upto gaugeFormsSpec)

/-- 'darninglaw22.GaugeFalls', WHERE WHAT IT READS IS OF BULK AT MOST 1048576: true; the input reads as it did. -/
def gaugeFallsUptoRow : OpenClaim := { program := "ythcecfenjbdgmaa", sum := "52d360fa0cbf4a4583fd0c3a26e611095c12d8fd5cf9a1cb6c7e34a19aa2393c", func := "darning/darninglaw22.GaugeFalls", spec := "gaugeFalls", inPlace := ["math.Float64frombits", "math.Float64bits"], unfollowed := true, recurses := true, apart := false, narrowed := true }
def GaugeFallsUptoSaid : Prop := gaugeFallsUptoRow.holds Try.pinned (OpenSpec.upto gaugeFallsSpec)

/-- 'darninglaw22.GaugeEven', WHERE WHAT IT READS IS OF BULK AT MOST 1048576: true; the input reads as it did. -/
def gaugeEvenUptoRow : OpenClaim := { program := "ythcecfenjbdgmaa", sum := "52d360fa0cbf4a4583fd0c3a26e611095c12d8fd5cf9a1cb6c7e34a19aa2393c", func := "darning/darninglaw22.GaugeEven", spec := "gaugeEven", inPlace := ["math.Float64frombits", "math.Float64bits"], unfollowed := true, recurses := true, apart := false, narrowed := true }
def GaugeEvenUptoSaid : Prop := gaugeEvenUptoRow.holds Try.pinned (OpenSpec.upto gaugeEvenSpec)

/-- 'darninglaw22.GaugeEnds', WHERE WHAT IT READS IS OF BULK AT MOST 1048576: true; the input reads as it did. -/
def gaugeEndsUptoRow : OpenClaim := { program := "ythcecfenjbdgmaa", sum := "52d360fa0cbf4a4583fd0c3a26e611095c12d8fd5cf9a1cb6c7e34a19aa2393c", func := "darning/darninglaw22.GaugeEnds", spec := "gaugeEnds", inPlace := ["math.Float64frombits", "math.Float64bits"], unfollowed := true, recurses := true, apart := false, narrowed := true }
def GaugeEndsUptoSaid : Prop := gaugeEndsUptoRow.holds Try.pinned (OpenSpec.upto gaugeEndsSpec)

/-- 'darninglaw22.GaugeWears', WHERE WHAT IT READS IS OF BULK AT MOST 1048576: true; the input reads as it did. -/
def gaugeWearsUptoRow : OpenClaim := { program := "ythcecfenjbdgmaa", sum := "52d360fa0cbf4a4583fd0c3a26e611095c12d8fd5cf9a1cb6c7e34a19aa2393c", func := "darning/darninglaw22.GaugeWears", spec := "gaugeWears", inPlace := ["math.Float64frombits", "math.Float64bits"], unfollowed := true, recurses := true, apart := false, narrowed := true }
def GaugeWearsUptoSaid : Prop := gaugeWearsUptoRow.holds Try.pinned (OpenSpec.upto gaugeWearsSpec)

end Rows
end Go.Proofs.Ythcecfenjbdgmaa
