/-
  No cell of these rows narrows 'for every input' (looked for: loops, veiled, ifaces, maps, wideKeys, modest, calm, conditions, laid).
  DERIVED. THE GIVEN ROWS OF THIS SEAT. 5 by the template 'for every input the law returns true; each argument reads behind the call as it read before'; 0 by the template 'total and deterministic' (their statements: YtabdcdddkmklcaaTotals.lean).
  GIVEN WITH THE SEED: the statements are not yours to turn. If you find one false, say at which input.
  Laid BY PROGRAM, IN A SANDBOX (cutbox-rows.mjs): the forced cells as the released guide's own fill.sh prints them over the translation 8bd7996abd339c61… (all of the seat's roots in one cut). By AI agents, Wed Nov 11 2026. No macro, syntax, notation, axiom, sorry.
-/
import Derived.Test.YtabdcdddkmklcaaChecked
import GoSem.Claim
import GoSem.ClaimJoined
import GoSem.ClaimMapViews
import Derived.JoinedTies
import Derived.KernelRfl
namespace Go.Proofs.Ytabdcdddkmklcaa
/- THE CELL 'sum', in the pinned program and in every row, IS THE sha256 OF THE DUMP (.gsa) THAT YtabdcdddkmklcaaProg.lean LOADS. Nothing in Lean hashes anything: it is a label: what it is worth is what the hold of that sum in a sandbox is worth. -/
noncomputable def Try.pinned : Pinned := { name := "ytabdcdddkmklcaa", sum := "8bd7996abd339c61c5760a45f653a8992ee38729c2281736f3a258122d12d4fc", checked := Try.checked }
namespace Rows
def none {H : Type} : Left H := { results := [], args := [] }

/-- 'darninglaw16.CarveForms': WHATEVER THE INPUT: true; the input reads as it did. -/
def carveFormsSpec : ChangeSpec := { name := "carveForms", fn := fun _ => fun
  | [d1, d2, d3, d4] => { results := [.lit (.bool true)], args := [d1, d2, d3, d4] }
  | _ => none }
def carveFormsRow : OpenClaim := { program := "ytabdcdddkmklcaa", sum := "8bd7996abd339c61c5760a45f653a8992ee38729c2281736f3a258122d12d4fc", func := "darning/darninglaw16.CarveForms", spec := "carveForms", apart := false }
def CarveFormsSaid : Prop := carveFormsRow.holds Try.pinned (OpenSpec.ofChange carveFormsSpec)

/-- ITS FALSE NEIGHBOUR: 'it returns false'. Refute it at one input. -/
def carveFormsWrong : ChangeSpec := { name := "carveForms", fn := fun _ => fun
  | [d1, d2, d3, d4] => { results := [.lit (.bool false)], args := [d1, d2, d3, d4] }
  | _ => none }
def CarveFormsWrongFalsely : Prop := carveFormsRow.holds Try.pinned (OpenSpec.ofChange carveFormsWrong)

/-- 'darninglaw16.CarveEdited': WHATEVER THE INPUT: true; the input reads as it did. -/
def carveEditedSpec : ChangeSpec := { name := "carveEdited", fn := fun _ => fun
  | [d1, d2, d3, d4, d5] => { results := [.lit (.bool true)], args := [d1, d2, d3, d4, d5] }
  | _ => none }
def carveEditedRow : OpenClaim := { program := "ytabdcdddkmklcaa", sum := "8bd7996abd339c61c5760a45f653a8992ee38729c2281736f3a258122d12d4fc", func := "darning/darninglaw16.CarveEdited", spec := "carveEdited", apart := false }
def CarveEditedSaid : Prop := carveEditedRow.holds Try.pinned (OpenSpec.ofChange carveEditedSpec)

/-- ITS FALSE NEIGHBOUR: 'it returns false'. Refute it at one input. -/
def carveEditedWrong : ChangeSpec := { name := "carveEdited", fn := fun _ => fun
  | [d1, d2, d3, d4, d5] => { results := [.lit (.bool false)], args := [d1, d2, d3, d4, d5] }
  | _ => none }
def CarveEditedWrongFalsely : Prop := carveEditedRow.holds Try.pinned (OpenSpec.ofChange carveEditedWrong)

/-- 'darninglaw16.CarveCounts': WHATEVER THE INPUT: true; the input reads as it did. -/
def carveCountsSpec : ChangeSpec := { name := "carveCounts", fn := fun _ => fun
  | [d1, d2, d3, d4] => { results := [.lit (.bool true)], args := [d1, d2, d3, d4] }
  | _ => none }
def carveCountsRow : OpenClaim := { program := "ytabdcdddkmklcaa", sum := "8bd7996abd339c61c5760a45f653a8992ee38729c2281736f3a258122d12d4fc", func := "darning/darninglaw16.CarveCounts", spec := "carveCounts", apart := false }
def CarveCountsSaid : Prop := carveCountsRow.holds Try.pinned (OpenSpec.ofChange carveCountsSpec)

/-- ITS FALSE NEIGHBOUR: 'it returns false'. Refute it at one input. -/
def carveCountsWrong : ChangeSpec := { name := "carveCounts", fn := fun _ => fun
  | [d1, d2, d3, d4] => { results := [.lit (.bool false)], args := [d1, d2, d3, d4] }
  | _ => none }
def CarveCountsWrongFalsely : Prop := carveCountsRow.holds Try.pinned (OpenSpec.ofChange carveCountsWrong)

/-- 'darninglaw16.CarveRising': WHATEVER THE INPUT: true; the input reads as it did. -/
def carveRisingSpec : ChangeSpec := { name := "carveRising", fn := fun _ => fun
  | [d1, d2, d3, d4] => { results := [.lit (.bool true)], args := [d1, d2, d3, d4] }
  | _ => none }
def carveRisingRow : OpenClaim := { program := "ytabdcdddkmklcaa", sum := "8bd7996abd339c61c5760a45f653a8992ee38729c2281736f3a258122d12d4fc", func := "darning/darninglaw16.CarveRising", spec := "carveRising", apart := false }
def CarveRisingSaid : Prop := carveRisingRow.holds Try.pinned (OpenSpec.ofChange carveRisingSpec)

/-- ITS FALSE NEIGHBOUR: 'it returns false'. Refute it at one input. -/
def carveRisingWrong : ChangeSpec := { name := "carveRising", fn := fun _ => fun
  | [d1, d2, d3, d4] => { results := [.lit (.bool false)], args := [d1, d2, d3, d4] }
  | _ => none }
def CarveRisingWrongFalsely : Prop := carveRisingRow.holds Try.pinned (OpenSpec.ofChange carveRisingWrong)

/-- 'darninglaw16.CarveOffs': WHATEVER THE INPUT: true; the input reads as it did. -/
def carveOffsSpec : ChangeSpec := { name := "carveOffs", fn := fun _ => fun
  | [d1, d2, d3, d4] => { results := [.lit (.bool true)], args := [d1, d2, d3, d4] }
  | _ => none }
def carveOffsRow : OpenClaim := { program := "ytabdcdddkmklcaa", sum := "8bd7996abd339c61c5760a45f653a8992ee38729c2281736f3a258122d12d4fc", func := "darning/darninglaw16.CarveOffs", spec := "carveOffs", apart := false }
def CarveOffsSaid : Prop := carveOffsRow.holds Try.pinned (OpenSpec.ofChange carveOffsSpec)

/-- ITS FALSE NEIGHBOUR: 'it returns false'. Refute it at one input. -/
def carveOffsWrong : ChangeSpec := { name := "carveOffs", fn := fun _ => fun
  | [d1, d2, d3, d4] => { results := [.lit (.bool false)], args := [d1, d2, d3, d4] }
  | _ => none }
def CarveOffsWrongFalsely : Prop := carveOffsRow.holds Try.pinned (OpenSpec.ofChange carveOffsWrong)

/- THE SECOND FORM. 'bulk': how many values and letters a reading holds, each counted each time it is reached (what is shared counts as often as it is met; a slice's spare places count too). A statement '..UptoSaid' is the law's where the arguments, and the package variables that the reading takes, are together of bulk at most 1048576: NARROWER than '..Said'. Prove '..Said' where nothing that the law and all that it calls make is longer than what came in: it says more and counts as full. Else prove '..UptoSaid'. A law counts once. -/
mutual
def uptoBulk {H : Type} : DataW H → Nat
  | .lit (.string bytes) => bytes.length + 1
  | .lit _ => 1
  | .nil => 1
  | .ptr d => uptoBulk d + 1
  | .slice elems spare => uptoBulkAll elems + uptoBulkAll spare + 1
  | .agg parts => uptoBulkAll parts + 1
  | .iface _ d => uptoBulk d + 1
  | .map entries => uptoBulkEntries entries + 1
  | .held _ => 1
def uptoBulkAll {H : Type} : List (DataW H) → Nat
  | [] => 0
  | d :: r => uptoBulk d + uptoBulkAll r
def uptoBulkEntries {H : Type} : List (Lit × DataW H) → Nat
  | [] => 0
  | x :: r => uptoBulkEntry x + uptoBulkEntries r
def uptoBulkEntry {H : Type} : Lit × DataW H → Nat
  | (.string bytes, d) => bytes.length + uptoBulk d + 1
  | (_, d) => uptoBulk d + 1
 end
def uptoSmall : (H : Type) → List (DataW H) → Bool := fun _ ds => decide (uptoBulkAll ds ≤ 1048576)
def OpenSpec.upto (s : _root_.Go.ChangeSpec) : _root_.Go.OpenSpec := { _root_.Go.OpenSpec.ofChange s with cond := some uptoSmall }

/-- 'darninglaw16.CarveForms', WHERE WHAT IT READS IS OF BULK AT MOST 1048576: true; the input reads as it did. -/
def carveFormsUptoRow : OpenClaim := { program := "ytabdcdddkmklcaa", sum := "8bd7996abd339c61c5760a45f653a8992ee38729c2281736f3a258122d12d4fc", func := "darning/darninglaw16.CarveForms", spec := "carveForms", apart := false, narrowed := true }
def CarveFormsUptoSaid : Prop := carveFormsUptoRow.holds Try.pinned (OpenSpec.upto carveFormsSpec)

/-- 'darninglaw16.CarveEdited', WHERE WHAT IT READS IS OF BULK AT MOST 1048576: true; the input reads as it did. -/
def carveEditedUptoRow : OpenClaim := { program := "ytabdcdddkmklcaa", sum := "8bd7996abd339c61c5760a45f653a8992ee38729c2281736f3a258122d12d4fc", func := "darning/darninglaw16.CarveEdited", spec := "carveEdited", apart := false, narrowed := true }
def CarveEditedUptoSaid : Prop := carveEditedUptoRow.holds Try.pinned (OpenSpec.upto carveEditedSpec)

/-- 'darninglaw16.CarveCounts', WHERE WHAT IT READS IS OF BULK AT MOST 1048576: true; the input reads as it did. -/
def carveCountsUptoRow : OpenClaim := { program := "ytabdcdddkmklcaa", sum := "8bd7996abd339c61c5760a45f653a8992ee38729c2281736f3a258122d12d4fc", func := "darning/darninglaw16.CarveCounts", spec := "carveCounts", apart := false, narrowed := true }
def CarveCountsUptoSaid : Prop := carveCountsUptoRow.holds Try.pinned (OpenSpec.upto carveCountsSpec)

/-- 'darninglaw16.CarveRising', WHERE WHAT IT READS IS OF BULK AT MOST 1048576: true; the input reads as it did. -/
def carveRisingUptoRow : OpenClaim := { program := "ytabdcdddkmklcaa", sum := "8bd7996abd339c61c5760a45f653a8992ee38729c2281736f3a258122d12d4fc", func := "darning/darninglaw16.CarveRising", spec := "carveRising", apart := false, narrowed := true }
def CarveRisingUptoSaid : Prop := carveRisingUptoRow.holds Try.pinned (OpenSpec.upto carveRisingSpec)

/-- 'darninglaw16.CarveOffs', WHERE WHAT IT READS IS OF BULK AT MOST 1048576: true; the input reads as it did. -/
def carveOffsUptoRow : OpenClaim := { program := "ytabdcdddkmklcaa", sum := "8bd7996abd339c61c5760a45f653a8992ee38729c2281736f3a258122d12d4fc", func := "darning/darninglaw16.CarveOffs", spec := "carveOffs", apart := false, narrowed := true }
def CarveOffsUptoSaid : Prop := carveOffsUptoRow.holds Try.pinned (OpenSpec.upto carveOffsSpec)

end Rows
end Go.Proofs.Ytabdcdddkmklcaa
