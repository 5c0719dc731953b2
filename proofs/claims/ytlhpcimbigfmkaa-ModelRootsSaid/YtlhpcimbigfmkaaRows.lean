/-
  No cell of these rows narrows 'for every input' (looked for: loops, veiled, ifaces, maps, wideKeys, modest, calm, conditions, laid).
  DERIVED. THE GIVEN ROWS OF THIS SEAT. 5 by the template 'for every input the law returns true; each argument reads behind the call as it read before'; 0 by the template 'total and deterministic' (their statements: YtlhpcimbigfmkaaTotals.lean).
  GIVEN WITH THE SEED: the statements are not yours to turn. If you find one false, say at which input.
  Laid BY PROGRAM, IN A SANDBOX (cutbox-rows.mjs): the forced cells as the released guide's own fill.sh prints them over the translation 8bc4dd2e2d306b51… (all of the seat's roots in one cut). By AI agents, Wed Nov 11 2026. No macro, syntax, notation, axiom, sorry.
-/
import Derived.Test.YtlhpcimbigfmkaaChecked
import GoSem.Claim
import GoSem.ClaimJoined
import GoSem.ClaimMapViews
import Derived.JoinedTies
import Derived.KernelRfl
namespace Go.Proofs.Ytlhpcimbigfmkaa
/- THE CELL 'sum', in the pinned program and in every row, IS THE sha256 OF THE DUMP (.gsa) THAT YtlhpcimbigfmkaaProg.lean LOADS. Nothing in Lean hashes anything: it is a label: what it is worth is what the hold of that sum in a sandbox is worth. -/
noncomputable def Try.pinned : Pinned := { name := "ytlhpcimbigfmkaa", sum := "8bc4dd2e2d306b517c8b0ae512098181c9e899159ac908b527e5f139189d7c55", checked := Try.checked }
namespace Rows
def none {H : Type} : Left H := { results := [], args := [] }

/-- 'darninglaw20.ModelPlays': WHATEVER THE INPUT: true; the input reads as it did. -/
def modelPlaysSpec : ChangeSpec := { name := "modelPlays", fn := fun _ => fun
  | [d1, d2, d3] => { results := [.lit (.bool true)], args := [d1, d2, d3] }
  | _ => none }
def modelPlaysRow : OpenClaim := { program := "ytlhpcimbigfmkaa", sum := "8bc4dd2e2d306b517c8b0ae512098181c9e899159ac908b527e5f139189d7c55", func := "darning/darninglaw20.ModelPlays", spec := "modelPlays", unfollowed := true, recurses := true, apart := false }
def ModelPlaysSaid : Prop := modelPlaysRow.holds Try.pinned (OpenSpec.ofChange modelPlaysSpec)

/-- ITS FALSE NEIGHBOUR: 'it returns false'. Refute it at one input. -/
def modelPlaysWrong : ChangeSpec := { name := "modelPlays", fn := fun _ => fun
  | [d1, d2, d3] => { results := [.lit (.bool false)], args := [d1, d2, d3] }
  | _ => none }
def ModelPlaysWrongFalsely : Prop := modelPlaysRow.holds Try.pinned (OpenSpec.ofChange modelPlaysWrong)

/-- 'darninglaw20.ModelNil': WHATEVER THE INPUT: true; the input reads as it did. -/
def modelNilSpec : ChangeSpec := { name := "modelNil", fn := fun _ => fun
  | [d] => { results := [.lit (.bool true)], args := [d] }
  | _ => none }
def modelNilRow : OpenClaim := { program := "ytlhpcimbigfmkaa", sum := "8bc4dd2e2d306b517c8b0ae512098181c9e899159ac908b527e5f139189d7c55", func := "darning/darninglaw20.ModelNil", spec := "modelNil", unfollowed := true, recurses := true, apart := false }
def ModelNilSaid : Prop := modelNilRow.holds Try.pinned (OpenSpec.ofChange modelNilSpec)

/-- ITS FALSE NEIGHBOUR: 'it returns false'. Refute it at one input. -/
def modelNilWrong : ChangeSpec := { name := "modelNil", fn := fun _ => fun
  | [d] => { results := [.lit (.bool false)], args := [d] }
  | _ => none }
def ModelNilWrongFalsely : Prop := modelNilRow.holds Try.pinned (OpenSpec.ofChange modelNilWrong)

/-- 'darninglaw20.ModelFits': WHATEVER THE INPUT: true; the input reads as it did. -/
def modelFitsSpec : ChangeSpec := { name := "modelFits", fn := fun _ => fun
  | [d1, d2, d3, d4, d5] => { results := [.lit (.bool true)], args := [d1, d2, d3, d4, d5] }
  | _ => none }
def modelFitsRow : OpenClaim := { program := "ytlhpcimbigfmkaa", sum := "8bc4dd2e2d306b517c8b0ae512098181c9e899159ac908b527e5f139189d7c55", func := "darning/darninglaw20.ModelFits", spec := "modelFits", unfollowed := true, recurses := true, apart := false }
def ModelFitsSaid : Prop := modelFitsRow.holds Try.pinned (OpenSpec.ofChange modelFitsSpec)

/-- ITS FALSE NEIGHBOUR: 'it returns false'. Refute it at one input. -/
def modelFitsWrong : ChangeSpec := { name := "modelFits", fn := fun _ => fun
  | [d1, d2, d3, d4, d5] => { results := [.lit (.bool false)], args := [d1, d2, d3, d4, d5] }
  | _ => none }
def ModelFitsWrongFalsely : Prop := modelFitsRow.holds Try.pinned (OpenSpec.ofChange modelFitsWrong)

/-- 'darninglaw20.ModelRoots': WHATEVER THE INPUT: true; the input reads as it did. -/
def modelRootsSpec : ChangeSpec := { name := "modelRoots", fn := fun _ => fun
  | [d1, d2, d3] => { results := [.lit (.bool true)], args := [d1, d2, d3] }
  | _ => none }
def modelRootsRow : OpenClaim := { program := "ytlhpcimbigfmkaa", sum := "8bc4dd2e2d306b517c8b0ae512098181c9e899159ac908b527e5f139189d7c55", func := "darning/darninglaw20.ModelRoots", spec := "modelRoots", unfollowed := true, recurses := true, apart := false }
def ModelRootsSaid : Prop := modelRootsRow.holds Try.pinned (OpenSpec.ofChange modelRootsSpec)

/-- ITS FALSE NEIGHBOUR: 'it returns false'. Refute it at one input. -/
def modelRootsWrong : ChangeSpec := { name := "modelRoots", fn := fun _ => fun
  | [d1, d2, d3] => { results := [.lit (.bool false)], args := [d1, d2, d3] }
  | _ => none }
def ModelRootsWrongFalsely : Prop := modelRootsRow.holds Try.pinned (OpenSpec.ofChange modelRootsWrong)

/-- 'darninglaw20.ModelBytes': WHATEVER THE INPUT: true; the input reads as it did. -/
def modelBytesSpec : ChangeSpec := { name := "modelBytes", fn := fun _ => fun
  | [d1, d2, d3] => { results := [.lit (.bool true)], args := [d1, d2, d3] }
  | _ => none }
def modelBytesRow : OpenClaim := { program := "ytlhpcimbigfmkaa", sum := "8bc4dd2e2d306b517c8b0ae512098181c9e899159ac908b527e5f139189d7c55", func := "darning/darninglaw20.ModelBytes", spec := "modelBytes", unfollowed := true, recurses := true, apart := false }
def ModelBytesSaid : Prop := modelBytesRow.holds Try.pinned (OpenSpec.ofChange modelBytesSpec)

/-- ITS FALSE NEIGHBOUR: 'it returns false'. Refute it at one input. -/
def modelBytesWrong : ChangeSpec := { name := "modelBytes", fn := fun _ => fun
  | [d1, d2, d3] => { results := [.lit (.bool false)], args := [d1, d2, d3] }
  | _ => none }
def ModelBytesWrongFalsely : Prop := modelBytesRow.holds Try.pinned (OpenSpec.ofChange modelBytesWrong)

/- THE SECOND FORM. 'bulk': how many values and letters a reading holds, each counted each time it is reached (what is shared counts as often as it is met; a slice's spare places count too). A statement '..UptoSaid' is the law's where the arguments, and the package variables that the reading takes, are together of bulk at most 1048576: NARROWER than '..Said'. Prove '..Said' where nothing that the law and all that it calls make is longer than what came in: it says more and counts as full. Else prove '..UptoSaid'. A law counts once. -/
mutual
def uptoBulk {H : Type} : DataW H → Nat
  | .lit (.string bytes) => bytes.length + 1
  | .lit _ => 1
  | .nil => 1
  | .ptr d => uptoBulk d + 1
  | .slice elems spare => uptoBulkAll elems + uptoBulkAll spare + 1
  | .agg parts => uptoBulkAll parts + 1
  | .iface _ d => uptoBulk d + 1
  | .map entries => uptoBulkEntries entries + 1
  | .held _ => 1
def uptoBulkAll {H : Type} : List (DataW H) → Nat
  | [] => 0
  | d :: r => uptoBulk d + uptoBulkAll r
def uptoBulkEntries {H : Type} : List (Lit × DataW H) → Nat
  | [] => 0
  | x :: r => uptoBulkEntry x + uptoBulkEntries r
def uptoBulkEntry {H : Type} : Lit × DataW H → Nat
  | (.string bytes, d) => bytes.length + uptoBulk d + 1
  | (_, d) => uptoBulk d + 1
 end
def uptoSmall : (H : Type) → List (DataW H) → Bool := fun _ ds => decide (uptoBulkAll ds ≤ 1048576)
def OpenSpec.upto (s : _root_.Go.ChangeSpec) : _root_.Go.OpenSpec := { _root_.Go.OpenSpec.ofChange s with cond := some uptoSmall }

/-- 'darninglaw20.ModelPlays', WHERE WHAT IT READS IS OF BULK AT MOST 1048576: true; the input reads as it did. -/
def modelPlaysUptoRow : OpenClaim := { program := "ytlhpcimbigfmkaa", sum := "8bc4dd2e2d306b517c8b0ae512098181c9e899159ac908b527e5f139189d7c55", func := "darning/darninglaw20.ModelPlays", spec := "modelPlays", unfollowed := true, recurses := true, apart := false, narrowed := true }
def ModelPlaysUptoSaid : Prop := modelPlaysUptoRow.holds Try.pinned (OpenSpec.upto modelPlaysSpec)

/-- 'darninglaw20.ModelNil', WHERE WHAT IT READS IS OF BULK AT MOST 1048576: true; the input reads as it did. -/
def modelNilUptoRow : OpenClaim := { program := "ytlhpcimbigfmkaa", sum := "8bc4dd2e2d306b517c8b0ae512098181c9e899159ac908b527e5f139189d7c55", func := "darning/darninglaw20.ModelNil", spec := "modelNil", unfollowed := true, recurses := true, apart := false, narrowed := true }
def ModelNilUptoSaid : Prop := modelNilUptoRow.holds Try.pinned (OpenSpec.upto modelNilSpec)

/-- 'darninglaw20.ModelFits', WHERE WHAT IT READS IS OF BULK AT MOST 1048576: true; the input reads as it did. -/
def modelFitsUptoRow : OpenClaim := { program := "ytlhpcimbigfmkaa", sum := "8bc4dd2e2d306b517c8b0ae512098181c9e899159ac908b527e5f139189d7c55", func := "darning/darninglaw20.ModelFits", spec := "modelFits", unfollowed := true, recurses := true, apart := false, narrowed := true }
def ModelFitsUptoSaid : Prop := modelFitsUptoRow.holds Try.pinned (OpenSpec.upto modelFitsSpec)

/-- 'darninglaw20.ModelRoots', WHERE WHAT IT READS IS OF BULK AT MOST 1048576: true; the input reads as it did. -/
def modelRootsUptoRow : OpenClaim := { program := "ytlhpcimbigfmkaa", sum := "8bc4dd2e2d306b517c8b0ae512098181c9e899159ac908b527e5f139189d7c55", func := "darning/darninglaw20.ModelRoots", spec := "modelRoots", unfollowed := true, recurses := true, apart := false, narrowed := true }
def ModelRootsUptoSaid : Prop := modelRootsUptoRow.holds Try.pinned (OpenSpec.upto modelRootsSpec)

/-- 'darninglaw20.ModelBytes', WHERE WHAT IT READS IS OF BULK AT MOST 1048576: true; the input reads as it did. -/
def modelBytesUptoRow : OpenClaim := { program := "ytlhpcimbigfmkaa", sum := "8bc4dd2e2d306b517c8b0ae512098181c9e899159ac908b527e5f139189d7c55", func := "darning/darninglaw20.ModelBytes", spec := "modelBytes", unfollowed := true, recurses := true, apart := false, narrowed := true }
def ModelBytesUptoSaid : Prop := modelBytesUptoRow.holds Try.pinned (OpenSpec.upto modelBytesSpec)

end Rows
end Go.Proofs.Ytlhpcimbigfmkaa
