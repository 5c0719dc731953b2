/-
  No cell of these rows narrows 'for every input' (looked for: loops, veiled, ifaces, maps, wideKeys, modest, calm, conditions, laid).
  DERIVED. THE GIVEN ROWS OF THIS SEAT. 5 by the template 'for every input the law returns true; each argument reads behind the call as it read before'; 0 by the template 'total and deterministic' (their statements: YtkfkpjgijepjfaaTotals.lean).
  GIVEN WITH THE SEED: the statements are not yours to turn. If you find one false, say at which input.
  Laid BY PROGRAM, IN A SANDBOX (cutbox-rows.mjs): the forced cells as the released guide's own fill.sh prints them over the translation 16e04b5426472230… (all of the seat's roots in one cut). By AI agents, Wed Nov 11 2026. No macro, syntax, notation, axiom, sorry.
-/
import Derived.Test.YtkfkpjgijepjfaaChecked
import GoSem.Claim
import GoSem.ClaimJoined
import GoSem.ClaimMapViews
import Derived.JoinedTies
import Derived.KernelRfl
namespace Go.Proofs.Ytkfkpjgijepjfaa
/- THE CELL 'sum', in the pinned program and in every row, IS THE sha256 OF THE DUMP (.gsa) THAT YtkfkpjgijepjfaaProg.lean LOADS. Nothing in Lean hashes anything: it is a label: what it is worth is what the hold of that sum in a sandbox is worth. -/
noncomputable def Try.pinned : Pinned := { name := "ytkfkpjgijepjfaa", sum := "16e04b5426472230c4d397f087b15a8b75ee60508a7f843d5e0be3d6ff762e9c", checked := Try.checked }
namespace Rows
def none {H : Type} : Left H := { results := [], args := [] }

/-- 'darninglaw19.ImageForms': WHATEVER THE INPUT: true; the input reads as it did. -/
def imageFormsSpec : ChangeSpec := { name := "imageForms", fn := fun _ => fun
  | [d1, d2, d3, d4, d5] => { results := [.lit (.bool true)], args := [d1, d2, d3, d4, d5] }
  | _ => none }
def imageFormsRow : OpenClaim := { program := "ytkfkpjgijepjfaa", sum := "16e04b5426472230c4d397f087b15a8b75ee60508a7f843d5e0be3d6ff762e9c", func := "darning/darninglaw19.ImageForms", spec := "imageForms", apart := false }
def ImageFormsSaid : Prop := imageFormsRow.holds Try.pinned (OpenSpec.ofChange imageFormsSpec)

/-- ITS FALSE NEIGHBOUR: 'it returns false'. Refute it at one input. -/
def imageFormsWrong : ChangeSpec := { name := "imageForms", fn := fun _ => fun
  | [d1, d2, d3, d4, d5] => { results := [.lit (.bool false)], args := [d1, d2, d3, d4, d5] }
  | _ => none }
def ImageFormsWrongFalsely : Prop := imageFormsRow.holds Try.pinned (OpenSpec.ofChange imageFormsWrong)

/-- 'darninglaw19.ImageKeeps': WHATEVER THE INPUT: true; the input reads as it did. -/
def imageKeepsSpec : ChangeSpec := { name := "imageKeeps", fn := fun _ => fun
  | [d1, d2, d3] => { results := [.lit (.bool true)], args := [d1, d2, d3] }
  | _ => none }
def imageKeepsRow : OpenClaim := { program := "ytkfkpjgijepjfaa", sum := "16e04b5426472230c4d397f087b15a8b75ee60508a7f843d5e0be3d6ff762e9c", func := "darning/darninglaw19.ImageKeeps", spec := "imageKeeps", apart := false }
def ImageKeepsSaid : Prop := imageKeepsRow.holds Try.pinned (OpenSpec.ofChange imageKeepsSpec)

/-- ITS FALSE NEIGHBOUR: 'it returns false'. Refute it at one input. -/
def imageKeepsWrong : ChangeSpec := { name := "imageKeeps", fn := fun _ => fun
  | [d1, d2, d3] => { results := [.lit (.bool false)], args := [d1, d2, d3] }
  | _ => none }
def ImageKeepsWrongFalsely : Prop := imageKeepsRow.holds Try.pinned (OpenSpec.ofChange imageKeepsWrong)

/-- 'darninglaw19.ImageBack': WHATEVER THE INPUT: true; the input reads as it did. -/
def imageBackSpec : ChangeSpec := { name := "imageBack", fn := fun _ => fun
  | [d1, d2, d3, d4] => { results := [.lit (.bool true)], args := [d1, d2, d3, d4] }
  | _ => none }
def imageBackRow : OpenClaim := { program := "ytkfkpjgijepjfaa", sum := "16e04b5426472230c4d397f087b15a8b75ee60508a7f843d5e0be3d6ff762e9c", func := "darning/darninglaw19.ImageBack", spec := "imageBack", apart := false }
def ImageBackSaid : Prop := imageBackRow.holds Try.pinned (OpenSpec.ofChange imageBackSpec)

/-- ITS FALSE NEIGHBOUR: 'it returns false'. Refute it at one input. -/
def imageBackWrong : ChangeSpec := { name := "imageBack", fn := fun _ => fun
  | [d1, d2, d3, d4] => { results := [.lit (.bool false)], args := [d1, d2, d3, d4] }
  | _ => none }
def ImageBackWrongFalsely : Prop := imageBackRow.holds Try.pinned (OpenSpec.ofChange imageBackWrong)

/-- 'darninglaw19.ImageFills': WHATEVER THE INPUT: true; the input reads as it did. -/
def imageFillsSpec : ChangeSpec := { name := "imageFills", fn := fun _ => fun
  | [d1, d2, d3] => { results := [.lit (.bool true)], args := [d1, d2, d3] }
  | _ => none }
def imageFillsRow : OpenClaim := { program := "ytkfkpjgijepjfaa", sum := "16e04b5426472230c4d397f087b15a8b75ee60508a7f843d5e0be3d6ff762e9c", func := "darning/darninglaw19.ImageFills", spec := "imageFills", apart := false }
def ImageFillsSaid : Prop := imageFillsRow.holds Try.pinned (OpenSpec.ofChange imageFillsSpec)

/-- ITS FALSE NEIGHBOUR: 'it returns false'. Refute it at one input. -/
def imageFillsWrong : ChangeSpec := { name := "imageFills", fn := fun _ => fun
  | [d1, d2, d3] => { results := [.lit (.bool false)], args := [d1, d2, d3] }
  | _ => none }
def ImageFillsWrongFalsely : Prop := imageFillsRow.holds Try.pinned (OpenSpec.ofChange imageFillsWrong)

/-- 'darninglaw19.ImageBounds': WHATEVER THE INPUT: true; the input reads as it did. -/
def imageBoundsSpec : ChangeSpec := { name := "imageBounds", fn := fun _ => fun
  | [d1, d2, d3] => { results := [.lit (.bool true)], args := [d1, d2, d3] }
  | _ => none }
def imageBoundsRow : OpenClaim := { program := "ytkfkpjgijepjfaa", sum := "16e04b5426472230c4d397f087b15a8b75ee60508a7f843d5e0be3d6ff762e9c", func := "darning/darninglaw19.ImageBounds", spec := "imageBounds", apart := false }
def ImageBoundsSaid : Prop := imageBoundsRow.holds Try.pinned (OpenSpec.ofChange imageBoundsSpec)

/-- ITS FALSE NEIGHBOUR: 'it returns false'. Refute it at one input. -/
def imageBoundsWrong : ChangeSpec := { name := "imageBounds", fn := fun _ => fun
  | [d1, d2, d3] => { results := [.lit (.bool false)], args := [d1, d2, d3] }
  | _ => none }
def ImageBoundsWrongFalsely : Prop := imageBoundsRow.holds Try.pinned (OpenSpec.ofChange imageBoundsWrong)

/- THE SECOND FORM. 'bulk': how many values and letters a reading holds, each counted each time it is reached (what is shared counts as often as it is met; a slice's spare places count too). A statement '..UptoSaid' is the law's where the arguments, and the package variables that the reading takes, are together of bulk at most 1048576: NARROWER than '..Said'. Prove '..Said' where nothing that the law and all that it calls make is longer than what came in: it says more and counts as full. Else prove '..UptoSaid'. A law counts once. -/
mutual
def uptoBulk {H : Type} : DataW H → Nat
  | .lit (.string bytes) => bytes.length + 1
  | .lit _ => 1
  | .nil => 1
  | .ptr d => uptoBulk d + 1
  | .slice elems spare => uptoBulkAll elems + uptoBulkAll spare + 1
  | .agg parts => uptoBulkAll parts + 1
  | .iface _ d => uptoBulk d + 1
  | .map entries => uptoBulkEntries entries + 1
  | .held _ => 1
def uptoBulkAll {H : Type} : List (DataW H) → Nat
  | [] => 0
  | d :: r => uptoBulk d + uptoBulkAll r
def uptoBulkEntries {H : Type} : List (Lit × DataW H) → Nat
  | [] => 0
  | x :: r => uptoBulkEntry x + uptoBulkEntries r
def uptoBulkEntry {H : Type} : Lit × DataW H → Nat
  | (.string bytes, d) => bytes.length + uptoBulk d + 1
  | (_, d) => uptoBulk d + 1
 end
def uptoSmall : (H : Type) → List (DataW H) → Bool := fun _ ds => decide (uptoBulkAll ds ≤ 1048576)
def OpenSpec.upto (s : _root_.Go.ChangeSpec) : _root_.Go.OpenSpec := { _root_.Go.OpenSpec.ofChange s with cond := some uptoSmall }

/-- 'darninglaw19.ImageForms', WHERE WHAT IT READS IS OF BULK AT MOST 1048576: true; the input reads as it did. -/
def imageFormsUptoRow : OpenClaim := { program := "ytkfkpjgijepjfaa", sum := "16e04b5426472230c4d397f087b15a8b75ee60508a7f843d5e0be3d6ff762e9c", func := "darning/darninglaw19.ImageForms", spec := "imageForms", apart := false, narrowed := true }
def ImageFormsUptoSaid : Prop := imageFormsUptoRow.holds Try.pinned (OpenSpec.upto imageFormsSpec)

/-- 'darninglaw19.ImageKeeps', WHERE WHAT IT READS IS OF BULK AT MOST 1048576: true; the input reads as it did. -/
def imageKeepsUptoRow : OpenClaim := { program := "ytkfkpjgijepjfaa", sum := "16e04b5426472230c4d397f087b15a8b75ee60508a7f843d5e0be3d6ff762e9c", func := "darning/darninglaw19.ImageKeeps", spec := "imageKeeps", apart := false, narrowed := true }
def ImageKeepsUptoSaid : Prop := imageKeepsUptoRow.holds Try.pinned (OpenSpec.upto imageKeepsSpec)

/-- 'darninglaw19.ImageBack', WHERE WHAT IT READS IS OF BULK AT MOST 1048576: true; the input reads as it did. -/
def imageBackUptoRow : OpenClaim := { program := "ytkfkpjgijepjfaa", sum := "16e04b5426472230c4d397f087b15a8b75ee60508a7f843d5e0be3d6ff762e9c", func := "darning/darninglaw19.ImageBack", spec := "imageBack", apart := false, narrowed := true }
def ImageBackUptoSaid : Prop := imageBackUptoRow.holds Try.pinned (OpenSpec.upto imageBackSpec)

/-- 'darninglaw19.ImageFills', WHERE WHAT IT READS IS OF BULK AT MOST 1048576: true; the input reads as it did. -/
def imageFillsUptoRow : OpenClaim := { program := "ytkfkpjgijepjfaa", sum := "16e04b5426472230c4d397f087b15a8b75ee60508a7f843d5e0be3d6ff762e9c", func := "darning/darninglaw19.ImageFills", spec := "imageFills", apart := false, narrowed := true }
def ImageFillsUptoSaid : Prop := imageFillsUptoRow.holds Try.pinned (OpenSpec.upto imageFillsSpec)

/-- 'darninglaw19.ImageBounds', WHERE WHAT IT READS IS OF BULK AT MOST 1048576: true; the input reads as it did. -/
def imageBoundsUptoRow : OpenClaim := { program := "ytkfkpjgijepjfaa", sum := "16e04b5426472230c4d397f087b15a8b75ee60508a7f843d5e0be3d6ff762e9c", func := "darning/darninglaw19.ImageBounds", spec := "imageBounds", apart := false, narrowed := true }
def ImageBoundsUptoSaid : Prop := imageBoundsUptoRow.holds Try.pinned (OpenSpec.upto imageBoundsSpec)

end Rows
end Go.Proofs.Ytkfkpjgijepjfaa
