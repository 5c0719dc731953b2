/-
  No cell of these rows narrows 'for every input' (looked for: loops, veiled, ifaces, maps, wideKeys, modest, calm, conditions, laid).
  DERIVED. THE GIVEN ROWS OF THIS SEAT. 5 by the template 'for every input the law returns true; each argument reads behind the call as it read before'; 0 by the template 'total and deterministic' (their statements: YtlgjfhjnfimahaaTotals.lean).
  GIVEN WITH THE SEED: the statements are not yours to turn. If you find one false, say at which input.
  Laid BY PROGRAM, IN A SANDBOX (cutbox-rows.mjs): the forced cells as the released guide's own fill.sh prints them over the translation 10a1abc174b96bdd… (all of the seat's roots in one cut). By AI agents, Wed Nov 11 2026. No macro, syntax, notation, axiom, sorry.
-/
import Derived.Test.YtlgjfhjnfimahaaChecked
import GoSem.Claim
import GoSem.ClaimJoined
import GoSem.ClaimMapViews
import Derived.JoinedTies
import Derived.KernelRfl
namespace Go.Proofs.Ytlgjfhjnfimahaa
/- THE CELL 'sum', in the pinned program and in every row, IS THE sha256 OF THE DUMP (.gsa) THAT YtlgjfhjnfimahaaProg.lean LOADS. Nothing in Lean hashes anything: it is a label: what it is worth is what the hold of that sum in a sandbox is worth. -/
noncomputable def Try.pinned : Pinned := { name := "ytlgjfhjnfimahaa", sum := "10a1abc174b96bdd136f05202546c3625e53ae099143c3933ccd9cb958fbb255", checked := Try.checked }
namespace Rows
def none {H : Type} : Left H := { results := [], args := [] }

/-- 'darninglaw3.GuardForms': WHATEVER THE INPUT: true; the input reads as it did. -/
def guardFormsSpec : ChangeSpec := { name := "guardForms", fn := fun _ => fun
  | [d1, d2, d3, d4, d5, d6] => { results := [.lit (.bool true)], args := [d1, d2, d3, d4, d5, d6] }
  | _ => none }
def guardFormsRow : OpenClaim := { program := "ytlgjfhjnfimahaa", sum := "10a1abc174b96bdd136f05202546c3625e53ae099143c3933ccd9cb958fbb255", func := "darning/darninglaw3.GuardForms", spec := "guardForms", unfollowed := true, recurses := true, apart := false }
def GuardFormsSaid : Prop := guardFormsRow.holds Try.pinned (OpenSpec.ofChange guardFormsSpec)

/-- ITS FALSE NEIGHBOUR: 'it returns false'. Refute it at one input. -/
def guardFormsWrong : ChangeSpec := { name := "guardForms", fn := fun _ => fun
  | [d1, d2, d3, d4, d5, d6] => { results := [.lit (.bool false)], args := [d1, d2, d3, d4, d5, d6] }
  | _ => none }
def GuardFormsWrongFalsely : Prop := guardFormsRow.holds Try.pinned (OpenSpec.ofChange guardFormsWrong)

/-- 'darninglaw3.GuardStays': WHATEVER THE INPUT: true; the input reads as it did. -/
def guardStaysSpec : ChangeSpec := { name := "guardStays", fn := fun _ => fun
  | [d1, d2, d3] => { results := [.lit (.bool true)], args := [d1, d2, d3] }
  | _ => none }
def guardStaysRow : OpenClaim := { program := "ytlgjfhjnfimahaa", sum := "10a1abc174b96bdd136f05202546c3625e53ae099143c3933ccd9cb958fbb255", func := "darning/darninglaw3.GuardStays", spec := "guardStays", unfollowed := true, recurses := true, apart := false }
def GuardStaysSaid : Prop := guardStaysRow.holds Try.pinned (OpenSpec.ofChange guardStaysSpec)

/-- ITS FALSE NEIGHBOUR: 'it returns false'. Refute it at one input. -/
def guardStaysWrong : ChangeSpec := { name := "guardStays", fn := fun _ => fun
  | [d1, d2, d3] => { results := [.lit (.bool false)], args := [d1, d2, d3] }
  | _ => none }
def GuardStaysWrongFalsely : Prop := guardStaysRow.holds Try.pinned (OpenSpec.ofChange guardStaysWrong)

/-- 'darninglaw3.GuardFull': WHATEVER THE INPUT: true; the input reads as it did. -/
def guardFullSpec : ChangeSpec := { name := "guardFull", fn := fun _ => fun
  | [d1, d2] => { results := [.lit (.bool true)], args := [d1, d2] }
  | _ => none }
def guardFullRow : OpenClaim := { program := "ytlgjfhjnfimahaa", sum := "10a1abc174b96bdd136f05202546c3625e53ae099143c3933ccd9cb958fbb255", func := "darning/darninglaw3.GuardFull", spec := "guardFull", unfollowed := true, recurses := true, apart := false }
def GuardFullSaid : Prop := guardFullRow.holds Try.pinned (OpenSpec.ofChange guardFullSpec)

/-- ITS FALSE NEIGHBOUR: 'it returns false'. Refute it at one input. -/
def guardFullWrong : ChangeSpec := { name := "guardFull", fn := fun _ => fun
  | [d1, d2] => { results := [.lit (.bool false)], args := [d1, d2] }
  | _ => none }
def GuardFullWrongFalsely : Prop := guardFullRow.holds Try.pinned (OpenSpec.ofChange guardFullWrong)

/-- 'darninglaw3.GuardSums': WHATEVER THE INPUT: true; the input reads as it did. -/
def guardSumsSpec : ChangeSpec := { name := "guardSums", fn := fun _ => fun
  | [d] => { results := [.lit (.bool true)], args := [d] }
  | _ => none }
def guardSumsRow : OpenClaim := { program := "ytlgjfhjnfimahaa", sum := "10a1abc174b96bdd136f05202546c3625e53ae099143c3933ccd9cb958fbb255", func := "darning/darninglaw3.GuardSums", spec := "guardSums", unfollowed := true, recurses := true, apart := false }
def GuardSumsSaid : Prop := guardSumsRow.holds Try.pinned (OpenSpec.ofChange guardSumsSpec)

/-- ITS FALSE NEIGHBOUR: 'it returns false'. Refute it at one input. -/
def guardSumsWrong : ChangeSpec := { name := "guardSums", fn := fun _ => fun
  | [d] => { results := [.lit (.bool false)], args := [d] }
  | _ => none }
def GuardSumsWrongFalsely : Prop := guardSumsRow.holds Try.pinned (OpenSpec.ofChange guardSumsWrong)

/-- 'darninglaw3.GuardIndexes': WHATEVER THE INPUT: true; the input reads as it did. -/
def guardIndexesSpec : ChangeSpec := { name := "guardIndexes", fn := fun _ => fun
  | [d1, d2] => { results := [.lit (.bool true)], args := [d1, d2] }
  | _ => none }
def guardIndexesRow : OpenClaim := { program := "ytlgjfhjnfimahaa", sum := "10a1abc174b96bdd136f05202546c3625e53ae099143c3933ccd9cb958fbb255", func := "darning/darninglaw3.GuardIndexes", spec := "guardIndexes", unfollowed := true, recurses := true, apart := false }
def GuardIndexesSaid : Prop := guardIndexesRow.holds Try.pinned (OpenSpec.ofChange guardIndexesSpec)

/-- ITS FALSE NEIGHBOUR: 'it returns false'. Refute it at one input. -/
def guardIndexesWrong : ChangeSpec := { name := "guardIndexes", fn := fun _ => fun
  | [d1, d2] => { results := [.lit (.bool false)], args := [d1, d2] }
  | _ => none }
def GuardIndexesWrongFalsely : Prop := guardIndexesRow.holds Try.pinned (OpenSpec.ofChange guardIndexesWrong)

/- THE SECOND FORM. 'bulk': how many values and letters a reading holds, each counted each time it is reached (what is shared counts as often as it is met; a slice's spare places count too). A statement '..UptoSaid' is the law's where the arguments, and the package variables that the reading takes, are together of bulk at most 1048576: NARROWER than '..Said'. Prove '..Said' where nothing that the law and all that it calls make is longer than what came in: it says more and counts as full. Else prove '..UptoSaid'. A law counts once. -/
mutual
def uptoBulk {H : Type} : DataW H → Nat
  | .lit (.string bytes) => bytes.length + 1
  | .lit _ => 1
  | .nil => 1
  | .ptr d => uptoBulk d + 1
  | .slice elems spare => uptoBulkAll elems + uptoBulkAll spare + 1
  | .agg parts => uptoBulkAll parts + 1
  | .iface _ d => uptoBulk d + 1
  | .map entries => uptoBulkEntries entries + 1
  | .held _ => 1
def uptoBulkAll {H : Type} : List (DataW H) → Nat
  | [] => 0
  | d :: r => uptoBulk d + uptoBulkAll r
def uptoBulkEntries {H : Type} : List (Lit × DataW H) → Nat
  | [] => 0
  | x :: r => uptoBulkEntry x + uptoBulkEntries r
def uptoBulkEntry {H : Type} : Lit × DataW H → Nat
  | (.string bytes, d) => bytes.length + uptoBulk d + 1
  | (_, d) => uptoBulk d + 1
 end
def uptoSmall : (H : Type) → List (DataW H) → Bool := fun _ ds => decide (uptoBulkAll ds ≤ 1048576)
def OpenSpec.upto (s : _root_.Go.ChangeSpec) : _root_.Go.OpenSpec := { _root_.Go.OpenSpec.ofChange s with cond := some uptoSmall }

/-- 'darninglaw3.GuardForms', WHERE WHAT IT READS IS OF BULK AT MOST 1048576: true; the input reads as it did. -/
def guardFormsUptoRow : OpenClaim := { program := "ytlgjfhjnfimahaa", sum := "10a1abc174b96bdd136f05202546c3625e53ae099143c3933ccd9cb958fbb255", func := "darning/darninglaw3.GuardForms", spec := "guardForms", unfollowed := true, recurses := true, apart := false, narrowed := true }
def GuardFormsUptoSaid : Prop := guardFormsUptoRow.holds Try.pinned (OpenSpec.upto guardFormsSpec)

/-- 'darninglaw3.GuardStays', WHERE WHAT IT READS IS OF BULK AT MOST 1048576: true; the input reads as it did. -/
def guardStaysUptoRow : OpenClaim := { program := "ytlgjfhjnfimahaa", sum := "10a1abc174b96bdd136f05202546c3625e53ae099143c3933ccd9cb958fbb255", func := "darning/darninglaw3.GuardStays", spec := "guardStays", unfollowed := true, recurses := true, apart := false, narrowed := true }
def GuardStaysUptoSaid : Prop := guardStaysUptoRow.holds Try.pinned (OpenSpec.upto guardStaysSpec)

/-- 'darninglaw3.GuardFull', WHERE WHAT IT READS IS OF BULK AT MOST 1048576: true; the input reads as it did. -/
def guardFullUptoRow : OpenClaim := { program := "ytlgjfhjnfimahaa", sum := "10a1abc174b96bdd136f05202546c3625e53ae099143c3933ccd9cb958fbb255", func := "darning/darninglaw3.GuardFull", spec := "guardFull", unfollowed := true, recurses := true, apart := false, narrowed := true }
def GuardFullUptoSaid : Prop := guardFullUptoRow.holds Try.pinned (OpenSpec.upto guardFullSpec)

/-- 'darninglaw3.GuardSums', WHERE WHAT IT READS IS OF BULK AT MOST 1048576: true; the input reads as it did. -/
def guardSumsUptoRow : OpenClaim := { program := "ytlgjfhjnfimahaa", sum := "10a1abc174b96bdd136f05202546c3625e53ae099143c3933ccd9cb958fbb255", func := "darning/darninglaw3.GuardSums", spec := "guardSums", unfollowed := true, recurses := true, apart := false, narrowed := true }
def GuardSumsUptoSaid : Prop := guardSumsUptoRow.holds Try.pinned (OpenSpec.upto guardSumsSpec)

/-- 'darninglaw3.GuardIndexes', WHERE WHAT IT READS IS OF BULK AT MOST 1048576: true; the input reads as it did. -/
def guardIndexesUptoRow : OpenClaim := { program := "ytlgjfhjnfimahaa", sum := "10a1abc174b96bdd136f05202546c3625e53ae099143c3933ccd9cb958fbb255", func := "darning/darninglaw3.GuardIndexes", spec := "guardIndexes", unfollowed := true, recurses := true, apart := false, narrowed := true }
def GuardIndexesUptoSaid : Prop := guardIndexesUptoRow.holds Try.pinned (OpenSpec.upto guardIndexesSpec)

end Rows
end Go.Proofs.Ytlgjfhjnfimahaa
