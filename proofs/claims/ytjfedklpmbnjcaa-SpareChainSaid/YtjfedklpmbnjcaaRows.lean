/-
  No cell of these rows narrows 'for every input' (looked for: loops, veiled, ifaces, maps, wideKeys, modest, calm, conditions, laid).
  DERIVED. THE GIVEN ROWS OF THIS SEAT. 5 by the template 'for every input the law returns true; each argument reads behind the call as it read before'; 0 by the template 'total and deterministic' (their statements: YtjfedklpmbnjcaaTotals.lean).
  GIVEN WITH THE SEED: the statements are not yours to turn. If you find one false, say at which input.
  Laid BY PROGRAM, IN A SANDBOX (cutbox-rows.mjs): the forced cells as the released guide's own fill.sh prints them over the translation acabf126221e0ff6… (all of the seat's roots in one cut). By AI agents, Wed Nov 11 2026. No macro, syntax, notation, axiom, sorry.
-/
import Derived.Test.YtjfedklpmbnjcaaChecked
import GoSem.Claim
import GoSem.ClaimJoined
import GoSem.ClaimMapViews
import Derived.JoinedTies
import Derived.KernelRfl
namespace Go.Proofs.Ytjfedklpmbnjcaa
/- THE CELL 'sum', in the pinned program and in every row, IS THE sha256 OF THE DUMP (.gsa) THAT YtjfedklpmbnjcaaProg.lean LOADS. Nothing in Lean hashes anything: it is a label: what it is worth is what the hold of that sum in a sandbox is worth. -/
noncomputable def Try.pinned : Pinned := { name := "ytjfedklpmbnjcaa", sum := "acabf126221e0ff6703cfadfb3ba4091fa90179523578a815ee99718399f166e", checked := Try.checked }
namespace Rows
def none {H : Type} : Left H := { results := [], args := [] }

/-- 'darninglaw6.SpareForms': WHATEVER THE INPUT: true; the input reads as it did. -/
def spareFormsSpec : ChangeSpec := { name := "spareForms", fn := fun _ => fun
  | [d1, d2, d3] => { results := [.lit (.bool true)], args := [d1, d2, d3] }
  | _ => none }
def spareFormsRow : OpenClaim := { program := "ytjfedklpmbnjcaa", sum := "acabf126221e0ff6703cfadfb3ba4091fa90179523578a815ee99718399f166e", func := "darning/darninglaw6.SpareForms", spec := "spareForms", unfollowed := true, recurses := true, apart := false }
def SpareFormsSaid : Prop := spareFormsRow.holds Try.pinned (OpenSpec.ofChange spareFormsSpec)

/-- ITS FALSE NEIGHBOUR: 'it returns false'. Refute it at one input. -/
def spareFormsWrong : ChangeSpec := { name := "spareForms", fn := fun _ => fun
  | [d1, d2, d3] => { results := [.lit (.bool false)], args := [d1, d2, d3] }
  | _ => none }
def SpareFormsWrongFalsely : Prop := spareFormsRow.holds Try.pinned (OpenSpec.ofChange spareFormsWrong)

/-- 'darninglaw6.SpareApart': WHATEVER THE INPUT: true; the input reads as it did. -/
def spareApartSpec : ChangeSpec := { name := "spareApart", fn := fun _ => fun
  | [d1, d2, d3, d4] => { results := [.lit (.bool true)], args := [d1, d2, d3, d4] }
  | _ => none }
def spareApartRow : OpenClaim := { program := "ytjfedklpmbnjcaa", sum := "acabf126221e0ff6703cfadfb3ba4091fa90179523578a815ee99718399f166e", func := "darning/darninglaw6.SpareApart", spec := "spareApart", unfollowed := true, recurses := true, apart := false }
def SpareApartSaid : Prop := spareApartRow.holds Try.pinned (OpenSpec.ofChange spareApartSpec)

/-- ITS FALSE NEIGHBOUR: 'it returns false'. Refute it at one input. -/
def spareApartWrong : ChangeSpec := { name := "spareApart", fn := fun _ => fun
  | [d1, d2, d3, d4] => { results := [.lit (.bool false)], args := [d1, d2, d3, d4] }
  | _ => none }
def SpareApartWrongFalsely : Prop := spareApartRow.holds Try.pinned (OpenSpec.ofChange spareApartWrong)

/-- 'darninglaw6.SpareNext': WHATEVER THE INPUT: true; the input reads as it did. -/
def spareNextSpec : ChangeSpec := { name := "spareNext", fn := fun _ => fun
  | [d1, d2, d3, d4] => { results := [.lit (.bool true)], args := [d1, d2, d3, d4] }
  | _ => none }
def spareNextRow : OpenClaim := { program := "ytjfedklpmbnjcaa", sum := "acabf126221e0ff6703cfadfb3ba4091fa90179523578a815ee99718399f166e", func := "darning/darninglaw6.SpareNext", spec := "spareNext", unfollowed := true, recurses := true, apart := false }
def SpareNextSaid : Prop := spareNextRow.holds Try.pinned (OpenSpec.ofChange spareNextSpec)

/-- ITS FALSE NEIGHBOUR: 'it returns false'. Refute it at one input. -/
def spareNextWrong : ChangeSpec := { name := "spareNext", fn := fun _ => fun
  | [d1, d2, d3, d4] => { results := [.lit (.bool false)], args := [d1, d2, d3, d4] }
  | _ => none }
def SpareNextWrongFalsely : Prop := spareNextRow.holds Try.pinned (OpenSpec.ofChange spareNextWrong)

/-- 'darninglaw6.SpareChain': WHATEVER THE INPUT: true; the input reads as it did. -/
def spareChainSpec : ChangeSpec := { name := "spareChain", fn := fun _ => fun
  | [d1, d2, d3, d4] => { results := [.lit (.bool true)], args := [d1, d2, d3, d4] }
  | _ => none }
def spareChainRow : OpenClaim := { program := "ytjfedklpmbnjcaa", sum := "acabf126221e0ff6703cfadfb3ba4091fa90179523578a815ee99718399f166e", func := "darning/darninglaw6.SpareChain", spec := "spareChain", unfollowed := true, recurses := true, apart := false }
def SpareChainSaid : Prop := spareChainRow.holds Try.pinned (OpenSpec.ofChange spareChainSpec)

/-- ITS FALSE NEIGHBOUR: 'it returns false'. Refute it at one input. -/
def spareChainWrong : ChangeSpec := { name := "spareChain", fn := fun _ => fun
  | [d1, d2, d3, d4] => { results := [.lit (.bool false)], args := [d1, d2, d3, d4] }
  | _ => none }
def SpareChainWrongFalsely : Prop := spareChainRow.holds Try.pinned (OpenSpec.ofChange spareChainWrong)

/-- 'darninglaw6.SpareSpoilt': WHATEVER THE INPUT: true; the input reads as it did. -/
def spareSpoiltSpec : ChangeSpec := { name := "spareSpoilt", fn := fun _ => fun
  | [d1, d2, d3, d4] => { results := [.lit (.bool true)], args := [d1, d2, d3, d4] }
  | _ => none }
def spareSpoiltRow : OpenClaim := { program := "ytjfedklpmbnjcaa", sum := "acabf126221e0ff6703cfadfb3ba4091fa90179523578a815ee99718399f166e", func := "darning/darninglaw6.SpareSpoilt", spec := "spareSpoilt", unfollowed := true, recurses := true, apart := false }
def SpareSpoiltSaid : Prop := spareSpoiltRow.holds Try.pinned (OpenSpec.ofChange spareSpoiltSpec)

/-- ITS FALSE NEIGHBOUR: 'it returns false'. Refute it at one input. -/
def spareSpoiltWrong : ChangeSpec := { name := "spareSpoilt", fn := fun _ => fun
  | [d1, d2, d3, d4] => { results := [.lit (.bool false)], args := [d1, d2, d3, d4] }
  | _ => none }
def SpareSpoiltWrongFalsely : Prop := spareSpoiltRow.holds Try.pinned (OpenSpec.ofChange spareSpoiltWrong)

/- THE SECOND FORM. 'bulk': how many values and letters a reading holds, each counted each time it is reached (what is shared counts as often as it is met; a slice's spare places count too). A statement '..UptoSaid' is the law's where the arguments, and the package variables that the reading takes, are together of bulk at most 1048576: NARROWER than '..Said'. Prove '..Said' where nothing that the law and all that it calls make is longer than what came in: it says more and counts as full. Else prove '..UptoSaid'. A law counts once. -/
mutual
def uptoBulk {H : Type} : DataW H → Nat
  | .lit (.string bytes) => bytes.length + 1
  | .lit _ => 1
  | .nil => 1
  | .ptr d => uptoBulk d + 1
  | .slice elems spare => uptoBulkAll elems + uptoBulkAll spare + 1
  | .agg parts => uptoBulkAll parts + 1
  | .iface _ d => uptoBulk d + 1
  | .map entries => uptoBulkEntries entries + 1
  | .held _ => 1
def uptoBulkAll {H : Type} : List (DataW H) → Nat
  | [] => 0
  | d :: r => uptoBulk d + uptoBulkAll r
def uptoBulkEntries {H : Type} : List (Lit × DataW H) → Nat
  | [] => 0
  | x :: r => uptoBulkEntry x + uptoBulkEntries r
def uptoBulkEntry {H : Type} : Lit × DataW H → Nat
  | (.string bytes, d) => bytes.length + uptoBulk d + 1
  | (_, d) => uptoBulk d + 1
 end
def uptoSmall : (H : Type) → List (DataW H) → Bool := fun _ ds => decide (uptoBulkAll ds ≤ 1048576)
def OpenSpec.upto (s : _root_.Go.ChangeSpec) : _root_.Go.OpenSpec := { _root_.Go.OpenSpec.ofChange s with cond := some uptoSmall }

/-- 'darninglaw6.SpareForms', WHERE WHAT IT READS IS OF BULK AT MOST 1048576: true; the input reads as it did. -/
def spareFormsUptoRow : OpenClaim := { program := "ytjfedklpmbnjcaa", sum := "acabf126221e0ff6703cfadfb3ba4091fa90179523578a815ee99718399f166e", func := "darning/darninglaw6.SpareForms", spec := "spareForms", unfollowed := true, recurses := true, apart := false, narrowed := true }
def SpareFormsUptoSaid : Prop := spareFormsUptoRow.holds Try.pinned (OpenSpec.upto spareFormsSpec)

/-- 'darninglaw6.SpareApart', WHERE WHAT IT READS IS OF BULK AT MOST 1048576: true; the input reads as it did. -/
def spareApartUptoRow : OpenClaim := { program := "ytjfedklpmbnjcaa", sum := "acabf126221e0ff6703cfadfb3ba4091fa90179523578a815ee99718399f166e", func := "darning/darninglaw6.SpareApart", spec := "spareApart", unfollowed := true, recurses := true, apart := false, narrowed := true }
def SpareApartUptoSaid : Prop := spareApartUptoRow.holds Try.pinned (OpenSpec.upto spareApartSpec)

/-- 'darninglaw6.SpareNext', WHERE WHAT IT READS IS OF BULK AT MOST 1048576: true; the input reads as it did. -/
def spareNextUptoRow : OpenClaim := { program := "ytjfedklpmbnjcaa", sum := "acabf126221e0ff6703cfadfb3ba4091fa90179523578a815ee99718399f166e", func := "darning/darninglaw6.SpareNext", spec := "spareNext", unfollowed := true, recurses := true, apart := false, narrowed := true }
def SpareNextUptoSaid : Prop := spareNextUptoRow.holds Try.pinned (OpenSpec.upto spareNextSpec)

/-- 'darninglaw6.SpareChain', WHERE WHAT IT READS IS OF BULK AT MOST 1048576: true; the input reads as it did. -/
def spareChainUptoRow : OpenClaim := { program := "ytjfedklpmbnjcaa", sum := "acabf126221e0ff6703cfadfb3ba4091fa90179523578a815ee99718399f166e", func := "darning/darninglaw6.SpareChain", spec := "spareChain", unfollowed := true, recurses := true, apart := false, narrowed := true }
def SpareChainUptoSaid : Prop := spareChainUptoRow.holds Try.pinned (OpenSpec.upto spareChainSpec)

/-- 'darninglaw6.SpareSpoilt', WHERE WHAT IT READS IS OF BULK AT MOST 1048576: true; the input reads as it did. -/
def spareSpoiltUptoRow : OpenClaim := { program := "ytjfedklpmbnjcaa", sum := "acabf126221e0ff6703cfadfb3ba4091fa90179523578a815ee99718399f166e", func := "darning/darninglaw6.SpareSpoilt", spec := "spareSpoilt", unfollowed := true, recurses := true, apart := false, narrowed := true }
def SpareSpoiltUptoSaid : Prop := spareSpoiltUptoRow.holds Try.pinned (OpenSpec.upto spareSpoiltSpec)

end Rows
end Go.Proofs.Ytjfedklpmbnjcaa
