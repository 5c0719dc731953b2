/-
  No cell of these rows narrows 'for every input' (looked for: loops, veiled, ifaces, maps, wideKeys, modest, calm, conditions, laid).
  DERIVED. THE GIVEN ROWS OF THIS SEAT. 5 by the template 'for every input the law returns true; each argument reads behind the call as it read before'; 0 by the template 'total and deterministic' (their statements: YtmodoploohnbcaaTotals.lean).
  GIVEN WITH THE SEED: the statements are not yours to turn. If you find one false, say at which input.
  Laid BY PROGRAM, IN A SANDBOX (cutbox-rows.mjs): the forced cells as the released guide's own fill.sh prints them over the translation 220c8d6c8fbd512d… (all of the seat's roots in one cut). By AI agents, Wed Nov 11 2026. No macro, syntax, notation, axiom, sorry.
-/
import Derived.Test.YtmodoploohnbcaaChecked
import GoSem.Claim
import GoSem.ClaimJoined
import GoSem.ClaimMapViews
import Derived.JoinedTies
import Derived.KernelRfl
namespace Go.Proofs.Ytmodoploohnbcaa
/- THE CELL 'sum', in the pinned program and in every row, IS THE sha256 OF THE DUMP (.gsa) THAT YtmodoploohnbcaaProg.lean LOADS. Nothing in Lean hashes anything: it is a label: what it is worth is what the hold of that sum in a sandbox is worth. -/
noncomputable def Try.pinned : Pinned := { name := "ytmodoploohnbcaa", sum := "220c8d6c8fbd512d6120e427da88f728e06babd9821f34964e7a76994cab5ab7", checked := Try.checked }
namespace Rows
def none {H : Type} : Left H := { results := [], args := [] }

/-- 'darninglaw8.GapForms': WHATEVER THE INPUT: true; the input reads as it did. -/
def gapFormsSpec : ChangeSpec := { name := "gapForms", fn := fun _ => fun
  | [d1, d2, d3, d4] => { results := [.lit (.bool true)], args := [d1, d2, d3, d4] }
  | _ => none }
def gapFormsRow : OpenClaim := { program := "ytmodoploohnbcaa", sum := "220c8d6c8fbd512d6120e427da88f728e06babd9821f34964e7a76994cab5ab7", func := "darning/darninglaw8.GapForms", spec := "gapForms", apart := false }
def GapFormsSaid : Prop := gapFormsRow.holds Try.pinned (OpenSpec.ofChange gapFormsSpec)

/-- ITS FALSE NEIGHBOUR: 'it returns false'. Refute it at one input. -/
def gapFormsWrong : ChangeSpec := { name := "gapForms", fn := fun _ => fun
  | [d1, d2, d3, d4] => { results := [.lit (.bool false)], args := [d1, d2, d3, d4] }
  | _ => none }
def GapFormsWrongFalsely : Prop := gapFormsRow.holds Try.pinned (OpenSpec.ofChange gapFormsWrong)

/-- 'darninglaw8.GapMoves': WHATEVER THE INPUT: true; the input reads as it did. -/
def gapMovesSpec : ChangeSpec := { name := "gapMoves", fn := fun _ => fun
  | [d1, d2] => { results := [.lit (.bool true)], args := [d1, d2] }
  | _ => none }
def gapMovesRow : OpenClaim := { program := "ytmodoploohnbcaa", sum := "220c8d6c8fbd512d6120e427da88f728e06babd9821f34964e7a76994cab5ab7", func := "darning/darninglaw8.GapMoves", spec := "gapMoves", apart := false }
def GapMovesSaid : Prop := gapMovesRow.holds Try.pinned (OpenSpec.ofChange gapMovesSpec)

/-- ITS FALSE NEIGHBOUR: 'it returns false'. Refute it at one input. -/
def gapMovesWrong : ChangeSpec := { name := "gapMoves", fn := fun _ => fun
  | [d1, d2] => { results := [.lit (.bool false)], args := [d1, d2] }
  | _ => none }
def GapMovesWrongFalsely : Prop := gapMovesRow.holds Try.pinned (OpenSpec.ofChange gapMovesWrong)

/-- 'darninglaw8.GapRound': WHATEVER THE INPUT: true; the input reads as it did. -/
def gapRoundSpec : ChangeSpec := { name := "gapRound", fn := fun _ => fun
  | [d1, d2, d3] => { results := [.lit (.bool true)], args := [d1, d2, d3] }
  | _ => none }
def gapRoundRow : OpenClaim := { program := "ytmodoploohnbcaa", sum := "220c8d6c8fbd512d6120e427da88f728e06babd9821f34964e7a76994cab5ab7", func := "darning/darninglaw8.GapRound", spec := "gapRound", apart := false }
def GapRoundSaid : Prop := gapRoundRow.holds Try.pinned (OpenSpec.ofChange gapRoundSpec)

/-- ITS FALSE NEIGHBOUR: 'it returns false'. Refute it at one input. -/
def gapRoundWrong : ChangeSpec := { name := "gapRound", fn := fun _ => fun
  | [d1, d2, d3] => { results := [.lit (.bool false)], args := [d1, d2, d3] }
  | _ => none }
def GapRoundWrongFalsely : Prop := gapRoundRow.holds Try.pinned (OpenSpec.ofChange gapRoundWrong)

/-- 'darninglaw8.GapOnce': WHATEVER THE INPUT: true; the input reads as it did. -/
def gapOnceSpec : ChangeSpec := { name := "gapOnce", fn := fun _ => fun
  | [d1, d2, d3] => { results := [.lit (.bool true)], args := [d1, d2, d3] }
  | _ => none }
def gapOnceRow : OpenClaim := { program := "ytmodoploohnbcaa", sum := "220c8d6c8fbd512d6120e427da88f728e06babd9821f34964e7a76994cab5ab7", func := "darning/darninglaw8.GapOnce", spec := "gapOnce", apart := false }
def GapOnceSaid : Prop := gapOnceRow.holds Try.pinned (OpenSpec.ofChange gapOnceSpec)

/-- ITS FALSE NEIGHBOUR: 'it returns false'. Refute it at one input. -/
def gapOnceWrong : ChangeSpec := { name := "gapOnce", fn := fun _ => fun
  | [d1, d2, d3] => { results := [.lit (.bool false)], args := [d1, d2, d3] }
  | _ => none }
def GapOnceWrongFalsely : Prop := gapOnceRow.holds Try.pinned (OpenSpec.ofChange gapOnceWrong)

/-- 'darninglaw8.GapEach': WHATEVER THE INPUT: true; the input reads as it did. -/
def gapEachSpec : ChangeSpec := { name := "gapEach", fn := fun _ => fun
  | [d1, d2, d3] => { results := [.lit (.bool true)], args := [d1, d2, d3] }
  | _ => none }
def gapEachRow : OpenClaim := { program := "ytmodoploohnbcaa", sum := "220c8d6c8fbd512d6120e427da88f728e06babd9821f34964e7a76994cab5ab7", func := "darning/darninglaw8.GapEach", spec := "gapEach", apart := false }
def GapEachSaid : Prop := gapEachRow.holds Try.pinned (OpenSpec.ofChange gapEachSpec)

/-- ITS FALSE NEIGHBOUR: 'it returns false'. Refute it at one input. -/
def gapEachWrong : ChangeSpec := { name := "gapEach", fn := fun _ => fun
  | [d1, d2, d3] => { results := [.lit (.bool false)], args := [d1, d2, d3] }
  | _ => none }
def GapEachWrongFalsely : Prop := gapEachRow.holds Try.pinned (OpenSpec.ofChange gapEachWrong)

/- THE SECOND FORM. 'bulk': how many values and letters a reading holds, each counted each time it is reached (what is shared counts as often as it is met; a slice's spare places count too). A statement '..UptoSaid' is the law's where the arguments, and the package variables that the reading takes, are together of bulk at most 1048576: NARROWER than '..Said'. Prove '..Said' where nothing that the law and all that it calls make is longer than what came in: it says more and counts as full. Else prove '..UptoSaid'. A law counts once. -/
mutual
def uptoBulk {H : Type} : DataW H → Nat
  | .lit (.string bytes) => bytes.length + 1
  | .lit _ => 1
  | .nil => 1
  | .ptr d => uptoBulk d + 1
  | .slice elems spare => uptoBulkAll elems + uptoBulkAll spare + 1
  | .agg parts => uptoBulkAll parts + 1
  | .iface _ d => uptoBulk d + 1
  | .map entries => uptoBulkEntries entries + 1
  | .held _ => 1
def uptoBulkAll {H : Type} : List (DataW H) → Nat
  | [] => 0
  | d :: r => uptoBulk d + uptoBulkAll r
def uptoBulkEntries {H : Type} : List (Lit × DataW H) → Nat
  | [] => 0
  | x :: r => uptoBulkEntry x + uptoBulkEntries r
def uptoBulkEntry {H : Type} : Lit × DataW H → Nat
  | (.string bytes, d) => bytes.length + uptoBulk d + 1
  | (_, d) => uptoBulk d + 1
 end
def uptoSmall : (H : Type) → List (DataW H) → Bool := fun _ ds => decide (uptoBulkAll ds ≤ 1048576)
def OpenSpec.upto (s : _root_.Go.ChangeSpec) : _root_.Go.OpenSpec := { _root_.Go.OpenSpec.ofChange s with cond := some uptoSmall }

/-- 'darninglaw8.GapForms', WHERE WHAT IT READS IS OF BULK AT MOST 1048576: true; the input reads as it did. -/
def gapFormsUptoRow : OpenClaim := { program := "ytmodoploohnbcaa", sum := "220c8d6c8fbd512d6120e427da88f728e06babd9821f34964e7a76994cab5ab7", func := "darning/darninglaw8.GapForms", spec := "gapForms", apart := false, narrowed := true }
def GapFormsUptoSaid : Prop := gapFormsUptoRow.holds Try.pinned (OpenSpec.upto gapFormsSpec)

/-- 'darninglaw8.GapMoves', WHERE WHAT IT READS IS OF BULK AT MOST 1048576: true; the input reads as it did. -/
def gapMovesUptoRow : OpenClaim := { program := "ytmodoploohnbcaa", sum := "220c8d6c8fbd512d6120e427da88f728e06babd9821f34964e7a76994cab5ab7", func := "darning/darninglaw8.GapMoves", spec := "gapMoves", apart := false, narrowed := true }
def GapMovesUptoSaid : Prop := gapMovesUptoRow.holds Try.pinned (OpenSpec.upto gapMovesSpec)

/-- 'darninglaw8.GapRound', WHERE WHAT IT READS IS OF BULK AT MOST 1048576: true; the input reads as it did. -/
def gapRoundUptoRow : OpenClaim := { program := "ytmodoploohnbcaa", sum := "220c8d6c8fbd512d6120e427da88f728e06babd9821f34964e7a76994cab5ab7", func := "darning/darninglaw8.GapRound", spec := "gapRound", apart := false, narrowed := true }
def GapRoundUptoSaid : Prop := gapRoundUptoRow.holds Try.pinned (OpenSpec.upto gapRoundSpec)

/-- 'darninglaw8.GapOnce', WHERE WHAT IT READS IS OF BULK AT MOST 1048576: true; the input reads as it did. -/
def gapOnceUptoRow : OpenClaim := { program := "ytmodoploohnbcaa", sum := "220c8d6c8fbd512d6120e427da88f728e06babd9821f34964e7a76994cab5ab7", func := "darning/darninglaw8.GapOnce", spec := "gapOnce", apart := false, narrowed := true }
def GapOnceUptoSaid : Prop := gapOnceUptoRow.holds Try.pinned (OpenSpec.upto gapOnceSpec)

/-- 'darninglaw8.GapEach', WHERE WHAT IT READS IS OF BULK AT MOST 1048576: true; the input reads as it did. -/
def gapEachUptoRow : OpenClaim := { program := "ytmodoploohnbcaa", sum := "220c8d6c8fbd512d6120e427da88f728e06babd9821f34964e7a76994cab5ab7", func := "darning/darninglaw8.GapEach", spec := "gapEach", apart := false, narrowed := true }
def GapEachUptoSaid : Prop := gapEachUptoRow.holds Try.pinned (OpenSpec.upto gapEachSpec)

end Rows
end Go.Proofs.Ytmodoploohnbcaa
