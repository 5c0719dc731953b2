/-
  No cell of these rows narrows 'for every input' (looked for: loops, veiled, ifaces, maps, wideKeys, modest, calm, conditions, laid).
  DERIVED. THE GIVEN ROWS OF THIS SEAT. 6 by the template 'for every input the law returns true; each argument reads behind the call as it read before'; 0 by the template 'total and deterministic' (their statements: YtjchmkgkibiadaaTotals.lean).
  GIVEN WITH THE SEED: the statements are not yours to turn. If you find one false, say at which input.
  Laid BY PROGRAM, IN A SANDBOX (cutbox-rows.mjs): the forced cells as the released guide's own fill.sh prints them over the translation 9281fcc36752bb36… (all of the seat's roots in one cut). By AI agents, Wed Nov 11 2026. No macro, syntax, notation, axiom, sorry.
-/
import Derived.Test.YtjchmkgkibiadaaChecked
import GoSem.Claim
import GoSem.ClaimJoined
import GoSem.ClaimMapViews
import Derived.JoinedTies
import Derived.KernelRfl
namespace Go.Proofs.Ytjchmkgkibiadaa
/- THE CELL 'sum', in the pinned program and in every row, IS THE sha256 OF THE DUMP (.gsa) THAT YtjchmkgkibiadaaProg.lean LOADS. Nothing in Lean hashes anything: it is a label: what it is worth is what the hold of that sum in a sandbox is worth. -/
noncomputable def Try.pinned : Pinned := { name := "ytjchmkgkibiadaa", sum := "9281fcc36752bb36d0f02971f4162563e0f8809ecd897c0e8dd371b6291c4eaa", checked := Try.checked }
namespace Rows
def none {H : Type} : Left H := { results := [], args := [] }

/-- 'darninglaw9.TurnKeeps': WHATEVER THE INPUT: true; the input reads as it did. -/
def turnKeepsSpec : ChangeSpec := { name := "turnKeeps", fn := fun _ => fun
  | [d1, d2, d3, d4, d5] => { results := [.lit (.bool true)], args := [d1, d2, d3, d4, d5] }
  | _ => none }
def turnKeepsRow : OpenClaim := { program := "ytjchmkgkibiadaa", sum := "9281fcc36752bb36d0f02971f4162563e0f8809ecd897c0e8dd371b6291c4eaa", func := "darning/darninglaw9.TurnKeeps", spec := "turnKeeps", unfollowed := true, recurses := true, apart := false }
def TurnKeepsSaid : Prop := turnKeepsRow.holds Try.pinned (OpenSpec.ofChange turnKeepsSpec)

/-- ITS FALSE NEIGHBOUR: 'it returns false'. Refute it at one input. -/
def turnKeepsWrong : ChangeSpec := { name := "turnKeeps", fn := fun _ => fun
  | [d1, d2, d3, d4, d5] => { results := [.lit (.bool false)], args := [d1, d2, d3, d4, d5] }
  | _ => none }
def TurnKeepsWrongFalsely : Prop := turnKeepsRow.holds Try.pinned (OpenSpec.ofChange turnKeepsWrong)

/-- 'darninglaw9.TurnCut': WHATEVER THE INPUT: true; the input reads as it did. -/
def turnCutSpec : ChangeSpec := { name := "turnCut", fn := fun _ => fun
  | [d1, d2, d3, d4, d5, d6, d7, d8] => { results := [.lit (.bool true)], args := [d1, d2, d3, d4, d5, d6, d7, d8] }
  | _ => none }
def turnCutRow : OpenClaim := { program := "ytjchmkgkibiadaa", sum := "9281fcc36752bb36d0f02971f4162563e0f8809ecd897c0e8dd371b6291c4eaa", func := "darning/darninglaw9.TurnCut", spec := "turnCut", unfollowed := true, recurses := true, apart := false }
def TurnCutSaid : Prop := turnCutRow.holds Try.pinned (OpenSpec.ofChange turnCutSpec)

/-- ITS FALSE NEIGHBOUR: 'it returns false'. Refute it at one input. -/
def turnCutWrong : ChangeSpec := { name := "turnCut", fn := fun _ => fun
  | [d1, d2, d3, d4, d5, d6, d7, d8] => { results := [.lit (.bool false)], args := [d1, d2, d3, d4, d5, d6, d7, d8] }
  | _ => none }
def TurnCutWrongFalsely : Prop := turnCutRow.holds Try.pinned (OpenSpec.ofChange turnCutWrong)

/-- 'darninglaw9.TurnWears': WHATEVER THE INPUT: true; the input reads as it did. -/
def turnWearsSpec : ChangeSpec := { name := "turnWears", fn := fun _ => fun
  | [d1, d2, d3] => { results := [.lit (.bool true)], args := [d1, d2, d3] }
  | _ => none }
def turnWearsRow : OpenClaim := { program := "ytjchmkgkibiadaa", sum := "9281fcc36752bb36d0f02971f4162563e0f8809ecd897c0e8dd371b6291c4eaa", func := "darning/darninglaw9.TurnWears", spec := "turnWears", unfollowed := true, recurses := true, apart := false }
def TurnWearsSaid : Prop := turnWearsRow.holds Try.pinned (OpenSpec.ofChange turnWearsSpec)

/-- ITS FALSE NEIGHBOUR: 'it returns false'. Refute it at one input. -/
def turnWearsWrong : ChangeSpec := { name := "turnWears", fn := fun _ => fun
  | [d1, d2, d3] => { results := [.lit (.bool false)], args := [d1, d2, d3] }
  | _ => none }
def TurnWearsWrongFalsely : Prop := turnWearsRow.holds Try.pinned (OpenSpec.ofChange turnWearsWrong)

/-- 'darninglaw9.TurnNil': WHATEVER THE INPUT: true; the input reads as it did. -/
def turnNilSpec : ChangeSpec := { name := "turnNil", fn := fun _ => fun
  | [d1, d2] => { results := [.lit (.bool true)], args := [d1, d2] }
  | _ => none }
def turnNilRow : OpenClaim := { program := "ytjchmkgkibiadaa", sum := "9281fcc36752bb36d0f02971f4162563e0f8809ecd897c0e8dd371b6291c4eaa", func := "darning/darninglaw9.TurnNil", spec := "turnNil", unfollowed := true, recurses := true, apart := false }
def TurnNilSaid : Prop := turnNilRow.holds Try.pinned (OpenSpec.ofChange turnNilSpec)

/-- ITS FALSE NEIGHBOUR: 'it returns false'. Refute it at one input. -/
def turnNilWrong : ChangeSpec := { name := "turnNil", fn := fun _ => fun
  | [d1, d2] => { results := [.lit (.bool false)], args := [d1, d2] }
  | _ => none }
def TurnNilWrongFalsely : Prop := turnNilRow.holds Try.pinned (OpenSpec.ofChange turnNilWrong)

/-- 'darninglaw9.TurnFound': WHATEVER THE INPUT: true; the input reads as it did. -/
def turnFoundSpec : ChangeSpec := { name := "turnFound", fn := fun _ => fun
  | [d1, d2, d3, d4] => { results := [.lit (.bool true)], args := [d1, d2, d3, d4] }
  | _ => none }
def turnFoundRow : OpenClaim := { program := "ytjchmkgkibiadaa", sum := "9281fcc36752bb36d0f02971f4162563e0f8809ecd897c0e8dd371b6291c4eaa", func := "darning/darninglaw9.TurnFound", spec := "turnFound", unfollowed := true, recurses := true, apart := false }
def TurnFoundSaid : Prop := turnFoundRow.holds Try.pinned (OpenSpec.ofChange turnFoundSpec)

/-- ITS FALSE NEIGHBOUR: 'it returns false'. Refute it at one input. -/
def turnFoundWrong : ChangeSpec := { name := "turnFound", fn := fun _ => fun
  | [d1, d2, d3, d4] => { results := [.lit (.bool false)], args := [d1, d2, d3, d4] }
  | _ => none }
def TurnFoundWrongFalsely : Prop := turnFoundRow.holds Try.pinned (OpenSpec.ofChange turnFoundWrong)

/-- 'darninglaw9.TurnFrom': WHATEVER THE INPUT: true; the input reads as it did. -/
def turnFromSpec : ChangeSpec := { name := "turnFrom", fn := fun _ => fun
  | [d1, d2, d3, d4] => { results := [.lit (.bool true)], args := [d1, d2, d3, d4] }
  | _ => none }
def turnFromRow : OpenClaim := { program := "ytjchmkgkibiadaa", sum := "9281fcc36752bb36d0f02971f4162563e0f8809ecd897c0e8dd371b6291c4eaa", func := "darning/darninglaw9.TurnFrom", spec := "turnFrom", unfollowed := true, recurses := true, apart := false }
def TurnFromSaid : Prop := turnFromRow.holds Try.pinned (OpenSpec.ofChange turnFromSpec)

/-- ITS FALSE NEIGHBOUR: 'it returns false'. Refute it at one input. -/
def turnFromWrong : ChangeSpec := { name := "turnFrom", fn := fun _ => fun
  | [d1, d2, d3, d4] => { results := [.lit (.bool false)], args := [d1, d2, d3, d4] }
  | _ => none }
def TurnFromWrongFalsely : Prop := turnFromRow.holds Try.pinned (OpenSpec.ofChange turnFromWrong)

/- THE SECOND FORM. 'bulk': how many values and letters a reading holds, each counted each time it is reached (what is shared counts as often as it is met; a slice's spare places count too). A statement '..UptoSaid' is the law's where the arguments, and the package variables that the reading takes, are together of bulk at most 1048576: NARROWER than '..Said'. Prove '..Said' where nothing that the law and all that it calls make is longer than what came in: it says more and counts as full. Else prove '..UptoSaid'. A law counts once. -/
mutual
def uptoBulk {H : Type} : DataW H → Nat
  | .lit (.string bytes) => bytes.length + 1
  | .lit _ => 1
  | .nil => 1
  | .ptr d => uptoBulk d + 1
  | .slice elems spare => uptoBulkAll elems + uptoBulkAll spare + 1
  | .agg parts => uptoBulkAll parts + 1
  | .iface _ d => uptoBulk d + 1
  | .map entries => uptoBulkEntries entries + 1
  | .held _ => 1
def uptoBulkAll {H : Type} : List (DataW H) → Nat
  | [] => 0
  | d :: r => uptoBulk d + uptoBulkAll r
def uptoBulkEntries {H : Type} : List (Lit × DataW H) → Nat
  | [] => 0
  | x :: r => uptoBulkEntry x + uptoBulkEntries r
def uptoBulkEntry {H : Type} : Lit × DataW H → Nat
  | (.string bytes, d) => bytes.length + uptoBulk d + 1
  | (_, d) => uptoBulk d + 1
 end
def uptoSmall : (H : Type) → List (DataW H) → Bool := fun _ ds => decide (uptoBulkAll ds ≤ 1048576)
def OpenSpec.upto (s : _root_.Go.ChangeSpec) : _root_.Go.OpenSpec := { _root_.Go.OpenSpec.ofChange s with cond := some uptoSmall }

/-- 'darninglaw9.TurnKeeps', WHERE WHAT IT READS IS OF BULK AT MOST 1048576: true; the input reads as it did. -/
def turnKeepsUptoRow : OpenClaim := { program := "ytjchmkgkibiadaa", sum := "9281fcc36752bb36d0f02971f4162563e0f8809ecd897c0e8dd371b6291c4eaa", func := "darning/darninglaw9.TurnKeeps", spec := "turnKeeps", unfollowed := true, recurses := true, apart := false, narrowed := true }
def TurnKeepsUptoSaid : Prop := turnKeepsUptoRow.holds Try.pinned (OpenSpec.upto turnKeepsSpec)

/-- 'darninglaw9.TurnCut', WHERE WHAT IT READS IS OF BULK AT MOST 1048576: true; the input reads as it did. -/
def turnCutUptoRow : OpenClaim := { program := "ytjchmkgkibiadaa", sum := "9281fcc36752bb36d0f02971f4162563e0f8809ecd897c0e8dd371b6291c4eaa", func := "darning/darninglaw9.TurnCut", spec := "turnCut", unfollowed := true, recurses := true, apart := false, narrowed := true }
def TurnCutUptoSaid : Prop := turnCutUptoRow.holds Try.pinned (OpenSpec.upto turnCutSpec)

/-- 'darninglaw9.TurnWears', WHERE WHAT IT READS IS OF BULK AT MOST 1048576: true; the input reads as it did. -/
def turnWearsUptoRow : OpenClaim := { program := "ytjchmkgkibiadaa", sum := "9281fcc36752bb36d0f02971f4162563e0f8809ecd897c0e8dd371b6291c4eaa", func := "darning/darninglaw9.TurnWears", spec := "turnWears", unfollowed := true, recurses := true, apart := false, narrowed := true }
def TurnWearsUptoSaid : Prop := turnWearsUptoRow.holds Try.pinned (OpenSpec.upto turnWearsSpec)

/-- 'darninglaw9.TurnNil', WHERE WHAT IT READS IS OF BULK AT MOST 1048576: true; the input reads as it did. -/
def turnNilUptoRow : OpenClaim := { program := "ytjchmkgkibiadaa", sum := "9281fcc36752bb36d0f02971f4162563e0f8809ecd897c0e8dd371b6291c4eaa", func := "darning/darninglaw9.TurnNil", spec := "turnNil", unfollowed := true, recurses := true, apart := false, narrowed := true }
def TurnNilUptoSaid : Prop := turnNilUptoRow.holds Try.pinned (OpenSpec.upto turnNilSpec)

/-- 'darninglaw9.TurnFound', WHERE WHAT IT READS IS OF BULK AT MOST 1048576: true; the input reads as it did. -/
def turnFoundUptoRow : OpenClaim := { program := "ytjchmkgkibiadaa", sum := "9281fcc36752bb36d0f02971f4162563e0f8809ecd897c0e8dd371b6291c4eaa", func := "darning/darninglaw9.TurnFound", spec := "turnFound", unfollowed := true, recurses := true, apart := false, narrowed := true }
def TurnFoundUptoSaid : Prop := turnFoundUptoRow.holds Try.pinned (OpenSpec.upto turnFoundSpec)

/-- 'darninglaw9.TurnFrom', WHERE WHAT IT READS IS OF BULK AT MOST 1048576: true; the input reads as it did. -/
def turnFromUptoRow : OpenClaim := { program := "ytjchmkgkibiadaa", sum := "9281fcc36752bb36d0f02971f4162563e0f8809ecd897c0e8dd371b6291c4eaa", func := "darning/darninglaw9.TurnFrom", spec := "turnFrom", unfollowed := true, recurses := true, apart := false, narrowed := true }
def TurnFromUptoSaid : Prop := turnFromUptoRow.holds Try.pinned (OpenSpec.upto turnFromSpec)

end Rows
end Go.Proofs.Ytjchmkgkibiadaa
