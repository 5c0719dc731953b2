/-
  No cell of these rows narrows 'for every input' (looked for: loops, veiled, ifaces, maps, wideKeys, modest, calm, conditions, laid).
  DERIVED. THE GIVEN ROWS OF THIS SEAT. 4 by the template 'for every input the law returns true; each argument reads behind the call as it read before'; 0 by the template 'total and deterministic' (their statements: YtegbeolnlpgdeaaTotals.lean).
  GIVEN WITH THE SEED: the statements are not yours to turn. If you find one false, say at which input.
  Laid BY PROGRAM, IN A SANDBOX (cutbox-rows.mjs): the forced cells as the released guide's own fill.sh prints them over the translation e294156f6d966b3f… (all of the seat's roots in one cut). By AI agents, Wed Nov 11 2026. No macro, syntax, notation, axiom, sorry.
-/
import Derived.Test.YtegbeolnlpgdeaaChecked
import GoSem.Claim
import GoSem.ClaimJoined
import GoSem.ClaimMapViews
import Derived.JoinedTies
import Derived.KernelRfl
namespace Go.Proofs.Ytegbeolnlpgdeaa
/- THE CELL 'sum', in the pinned program and in every row, IS THE sha256 OF THE DUMP (.gsa) THAT YtegbeolnlpgdeaaProg.lean LOADS. Nothing in Lean hashes anything: it is a label: what it is worth is what the hold of that sum in a sandbox is worth. -/
noncomputable def Try.pinned : Pinned := { name := "ytegbeolnlpgdeaa", sum := "e294156f6d966b3f028b8732677b43ca778657f422d5f7cc7f0bd6c0a5c28844", checked := Try.checked }
namespace Rows
def none {H : Type} : Left H := { results := [], args := [] }

/-- 'darninglaw24.CostForms': WHATEVER THE INPUT: true; the input reads as it did. -/
def costFormsSpec : ChangeSpec := { name := "costForms", fn := fun _ => fun
  | [d1, d2, d3] => { results := [.lit (.bool true)], args := [d1, d2, d3] }
  | _ => none }
def costFormsRow : OpenClaim := { program := "ytegbeolnlpgdeaa", sum := "e294156f6d966b3f028b8732677b43ca778657f422d5f7cc7f0bd6c0a5c28844", func := "darning/darninglaw24.CostForms", spec := "costForms", apart := false }
def CostFormsSaid : Prop := costFormsRow.holds Try.pinned (OpenSpec.ofChange costFormsSpec)

/-- ITS FALSE NEIGHBOUR: 'it returns false'. Refute it at one input. -/
def costFormsWrong : ChangeSpec := { name := "costForms", fn := fun _ => fun
  | [d1, d2, d3] => { results := [.lit (.bool false)], args := [d1, d2, d3] }
  | _ => none }
def CostFormsWrongFalsely : Prop := costFormsRow.holds Try.pinned (OpenSpec.ofChange costFormsWrong)

/-- 'darninglaw24.CostMore': WHATEVER THE INPUT: true; the input reads as it did. -/
def costMoreSpec : ChangeSpec := { name := "costMore", fn := fun _ => fun
  | [d1, d2, d3] => { results := [.lit (.bool true)], args := [d1, d2, d3] }
  | _ => none }
def costMoreRow : OpenClaim := { program := "ytegbeolnlpgdeaa", sum := "e294156f6d966b3f028b8732677b43ca778657f422d5f7cc7f0bd6c0a5c28844", func := "darning/darninglaw24.CostMore", spec := "costMore", apart := false }
def CostMoreSaid : Prop := costMoreRow.holds Try.pinned (OpenSpec.ofChange costMoreSpec)

/-- ITS FALSE NEIGHBOUR: 'it returns false'. Refute it at one input. -/
def costMoreWrong : ChangeSpec := { name := "costMore", fn := fun _ => fun
  | [d1, d2, d3] => { results := [.lit (.bool false)], args := [d1, d2, d3] }
  | _ => none }
def CostMoreWrongFalsely : Prop := costMoreRow.holds Try.pinned (OpenSpec.ofChange costMoreWrong)

/-- 'darninglaw24.CostHomes': WHATEVER THE INPUT: true; the input reads as it did. -/
def costHomesSpec : ChangeSpec := { name := "costHomes", fn := fun _ => fun
  | [d1, d2, d3, d4] => { results := [.lit (.bool true)], args := [d1, d2, d3, d4] }
  | _ => none }
def costHomesRow : OpenClaim := { program := "ytegbeolnlpgdeaa", sum := "e294156f6d966b3f028b8732677b43ca778657f422d5f7cc7f0bd6c0a5c28844", func := "darning/darninglaw24.CostHomes", spec := "costHomes", apart := false }
def CostHomesSaid : Prop := costHomesRow.holds Try.pinned (OpenSpec.ofChange costHomesSpec)

/-- ITS FALSE NEIGHBOUR: 'it returns false'. Refute it at one input. -/
def costHomesWrong : ChangeSpec := { name := "costHomes", fn := fun _ => fun
  | [d1, d2, d3, d4] => { results := [.lit (.bool false)], args := [d1, d2, d3, d4] }
  | _ => none }
def CostHomesWrongFalsely : Prop := costHomesRow.holds Try.pinned (OpenSpec.ofChange costHomesWrong)

/-- 'darninglaw24.CostKinds': WHATEVER THE INPUT: true; the input reads as it did. -/
def costKindsSpec : ChangeSpec := { name := "costKinds", fn := fun _ => fun
  | [d1, d2, d3] => { results := [.lit (.bool true)], args := [d1, d2, d3] }
  | _ => none }
def costKindsRow : OpenClaim := { program := "ytegbeolnlpgdeaa", sum := "e294156f6d966b3f028b8732677b43ca778657f422d5f7cc7f0bd6c0a5c28844", func := "darning/darninglaw24.CostKinds", spec := "costKinds", apart := false }
def CostKindsSaid : Prop := costKindsRow.holds Try.pinned (OpenSpec.ofChange costKindsSpec)

/-- ITS FALSE NEIGHBOUR: 'it returns false'. Refute it at one input. -/
def costKindsWrong : ChangeSpec := { name := "costKinds", fn := fun _ => fun
  | [d1, d2, d3] => { results := [.lit (.bool false)], args := [d1, d2, d3] }
  | _ => none }
def CostKindsWrongFalsely : Prop := costKindsRow.holds Try.pinned (OpenSpec.ofChange costKindsWrong)

/- THE SECOND FORM. 'bulk': how many values and letters a reading holds, each counted each time it is reached (what is shared counts as often as it is met; a slice's spare places count too). A statement '..UptoSaid' is the law's where the arguments, and the package variables that the reading takes, are together of bulk at most 1048576: NARROWER than '..Said'. Prove '..Said' where nothing that the law and all that it calls make is longer than what came in: it says more and counts as full. Else prove '..UptoSaid'. A law counts once. -/
mutual
def uptoBulk {H : Type} : DataW H → Nat
  | .lit (.string bytes) => bytes.length + 1
  | .lit _ => 1
  | .nil => 1
  | .ptr d => uptoBulk d + 1
  | .slice elems spare => uptoBulkAll elems + uptoBulkAll spare + 1
  | .agg parts => uptoBulkAll parts + 1
  | .iface _ d => uptoBulk d + 1
  | .map entries => uptoBulkEntries entries + 1
  | .held _ => 1
def uptoBulkAll {H : Type} : List (DataW H) → Nat
  | [] => 0
  | d :: r => uptoBulk d + uptoBulkAll r
def uptoBulkEntries {H : Type} : List (Lit × DataW H) → Nat
  | [] => 0
  | x :: r => uptoBulkEntry x + uptoBulkEntries r
def uptoBulkEntry {H : Type} : Lit × DataW H → Nat
  | (.string bytes, d) => bytes.length + uptoBulk d + 1
  | (_, d) => uptoBulk d + 1
 end
def uptoSmall : (H : Type) → List (DataW H) → Bool := fun _ ds => decide (uptoBulkAll ds ≤ 1048576)
def OpenSpec.upto (s : _root_.Go.ChangeSpec) : _root_.Go.OpenSpec := { _root_.Go.OpenSpec.ofChange s with cond := some uptoSmall }

/-- 'darninglaw24.CostForms', WHERE WHAT IT READS IS OF BULK AT MOST 1048576: true; the input reads as it did. -/
def costFormsUptoRow : OpenClaim := { program := "ytegbeolnlpgdeaa", sum := "e294156f6d966b3f028b8732677b43ca778657f422d5f7cc7f0bd6c0a5c28844", func := "darning/darninglaw24.CostForms", spec := "costForms", apart := false, narrowed := true }
def CostFormsUptoSaid : Prop := costFormsUptoRow.holds Try.pinned (OpenSpec.upto costFormsSpec)

/-- 'darninglaw24.CostMore', WHERE WHAT IT READS IS OF BULK AT MOST 1048576: true; the input reads as it did. -/
def costMoreUptoRow : OpenClaim := { program := "ytegbeolnlpgdeaa", sum := "e294156f6d966b3f028b8732677b43ca778657f422d5f7cc7f0bd6c0a5c28844", func := "darning/darninglaw24.CostMore", spec := "costMore", apart := false, narrowed := true }
def CostMoreUptoSaid : Prop := costMoreUptoRow.holds Try.pinned (OpenSpec.upto costMoreSpec)

/-- 'darninglaw24.CostHomes', WHERE WHAT IT READS IS OF BULK AT MOST 1048576: true; the input reads as it did. -/
def costHomesUptoRow : OpenClaim := { program := "ytegbeolnlpgdeaa", sum := "e294156f6d966b3f028b8732677b43ca778657f422d5f7cc7f0bd6c0a5c28844", func := "darning/darninglaw24.CostHomes", spec := "costHomes", apart := false, narrowed := true }
def CostHomesUptoSaid : Prop := costHomesUptoRow.holds Try.pinned (OpenSpec.upto costHomesSpec)

/-- 'darninglaw24.CostKinds', WHERE WHAT IT READS IS OF BULK AT MOST 1048576: true; the input reads as it did. -/
def costKindsUptoRow : OpenClaim := { program := "ytegbeolnlpgdeaa", sum := "e294156f6d966b3f028b8732677b43ca778657f422d5f7cc7f0bd6c0a5c28844", func := "darning/darninglaw24.CostKinds", spec := "costKinds", apart := false, narrowed := true }
def CostKindsUptoSaid : Prop := costKindsUptoRow.holds Try.pinned (OpenSpec.upto costKindsSpec)

end Rows
end Go.Proofs.Ytegbeolnlpgdeaa
