/-
  Contracts of package carve: noughts behind a header, the words that are written, the blocks behind the taking.
-/
import Derived.Test.YtlpbdnfecnochaaCre
import Derived.Deep.RegionLaw
namespace Go.Proofs.Ytlpbdnfecnochaa
set_option maxRecDepth 100000
open Go.RowKit

theorem rise_more (a : Int) (k : Nat) (x : Int) : rise a (List.replicate (k + 1) x) = rise a (List.replicate k x) ++ [⟨a + k, x⟩] := by
  rw [List.replicate_succ', rise_app, List.length_replicate]
  rfl
end Go.Proofs.Ytlpbdnfecnochaa
