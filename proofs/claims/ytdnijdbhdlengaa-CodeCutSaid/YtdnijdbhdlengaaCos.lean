/-
  How many lines a call may change, how many writes it has at most, plainly; contracts of package cost and of the reference.
-/
import Derived.Test.YtdnijdbhdlengaaOpl
import Derived.Test.YtdnijdbhdlengaaPlw
namespace Go.Proofs.Ytdnijdbhdlengaa
set_option maxRecDepth 100000
open Go.ChangeShapes Go.WideShapes Go.ChangeAt Go.RowKit

/-- so many bytes fill lines, and some more -/
def filC (n b : Int) : Int := if n < 0 ∨ 448 < n then 0 else n / 64 + b
/-- lines of a call: kind d, N n, k bytes -/
def lnC (d n k : Int) : Int := if d = 1 then filC n 4 else if d = 4 then filC k 2 else if d = 2 then 1 else 0
def opC (d n k r : Int) : Int := if 0 ≤ r ∧ r ≤ 16 then (if d = 5 then 1 else if lnC d n k = 0 then 0 else 12 * lnC d n k + 24 + 4 * r) else 0
def recC (r : Int) : Int := if 0 ≤ r ∧ r ≤ 16 then 192 + 4 * r else 0
theorem filC_in (n b : Int) (h : 0 ≤ b ∧ b ≤ 4) : 0 ≤ filC n b ∧ filC n b ≤ 11 := by
  unfold filC; split <;> omega
theorem lnC_in (d n k : Int) : 0 ≤ lnC d n k ∧ lnC d n k ≤ 11 := by
  unfold lnC
  split
  · exact filC_in n 4 (by omega)
  · split
    · exact filC_in k 2 (by omega)
    · split <;> omega
theorem wr64 (n : Int) (h1 : -1000000 ≤ n) (h2 : n ≤ 1000000) : IntKind.i64.wrap n = n := IntWalk.i64_in _ ⟨by omega, by omega⟩
theorem quo64 {n : Int} (h : 0 ≤ n) : n.tdiv 64 = n / 64 := Int.tdiv_eq_ediv_of_nonneg h




theorem Pxv.whole {w : World} {g : Nat} {x : Px} (h : Pxv w g x) : (pxLoad (.pointer (some ⟨g, 0, none⟩))).run Try.prog w = .ok (.agg (pxc x)) w :=
  run_pxLoad fun j v hv => by rw [Whole.at_ h, Nat.zero_add, ← hv]; simp [pxc]
end Go.Proofs.Ytdnijdbhdlengaa
