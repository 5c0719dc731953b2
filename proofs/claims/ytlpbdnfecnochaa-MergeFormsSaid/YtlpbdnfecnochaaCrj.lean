/-
  Contract of the reference's Carved: the blocks behind the taking.
-/
import Derived.Test.YtlpbdnfecnochaaCrh
import Derived.Test.YtlpbdnfecnochaaBkd
namespace Go.Proofs.Ytlpbdnfecnochaa
set_option maxRecDepth 100000
open Go.RowKit

section
variable {ops : Array Oper} {o : Oper} {a : Act} {w : World} {Q : Exit → Act → World → Prop} {K : Act → World → Prop}
theorem step_blk {F : Prop} (hgd : o.guard = none) (s x : Operand) (ho : o.op = .call { callee := .builtin .append, args := #[s, x], argTypes := #[22, 22] }) (B : Nat) (v : Value) (l : List Bk) (hs : a.eval s = v) (hown : OwnA blkE B w v l)
    (u : Value) (r : List Bk) (hx : a.eval x = u) (hr : RA blkE w u r) (hlen : Hid (l.length + r.length ≤ 2000)) (hB : B ≤ w.heap.size)
    (h : ∀ v' w', OwnA blkE B w' v' (l ++ r) → w.grownBy w' v.ownBlock → (v'.ownBlock = v.ownBlock ∨ v'.ownBlock = some w.heap.size) → K (a.put o.dst v') w') : if Region.wanted o (yielded ops a.tmps) = true then o.wp Try.prog a w K Q else F :=
  step_app blkE hgd s x ho B v l hs hown u r hx hr (by have := hlen.out; show _ * 24 ≤ _; omega) hB h
end


end Go.Proofs.Ytlpbdnfecnochaa
