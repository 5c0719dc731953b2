/-
  A slice of three blocks, built.
-/
import Derived.Test.YtlpbdnfecnochaaBka
namespace Go.Proofs.Ytlpbdnfecnochaa
set_option maxRecDepth 100000
open Go.RowKit

theorem built_blks3 (w : World) (a s a' s' a2 s2 : Int) (u u' u2 : Bool) : (Instr.buildSlice 22 3 #[(0, .agg #[.int .i64 a, .int .i64 s, .bool u]), (1, .agg #[.int .i64 a', .int .i64 s', .bool u']), (2, .agg #[.int .i64 a2, .int .i64 s2, .bool u2])]).run Try.prog w = .ok (.slice (some ⟨w.heap.size, 0, none⟩) 3 3) (w.alloc (.cells #[.int .i64 a, .int .i64 s, .bool u, .int .i64 a', .int .i64 s', .bool u', .int .i64 a2, .int .i64 s2, .bool u2] 35)) := by
  unfold Instr.buildSlice
  simp [run_underlying Try.underlying22, Instr.fill, go_sem]
def bc3 (x y z : Bk) : Array Value := #[.int .i64 x.a, .int .i64 x.s, .bool x.u, .int .i64 y.a, .int .i64 y.s, .bool y.u, .int .i64 z.a, .int .i64 z.s, .bool z.u]
@[go_sem] theorem run_blkSlice3 (w : World) (x y z : Bk) : (blkSlice 3 #[(0, .agg (bc x)), (1, .agg (bc y)), (2, .agg (bc z))]).run Try.prog w = .ok (.slice (some ⟨w.heap.size, 0, none⟩) 3 3) (w.alloc (.cells (bc3 x y z) 35)) := built_blks3 w x.a x.s y.a y.s z.a z.s x.u y.u z.u
end Go.Proofs.Ytlpbdnfecnochaa
