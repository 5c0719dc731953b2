/-
  What every program must know of package fit.
-/
import Derived.Test.YtnhhdkdjejfcjaaFte
namespace Go.Proofs.Ytnhhdkdjejfcjaa
set_option maxRecDepth 100000
open Go.RowKit

theorem built_blk2 (a s : Int) : Try.prog.built 28 [(0, .int .i64 a), (1, .int .i64 s)] = some (bc ⟨a, s, false⟩) := by kernel_rfl
@[go_sem] theorem run_blkBuild2 (w : World) (a s : Int) : (blkBuild #[(0, .int .i64 a), (1, .int .i64 s)]).run Try.prog w = .ok (.agg (bc ⟨a, s, false⟩)) w := run_build w _ _ _ (built_blk2 a s)
theorem built_blks3 (w : World) (a s a' s' a2 s2 : Int) (u u' u2 : Bool) : (Instr.buildSlice 22 3 #[(0, .agg #[.int .i64 a, .int .i64 s, .bool u]), (1, .agg #[.int .i64 a', .int .i64 s', .bool u']), (2, .agg #[.int .i64 a2, .int .i64 s2, .bool u2])]).run Try.prog w = .ok (.slice (some ⟨w.heap.size, 0, none⟩) 3 3) (w.alloc (.cells #[.int .i64 a, .int .i64 s, .bool u, .int .i64 a', .int .i64 s', .bool u', .int .i64 a2, .int .i64 s2, .bool u2] 28)) := by
  unfold Instr.buildSlice
  simp [run_underlying Try.underlying22, Instr.fill, go_sem]
def bc3 (x y z : Bk) : Array Value := #[.int .i64 x.a, .int .i64 x.s, .bool x.u, .int .i64 y.a, .int .i64 y.s, .bool y.u, .int .i64 z.a, .int .i64 z.s, .bool z.u]
@[go_sem] theorem run_blkSlice3 (w : World) (x y z : Bk) : (blkSlice 3 #[(0, .agg (bc x)), (1, .agg (bc y)), (2, .agg (bc z))]).run Try.prog w = .ok (.slice (some ⟨w.heap.size, 0, none⟩) 3 3) (w.alloc (.cells (bc3 x y z) 28)) := built_blks3 w x.a x.s y.a y.s z.a z.s x.u y.u z.u
def wl : List Bk := [⟨0, 5, false⟩, ⟨5, 7, true⟩, ⟨12, 4, false⟩]
theorem wl_boxed (w : World) : ∃ W, w.alloc (.cells (bc3 ⟨0, 5, false⟩ ⟨5, 7, true⟩ ⟨12, 4, false⟩) 28) = W ∧ Hid (RA blkE W (.slice (some ⟨w.heap.size, 0, none⟩) 3 3) wl ∧ Below w.heap.size w W) := by
  refine ⟨_, rfl, Lib.hid ⟨?_, bal (Below.refl _ _)⟩⟩
  have := own_lit_a blkE w (l := wl) (fun x hx => by
    simp only [wl, List.mem_cons, List.not_mem_nil, or_false] at hx
    rcases hx with rfl | rfl | rfl <;> exact Bk.wf_of (by decide) (by decide) (by decide) (by decide)) (by unfold maxLen; simp [wl])
  exact this.ra

set_option maxHeartbeats 1000000 in
theorem awake_any (w : World) : Calls Try.prog 7 #[] w fun e w' => e = .returned (.bool true) ∧ Below w.heap.size w w' := by
  obtain ⟨W, hW, H⟩ := wl_boxed w
  have C1 := Lib.hid (fits_is 3 wl _ W H.out.1 (by decide))
  have e1 : ins (fitN 3 wl) = [2] := by decide
  rw [e1] at C1
  have C2 := Lib.hid (fun (w' : World) (hb : Below W.heap.size W w') => choose_is 3 [] wl _ _ (some 2) w' (ra_below H.out.1 hb) (ri_nil w') (by decide) (by decide))
  have C3 := Lib.hid (fun w => need_is 9 w)
  have C4 := Lib.hid (fun w => takes_is 4 3 4 (by decide) (by decide) w)
  have C5 := Lib.hid (fun w => takes_is 5 3 3 (by decide) (by decide) w)
  rw [show needN 9 = 3 by decide] at C3
  clear e1
  go_enter Try.func7, Try.ntmps7
  go_wp2_with fail
  refine (C1.out).mono ?_; rintro e w1 ⟨⟨v1, rfl, o1⟩, b1⟩
  have D1 := Lib.hid b1
  obtain ⟨b, off, c, rfl, hr⟩ : ∃ b off c, v1 = .slice (some ⟨b, off, none⟩) 1 c ∧ w1.cell? ⟨b, off, none⟩ = some (.int .i64 2) := by
    obtain ⟨p, c, rfl, _, _, h⟩ := o1.ri
    rcases h with h | ⟨b, off, rfl, hc⟩
    · cases h
    · exact ⟨b, off, c, rfl, hc 0 (by decide)⟩
  clear o1 b1 C1
  go_wp2_with fail
  refine (C3.out _).mono ?_; rintro e w' ⟨rfl, rfl⟩
  go_wp2_with fail
  refine (C2.out _ D1.out).mono ?_; rintro e w2 ⟨rfl, b2⟩
  have D2 := Lib.hid (below_more D1.out b2)
  clear b2
  go_wp2_with fail
  refine (C4.out _).mono ?_; rintro e w' ⟨rfl, rfl⟩
  go_wp2_with fail
  refine (C5.out _).mono ?_; rintro e w' ⟨rfl, rfl⟩
  go_wp2_with fail
  go_ret
  exact ⟨rfl, below_more H.out.2 D2.out⟩
end Go.Proofs.Ytnhhdkdjejfcjaa
