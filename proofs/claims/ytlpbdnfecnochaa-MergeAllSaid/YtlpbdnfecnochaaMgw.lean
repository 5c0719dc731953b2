/-
  What every program must know of package merge: the call of awake of darninglaw17.
-/
import Derived.Test.YtlpbdnfecnochaaMge
import Derived.Test.YtlpbdnfecnochaaBkw
import Derived.Test.YtlpbdnfecnochaaBkj
namespace Go.Proofs.Ytlpbdnfecnochaa
set_option maxRecDepth 100000
open Go.RowKit

theorem built_ed1v (s : Int) : Try.prog.built 30 [(1, .int .u64 s)] = some (ec ⟨0, s⟩) := by kernel_rfl
@[go_sem] theorem run_edBuild1v (w : World) (s : Int) : (edBuild #[(1, .int .u64 s)]).run Try.prog w = .ok (.agg (ec ⟨0, s⟩)) w := run_build w _ _ _ (built_ed1v s)
def gl : List Bk := [⟨0, 3, false⟩, ⟨3, 3, true⟩, ⟨6, 2, false⟩]
theorem gl_boxed (w : World) : ∃ W, w.alloc (.cells (bc3 ⟨0, 3, false⟩ ⟨3, 3, true⟩ ⟨6, 2, false⟩) 35) = W ∧ Hid (RA blkE W (.slice (some ⟨w.heap.size, 0, none⟩) 3 3) gl ∧ Below w.heap.size w W) := by
  refine ⟨_, rfl, Lib.hid ⟨?_, bal (Below.refl _ _)⟩⟩
  have := own_lit_a blkE w (l := gl) (fun x hx => by
    simp only [gl, List.mem_cons, List.not_mem_nil, or_false] at hx
    rcases hx with rfl | rfl | rfl <;> exact Bk.wf_of (by decide) (by decide) (by decide) (by decide)) (by unfold maxLen; simp [gl])
  exact this.ra
theorem mrg_one : mrgF gl 1 = [⟨0, 8, false⟩] := by kernel_rfl
theorem med_one : medF gl 1 = ⟨0, 16⟩ := by kernel_rfl
theorem canM_one : canM gl 1 = true := by kernel_rfl

set_option maxHeartbeats 1000000 in
theorem awake_any (w : World) : Calls Try.prog 7 #[] w fun e w' => e = .returned (.bool true) ∧ Below w.heap.size w w' := by
  obtain ⟨W, hW, H⟩ := gl_boxed w
  have C1 := Lib.hid (mblocks_is gl 1 _ W H.out.1 (by decide) true canM_one)
  have C2 := Lib.hid (fun (w' : World) (hb : Below W.heap.size W w') => medit_is gl 1 _ w' (ra_below H.out.1 hb) (by decide) true canM_one)
  rw [mrg_one] at C1
  rw [med_one] at C2
  go_enter Try.func7, Try.ntmps7
  go_wp2_with fail
  refine (C1.out).mono ?_; rintro e w1 ⟨⟨v, rfl, ho⟩, hb⟩
  obtain ⟨g, c, rfl, hc, hg, HK⟩ := ho.as_slice (by decide)
  have HK := Lib.hid HK
  have D1 := Lib.hid hb
  clear ho hb hg hc C1
  go_wp2_with fail
  refine (C2.out w1 D1.out).mono ?_; rintro e w2 ⟨rfl, hb⟩
  have D2 := Lib.hid (below_more D1.out hb)
  obtain ⟨V, hV, HV⟩ := ed_boxed w2 ⟨0, 16⟩
  have ld := HV.out.1.load
  obtain ⟨_, L2⟩ := HK.out V (below_more hb HV.out.2)
  obtain ⟨_, x1, x2⟩ := L2 0 (by decide)
  have x2 : V.cell? ⟨g, 2, none⟩ = some (.bool false) := x2
  have x1 : V.cell? ⟨g, 1, none⟩ = some (.int .i64 8) := x1
  have D3 := Lib.hid (below_more D2.out HV.out.2)
  have q : eqE ⟨0, 16⟩ ⟨0, 16⟩ = true := by decide
  clear hb L2 HK C2 D2
  go_wp2_with fail
  go_ret
  exact ⟨rfl, below_more H.out.2 D3.out⟩
end Go.Proofs.Ytlpbdnfecnochaa
