/-
  What every program must know of package carve: the call of awake of darninglaw16.
-/
import Derived.Test.YtabdcdddkmklcaaCri
namespace Go.Proofs.Ytabdcdddkmklcaa
set_option maxRecDepth 100000
open Go.RowKit

theorem OwnA.as_eds {B : Nat} {w : World} {v : Value} {l : List Ed} (h : OwnA edE B w v l) (h0 : 0 < l.length) : ∃ g c, v = .slice (some ⟨g, 0, none⟩) l.length c ∧ l.length ≤ c ∧ ∀ w', Below w.heap.size w w' → RA edE w' (.slice (some ⟨g, 0, none⟩) l.length c) l ∧ ∀ k, k < l.length →
    w'.cell? ⟨g, k * 2, none⟩ = some (.int .i64 (l.getD k default).w) ∧ w'.cell? ⟨g, k * 2 + 1, none⟩ = some (.int .u64 (l.getD k default).v) := by
  obtain ⟨g, c, rfl, _, hg, hc, _⟩ := h.block h0
  refine ⟨g, c, rfl, hc, fun w' hb => ⟨(h.below hb).ra, fun k hk => ?_⟩⟩
  obtain ⟨b, off, e, _, hx⟩ := ed_at (h.below hb).ra h0
  cases e
  obtain ⟨_, x1, x2, _⟩ := hx k hk
  rw [Nat.zero_add] at x1 x2
  exact ⟨x1, x2⟩
theorem crv_one : crvF [⟨0, 8, false⟩] 0 3 = [⟨0, 3, true⟩, ⟨3, 5, false⟩] := by kernel_rfl
theorem ced_one : cedF [⟨0, 8, false⟩] 0 3 = [⟨0, 7⟩, ⟨1, 0⟩, ⟨2, 0⟩, ⟨3, 10⟩] := by kernel_rfl
theorem can_one : canC [⟨0, 8, false⟩] 0 3 = true := by kernel_rfl

set_option maxHeartbeats 1000000 in
theorem awake_any (w : World) : Calls Try.prog 8 #[] w fun e w' => e = .returned (.bool true) ∧ Below w.heap.size w w' := by
  obtain ⟨W, hW⟩ : ∃ W, w.alloc (.cells (bc ⟨0, 8, false⟩) 24) = W := ⟨_, rfl⟩
  have O := blk_one w (c := ⟨0, 8, false⟩) (Bk.wf_of (by decide) (by decide) (by decide) (by decide))
  rw [hW] at O
  have B0 : Below w.heap.size w W := by rw [← hW]; exact bal (Below.refl _ _)
  have C1 := Lib.hid (cblocks_is _ 0 3 _ W O.ra (by decide) true can_one)
  rw [crv_one] at C1
  have C2 := Lib.hid (fun (w' : World) (hb : Below W.heap.size W w') => cedits_is _ 0 3 _ w' (ra_below O.ra hb) (by decide))
  rw [ced_one] at C2
  have HB0 := Lib.hid B0
  clear O B0
  go_enter Try.func8, Try.ntmps8
  go_wp2_with fail
  refine (C1.out).mono ?_; rintro e w1 ⟨⟨v, rfl, ho⟩, hb⟩
  obtain ⟨g, c, rfl, hc, hg, HK⟩ := ho.as_slice (by decide)
  have HK := Lib.hid HK
  have D1 := Lib.hid hb
  clear ho hb hg hc
  go_wp2_with fail
  refine (C2.out w1 D1.out).mono ?_; rintro e w2 ⟨⟨u, rfl, oe⟩, hb⟩
  obtain ⟨f, d, rfl, hd, HE⟩ := oe.as_eds (by decide)
  have D2 := Lib.hid (below_more HB0.out (below_more D1.out hb))
  obtain ⟨R2, L2⟩ := HK.out w2 hb
  obtain ⟨_, _, x2⟩ := L2 0 (by decide)
  obtain ⟨_, x1, _⟩ := L2 0 (by decide)
  obtain ⟨y0, _, _⟩ := L2 1 (by decide)
  have x2 : w2.cell? ⟨g, 2, none⟩ = some (.bool true) := x2
  have x1 : w2.cell? ⟨g, 1, none⟩ = some (.int .i64 3) := x1
  have y0 : w2.cell? ⟨g, 3, none⟩ = some (.int .i64 3) := y0
  obtain ⟨_, _, e0, _, hx⟩ := blk_at R2 (by decide)
  cases e0
  have ld := (hx 0 (by decide)).1
  have ld : (blkLoad (.pointer (some ⟨g, 0, none⟩))).run Try.prog w2 = .ok (.agg (bc ⟨0, 3, true⟩)) w2 := ld
  obtain ⟨_, M2⟩ := HE w2 (Below.refl _ _)
  obtain ⟨_, z0⟩ := M2 0 (by decide)
  obtain ⟨_, z3⟩ := M2 3 (by decide)
  have z0 : w2.cell? ⟨f, 1, none⟩ = some (.int .u64 7) := z0
  have z3 : w2.cell? ⟨f, 7, none⟩ = some (.int .u64 10) := z3
  have C3 := Lib.hid (off_is ⟨0, 3, true⟩ 8 (by decide) w2)
  clear oe hb hd hx L2 M2 HE HK R2
  go_wp2_with fail
  refine (C3.out).mono ?_; rintro e w3 ⟨rfl, hb⟩
  have D3 := Lib.hid (below_more D2.out hb)
  clear hb
  go_wp2_with fail
  go_ret
  exact ⟨rfl, D3.out⟩
end Go.Proofs.Ytabdcdddkmklcaa
