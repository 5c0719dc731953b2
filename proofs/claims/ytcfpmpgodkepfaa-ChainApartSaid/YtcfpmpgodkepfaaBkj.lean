/-
  The call of awake of darninglaw14.
-/
import Derived.Test.YtcfpmpgodkepfaaBke
import Derived.Test.YtcfpmpgodkepfaaBkf
import Derived.Test.YtcfpmpgodkepfaaBkg
import Derived.Test.YtcfpmpgodkepfaaBkh
import Derived.Test.YtcfpmpgodkepfaaBki
namespace Go.Proofs.Ytcfpmpgodkepfaa
set_option maxRecDepth 100000
open Go.RowKit

theorem ones_blk : blkF [7, 0, 0, 10, 0, 0, 0, 0] = some [⟨0, 3, true⟩, ⟨3, 5, false⟩] := by kernel_rfl
theorem ones_first : firstL 8 = [16, 0, 0, 0, 0, 0, 0, 0] := by kernel_rfl
theorem OwnA.as_slice {B : Nat} {w : World} {v : Value} {l : List Bk} (h : OwnA blkE B w v l) (h0 : 0 < l.length) : ∃ g c, v = .slice (some ⟨g, 0, none⟩) l.length c ∧ l.length ≤ c ∧ g < w.heap.size ∧ ∀ w', Below w.heap.size w w' → RA blkE w' (.slice (some ⟨g, 0, none⟩) l.length c) l ∧ ∀ k, k < l.length →
    w'.cell? ⟨g, k * 3, none⟩ = some (.int .i64 (l.getD k default).a) ∧ w'.cell? ⟨g, k * 3 + 1, none⟩ = some (.int .i64 (l.getD k default).s) ∧ w'.cell? ⟨g, k * 3 + 2, none⟩ = some (.bool (l.getD k default).u) := by
  obtain ⟨g, c, rfl, _, hg, hc, _⟩ := h.block h0
  refine ⟨g, c, rfl, hc, hg, fun w' hb => ⟨(h.below hb).ra, fun k hk => ?_⟩⟩
  obtain ⟨b, off, e, _, hx⟩ := blk_at (h.below hb).ra h0
  cases e
  obtain ⟨_, x1, x2, x3, _⟩ := hx k hk
  rw [Nat.zero_add] at x1 x2 x3
  exact ⟨x1, x2, x3⟩

set_option maxHeartbeats 1000000 in
theorem awake_any (w : World) : Calls Try.prog 8 #[] w fun e w' => e = .returned (.bool true) ∧ Below w.heap.size w w' := by
  obtain ⟨W, hW⟩ : ∃ W, w.alloc (.cells #[.int .u64 7, .int .u64 0, .int .u64 0, .int .u64 10, .int .u64 0, .int .u64 0, .int .u64 0, .int .u64 0] 35) = W := ⟨_, rfl⟩
  have O := own_lit_u w [7, 0, 0, 10, 0, 0, 0, 0] (by decide)
  have O' : OwnU w.heap.size W (.slice (some ⟨w.heap.size, 0, none⟩) 8 8) [7, 0, 0, 10, 0, 0, 0, 0] := by rw [← hW]; exact O
  have B0 : Below w.heap.size w W := by rw [← hW]; exact bal (Below.refl _ _)
  have C1 := Lib.hid (blocks_is [7, 0, 0, 10, 0, 0, 0, 0] _ _ W O'.ru (by decide) (words_ok (by decide)) ones_blk)
  have HB0 := Lib.hid B0
  clear O O' B0
  go_enter Try.func8, Try.ntmps8
  go_wp2_with fail
  refine (C1.out).mono ?_; rintro e w1 ⟨⟨v, rfl, ho⟩, hb⟩
  obtain ⟨g, c, rfl, hc, hg, HK⟩ := ho.as_slice (by decide)
  have HK := Lib.hid HK
  have HB1 := Lib.hid (below_more HB0.out hb)
  have hc := Lib.hid hc
  clear ho hb hg
  have C2 := Lib.hid (first_is 8 w1)
  rw [ones_first] at C2
  go_wp2_with fail
  refine (C2.out).mono ?_; rintro e w2 ⟨⟨u, rfl, ho⟩, hb⟩
  obtain ⟨gf, cf, rfl, hgf, hgf2, hcf, _⟩ := OwnU.block ho (by decide)
  have HO := Lib.hid ho
  have HB2 := Lib.hid hb
  have L2 := HK.out w2 hb
  have R2 := L2.1
  obtain ⟨_, _, x2⟩ := L2.2 0 (by decide)
  obtain ⟨_, x1, _⟩ := L2.2 1 (by decide)
  have x2 : w2.cell? ⟨g, 2, none⟩ = some (.bool true) := x2
  have x1 : w2.cell? ⟨g, 4, none⟩ = some (.int .i64 5) := x1
  have C3 := Lib.hid (at_is 4 _ _ 1 w2 R2 (by decide) (by decide))
  clear ho hb L2 hgf2
  go_wp2_with fail
  refine (C3.out).mono ?_; rintro e w3 ⟨rfl, hb⟩
  have HB3 := Lib.hid (below_more HB2.out hb)
  have F3 := Lib.hid (HO.out.below hb)
  clear hb x1 x2
  have C4 := Lib.hid (free_is _ _ 5 w3 (HK.out w3 HB3.out).1 (by decide))
  go_wp2_with fail
  refine (C4.out).mono ?_; rintro e w4 ⟨rfl, hb⟩
  have HB4 := Lib.hid (below_more HB3.out hb)
  have F4 := Lib.hid (F3.out.below hb)
  clear hb
  have C5 := Lib.hid (most_is _ _ 5 w4 (HK.out w4 HB4.out).1 (by decide))
  go_wp2_with fail
  refine (C5.out).mono ?_; rintro e w5 ⟨rfl, hb⟩
  have HB5 := Lib.hid (below_more HB4.out hb)
  have F5 := Lib.hid (F4.out.below hb)
  obtain ⟨y0, _⟩ := OwnU.cells F5.out (j := 0) (by decide)
  have y0 : w5.cell? ⟨gf, 0, none⟩ = some (.int .u64 16) := y0
  clear hb
  have C6 := Lib.hid (may_is 8 _ _ true w5 (HK.out w5 HB5.out).1 (by decide) (by decide))
  go_wp2_with fail
  refine (C6.out).mono ?_; rintro e w6 ⟨rfl, hb⟩
  have HB6 := Lib.hid (below_more HB1.out (below_more HB5.out hb))
  clear hb y0
  go_wp2_with fail
  go_ret
  exact ⟨rfl, HB6.out⟩
end Go.Proofs.Ytcfpmpgodkepfaa
