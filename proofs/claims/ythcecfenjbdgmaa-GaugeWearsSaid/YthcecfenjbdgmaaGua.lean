/-
  What every statement of the twenty-second layer asks besides: gauges that every program must know.
-/
import Derived.Test.YthcecfenjbdgmaaGuw
namespace Go.Proofs.Ythcecfenjbdgmaa
set_option maxRecDepth 100000
open D Go.ChangeShapes Go.WideShapes Go.ChangeAt Go.RowKit

theorem life_w (x n : Int) (z : Nat) (w : World) (hz : lifeV x n = z) (hx : (Lit.int .i64 x).wf = true) (hn' : (Lit.int .i64 n).wf = true) :
    Calls Try.prog 11 #[.int .i64 x, .int .i64 n] w fun e w' => e = .returned (.float .f64 z) ∧ Below w.heap.size w w' := by
  rw [← hz]
  exact (life_is x n w hx hn').mono fun e w' ⟨h1, k, h2⟩ => ⟨h1, h2 ▸ below_drewN (Below.refl _ _) k⟩
theorem g_life : lifeV 1 4 = 4604930618986332160 := by decide +kernel
theorem g_inf : lifeV 9 (-1) = 9218868437227405312 := rfl
theorem g_none : minV (lvs [] []) = 9221120237041090561 := rfl
theorem g_plain : ∃ s0 s1 : Nv, newNv 2 [] = s0 ∧ s0.c < 4611686018427387904 ∧ s0.put 0 [1, 0, 0, 0, 0, 0, 0, 0] = s1 ∧ s0.putE 0 = 0 ∧ unV (held (wrs s1 0 2)) = 4611686018427387904 ∧ (wrs s1 0 9).length = 2 :=
  ⟨_, _, rfl, by decide, rfl, by decide, by decide +kernel, by decide⟩
/-- the length of a slice of a call's own -/
theorem own_len {B : Nat} {w : World} {u : Value} {l : List Int} {n : Nat} (h : OwnI B w u l) (hl : l.length = n) : ∃ p c, u = .slice p n c := by
  obtain ⟨p, c, e⟩ := h.shape; rw [hl] at e; exact ⟨p, c, e⟩

set_option maxHeartbeats 1000000 in
theorem awake_any (w : World) : Calls Try.prog 8 #[] w fun e w' => e = .returned (.bool true) ∧ Below w.heap.size w w' := by
  obtain ⟨s0, s1, a0, a1, a2, a3, a4, a5⟩ := g_plain
  have o1 : (FloatKind.f64.format.order 4604930618986332160 4604930618986332160 == some .eq) = true := by decide +kernel
  have o2 : (FloatKind.f64.format.order 4611686018427387904 4611686018427387904 == some .eq) = true := by decide +kernel
  have o3 : (FloatKind.f64.format.order 9221120237041090561 9221120237041090561 != some .eq) = true := by decide +kernel
  have W0 := Lib.hid (worst_is (.slice none 0 0) (.slice none 0 0) [] [] w (ri_nil w) (ri_nil w) (by decide) (by simp) (by simp))
  rw [g_none] at W0
  have A1 := Lib.hid a1; have A2 := Lib.hid a2; have A3 := Lib.hid a3; have A4 := Lib.hid a4; have A5 := Lib.hid a5
  have O0 := Lib.hid (newNv_ok (n := 2) (by decide) (by decide) [])
  have E0 := Lib.hid a0
  clear a0 a1 a2 a3 a4 a5
  go_enter Try.func8, Try.ntmps8
  go_wp2_with fail
  refine W0.out.mono ?_; rintro e w1 ⟨rfl, hb⟩
  have B1 := Lib.hid hb
  clear hb W0
  go_wp2_with fail
  refine (new_yes 2 _ [] _ (by decide) (by decide) (ri_nil w1)).mono ?_; rintro e w2 ⟨g, rfl, hg, hN, hb⟩
  rw [E0.out] at hN O0
  have hg' : Hid (w.heap.size ≤ g) := Lib.hid (Nat.le_trans B1.out.size hg)
  have N0 := Lib.hid hN
  have B2 := Lib.hid (below_more B1.out hb)
  clear hN hg hb B1
  go_wp2_with fail
  refine (put_is A3.out A2.out rfl N0.out O0.out A1.out).mono ?_; rintro e w3 ⟨rfl, hN, hO, hC⟩
  have M3 := Lib.hid (Mm.own hg'.out hN hO)
  have B3 := Lib.hid (hC.own B2.out hg'.out)
  clear hN hO hC B2
  go_wp2_with fail
  refine (life_w 1 4 _ _ g_life rfl rfl).mono ?_; rintro e w4 ⟨rfl, hb⟩
  have M4 := Lib.hid (M3.out.below hb)
  have B4 := Lib.hid (below_more B3.out hb)
  clear hb M3 B3
  go_wp2_with fail
  refine (life_w 9 (-1) _ _ g_inf rfl rfl).mono ?_; rintro e w5 ⟨rfl, hb⟩
  have M5 := Lib.hid (M4.out.below hb)
  have B5 := Lib.hid (below_more B4.out hb)
  clear hb M4 B4
  go_wp2_with fail
  refine (isInf_pos _).mono ?_; rintro e w' ⟨rfl, rfl⟩
  go_wp2_with fail
  refine (guneven_is M5.out 0 2 rfl rfl).mono ?_; rintro e w6 ⟨rfl, hb⟩
  rw [A4.out]
  have M6 := Lib.hid (M5.out.below hb)
  have B6 := Lib.hid (below_more B5.out hb)
  clear hb M5 B5
  go_wp2_with fail
  refine (wears_is M6.out 0 9 rfl rfl).mono ?_; rintro e w7 ⟨u, rfl, ho, hb⟩
  obtain ⟨p, c, rfl⟩ := own_len ho A5.out
  have B7 := Lib.hid (below_more B6.out hb)
  clear hb ho M6 B6
  go_wp2_with fail
  go_ret
  exact ⟨rfl, B7.out⟩
end Go.Proofs.Ythcecfenjbdgmaa
