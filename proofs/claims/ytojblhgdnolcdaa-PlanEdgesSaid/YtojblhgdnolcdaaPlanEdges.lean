/-
  At each bound a plan may be, beyond it may not; a plan that may not be has nothing. No conditions.
-/
import Derived.Test.YtojblhgdnolcdaaPls
namespace Go.Proofs.Ytojblhgdnolcdaa.planEdges
open Go.Proofs.Ytojblhgdnolcdaa Go.ChangeShapes Go.WideShapes Go.ChangeAt Go.RowKit

set_option maxRecDepth 100000 in
set_option maxHeartbeats 2000000 in
theorem in0 (a0 n : Int) (u : Nat) (w : World) (hu : IntKind.u64.wrap a0 = (u : Int)) (t0 : (u : Int).tmod 4 = 0) (h1 : 1 ≤ n) (h2 : n ≤ 64) :
    Calls Try.prog 5 #[.int .i64 a0, .int .i64 n] w fun e w' => e = .returned (.bool true) ∧ Below w.heap.size w w' := by
  obtain ⟨W, hW, H⟩ := plan_boxed w 5 3 7 2
  have c0 := H.out.1.c0
  have f0 := H.out.1.free 0
  obtain ⟨V, hV⟩ : ∃ V, W.setCell ⟨w.heap.size, 0, none⟩ (.int .i64 n) = V := ⟨_, rfl⟩
  obtain ⟨l, s, p, b, hl, hs, hp, hb, K⟩ : ∃ l s p b : Int, l = n ∧ s = 3 ∧ p = 7 ∧ b = 2 ∧ Hid (Pq V w.heap.size l s p b ∧ Below w.heap.size w V) :=
    ⟨_, _, _, _, rfl, rfl, rfl, rfl, Lib.hid (by rw [← hV]; exact ⟨H.out.1.setl n, H.out.2.setCell (p := ⟨w.heap.size, 0, none⟩) (Nat.le_refl _) _⟩)⟩
  have hM : May l s p b := by unfold May; omega
  have l0 := K.out.1.load
  have i1 : n ≥ 1 := h1
  have D0 := Lib.hid (pmay_yes hM V)
  obtain ⟨d, e1⟩ : ∃ v, dvM l s = v := ⟨_, rfl⟩
  obtain ⟨v0, e2⟩ : ∃ v, hmM l 0 = v := ⟨_, rfl⟩
  obtain ⟨v1, e3⟩ : ∃ v, hmM l l = v := ⟨_, rfl⟩
  obtain ⟨v2, e4⟩ : ∃ v, hmM l (-1) = v := ⟨_, rfl⟩
  obtain ⟨v3, e5⟩ : ∃ v, pgM l = v := ⟨_, rfl⟩
  obtain ⟨m, e6⟩ : ∃ v : Int, l - 1 = v := ⟨_, rfl⟩
  obtain ⟨q, e7⟩ : ∃ v, pageM m = v := ⟨_, rfl⟩
  have bl : 1 ≤ l ∧ l ≤ 64 := hM.1
  have bs : 0 ≤ s ∧ s ≤ 16 := hM.2.1
  have j1 : d ≤ 200 := by rw [← e1]; unfold dvM; omega
  have j2 : (v0 == 16) = true := by rw [← e2]; unfold hmM; rw [if_pos (by omega)]; rfl
  have j3 : (v1 == -1) = true := by rw [← e3]; unfold hmM; rw [if_neg (by omega)]; rfl
  have j4 : (v2 == -1) = true := by rw [← e4]; unfold hmM; rw [if_neg (by omega)]; rfl
  have j5 : IntKind.i64.wrap (l - 1) = m := by rw [e6]; exact IntWalk.i64_in _ (by omega)
  have j6 : IntKind.i64.wrap (v3 - 1) = q := by
    rw [← e5, ← e7]; unfold pgM pageM; rw [show (l + 3) / 4 - 1 = m / 4 by omega]; exact IntWalk.i64_in _ (by omega)
  have D1 := Lib.hid (device_any hM e1)
  have D2 := Lib.hid (fun (i v : Int) (hv : hmM l i = v) => home_any (i := i) hM hv)
  have D3 := Lib.hid (pages_any hM e5)
  have D4 := Lib.hid (page_any (i := m) (by omega) e7)
  clear hM hl hs hp hb bl bs e1 e5 e6 e7
  go_enter Try.func5, Try.ntmps5
  go_wp2_with fail
  refine (D0.out).mono ?_; rintro e w1 ⟨rfl, hb⟩
  have B1 := Lib.hid (below_more K.out.2 hb)
  have L := Lib.hid (K.out.1.below hb)
  have r0 := L.out.later
  have r1 := L.out.later0
  clear hb l0 c0 f0 hV hW t0 hu
  go_wp2_with fail
  go_region_held3 (fun w' => Below w1.heap.size w1 w')
    (first | assumption | exact (Below.refl _ _).drew | exact below_more ‹Below w1.heap.size w1 _› hbq)
    (first
      | (go_at_call 13; refine (D1.out _).mono ?_; rintro e wq ⟨rfl, hbq⟩)
      | (go_at_call 15; refine (D2.out _ _ (by assumption) _).mono ?_; rintro e wq ⟨rfl, hbq⟩)
      | (go_at_call 10; refine (D3.out _).mono ?_; rintro e wq ⟨rfl, hbq⟩)
      | (go_at_call 17; refine (D4.out _).mono ?_; rintro e wq ⟨rfl, rfl⟩)
      | (go_at_call 16; refine (awake_any _).mono ?_; rintro e wq ⟨rfl, hbq⟩))
  have HB := Lib.hid (below_more B1.out ‹Below w1.heap.size w1 wq›)
  go_wp2
  go_ret
  exact ⟨rfl, HB.out⟩

set_option maxRecDepth 100000 in
set_option maxHeartbeats 2000000 in
theorem lo0 (a0 n : Int) (u : Nat) (w : World) (hu : IntKind.u64.wrap a0 = (u : Int)) (t0 : (u : Int).tmod 4 = 0) (h1 : ¬ 1 ≤ n) :
    Calls Try.prog 5 #[.int .i64 a0, .int .i64 n] w fun e w' => e = .returned (.bool true) ∧ Below w.heap.size w w' := by
  obtain ⟨W, hW, H⟩ := plan_boxed w 5 3 7 2
  have c0 := H.out.1.c0
  have f0 := H.out.1.free 0
  obtain ⟨V, hV⟩ : ∃ V, W.setCell ⟨w.heap.size, 0, none⟩ (.int .i64 n) = V := ⟨_, rfl⟩
  obtain ⟨l, s, p, b, hl, hs, hp, hb, K⟩ : ∃ l s p b : Int, l = n ∧ s = 3 ∧ p = 7 ∧ b = 2 ∧ Hid (Pq V w.heap.size l s p b ∧ Below w.heap.size w V) :=
    ⟨_, _, _, _, rfl, rfl, rfl, rfl, Lib.hid (by rw [← hV]; exact ⟨H.out.1.setl n, H.out.2.setCell (p := ⟨w.heap.size, 0, none⟩) (Nat.le_refl _) _⟩)⟩
  have hM : ¬ May l s p b := by unfold May; omega
  have l0 := K.out.1.load
  have i1 : ¬ n ≥ 1 := h1
  obtain ⟨Z, hZ⟩ : ∃ Z : Int, 0 = Z := ⟨_, rfl⟩
  obtain ⟨M, hM1⟩ : ∃ M : Int, -1 = M := ⟨_, rfl⟩
  have z0 : (Z == 0) = true := by simp [← hZ]
  have z1 : IntKind.i64.wrap (Z + Z) = Z := by subst hZ; decide
  have m0 : (M == -1) = true := by simp [← hM1]
  have D0 := Lib.hid (pmay_no hM V)
  have D1 := Lib.hid (words_none hM hZ); have D2 := Lib.hid (pages_none hM hZ); have D3 := Lib.hid (logical_none hM hZ); have D4 := Lib.hid (device_none hM hZ); have D5 := Lib.hid (home_none (i := 0) hM hM1)
  clear hM hl hs hp hb hZ hM1
  go_enter Try.func5, Try.ntmps5
  go_wp2_with fail
  refine (D0.out).mono ?_; rintro e w1 ⟨rfl, hb⟩
  have B1 := Lib.hid (below_more K.out.2 hb)
  have L := Lib.hid (K.out.1.below hb)
  have r0 := L.out.later
  clear hb l0 c0 f0 hV hW t0 hu
  go_wp2_with fail
  go_region_held3 (fun w' => Below w1.heap.size w1 w')
    (first | assumption | exact (Below.refl _ _).drew | exact below_more ‹Below w1.heap.size w1 _› hbq)
    (first
      | (go_at_call 9; refine (D1.out _).mono ?_; rintro e wq ⟨rfl, hbq⟩)
      | (go_at_call 10; refine (D2.out _).mono ?_; rintro e wq ⟨rfl, hbq⟩)
      | (go_at_call 12; refine (D3.out _).mono ?_; rintro e wq ⟨rfl, hbq⟩)
      | (go_at_call 13; refine (D4.out _).mono ?_; rintro e wq ⟨rfl, hbq⟩)
      | (go_at_call 15; refine (D5.out _).mono ?_; rintro e wq ⟨rfl, hbq⟩)
      | (go_at_call 16; refine (awake_any _).mono ?_; rintro e wq ⟨rfl, hbq⟩))
  have HB := Lib.hid (below_more B1.out ‹Below w1.heap.size w1 wq›)
  go_wp2
  go_ret
  exact ⟨rfl, HB.out⟩

set_option maxRecDepth 100000 in
set_option maxHeartbeats 2000000 in
theorem hi0 (a0 n : Int) (u : Nat) (w : World) (hu : IntKind.u64.wrap a0 = (u : Int)) (t0 : (u : Int).tmod 4 = 0) (h1 : 1 ≤ n) (h2 : ¬ n ≤ 64) :
    Calls Try.prog 5 #[.int .i64 a0, .int .i64 n] w fun e w' => e = .returned (.bool true) ∧ Below w.heap.size w w' := by
  obtain ⟨W, hW, H⟩ := plan_boxed w 5 3 7 2
  have c0 := H.out.1.c0
  have f0 := H.out.1.free 0
  obtain ⟨V, hV⟩ : ∃ V, W.setCell ⟨w.heap.size, 0, none⟩ (.int .i64 n) = V := ⟨_, rfl⟩
  obtain ⟨l, s, p, b, hl, hs, hp, hb, K⟩ : ∃ l s p b : Int, l = n ∧ s = 3 ∧ p = 7 ∧ b = 2 ∧ Hid (Pq V w.heap.size l s p b ∧ Below w.heap.size w V) :=
    ⟨_, _, _, _, rfl, rfl, rfl, rfl, Lib.hid (by rw [← hV]; exact ⟨H.out.1.setl n, H.out.2.setCell (p := ⟨w.heap.size, 0, none⟩) (Nat.le_refl _) _⟩)⟩
  have hM : ¬ May l s p b := by unfold May; omega
  have l0 := K.out.1.load
  have i1 : n ≥ 1 := h1
  obtain ⟨Z, hZ⟩ : ∃ Z : Int, 0 = Z := ⟨_, rfl⟩
  obtain ⟨M, hM1⟩ : ∃ M : Int, -1 = M := ⟨_, rfl⟩
  have z0 : (Z == 0) = true := by simp [← hZ]
  have z1 : IntKind.i64.wrap (Z + Z) = Z := by subst hZ; decide
  have m0 : (M == -1) = true := by simp [← hM1]
  have D0 := Lib.hid (pmay_no hM V)
  have D1 := Lib.hid (words_none hM hZ); have D2 := Lib.hid (pages_none hM hZ); have D3 := Lib.hid (logical_none hM hZ); have D4 := Lib.hid (device_none hM hZ); have D5 := Lib.hid (home_none (i := 0) hM hM1)
  clear hM hl hs hp hb hZ hM1
  go_enter Try.func5, Try.ntmps5
  go_wp2_with fail
  refine (D0.out).mono ?_; rintro e w1 ⟨rfl, hb⟩
  have B1 := Lib.hid (below_more K.out.2 hb)
  have L := Lib.hid (K.out.1.below hb)
  have r0 := L.out.later
  clear hb l0 c0 f0 hV hW t0 hu
  go_wp2_with fail
  go_region_held3 (fun w' => Below w1.heap.size w1 w')
    (first | assumption | exact (Below.refl _ _).drew | exact below_more ‹Below w1.heap.size w1 _› hbq)
    (first
      | (go_at_call 9; refine (D1.out _).mono ?_; rintro e wq ⟨rfl, hbq⟩)
      | (go_at_call 10; refine (D2.out _).mono ?_; rintro e wq ⟨rfl, hbq⟩)
      | (go_at_call 12; refine (D3.out _).mono ?_; rintro e wq ⟨rfl, hbq⟩)
      | (go_at_call 13; refine (D4.out _).mono ?_; rintro e wq ⟨rfl, hbq⟩)
      | (go_at_call 15; refine (D5.out _).mono ?_; rintro e wq ⟨rfl, hbq⟩)
      | (go_at_call 16; refine (awake_any _).mono ?_; rintro e wq ⟨rfl, hbq⟩))
  have HB := Lib.hid (below_more B1.out ‹Below w1.heap.size w1 wq›)
  go_wp2
  go_ret
  exact ⟨rfl, HB.out⟩

set_option maxRecDepth 100000 in
set_option maxHeartbeats 2000000 in
theorem in1 (a0 n : Int) (u : Nat) (w : World) (hu : IntKind.u64.wrap a0 = (u : Int)) (t0 : (u : Int).tmod 4 = 1) (h1 : 0 ≤ n) (h2 : n ≤ 16) :
    Calls Try.prog 5 #[.int .i64 a0, .int .i64 n] w fun e w' => e = .returned (.bool true) ∧ Below w.heap.size w w' := by
  obtain ⟨W, hW, H⟩ := plan_boxed w 5 3 7 2
  have c0 := H.out.1.c1
  have f0 := H.out.1.free 1
  obtain ⟨V, hV⟩ : ∃ V, W.setCell ⟨w.heap.size, 1, none⟩ (.int .i64 n) = V := ⟨_, rfl⟩
  obtain ⟨l, s, p, b, hl, hs, hp, hb, K⟩ : ∃ l s p b : Int, l = 5 ∧ s = n ∧ p = 7 ∧ b = 2 ∧ Hid (Pq V w.heap.size l s p b ∧ Below w.heap.size w V) :=
    ⟨_, _, _, _, rfl, rfl, rfl, rfl, Lib.hid (by rw [← hV]; exact ⟨H.out.1.sets n, H.out.2.setCell (p := ⟨w.heap.size, 1, none⟩) (Nat.le_refl _) _⟩)⟩
  have hM : May l s p b := by unfold May; omega
  have l0 := K.out.1.load
  have i1 : n ≥ 0 := h1
  have D0 := Lib.hid (pmay_yes hM V)
  obtain ⟨d, e1⟩ : ∃ v, dvM l s = v := ⟨_, rfl⟩
  obtain ⟨v0, e2⟩ : ∃ v, hmM l 0 = v := ⟨_, rfl⟩
  obtain ⟨v1, e3⟩ : ∃ v, hmM l l = v := ⟨_, rfl⟩
  obtain ⟨v2, e4⟩ : ∃ v, hmM l (-1) = v := ⟨_, rfl⟩
  obtain ⟨v3, e5⟩ : ∃ v, pgM l = v := ⟨_, rfl⟩
  obtain ⟨m, e6⟩ : ∃ v : Int, l - 1 = v := ⟨_, rfl⟩
  obtain ⟨q, e7⟩ : ∃ v, pageM m = v := ⟨_, rfl⟩
  have bl : 1 ≤ l ∧ l ≤ 64 := hM.1
  have bs : 0 ≤ s ∧ s ≤ 16 := hM.2.1
  have j1 : d ≤ 200 := by rw [← e1]; unfold dvM; omega
  have j2 : (v0 == 16) = true := by rw [← e2]; unfold hmM; rw [if_pos (by omega)]; rfl
  have j3 : (v1 == -1) = true := by rw [← e3]; unfold hmM; rw [if_neg (by omega)]; rfl
  have j4 : (v2 == -1) = true := by rw [← e4]; unfold hmM; rw [if_neg (by omega)]; rfl
  have j5 : IntKind.i64.wrap (l - 1) = m := by rw [e6]; exact IntWalk.i64_in _ (by omega)
  have j6 : IntKind.i64.wrap (v3 - 1) = q := by
    rw [← e5, ← e7]; unfold pgM pageM; rw [show (l + 3) / 4 - 1 = m / 4 by omega]; exact IntWalk.i64_in _ (by omega)
  have D1 := Lib.hid (device_any hM e1)
  have D2 := Lib.hid (fun (i v : Int) (hv : hmM l i = v) => home_any (i := i) hM hv)
  have D3 := Lib.hid (pages_any hM e5)
  have D4 := Lib.hid (page_any (i := m) (by omega) e7)
  clear hM hl hs hp hb bl bs e1 e5 e6 e7
  go_enter Try.func5, Try.ntmps5
  go_wp2_with fail
  refine (D0.out).mono ?_; rintro e w1 ⟨rfl, hb⟩
  have B1 := Lib.hid (below_more K.out.2 hb)
  have L := Lib.hid (K.out.1.below hb)
  have r0 := L.out.later
  have r1 := L.out.later0
  clear hb l0 c0 f0 hV hW t0 hu
  go_wp2_with fail
  go_region_held3 (fun w' => Below w1.heap.size w1 w')
    (first | assumption | exact (Below.refl _ _).drew | exact below_more ‹Below w1.heap.size w1 _› hbq)
    (first
      | (go_at_call 13; refine (D1.out _).mono ?_; rintro e wq ⟨rfl, hbq⟩)
      | (go_at_call 15; refine (D2.out _ _ (by assumption) _).mono ?_; rintro e wq ⟨rfl, hbq⟩)
      | (go_at_call 10; refine (D3.out _).mono ?_; rintro e wq ⟨rfl, hbq⟩)
      | (go_at_call 17; refine (D4.out _).mono ?_; rintro e wq ⟨rfl, rfl⟩)
      | (go_at_call 16; refine (awake_any _).mono ?_; rintro e wq ⟨rfl, hbq⟩))
  have HB := Lib.hid (below_more B1.out ‹Below w1.heap.size w1 wq›)
  go_wp2
  go_ret
  exact ⟨rfl, HB.out⟩

set_option maxRecDepth 100000 in
set_option maxHeartbeats 2000000 in
theorem lo1 (a0 n : Int) (u : Nat) (w : World) (hu : IntKind.u64.wrap a0 = (u : Int)) (t0 : (u : Int).tmod 4 = 1) (h1 : ¬ 0 ≤ n) :
    Calls Try.prog 5 #[.int .i64 a0, .int .i64 n] w fun e w' => e = .returned (.bool true) ∧ Below w.heap.size w w' := by
  obtain ⟨W, hW, H⟩ := plan_boxed w 5 3 7 2
  have c0 := H.out.1.c1
  have f0 := H.out.1.free 1
  obtain ⟨V, hV⟩ : ∃ V, W.setCell ⟨w.heap.size, 1, none⟩ (.int .i64 n) = V := ⟨_, rfl⟩
  obtain ⟨l, s, p, b, hl, hs, hp, hb, K⟩ : ∃ l s p b : Int, l = 5 ∧ s = n ∧ p = 7 ∧ b = 2 ∧ Hid (Pq V w.heap.size l s p b ∧ Below w.heap.size w V) :=
    ⟨_, _, _, _, rfl, rfl, rfl, rfl, Lib.hid (by rw [← hV]; exact ⟨H.out.1.sets n, H.out.2.setCell (p := ⟨w.heap.size, 1, none⟩) (Nat.le_refl _) _⟩)⟩
  have hM : ¬ May l s p b := by unfold May; omega
  have l0 := K.out.1.load
  have i1 : ¬ n ≥ 0 := h1
  obtain ⟨Z, hZ⟩ : ∃ Z : Int, 0 = Z := ⟨_, rfl⟩
  obtain ⟨M, hM1⟩ : ∃ M : Int, -1 = M := ⟨_, rfl⟩
  have z0 : (Z == 0) = true := by simp [← hZ]
  have z1 : IntKind.i64.wrap (Z + Z) = Z := by subst hZ; decide
  have m0 : (M == -1) = true := by simp [← hM1]
  have D0 := Lib.hid (pmay_no hM V)
  have D1 := Lib.hid (words_none hM hZ); have D2 := Lib.hid (pages_none hM hZ); have D3 := Lib.hid (logical_none hM hZ); have D4 := Lib.hid (device_none hM hZ); have D5 := Lib.hid (home_none (i := 0) hM hM1)
  clear hM hl hs hp hb hZ hM1
  go_enter Try.func5, Try.ntmps5
  go_wp2_with fail
  refine (D0.out).mono ?_; rintro e w1 ⟨rfl, hb⟩
  have B1 := Lib.hid (below_more K.out.2 hb)
  have L := Lib.hid (K.out.1.below hb)
  have r0 := L.out.later
  clear hb l0 c0 f0 hV hW t0 hu
  go_wp2_with fail
  go_region_held3 (fun w' => Below w1.heap.size w1 w')
    (first | assumption | exact (Below.refl _ _).drew | exact below_more ‹Below w1.heap.size w1 _› hbq)
    (first
      | (go_at_call 9; refine (D1.out _).mono ?_; rintro e wq ⟨rfl, hbq⟩)
      | (go_at_call 10; refine (D2.out _).mono ?_; rintro e wq ⟨rfl, hbq⟩)
      | (go_at_call 12; refine (D3.out _).mono ?_; rintro e wq ⟨rfl, hbq⟩)
      | (go_at_call 13; refine (D4.out _).mono ?_; rintro e wq ⟨rfl, hbq⟩)
      | (go_at_call 15; refine (D5.out _).mono ?_; rintro e wq ⟨rfl, hbq⟩)
      | (go_at_call 16; refine (awake_any _).mono ?_; rintro e wq ⟨rfl, hbq⟩))
  have HB := Lib.hid (below_more B1.out ‹Below w1.heap.size w1 wq›)
  go_wp2
  go_ret
  exact ⟨rfl, HB.out⟩

set_option maxRecDepth 100000 in
set_option maxHeartbeats 2000000 in
theorem hi1 (a0 n : Int) (u : Nat) (w : World) (hu : IntKind.u64.wrap a0 = (u : Int)) (t0 : (u : Int).tmod 4 = 1) (h1 : 0 ≤ n) (h2 : ¬ n ≤ 16) :
    Calls Try.prog 5 #[.int .i64 a0, .int .i64 n] w fun e w' => e = .returned (.bool true) ∧ Below w.heap.size w w' := by
  obtain ⟨W, hW, H⟩ := plan_boxed w 5 3 7 2
  have c0 := H.out.1.c1
  have f0 := H.out.1.free 1
  obtain ⟨V, hV⟩ : ∃ V, W.setCell ⟨w.heap.size, 1, none⟩ (.int .i64 n) = V := ⟨_, rfl⟩
  obtain ⟨l, s, p, b, hl, hs, hp, hb, K⟩ : ∃ l s p b : Int, l = 5 ∧ s = n ∧ p = 7 ∧ b = 2 ∧ Hid (Pq V w.heap.size l s p b ∧ Below w.heap.size w V) :=
    ⟨_, _, _, _, rfl, rfl, rfl, rfl, Lib.hid (by rw [← hV]; exact ⟨H.out.1.sets n, H.out.2.setCell (p := ⟨w.heap.size, 1, none⟩) (Nat.le_refl _) _⟩)⟩
  have hM : ¬ May l s p b := by unfold May; omega
  have l0 := K.out.1.load
  have i1 : n ≥ 0 := h1
  obtain ⟨Z, hZ⟩ : ∃ Z : Int, 0 = Z := ⟨_, rfl⟩
  obtain ⟨M, hM1⟩ : ∃ M : Int, -1 = M := ⟨_, rfl⟩
  have z0 : (Z == 0) = true := by simp [← hZ]
  have z1 : IntKind.i64.wrap (Z + Z) = Z := by subst hZ; decide
  have m0 : (M == -1) = true := by simp [← hM1]
  have D0 := Lib.hid (pmay_no hM V)
  have D1 := Lib.hid (words_none hM hZ); have D2 := Lib.hid (pages_none hM hZ); have D3 := Lib.hid (logical_none hM hZ); have D4 := Lib.hid (device_none hM hZ); have D5 := Lib.hid (home_none (i := 0) hM hM1)
  clear hM hl hs hp hb hZ hM1
  go_enter Try.func5, Try.ntmps5
  go_wp2_with fail
  refine (D0.out).mono ?_; rintro e w1 ⟨rfl, hb⟩
  have B1 := Lib.hid (below_more K.out.2 hb)
  have L := Lib.hid (K.out.1.below hb)
  have r0 := L.out.later
  clear hb l0 c0 f0 hV hW t0 hu
  go_wp2_with fail
  go_region_held3 (fun w' => Below w1.heap.size w1 w')
    (first | assumption | exact (Below.refl _ _).drew | exact below_more ‹Below w1.heap.size w1 _› hbq)
    (first
      | (go_at_call 9; refine (D1.out _).mono ?_; rintro e wq ⟨rfl, hbq⟩)
      | (go_at_call 10; refine (D2.out _).mono ?_; rintro e wq ⟨rfl, hbq⟩)
      | (go_at_call 12; refine (D3.out _).mono ?_; rintro e wq ⟨rfl, hbq⟩)
      | (go_at_call 13; refine (D4.out _).mono ?_; rintro e wq ⟨rfl, hbq⟩)
      | (go_at_call 15; refine (D5.out _).mono ?_; rintro e wq ⟨rfl, hbq⟩)
      | (go_at_call 16; refine (awake_any _).mono ?_; rintro e wq ⟨rfl, hbq⟩))
  have HB := Lib.hid (below_more B1.out ‹Below w1.heap.size w1 wq›)
  go_wp2
  go_ret
  exact ⟨rfl, HB.out⟩

set_option maxRecDepth 100000 in
set_option maxHeartbeats 2000000 in
theorem in2 (a0 n : Int) (u : Nat) (w : World) (hu : IntKind.u64.wrap a0 = (u : Int)) (t0 : (u : Int).tmod 4 = 2) (h1 : 1 ≤ n) (h2 : n ≤ 1000) :
    Calls Try.prog 5 #[.int .i64 a0, .int .i64 n] w fun e w' => e = .returned (.bool true) ∧ Below w.heap.size w w' := by
  obtain ⟨W, hW, H⟩ := plan_boxed w 5 3 7 2
  have c0 := H.out.1.c2
  have f0 := H.out.1.free 2
  obtain ⟨V, hV⟩ : ∃ V, W.setCell ⟨w.heap.size, 2, none⟩ (.int .i64 n) = V := ⟨_, rfl⟩
  obtain ⟨l, s, p, b, hl, hs, hp, hb, K⟩ : ∃ l s p b : Int, l = 5 ∧ s = 3 ∧ p = n ∧ b = 2 ∧ Hid (Pq V w.heap.size l s p b ∧ Below w.heap.size w V) :=
    ⟨_, _, _, _, rfl, rfl, rfl, rfl, Lib.hid (by rw [← hV]; exact ⟨H.out.1.setp n, H.out.2.setCell (p := ⟨w.heap.size, 2, none⟩) (Nat.le_refl _) _⟩)⟩
  have hM : May l s p b := by unfold May; omega
  have l0 := K.out.1.load
  have i1 : n ≥ 1 := h1
  have D0 := Lib.hid (pmay_yes hM V)
  obtain ⟨d, e1⟩ : ∃ v, dvM l s = v := ⟨_, rfl⟩
  obtain ⟨v0, e2⟩ : ∃ v, hmM l 0 = v := ⟨_, rfl⟩
  obtain ⟨v1, e3⟩ : ∃ v, hmM l l = v := ⟨_, rfl⟩
  obtain ⟨v2, e4⟩ : ∃ v, hmM l (-1) = v := ⟨_, rfl⟩
  obtain ⟨v3, e5⟩ : ∃ v, pgM l = v := ⟨_, rfl⟩
  obtain ⟨m, e6⟩ : ∃ v : Int, l - 1 = v := ⟨_, rfl⟩
  obtain ⟨q, e7⟩ : ∃ v, pageM m = v := ⟨_, rfl⟩
  have bl : 1 ≤ l ∧ l ≤ 64 := hM.1
  have bs : 0 ≤ s ∧ s ≤ 16 := hM.2.1
  have j1 : d ≤ 200 := by rw [← e1]; unfold dvM; omega
  have j2 : (v0 == 16) = true := by rw [← e2]; unfold hmM; rw [if_pos (by omega)]; rfl
  have j3 : (v1 == -1) = true := by rw [← e3]; unfold hmM; rw [if_neg (by omega)]; rfl
  have j4 : (v2 == -1) = true := by rw [← e4]; unfold hmM; rw [if_neg (by omega)]; rfl
  have j5 : IntKind.i64.wrap (l - 1) = m := by rw [e6]; exact IntWalk.i64_in _ (by omega)
  have j6 : IntKind.i64.wrap (v3 - 1) = q := by
    rw [← e5, ← e7]; unfold pgM pageM; rw [show (l + 3) / 4 - 1 = m / 4 by omega]; exact IntWalk.i64_in _ (by omega)
  have D1 := Lib.hid (device_any hM e1)
  have D2 := Lib.hid (fun (i v : Int) (hv : hmM l i = v) => home_any (i := i) hM hv)
  have D3 := Lib.hid (pages_any hM e5)
  have D4 := Lib.hid (page_any (i := m) (by omega) e7)
  clear hM hl hs hp hb bl bs e1 e5 e6 e7
  go_enter Try.func5, Try.ntmps5
  go_wp2_with fail
  refine (D0.out).mono ?_; rintro e w1 ⟨rfl, hb⟩
  have B1 := Lib.hid (below_more K.out.2 hb)
  have L := Lib.hid (K.out.1.below hb)
  have r0 := L.out.later
  have r1 := L.out.later0
  clear hb l0 c0 f0 hV hW t0 hu
  go_wp2_with fail
  go_region_held3 (fun w' => Below w1.heap.size w1 w')
    (first | assumption | exact (Below.refl _ _).drew | exact below_more ‹Below w1.heap.size w1 _› hbq)
    (first
      | (go_at_call 13; refine (D1.out _).mono ?_; rintro e wq ⟨rfl, hbq⟩)
      | (go_at_call 15; refine (D2.out _ _ (by assumption) _).mono ?_; rintro e wq ⟨rfl, hbq⟩)
      | (go_at_call 10; refine (D3.out _).mono ?_; rintro e wq ⟨rfl, hbq⟩)
      | (go_at_call 17; refine (D4.out _).mono ?_; rintro e wq ⟨rfl, rfl⟩)
      | (go_at_call 16; refine (awake_any _).mono ?_; rintro e wq ⟨rfl, hbq⟩))
  have HB := Lib.hid (below_more B1.out ‹Below w1.heap.size w1 wq›)
  go_wp2
  go_ret
  exact ⟨rfl, HB.out⟩

set_option maxRecDepth 100000 in
set_option maxHeartbeats 2000000 in
theorem lo2 (a0 n : Int) (u : Nat) (w : World) (hu : IntKind.u64.wrap a0 = (u : Int)) (t0 : (u : Int).tmod 4 = 2) (h1 : ¬ 1 ≤ n) :
    Calls Try.prog 5 #[.int .i64 a0, .int .i64 n] w fun e w' => e = .returned (.bool true) ∧ Below w.heap.size w w' := by
  obtain ⟨W, hW, H⟩ := plan_boxed w 5 3 7 2
  have c0 := H.out.1.c2
  have f0 := H.out.1.free 2
  obtain ⟨V, hV⟩ : ∃ V, W.setCell ⟨w.heap.size, 2, none⟩ (.int .i64 n) = V := ⟨_, rfl⟩
  obtain ⟨l, s, p, b, hl, hs, hp, hb, K⟩ : ∃ l s p b : Int, l = 5 ∧ s = 3 ∧ p = n ∧ b = 2 ∧ Hid (Pq V w.heap.size l s p b ∧ Below w.heap.size w V) :=
    ⟨_, _, _, _, rfl, rfl, rfl, rfl, Lib.hid (by rw [← hV]; exact ⟨H.out.1.setp n, H.out.2.setCell (p := ⟨w.heap.size, 2, none⟩) (Nat.le_refl _) _⟩)⟩
  have hM : ¬ May l s p b := by unfold May; omega
  have l0 := K.out.1.load
  have i1 : ¬ n ≥ 1 := h1
  obtain ⟨Z, hZ⟩ : ∃ Z : Int, 0 = Z := ⟨_, rfl⟩
  obtain ⟨M, hM1⟩ : ∃ M : Int, -1 = M := ⟨_, rfl⟩
  have z0 : (Z == 0) = true := by simp [← hZ]
  have z1 : IntKind.i64.wrap (Z + Z) = Z := by subst hZ; decide
  have m0 : (M == -1) = true := by simp [← hM1]
  have D0 := Lib.hid (pmay_no hM V)
  have D1 := Lib.hid (words_none hM hZ); have D2 := Lib.hid (pages_none hM hZ); have D3 := Lib.hid (logical_none hM hZ); have D4 := Lib.hid (device_none hM hZ); have D5 := Lib.hid (home_none (i := 0) hM hM1)
  clear hM hl hs hp hb hZ hM1
  go_enter Try.func5, Try.ntmps5
  go_wp2_with fail
  refine (D0.out).mono ?_; rintro e w1 ⟨rfl, hb⟩
  have B1 := Lib.hid (below_more K.out.2 hb)
  have L := Lib.hid (K.out.1.below hb)
  have r0 := L.out.later
  clear hb l0 c0 f0 hV hW t0 hu
  go_wp2_with fail
  go_region_held3 (fun w' => Below w1.heap.size w1 w')
    (first | assumption | exact (Below.refl _ _).drew | exact below_more ‹Below w1.heap.size w1 _› hbq)
    (first
      | (go_at_call 9; refine (D1.out _).mono ?_; rintro e wq ⟨rfl, hbq⟩)
      | (go_at_call 10; refine (D2.out _).mono ?_; rintro e wq ⟨rfl, hbq⟩)
      | (go_at_call 12; refine (D3.out _).mono ?_; rintro e wq ⟨rfl, hbq⟩)
      | (go_at_call 13; refine (D4.out _).mono ?_; rintro e wq ⟨rfl, hbq⟩)
      | (go_at_call 15; refine (D5.out _).mono ?_; rintro e wq ⟨rfl, hbq⟩)
      | (go_at_call 16; refine (awake_any _).mono ?_; rintro e wq ⟨rfl, hbq⟩))
  have HB := Lib.hid (below_more B1.out ‹Below w1.heap.size w1 wq›)
  go_wp2
  go_ret
  exact ⟨rfl, HB.out⟩

set_option maxRecDepth 100000 in
set_option maxHeartbeats 2000000 in
theorem hi2 (a0 n : Int) (u : Nat) (w : World) (hu : IntKind.u64.wrap a0 = (u : Int)) (t0 : (u : Int).tmod 4 = 2) (h1 : 1 ≤ n) (h2 : ¬ n ≤ 1000) :
    Calls Try.prog 5 #[.int .i64 a0, .int .i64 n] w fun e w' => e = .returned (.bool true) ∧ Below w.heap.size w w' := by
  obtain ⟨W, hW, H⟩ := plan_boxed w 5 3 7 2
  have c0 := H.out.1.c2
  have f0 := H.out.1.free 2
  obtain ⟨V, hV⟩ : ∃ V, W.setCell ⟨w.heap.size, 2, none⟩ (.int .i64 n) = V := ⟨_, rfl⟩
  obtain ⟨l, s, p, b, hl, hs, hp, hb, K⟩ : ∃ l s p b : Int, l = 5 ∧ s = 3 ∧ p = n ∧ b = 2 ∧ Hid (Pq V w.heap.size l s p b ∧ Below w.heap.size w V) :=
    ⟨_, _, _, _, rfl, rfl, rfl, rfl, Lib.hid (by rw [← hV]; exact ⟨H.out.1.setp n, H.out.2.setCell (p := ⟨w.heap.size, 2, none⟩) (Nat.le_refl _) _⟩)⟩
  have hM : ¬ May l s p b := by unfold May; omega
  have l0 := K.out.1.load
  have i1 : n ≥ 1 := h1
  obtain ⟨Z, hZ⟩ : ∃ Z : Int, 0 = Z := ⟨_, rfl⟩
  obtain ⟨M, hM1⟩ : ∃ M : Int, -1 = M := ⟨_, rfl⟩
  have z0 : (Z == 0) = true := by simp [← hZ]
  have z1 : IntKind.i64.wrap (Z + Z) = Z := by subst hZ; decide
  have m0 : (M == -1) = true := by simp [← hM1]
  have D0 := Lib.hid (pmay_no hM V)
  have D1 := Lib.hid (words_none hM hZ); have D2 := Lib.hid (pages_none hM hZ); have D3 := Lib.hid (logical_none hM hZ); have D4 := Lib.hid (device_none hM hZ); have D5 := Lib.hid (home_none (i := 0) hM hM1)
  clear hM hl hs hp hb hZ hM1
  go_enter Try.func5, Try.ntmps5
  go_wp2_with fail
  refine (D0.out).mono ?_; rintro e w1 ⟨rfl, hb⟩
  have B1 := Lib.hid (below_more K.out.2 hb)
  have L := Lib.hid (K.out.1.below hb)
  have r0 := L.out.later
  clear hb l0 c0 f0 hV hW t0 hu
  go_wp2_with fail
  go_region_held3 (fun w' => Below w1.heap.size w1 w')
    (first | assumption | exact (Below.refl _ _).drew | exact below_more ‹Below w1.heap.size w1 _› hbq)
    (first
      | (go_at_call 9; refine (D1.out _).mono ?_; rintro e wq ⟨rfl, hbq⟩)
      | (go_at_call 10; refine (D2.out _).mono ?_; rintro e wq ⟨rfl, hbq⟩)
      | (go_at_call 12; refine (D3.out _).mono ?_; rintro e wq ⟨rfl, hbq⟩)
      | (go_at_call 13; refine (D4.out _).mono ?_; rintro e wq ⟨rfl, hbq⟩)
      | (go_at_call 15; refine (D5.out _).mono ?_; rintro e wq ⟨rfl, hbq⟩)
      | (go_at_call 16; refine (awake_any _).mono ?_; rintro e wq ⟨rfl, hbq⟩))
  have HB := Lib.hid (below_more B1.out ‹Below w1.heap.size w1 wq›)
  go_wp2
  go_ret
  exact ⟨rfl, HB.out⟩

set_option maxRecDepth 100000 in
set_option maxHeartbeats 2000000 in
theorem in3 (a0 n : Int) (u : Nat) (w : World) (hu : IntKind.u64.wrap a0 = (u : Int)) (t0 : (u : Int).tmod 4 = 3) (h1 : 1 ≤ n) (h2 : n ≤ 100) :
    Calls Try.prog 5 #[.int .i64 a0, .int .i64 n] w fun e w' => e = .returned (.bool true) ∧ Below w.heap.size w w' := by
  obtain ⟨W, hW, H⟩ := plan_boxed w 5 3 7 2
  have c0 := H.out.1.c3
  have f0 := H.out.1.free 3
  obtain ⟨V, hV⟩ : ∃ V, W.setCell ⟨w.heap.size, 3, none⟩ (.int .i64 n) = V := ⟨_, rfl⟩
  obtain ⟨l, s, p, b, hl, hs, hp, hb, K⟩ : ∃ l s p b : Int, l = 5 ∧ s = 3 ∧ p = 7 ∧ b = n ∧ Hid (Pq V w.heap.size l s p b ∧ Below w.heap.size w V) :=
    ⟨_, _, _, _, rfl, rfl, rfl, rfl, Lib.hid (by rw [← hV]; exact ⟨H.out.1.setb n, H.out.2.setCell (p := ⟨w.heap.size, 3, none⟩) (Nat.le_refl _) _⟩)⟩
  have hM : May l s p b := by unfold May; omega
  have l0 := K.out.1.load
  have i1 : n ≥ 1 := h1
  have D0 := Lib.hid (pmay_yes hM V)
  obtain ⟨d, e1⟩ : ∃ v, dvM l s = v := ⟨_, rfl⟩
  obtain ⟨v0, e2⟩ : ∃ v, hmM l 0 = v := ⟨_, rfl⟩
  obtain ⟨v1, e3⟩ : ∃ v, hmM l l = v := ⟨_, rfl⟩
  obtain ⟨v2, e4⟩ : ∃ v, hmM l (-1) = v := ⟨_, rfl⟩
  obtain ⟨v3, e5⟩ : ∃ v, pgM l = v := ⟨_, rfl⟩
  obtain ⟨m, e6⟩ : ∃ v : Int, l - 1 = v := ⟨_, rfl⟩
  obtain ⟨q, e7⟩ : ∃ v, pageM m = v := ⟨_, rfl⟩
  have bl : 1 ≤ l ∧ l ≤ 64 := hM.1
  have bs : 0 ≤ s ∧ s ≤ 16 := hM.2.1
  have j1 : d ≤ 200 := by rw [← e1]; unfold dvM; omega
  have j2 : (v0 == 16) = true := by rw [← e2]; unfold hmM; rw [if_pos (by omega)]; rfl
  have j3 : (v1 == -1) = true := by rw [← e3]; unfold hmM; rw [if_neg (by omega)]; rfl
  have j4 : (v2 == -1) = true := by rw [← e4]; unfold hmM; rw [if_neg (by omega)]; rfl
  have j5 : IntKind.i64.wrap (l - 1) = m := by rw [e6]; exact IntWalk.i64_in _ (by omega)
  have j6 : IntKind.i64.wrap (v3 - 1) = q := by
    rw [← e5, ← e7]; unfold pgM pageM; rw [show (l + 3) / 4 - 1 = m / 4 by omega]; exact IntWalk.i64_in _ (by omega)
  have D1 := Lib.hid (device_any hM e1)
  have D2 := Lib.hid (fun (i v : Int) (hv : hmM l i = v) => home_any (i := i) hM hv)
  have D3 := Lib.hid (pages_any hM e5)
  have D4 := Lib.hid (page_any (i := m) (by omega) e7)
  clear hM hl hs hp hb bl bs e1 e5 e6 e7
  go_enter Try.func5, Try.ntmps5
  go_wp2_with fail
  refine (D0.out).mono ?_; rintro e w1 ⟨rfl, hb⟩
  have B1 := Lib.hid (below_more K.out.2 hb)
  have L := Lib.hid (K.out.1.below hb)
  have r0 := L.out.later
  have r1 := L.out.later0
  clear hb l0 c0 f0 hV hW t0 hu
  go_wp2_with fail
  go_region_held3 (fun w' => Below w1.heap.size w1 w')
    (first | assumption | exact (Below.refl _ _).drew | exact below_more ‹Below w1.heap.size w1 _› hbq)
    (first
      | (go_at_call 13; refine (D1.out _).mono ?_; rintro e wq ⟨rfl, hbq⟩)
      | (go_at_call 15; refine (D2.out _ _ (by assumption) _).mono ?_; rintro e wq ⟨rfl, hbq⟩)
      | (go_at_call 10; refine (D3.out _).mono ?_; rintro e wq ⟨rfl, hbq⟩)
      | (go_at_call 17; refine (D4.out _).mono ?_; rintro e wq ⟨rfl, rfl⟩)
      | (go_at_call 16; refine (awake_any _).mono ?_; rintro e wq ⟨rfl, hbq⟩))
  have HB := Lib.hid (below_more B1.out ‹Below w1.heap.size w1 wq›)
  go_wp2
  go_ret
  exact ⟨rfl, HB.out⟩

set_option maxRecDepth 100000 in
set_option maxHeartbeats 2000000 in
theorem lo3 (a0 n : Int) (u : Nat) (w : World) (hu : IntKind.u64.wrap a0 = (u : Int)) (t0 : (u : Int).tmod 4 = 3) (h1 : ¬ 1 ≤ n) :
    Calls Try.prog 5 #[.int .i64 a0, .int .i64 n] w fun e w' => e = .returned (.bool true) ∧ Below w.heap.size w w' := by
  obtain ⟨W, hW, H⟩ := plan_boxed w 5 3 7 2
  have c0 := H.out.1.c3
  have f0 := H.out.1.free 3
  obtain ⟨V, hV⟩ : ∃ V, W.setCell ⟨w.heap.size, 3, none⟩ (.int .i64 n) = V := ⟨_, rfl⟩
  obtain ⟨l, s, p, b, hl, hs, hp, hb, K⟩ : ∃ l s p b : Int, l = 5 ∧ s = 3 ∧ p = 7 ∧ b = n ∧ Hid (Pq V w.heap.size l s p b ∧ Below w.heap.size w V) :=
    ⟨_, _, _, _, rfl, rfl, rfl, rfl, Lib.hid (by rw [← hV]; exact ⟨H.out.1.setb n, H.out.2.setCell (p := ⟨w.heap.size, 3, none⟩) (Nat.le_refl _) _⟩)⟩
  have hM : ¬ May l s p b := by unfold May; omega
  have l0 := K.out.1.load
  have i1 : ¬ n ≥ 1 := h1
  obtain ⟨Z, hZ⟩ : ∃ Z : Int, 0 = Z := ⟨_, rfl⟩
  obtain ⟨M, hM1⟩ : ∃ M : Int, -1 = M := ⟨_, rfl⟩
  have z0 : (Z == 0) = true := by simp [← hZ]
  have z1 : IntKind.i64.wrap (Z + Z) = Z := by subst hZ; decide
  have m0 : (M == -1) = true := by simp [← hM1]
  have D0 := Lib.hid (pmay_no hM V)
  have D1 := Lib.hid (words_none hM hZ); have D2 := Lib.hid (pages_none hM hZ); have D3 := Lib.hid (logical_none hM hZ); have D4 := Lib.hid (device_none hM hZ); have D5 := Lib.hid (home_none (i := 0) hM hM1)
  clear hM hl hs hp hb hZ hM1
  go_enter Try.func5, Try.ntmps5
  go_wp2_with fail
  refine (D0.out).mono ?_; rintro e w1 ⟨rfl, hb⟩
  have B1 := Lib.hid (below_more K.out.2 hb)
  have L := Lib.hid (K.out.1.below hb)
  have r0 := L.out.later
  clear hb l0 c0 f0 hV hW t0 hu
  go_wp2_with fail
  go_region_held3 (fun w' => Below w1.heap.size w1 w')
    (first | assumption | exact (Below.refl _ _).drew | exact below_more ‹Below w1.heap.size w1 _› hbq)
    (first
      | (go_at_call 9; refine (D1.out _).mono ?_; rintro e wq ⟨rfl, hbq⟩)
      | (go_at_call 10; refine (D2.out _).mono ?_; rintro e wq ⟨rfl, hbq⟩)
      | (go_at_call 12; refine (D3.out _).mono ?_; rintro e wq ⟨rfl, hbq⟩)
      | (go_at_call 13; refine (D4.out _).mono ?_; rintro e wq ⟨rfl, hbq⟩)
      | (go_at_call 15; refine (D5.out _).mono ?_; rintro e wq ⟨rfl, hbq⟩)
      | (go_at_call 16; refine (awake_any _).mono ?_; rintro e wq ⟨rfl, hbq⟩))
  have HB := Lib.hid (below_more B1.out ‹Below w1.heap.size w1 wq›)
  go_wp2
  go_ret
  exact ⟨rfl, HB.out⟩

set_option maxRecDepth 100000 in
set_option maxHeartbeats 2000000 in
theorem hi3 (a0 n : Int) (u : Nat) (w : World) (hu : IntKind.u64.wrap a0 = (u : Int)) (t0 : (u : Int).tmod 4 = 3) (h1 : 1 ≤ n) (h2 : ¬ n ≤ 100) :
    Calls Try.prog 5 #[.int .i64 a0, .int .i64 n] w fun e w' => e = .returned (.bool true) ∧ Below w.heap.size w w' := by
  obtain ⟨W, hW, H⟩ := plan_boxed w 5 3 7 2
  have c0 := H.out.1.c3
  have f0 := H.out.1.free 3
  obtain ⟨V, hV⟩ : ∃ V, W.setCell ⟨w.heap.size, 3, none⟩ (.int .i64 n) = V := ⟨_, rfl⟩
  obtain ⟨l, s, p, b, hl, hs, hp, hb, K⟩ : ∃ l s p b : Int, l = 5 ∧ s = 3 ∧ p = 7 ∧ b = n ∧ Hid (Pq V w.heap.size l s p b ∧ Below w.heap.size w V) :=
    ⟨_, _, _, _, rfl, rfl, rfl, rfl, Lib.hid (by rw [← hV]; exact ⟨H.out.1.setb n, H.out.2.setCell (p := ⟨w.heap.size, 3, none⟩) (Nat.le_refl _) _⟩)⟩
  have hM : ¬ May l s p b := by unfold May; omega
  have l0 := K.out.1.load
  have i1 : n ≥ 1 := h1
  obtain ⟨Z, hZ⟩ : ∃ Z : Int, 0 = Z := ⟨_, rfl⟩
  obtain ⟨M, hM1⟩ : ∃ M : Int, -1 = M := ⟨_, rfl⟩
  have z0 : (Z == 0) = true := by simp [← hZ]
  have z1 : IntKind.i64.wrap (Z + Z) = Z := by subst hZ; decide
  have m0 : (M == -1) = true := by simp [← hM1]
  have D0 := Lib.hid (pmay_no hM V)
  have D1 := Lib.hid (words_none hM hZ); have D2 := Lib.hid (pages_none hM hZ); have D3 := Lib.hid (logical_none hM hZ); have D4 := Lib.hid (device_none hM hZ); have D5 := Lib.hid (home_none (i := 0) hM hM1)
  clear hM hl hs hp hb hZ hM1
  go_enter Try.func5, Try.ntmps5
  go_wp2_with fail
  refine (D0.out).mono ?_; rintro e w1 ⟨rfl, hb⟩
  have B1 := Lib.hid (below_more K.out.2 hb)
  have L := Lib.hid (K.out.1.below hb)
  have r0 := L.out.later
  clear hb l0 c0 f0 hV hW t0 hu
  go_wp2_with fail
  go_region_held3 (fun w' => Below w1.heap.size w1 w')
    (first | assumption | exact (Below.refl _ _).drew | exact below_more ‹Below w1.heap.size w1 _› hbq)
    (first
      | (go_at_call 9; refine (D1.out _).mono ?_; rintro e wq ⟨rfl, hbq⟩)
      | (go_at_call 10; refine (D2.out _).mono ?_; rintro e wq ⟨rfl, hbq⟩)
      | (go_at_call 12; refine (D3.out _).mono ?_; rintro e wq ⟨rfl, hbq⟩)
      | (go_at_call 13; refine (D4.out _).mono ?_; rintro e wq ⟨rfl, hbq⟩)
      | (go_at_call 15; refine (D5.out _).mono ?_; rintro e wq ⟨rfl, hbq⟩)
      | (go_at_call 16; refine (awake_any _).mono ?_; rintro e wq ⟨rfl, hbq⟩))
  have HB := Lib.hid (below_more B1.out ‹Below w1.heap.size w1 wq›)
  go_wp2
  go_ret
  exact ⟨rfl, HB.out⟩

theorem walk (a0 n : Int) (w : World) (_ : (Lit.int .i64 a0).wf = true) (_ : (Lit.int .i64 n).wf = true) :
    Calls Try.prog 5 #[.int .i64 a0, .int .i64 n] w fun e w' => e = .returned (.bool true) ∧ Below w.heap.size w w' := by
  obtain ⟨u, hu, _⟩ := u64_nat a0
  have t0 : (u : Int).tmod 4 = ((u % 4 : Nat) : Int) := tmod_nat u 4
  have hk : u % 4 = 0 ∨ u % 4 = 1 ∨ u % 4 = 2 ∨ u % 4 = 3 := by omega
  rcases hk with h | h | h | h
  · have t : (u : Int).tmod 4 = 0 := by rw [t0, h]; rfl
    by_cases h1 : 1 ≤ n
    · by_cases h2 : n ≤ 64
      · exact in0 a0 n u w hu t h1 h2
      · exact hi0 a0 n u w hu t h1 h2
    · exact lo0 a0 n u w hu t h1
  · have t : (u : Int).tmod 4 = 1 := by rw [t0, h]; rfl
    by_cases h1 : 0 ≤ n
    · by_cases h2 : n ≤ 16
      · exact in1 a0 n u w hu t h1 h2
      · exact hi1 a0 n u w hu t h1 h2
    · exact lo1 a0 n u w hu t h1
  · have t : (u : Int).tmod 4 = 2 := by rw [t0, h]; rfl
    by_cases h1 : 1 ≤ n
    · by_cases h2 : n ≤ 1000
      · exact in2 a0 n u w hu t h1 h2
      · exact hi2 a0 n u w hu t h1 h2
    · exact lo2 a0 n u w hu t h1
  · have t : (u : Int).tmod 4 = 3 := by rw [t0, h]; rfl
    by_cases h1 : 1 ≤ n
    · by_cases h2 : n ≤ 100
      · exact in3 a0 n u w hu t h1 h2
      · exact hi3 a0 n u w hu t h1 h2
    · exact lo3 a0 n u w hu t h1

set_option maxRecDepth 100000 in
theorem lifted (os : Os) (started : os.Started) (H : Type) (enc : TypeId × Value → H) :
    ReturnsInHanded {} Try.checked os 5 .any (Rows.planEdgesSpec.pre6 enc Try.prog Try.f5 Rows.planEdgesRow.domain false) (Rows.planEdgesSpec.post enc Try.prog Try.f5 false true false false) := by
  refine returnsInHanded_of_change (C := Try.checked) own started (by kernel_rfl) Try.func5
    (ChangeSpec.witness6 (enc := enc) (C := Try.checked) false ⟨#[], #[.int .i64 0, .int .i64 0], []⟩ 8 (by kernel_rfl) (by kernel_rfl) (by kernel_rfl) (by kernel_rfl)) ?_
  intro W base args ds gs before hval0 hW hcnd _
  have hval : ∀ (j : Nat) t v, Try.f5.params[j]? = some t → args[j]? = some v → Value.okWide Try.prog W .any base t v := hval0
  have hW' := hW
  have hlt := hW.lt
  obtain ⟨p, q, hA0, hV, hpq, hfz, hnd⟩ := hW
  have hA : DataW.TrodAll enc Try.prog W 0 (fun _ => true) true Try.f5.params.toList args.toList ds p := hA0
  rw [Try.params5] at hA hval
  obtain ⟨v0, vs0, d0, ds0, p0, q0, hargs, rfl, hp, h0, r0⟩ := trodAll_cons hA
  obtain ⟨v1, vs1, d1, ds1, p1, q1, rfl, rfl, rfl, h1, r1⟩ := trodAll_cons r0
  obtain ⟨rfl, rfl, rfl⟩ := trodAll_nil r1
  obtain rfl : args = #[v0, v1] := by cases args; simp_all
  obtain ⟨rfl, rfl⟩ := trodVars_none hV
  have hlt' : ∀ x ∈ before, x.block < W.heap.size := fun x hx => hlt x hx
  obtain ⟨a0, rfl, rfl, rfl, w0⟩ := open_int Try.underlying3 (hval 0 3 v0 rfl rfl) h0
  obtain ⟨a1, rfl, rfl, rfl, w1⟩ := open_int Try.underlying3 (hval 1 3 v1 rfl rfl) h1
  refine (walk a0 a1 W w0 w1).mono fun e W' ⟨he, hb⟩ => ?_
  subst he
  exact ⟨_, rfl, law_post rfl (by kernel_rfl) hW' (by rw [Try.params5]; intro t ht; simp only [List.mem_cons, List.not_mem_nil, or_false] at ht; (repeat' (first | (rcases ht with rfl | ht) | subst ht)) <;> exact ⟨by kernel_rfl, of_decide_eq_true (by kernel_rfl)⟩) rfl hb⟩

theorem over : Rows.planEdgesRow.holds Try.pinned (OpenSpec.ofChange Rows.planEdgesSpec) :=
  OpenClaim.holds_of_wide 5 Try.f5 rfl rfl rfl rfl rfl rfl rfl ⟨rfl, rfl, rfl, rfl, rfl⟩ rfl rfl rfl rfl rfl (by kernel_rfl) Try.func5 (by kernel_rfl)
    (of_decide_eq_true (by kernel_rfl)) (by unfold Func.isWrapper; first | (rw [if_pos (by decide +kernel)]; kernel_rfl) | (rw [if_neg (by decide +kernel)]; exact ⟨rfl, rfl⟩))
    (fun os started H enc _ => lifted os started H enc)

theorem proved : Rows.PlanEdgesSaid := over
end Go.Proofs.Ytojblhgdnolcdaa.planEdges
