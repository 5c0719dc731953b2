/-
  Contracts of package count: a write noted.
-/
import Derived.Test.YtplehfdanlfjoaaCnc
import Derived.Deep.RegionHeld3
namespace Go.Proofs.Ytplehfdanlfjoaa
open Go.RowKit

theorem cnote_no {v : Value} {p : Int} {w : World} (h : Calls Try.prog 16 #[v, .int .i64 p] w fun e w' => e = .returned (.bool false) ∧ w = w') : Calls Try.prog 9 #[v, .int .i64 p] w fun e w' => e = .returned (.tuple #[.int .i64 0, .bool false]) ∧ w = w' := by
  have C := Lib.hid h
  clear h
  go_enter Try.func9, Try.ntmps9
  go_wp2_with fail
  refine (C.out).mono ?_; rintro e w' ⟨rfl, rfl⟩
  go_wp2_with fail
  go_ret2
  exact ⟨rfl, rfl⟩
set_option maxHeartbeats 1000000 in
theorem cnote_yes {x g : Nat} {s : Ct} {p : Nat} {w : World} (h : Cq w x g s) (hk : s.Ok) (hp : p < s.n) (hb : s.c p < 4611686018427387904) :
    Calls Try.prog 9 #[.pointer (some ⟨x, 0, none⟩), .int .i64 (p : Int)] w fun e w' => e = .returned (.tuple #[.int .i64 ((s.c p + 1 : Nat) : Int), .bool (s.due p)]) ∧ Cq w' x g (s.note p) ∧ Chg [g] w w' := by
  have C := Lib.hid (chas_yes h hp)
  have c1 := h.c1
  have p0 := h.p0 hp
  have f0 := h.free (p * 2)
  have i1 : (0 : Int) ≤ (p : Int) := by omega
  have i2 : (p : Int) < (s.n : Int) := by omega
  have i3 : ¬ (p : Int) < 0 := by omega
  have j0 : IntKind.i64.wrap ((s.c p : Int) + 1) = ((s.c p + 1 : Nat) : Int) := by rw [show (s.c p : Int) + 1 = ((s.c p + 1 : Nat) : Int) by omega]; exact i64_nat _ (by omega)
  obtain ⟨W, hW⟩ : ∃ W, w.setCell ⟨g, p * 2, none⟩ (.int .i64 ((s.c p + 1 : Nat) : Int)) = W := ⟨_, rfl⟩
  have H1 := h.up hp
  have CW : Chg [g] w W := by rw [← hW]; exact (Chg.refl _ _).setCell (.inl (by simp)) _
  rw [hW] at H1
  have q0 := fun (w' : World) (hb : Below W.heap.size W w') => (H1.below hb).c0
  have r0 := fun (w' : World) (hb : Below W.heap.size W w') => (H1.below hb).p0 (p := p) hp
  have r1 := fun (w' : World) (hb : Below W.heap.size W w') => (H1.below hb).p1 (p := p) hp
  have eu : (s.up p).c p = s.c p + 1 := by simp [Ct.up, at1]
  rw [eu] at r0
  obtain ⟨d, hd⟩ : ∃ d, s.c p + 1 - s.k p = d := ⟨_, rfl⟩
  have T := Lib.hid (fun w => tlag_is ((s.c p + 1 : Nat) : Int) (s.k p : Int) (d : Int) w (by
    have := hk.le p hp; have := hk.lag p hp; have := hk.b2
    rw [show ((s.c p + 1 : Nat) : Int) - (s.k p : Int) = (d : Int) by omega]; exact i64_nat _ (by omega)))
  have ek : (s.up p).k p = s.k p := rfl
  have eb : (s.up p).b = s.b := rfl
  rw [ek] at r1
  rw [eb] at q0
  have HH := Lib.hid H1
  have HC := Lib.hid CW
  have HP := Lib.hid hp
  have hbd : Below W.heap.size W W.drew := (Below.refl _ _).drew
  obtain ⟨D, hD⟩ : ∃ D, s.due p = D := ⟨_, rfl⟩
  have HD := Lib.hid hD
  have hdue : D = decide (s.b ≤ d) := by rw [← hD, ← hd]; rfl
  have KN := fun (w' : World) (hw : Below W.heap.size W w') => (H1.below hw).kept (p := p) hp
  rw [eu] at KN
  have HK := Lib.hid KN
  have fr := fun (w' : World) (hw : Below W.heap.size W w') => (H1.below hw).free (p * 2 + 1)
  clear h hk H1 CW hd eu ek eb KN hp hD
  rw [HD.out]
  have EN : Hid (s.note p = if D then (s.up p).kept p else s.up p) := Lib.hid (by unfold Ct.note; rw [HD.out])
  rw [EN.out]
  generalize s.c p + 1 = c1' at *
  generalize s.c p = cc at *
  generalize s.k p = kk at *
  generalize s.b = bb at *
  generalize s.n = n at *
  by_cases hl : (d : Int) < (bb : Int)
  · obtain rfl : D = false := by rw [hdue]; simp; omega
    clear hdue
    go_enter Try.func9, Try.ntmps9
    go_wp2_with fail
    refine (C.out).mono ?_; rintro e w' ⟨rfl, rfl⟩
    go_wp2
    go_region_held3 (fun w' => Below W.heap.size W w')
      (first | assumption | exact (Below.refl _ _).drew | exact below_more ‹Below W.heap.size W _› hbq)
      ((go_at_call 17; refine (T.out _).mono ?_; rintro e wq ⟨rfl, hbq⟩))
    have hbw := ‹Below W.heap.size W wq›
    have s0 := r0 wq hbw
    have HF := Lib.hid hbw
    go_wp2
    go_ret2
    exact ⟨rfl, HH.out.below HF.out, HC.out.trans (Chg.of_below HF.out _)⟩
  · obtain rfl : D = true := by rw [hdue]; simp; omega
    clear hdue
    go_enter Try.func9, Try.ntmps9
    go_wp2_with fail
    refine (C.out).mono ?_; rintro e w' ⟨rfl, rfl⟩
    go_wp2
    go_region_held3 (fun w' => Below W.heap.size W w')
      (first | assumption | exact (Below.refl _ _).drew | exact below_more ‹Below W.heap.size W _› hbq)
      ((go_at_call 17; refine (T.out _).mono ?_; rintro e wq ⟨rfl, hbq⟩))
    have hbw := ‹Below W.heap.size W wq›
    have s0 := r0 wq hbw
    have s1 := fr wq hbw
    have HF := Lib.hid hbw
    obtain ⟨V, hV⟩ : ∃ V, wq.setCell ⟨g, p * 2 + 1, none⟩ (.int .i64 (c1' : Int)) = V := ⟨_, rfl⟩
    have K2 := HK.out wq hbw
    rw [hV] at K2
    have KV := Lib.hid K2
    have s2 : V.cell? ⟨g, p * 2, none⟩ = some (.int .i64 (c1' : Int)) := by
      rw [← hV]; exact (World.cell?_setCell_other _ _ _ _ (by simp)).trans s0
    have CV := Lib.hid (show Chg [g] W V by rw [← hV]; exact (Chg.of_below hbw _).setCell (.inl (by simp)) _)
    clear K2
    go_wp2
    go_ret2
    exact ⟨rfl, KV.out, HC.out.trans CV.out⟩
end Go.Proofs.Ytplehfdanlfjoaa
