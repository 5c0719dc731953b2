/-
  Contracts of package lines at known values; 'awake' of layer 7's statements.
-/
import Derived.Test.YtjchmkgkibiadaaLnf
namespace Go.Proofs.Ytjchmkgkibiadaa
open Go.RowKit

theorem Out.lok {s s' : Nv} {S P a : Nat} {d : List Int} {e : Int} (o : Out s s' S P a d e) (h : LOk s S P) (hl : s'.dark = false) : LOk s' S P := ⟨o.ok, o.n.trans h.n, h.p, o.may, hl⟩
theorem newNv_tb (n P : Nat) (lim : List Int) : (newNv n lim).tb P = List.replicate P 0 := by
  refine list_ext (by simp [Nv.tb]) fun i hi => ?_
  rw [Nv.tb_length] at hi
  rw [Nv.tb_getD _ hi]; simp [newNv, hi]
theorem newNv_lok {S P : Nat} (h1 : 1 ≤ S) (hP : P ≤ 16) (h2 : S + P ≤ 200) (lim : List Int) : LOk (newNv (S + P) lim) S P := by
  refine ⟨newNv_ok (by omega) h2 lim, rfl, hP, ?_, rfl⟩
  rw [newNv_tb]
  refine good_mayT (by omega) fun k hk => ?_
  have e : ∀ j, (List.replicate P (0 : Int)).getD j 0 = 0 := fun j => by
    by_cases hj : j < P
    · simp [hj]
    · rw [List.getD_eq_getElem?_getD, List.getElem?_eq_none (by simpa using Nat.le_of_not_lt hj)]; rfl
  unfold Good
  rw [e]
  exact ⟨by omega, fun h => h.2.1 rfl⟩
theorem newNv_left (n P : Nat) (lim : List Int) : leftT ((newNv n lim).tb P) = P := by
  have := chainT_left (p := P) (n := 0) (x := 1) (Nat.zero_le _) (by decide)
  rw [newNv_tb, ← chainT_zero P 1, this]; rfl

section
variable {q g S P : Nat} {s s' : Nv} {w : World}
theorem lput_is {a : Int} {d : List Int} {x : Int} (hx : lput S P a d s = (x, s')) (H : LOk s S P) (hd8 : d.length = 8) (hqg : q ≠ g) (hc : s.c + 200 < 4611686018427387904) (h : Lq w q g S P) (hN : Nm w g s) :
    Calls Try.prog 28 #[.pointer (some ⟨q, 0, none⟩), .int .i64 a, .agg (lc d)] w fun e w' => e = .returned (.int .i64 x) ∧ Nm w' g s' ∧ Chg [g] w w' := by
  have h200 := H.ok.hi
  have hn := H.n
  refine (lput_any q g S P s a d w h hN H.ok H.p (by omega) hd8 hqg hc).mono ?_
  rintro e w' ⟨rfl, hN, hC⟩
  rw [hx] at hN ⊢
  exact ⟨rfl, hN, hC⟩
theorem lleft_is {k : Nat} (hx : leftT (s.tb P) = k) (H : LOk s S P) (h : Lq w q g S P) (hN : Nm w g s) :
    Calls Try.prog 30 #[.pointer (some ⟨q, 0, none⟩)] w fun e w' => e = .returned (.int .i64 (k : Int)) ∧ Below w.heap.size w w' := by
  rw [← hx]; exact left_live q g S P s w h hN H.p H.live
end

theorem awake_plain7 : ∃ s1, lput 5 2 0 [4, 0, 0, 0, 0, 0, 0, 0] (newNv 7 [0]) = (0, s1) ∧ LOk (newNv 7 [0]) 5 2 ∧ LOk s1 5 2 ∧ hold s1 5 2 0 = [4, 0, 0, 0, 0, 0, 0, 0] ∧ leftT (s1.tb 2) = 1 := by
  have H := newNv_lok (S := 5) (P := 2) (by decide) (by decide) (by decide) [0]
  obtain ⟨o, _⟩ := lput_out (a := 0) (d := [4, 0, 0, 0, 0, 0, 0, 0]) H rfl (by decide)
  have e0 : (lput 5 2 ((0 : Nat) : Int) [4, 0, 0, 0, 0, 0, 0, 0] (newNv (5 + 2) [0])).1 = 0 := by decide
  have l0 : leftT ((lput 5 2 ((0 : Nat) : Int) [4, 0, 0, 0, 0, 0, 0, 0] (newNv (5 + 2) [0])).2.tb 2) = 1 := by decide
  refine ⟨_, Prod.ext e0 rfl, H, ?_⟩
  rcases o.own with ⟨_, h1, h2⟩ | ⟨h, _⟩ | ⟨h, _⟩
  · exact ⟨o.lok H h1, h2, l0⟩
  · rw [e0] at h; cases h
  · rw [e0] at h; cases h

end Go.Proofs.Ytjchmkgkibiadaa
