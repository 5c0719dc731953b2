/-
  Contracts of package lines at known values; 'awake' of layer 7's statements.
-/
import Derived.Test.YtlpmpnhkghbdmaaLnf
namespace Go.Proofs.Ytlpmpnhkghbdmaa
open Go.RowKit

theorem Out.lok {s s' : Nv} {S P a : Nat} {d : List Int} {e : Int} (o : Out s s' S P a d e) (h : LOk s S P) (hl : s'.dark = false) : LOk s' S P := ⟨o.ok, o.n.trans h.n, h.p, o.may, hl⟩
theorem newNv_tb (n P : Nat) (lim : List Int) : (newNv n lim).tb P = List.replicate P 0 := by
  refine list_ext (by simp [Nv.tb]) fun i hi => ?_
  rw [Nv.tb_length] at hi
  rw [Nv.tb_getD _ hi]; simp [newNv, hi]
theorem newNv_lok {S P : Nat} (h1 : 1 ≤ S) (hP : P ≤ 16) (h2 : S + P ≤ 200) (lim : List Int) : LOk (newNv (S + P) lim) S P := by
  refine ⟨newNv_ok (by omega) h2 lim, rfl, hP, ?_, rfl⟩
  rw [newNv_tb]
  refine good_mayT (by omega) fun k hk => ?_
  have e : ∀ j, (List.replicate P (0 : Int)).getD j 0 = 0 := fun j => by
    by_cases hj : j < P
    · simp [hj]
    · rw [List.getD_eq_getElem?_getD, List.getElem?_eq_none (by simpa using Nat.le_of_not_lt hj)]; rfl
  unfold Good
  rw [e]
  exact ⟨by omega, fun h => h.2.1 rfl⟩
theorem newNv_left (n P : Nat) (lim : List Int) : leftT ((newNv n lim).tb P) = P := by
  have := chainT_left (p := P) (n := 0) (x := 1) (Nat.zero_le _) (by decide)
  rw [newNv_tb, ← chainT_zero P 1, this]; rfl

section
variable {q g S P : Nat} {s s' : Nv} {w : World}
theorem lput_is {a : Int} {d : List Int} {x : Int} (hx : lput S P a d s = (x, s')) (H : LOk s S P) (hd8 : d.length = 8) (hqg : q ≠ g) (hc : s.c + 200 < 4611686018427387904) (h : Lq w q g S P) (hN : Nm w g s) :
    Calls Try.prog 13 #[.pointer (some ⟨q, 0, none⟩), .int .i64 a, .agg (lc d)] w fun e w' => e = .returned (.int .i64 x) ∧ Nm w' g s' ∧ Chg [g] w w' := by
  have h200 := H.ok.hi
  have hn := H.n
  refine (lput_any q g S P s a d w h hN H.ok H.p (by omega) hd8 hqg hc).mono ?_
  rintro e w' ⟨rfl, hN, hC⟩
  rw [hx] at hN ⊢
  exact ⟨rfl, hN, hC⟩
theorem lleft_is {k : Nat} (hx : leftT (s.tb P) = k) (H : LOk s S P) (h : Lq w q g S P) (hN : Nm w g s) :
    Calls Try.prog 12 #[.pointer (some ⟨q, 0, none⟩)] w fun e w' => e = .returned (.int .i64 (k : Int)) ∧ Below w.heap.size w w' := by
  rw [← hx]; exact left_live q g S P s w h hN H.p H.live
end

theorem awake_plain7 : ∃ s1, lput 5 2 0 [4, 0, 0, 0, 0, 0, 0, 0] (newNv 7 [0]) = (0, s1) ∧ LOk (newNv 7 [0]) 5 2 ∧ LOk s1 5 2 ∧ hold s1 5 2 0 = [4, 0, 0, 0, 0, 0, 0, 0] ∧ leftT (s1.tb 2) = 1 := by
  have H := newNv_lok (S := 5) (P := 2) (by decide) (by decide) (by decide) [0]
  obtain ⟨o, _⟩ := lput_out (a := 0) (d := [4, 0, 0, 0, 0, 0, 0, 0]) H rfl (by decide)
  have e0 : (lput 5 2 ((0 : Nat) : Int) [4, 0, 0, 0, 0, 0, 0, 0] (newNv (5 + 2) [0])).1 = 0 := by decide
  have l0 : leftT ((lput 5 2 ((0 : Nat) : Int) [4, 0, 0, 0, 0, 0, 0, 0] (newNv (5 + 2) [0])).2.tb 2) = 1 := by decide
  refine ⟨_, Prod.ext e0 rfl, H, ?_⟩
  rcases o.own with ⟨_, h1, h2⟩ | ⟨h, _⟩ | ⟨h, _⟩
  · exact ⟨o.lok H h1, h2, l0⟩
  · rw [e0] at h; cases h
  · rw [e0] at h; cases h

set_option maxHeartbeats 1000000 in
theorem awake_any (w : World) : Calls Try.prog 8 #[] w fun e w' => e = .returned (.bool true) ∧ Below w.heap.size w w' := by
  obtain ⟨s1, a1, a2, a3, a4, a5⟩ := awake_plain7
  have A1 := Lib.hid a1; have A2 := Lib.hid a2; have A3 := Lib.hid a3; have A4 := Lib.hid a4; have A5 := Lib.hid a5
  have K0 : Hid ((newNv 7 [0]).c + 200 < 4611686018427387904) := Lib.hid (by decide)
  clear a1 a2 a3 a4 a5
  have R0 := Lib.hid (ri_one w 0)
  have B0 := Lib.hid (bal (o := .cells #[.int .i64 0] 3) (Below.refl w.heap.size w))
  obtain ⟨s0, e0⟩ : ∃ s0, newNv 7 [0] = s0 := ⟨_, rfl⟩
  rw [e0] at A1 A2 K0
  go_enter Try.func8, Try.ntmps8
  go_wp2_with fail
  refine (new_yes 7 _ [0] _ (by decide) (by decide) R0.out).mono ?_; rintro e w1 ⟨g, rfl, hg, hN, hb⟩
  rw [e0] at hN
  have hg' : Hid (w.heap.size ≤ g) := Lib.hid (Nat.le_trans (by simp) hg)
  have N0 := Lib.hid hN
  have B1 := Lib.hid (below_more B0.out hb)
  clear hN hg hb
  go_wp2_with fail
  refine (lnew_yes A2.out N0.out).mono ?_; rintro e w2 ⟨q, rfl, hq, hQ, hb⟩
  have hqg : Hid (q ≠ g) := Lib.hid (by have := N0.out.lt; omega)
  have N1 := Lib.hid (N0.out.below hb)
  have Q1 := Lib.hid hQ
  have B2 := Lib.hid (below_more B1.out hb)
  clear hq hQ hb
  go_wp2_with fail
  refine (lput_is A1.out A2.out rfl hqg.out K0.out Q1.out N1.out).mono ?_; rintro e w3 ⟨rfl, hN, hC⟩
  have N2 := Lib.hid hN
  have Q2 := Lib.hid (Q1.out.chg hC (by simpa using hqg.out))
  have B3 := Lib.hid (hC.own B2.out hg'.out)
  clear hN hC
  go_wp2_with fail
  refine (lget_is A4.out A3.out (by decide) Q2.out N2.out).mono ?_; rintro e w4 ⟨rfl, hb⟩
  obtain ⟨W, hW, H⟩ := boxed1 w4 (a := [4, 0, 0, 0, 0, 0, 0, 0]) rfl
  have N3 := Lib.hid ((N2.out.below hb).below H.out.2)
  have Q3 := Lib.hid ((Q2.out.below hb).below H.out.2)
  have B4 := Lib.hid (below_more (below_more B3.out hb) H.out.2)
  have ll := H.out.1.load
  clear hb
  go_wp2_with fail
  refine (lleft_is A5.out A3.out Q3.out N3.out).mono ?_; rintro e w5 ⟨rfl, hb⟩
  have Q4 := Lib.hid (Q3.out.below hb)
  have B5 := Lib.hid (below_more B4.out hb)
  clear hb
  go_wp2_with fail
  refine (slots_any q g 5 2 w5 Q4.out).mono ?_; rintro e w' ⟨rfl, rfl⟩
  go_wp2
  go_ret
  exact ⟨rfl, B5.out⟩
end Go.Proofs.Ytlpmpnhkghbdmaa
