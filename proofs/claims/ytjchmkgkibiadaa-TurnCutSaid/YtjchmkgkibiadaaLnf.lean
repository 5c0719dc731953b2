/-
  Contract of package lines' Put.
-/
import Derived.Test.YtjchmkgkibiadaaLne
namespace Go.Proofs.Ytjchmkgkibiadaa
open Go.RowKit

theorem lput_nil (a : Int) (d : List Int) (w : World) : Calls Try.prog 28 #[.pointer none, .int .i64 a, .agg (lc d)] w fun e w' => e = .returned (.int .i64 1) ∧ Below w.heap.size w w' := by
  have HB := Lib.hid (bal (o := .cells (lc d) 33) (Below.refl w.heap.size w))
  go_enter Try.func28, Try.ntmps28
  go_wp2_with fail
  refine (lready_nil a _).mono ?_; rintro e w' ⟨rfl, rfl⟩
  go_wp2_with fail
  go_ret
  exact ⟨rfl, HB.out⟩
theorem lput_out_ (q g S P : Nat) (a : Int) (d : List Int) (w : World) (h : Lq w q g S P) (ha : ¬ (0 ≤ a ∧ a < S)) :
    Calls Try.prog 28 #[.pointer (some ⟨q, 0, none⟩), .int .i64 a, .agg (lc d)] w fun e w' => e = .returned (.int .i64 1) ∧ Below w.heap.size w w' := by
  have HB := Lib.hid (bal (o := .cells (lc d) 33) (Below.refl w.heap.size w))
  have C := Lib.hid (ready_out q g S P a _ (h.alloc (.cells (lc d) 33)) ha)
  clear h ha
  go_enter Try.func28, Try.ntmps28
  go_wp2_with fail
  refine (C.out).mono ?_; rintro e w' ⟨rfl, rfl⟩
  go_wp2_with fail
  go_ret
  exact ⟨rfl, HB.out⟩
theorem lput_dark (q g S P : Nat) (s : Nv) (a : Int) (d : List Int) (w : World) (h : Lq w q g S P) (hN : Nm w g s) (ha : 0 ≤ a) (has : a < S) (hd : s.dark = true) :
    Calls Try.prog 28 #[.pointer (some ⟨q, 0, none⟩), .int .i64 a, .agg (lc d)] w fun e w' => e = .returned (.int .i64 2) ∧ Below w.heap.size w w' := by
  have HB := Lib.hid (bal (o := .cells (lc d) 33) (Below.refl w.heap.size w))
  have C := Lib.hid (ready_dark q g S P s a _ (h.alloc (.cells (lc d) 33)) (hN.alloc _) ha has hd)
  clear h hN ha has hd
  go_enter Try.func28, Try.ntmps28
  go_wp2_with fail
  refine (C.out).mono ?_; rintro e w' ⟨rfl, rfl⟩
  go_wp2_with fail
  go_ret
  exact ⟨rfl, HB.out⟩

set_option maxHeartbeats 1000000 in
theorem lput_live (q g S P : Nat) (s : Nv) (a : Int) (d : List Int) (w : World) (h : Lq w q g S P) (hN : Nm w g s) (ho : s.Ok) (hP : P ≤ 16) (hS : S ≤ 1000) (ha : 0 ≤ a) (has : a < S) (hd : s.dark = false) (hd8 : d.length = 8) (hqg : q ≠ g) (hc : s.c + 200 < 4611686018427387904) :
    Calls Try.prog 28 #[.pointer (some ⟨q, 0, none⟩), .int .i64 a, .agg (lc d)] w fun e w' => e = .returned (.int .i64 (lput S P a d s).1) ∧ Nm w' g (lput S P a d s).2 ∧ Chg [g] w w' := by
  obtain ⟨R, hR⟩ : ∃ R, lput S P a d s = R := ⟨_, rfl⟩
  have ER := hR
  unfold lput at ER
  rw [if_pos ⟨ha, has⟩, hd] at ER
  simp only [Bool.false_eq_true, if_false] at ER
  rw [hR]
  obtain ⟨pl, hpl⟩ : ∃ pl, placeT (s.tb P) S a = pl := ⟨_, rfl⟩
  rw [hpl] at ER
  have HR := Lib.hid ER
  have HP := Lib.hid hpl
  obtain ⟨W0, hW0, H0⟩ := boxed1 w hd8
  have L0 := Lib.hid (h.below H0.out.2)
  have N0 := Lib.hid (hN.below H0.out.2)
  have C := Lib.hid (ready_live q g S P s a W0 L0.out N0.out hP ha has hd)
  have hT := s.tb_length P
  have PA := Lib.hid (fun (w' : World) (hn : Nm w' g s) => put_any g s pl d w' hn ho (by omega) hd8)
  have OK1 := Lib.hid (ho.put hd8 pl)
  have c1s := s.put_c pl d
  have C1S : Hid ((s.put pl d).c + 100 < 4611686018427387904) := Lib.hid (by omega)
  have KK : Hid (q < w.heap.size ∧ g < w.heap.size ∧ q ≠ g) := Lib.hid ⟨h.lt, hN.lt, hqg⟩
  clear h hN ho hR ER hpl hqg hc c1s
  go_enter Try.func28, Try.ntmps28
  go_wp2_with fail
  refine (C.out).mono ?_; rintro e W ⟨v, rfl, hO, hB⟩
  have L1 := Lib.hid (L0.out.below hB)
  have N1 := Lib.hid (N0.out.below hB)
  have B1 := Lib.hid (below_more H0.out.2 hB)
  have G1 := Lib.hid (H0.out.1.below hB)
  have O1 := Lib.hid (hO.mono H0.out.2.size)
  have PC := Lib.hid (place_any v (s.tb P) S a W.drew hO.ru (by rw [hT]; omega))
  have c0 : ∀ w', Chg [g] W w' → w'.cell? ⟨q, 0, none⟩ = some (.pointer (some ⟨g, 0, none⟩)) := fun w' hc => (L1.out.chg hc (by simpa using KK.out.2.2)).cells.1
  have c1 : ∀ w', Chg [g] W w' → w'.cell? ⟨q, 1, none⟩ = some (.int .i64 (S : Int)) := fun w' hc => (L1.out.chg hc (by simpa using KK.out.2.2)).cells.2.1
  have hbg : Hid (w.heap.size ∉ [g]) := Lib.hid (by have := KK.out.2.1; simp; omega)
  have l0 : ∀ w', Chg [g] W w' → (lineLoad (.pointer (some ⟨w.heap.size, 0, none⟩))).run Try.prog w' = .ok (.agg (lc d)) w' := fun w' hc => (hc.ln G1.out hbg.out).load
  clear hO hB
  rw [HP.out] at PC
  have hbd : Below W.heap.size W W.drew := (Below.refl _ _).drew
  go_wp2
  go_region_held3 (fun w' => Chg [g] W w')
    (first | assumption | exact (Chg.refl _ _).drew)
    (first
      | (go_at_call 43; refine (PC.out).mono ?_; rintro e wz ⟨rfl, hbz⟩
         have NZ := Lib.hid (N1.out.below (hbd.trans hbz))
         have CZ := Lib.hid (Chg.of_below (hbd.trans hbz) [g])
         clear hbz)
      | (go_at_call 42; refine (PA.out _ NZ.out).mono ?_; rintro e wy ⟨rfl, hNy, hCy⟩
         have NY := Lib.hid hNy
         have CY := Lib.hid (CZ.out.trans hCy)
         clear hNy hCy))
  have CW := Lib.hid ((Chg.of_below B1.out [g]).trans CY.out)
  have OY := Lib.hid (O1.out.chg CY.out (by simpa using KK.out.2.1))
  have LY := Lib.hid (L1.out.chg CY.out (by simpa using KK.out.2.2))
  have ly := (CY.out.ln G1.out hbg.out).load
  by_cases hp3 : s.putE pl = 3
  · have RP := Lib.hid (replace_any q g S P (s.put pl d) a d (s.tb P) v w wy LY.out NY.out OY.out hT CW.out KK.out.1 KK.out.2.1 KK.out.2.2 hP hS (by omega) ha has OK1.out C1S.out hd8)
    have ER := HR.out
    rw [if_pos hp3] at ER
    rw [ER] at RP
    rw [hp3]
    clear ER
    go_wp2_with fail
    refine (RP.out).mono ?_; rintro e wf ⟨rfl, hNf, hCf⟩
    have NF := Lib.hid hNf
    have CF := Lib.hid hCf
    clear hNf hCf
    go_wp2
    go_ret
    exact ⟨rfl, NF.out, CF.out⟩
  · have ER := HR.out
    rw [if_neg hp3] at ER
    obtain ⟨pe, hpe⟩ : ∃ pe, s.putE pl = pe := ⟨_, rfl⟩
    have H1 : Hid (pe = R.1) := Lib.hid (by rw [← ER, hpe])
    have H2 : Hid (Nm wy g R.2) := Lib.hid (by rw [← ER]; exact NY.out)
    rw [hpe] at hp3 ⊢
    have t0 : (pe == 3) = false := by simpa using hp3
    clear ER hpe hp3
    go_wp2
    go_ret
    exact ⟨ret_i64 H1.out, H2.out, CW.out⟩

theorem lput_any (q g S P : Nat) (s : Nv) (a : Int) (d : List Int) (w : World) (h : Lq w q g S P) (hN : Nm w g s) (ho : s.Ok) (hP : P ≤ 16) (hS : S ≤ 1000) (hd8 : d.length = 8) (hqg : q ≠ g) (hc : s.c + 200 < 4611686018427387904) :
    Calls Try.prog 28 #[.pointer (some ⟨q, 0, none⟩), .int .i64 a, .agg (lc d)] w fun e w' => e = .returned (.int .i64 (lput S P a d s).1) ∧ Nm w' g (lput S P a d s).2 ∧ Chg [g] w w' := by
  by_cases ha : 0 ≤ a ∧ a < S
  · cases hd : s.dark
    · exact lput_live q g S P s a d w h hN ho hP hS ha.1 ha.2 hd hd8 hqg hc
    · refine (lput_dark q g S P s a d w h hN ha.1 ha.2 hd).mono ?_
      rintro e w' ⟨rfl, hb⟩
      rw [lput, if_pos ha, hd]
      exact ⟨rfl, hN.below hb, Chg.of_below hb _⟩
  · refine (lput_out_ q g S P a d w h ha).mono ?_
    rintro e w' ⟨rfl, hb⟩
    rw [lput, if_neg ha]
    exact ⟨rfl, hN.below hb, Chg.of_below hb _⟩
end Go.Proofs.Ytjchmkgkibiadaa
