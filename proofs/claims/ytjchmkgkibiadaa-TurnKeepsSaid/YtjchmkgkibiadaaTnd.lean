/-
  Contracts of package turn: Get, move, Put.
-/
import Derived.Test.YtjchmkgkibiadaaTnc
namespace Go.Proofs.Ytjchmkgkibiadaa
open Go.RowKit

theorem tget_nil (a : Int) (w : World) : Calls Try.prog 16 #[.pointer none, .int .i64 a] w fun e w' => e = .returned (.tuple #[.agg (lc zeros), .int .i64 1]) ∧ Below w.heap.size w w' :=
  by
  have HB := Lib.hid (bal (o := .cells (lc zeros) 33) (Below.refl w.heap.size w))
  have HN := Lib.hid (Ln.new w (l := zeros) rfl)
  have hz8 : zeros.length = 8 := rfl
  go_enter Try.func16, Try.ntmps16
  go_wp2_with fail
  refine (tready_nil a _).mono ?_; rintro e w' ⟨rfl, rfl⟩
  go_wp2
  exact bodyPost_ret (v := .tuple #[.agg (lc zeros), .int .i64 1]) (results_cell_tmp rfl _ _ _ _ _ _ _ _ rfl rfl HN.out.1 Try.underlying33 rfl (by rw [info_line]; rfl)) rfl ⟨rfl, HB.out⟩

set_option maxHeartbeats 1000000 in
/-- what a line holds is told -/
theorem tget_is {x g q n P per p M a : Nat} {y : List Int} {s : Nv} {w : World} (hy : thold s n P M a = y) (H : TOk s n P M) (hn2 : n ≤ 1000) (ha : a < n) (h : Tq w x g q n per p) (hQ : Lq w q g (n + 1) P) (hN : Nm w g s) :
    Calls Try.prog 16 #[.pointer (some ⟨x, 0, none⟩), .int .i64 (a : Int)] w fun e w' => e = .returned (.tuple #[.agg (lc y), .int .i64 0]) ∧ Below w.heap.size w w' := by
  have h8 : y.length = 8 := by rw [← hy]; exact H.l.ok.line _
  have hs1 := slN_lt (n := n) (by omega) M a
  obtain ⟨W, hW, H0⟩ := boxed1 w (a := [0, 0, 0, 0, 0, 0, 0, 0]) rfl
  have T1 := Lib.hid (h.below (H0.out.2.mono (Nat.le_refl _)))
  have L1 := Lib.hid (hQ.below (H0.out.2.mono (Nat.le_refl _)))
  have N1 := Lib.hid (hN.below (H0.out.2.mono (Nat.le_refl _)))
  have C := Lib.hid (tready_is H T1.out N1.out ha)
  have GC := Lib.hid (fun (w' : World) (hq : Lq w' q g (n + 1) P) (hn : Nm w' g s) => lget_is (x := y) hy H.l hs1 hq hn)
  have SC := Lib.hid (slot_yes n M a W.drew (by omega) (by have := H.m; omega) ha)
  have x0 : Hid (x ≠ w.heap.size) := Lib.hid (Nat.ne_of_lt h.lt)
  have c1 : ∀ w', Chg [w.heap.size] W w' → w'.cell? ⟨x, 1, none⟩ = some (.pointer (some ⟨q, 0, none⟩)) := fun w' hc => (T1.out.chg hc (by simpa using x0.out)).c1
  have c2 : ∀ w', Chg [w.heap.size] W w' → w'.cell? ⟨x, 2, none⟩ = some (.int .i64 (n : Int)) := fun w' hc => (T1.out.chg hc (by simpa using x0.out)).c2
  generalize slN n M a = sl at *
  clear h hQ hN H hy hs1 ha
  go_enter Try.func16, Try.ntmps16
  go_wp2_with fail
  refine (C.out).mono ?_; rintro e w' ⟨rfl, rfl⟩
  have hbd : Below W.heap.size W W.drew := (Below.refl _ _).drew
  go_wp2
  go_region_held3 (fun w' => Chg [w.heap.size] W w')
    (first | assumption | exact (Chg.refl _ _).drew | exact Chg.setRow (by assumption) (.inl (by simp)) _)
    (first
      | (go_at_call 29; refine (SC.out).mono ?_; rintro e wz ⟨rfl, rfl⟩)
      | (go_at_call 31; refine (GC.out _ (L1.out.below hbd) (N1.out.below hbd)).mono ?_; rintro e wy ⟨rfl, hby⟩
         have GY := (H0.out.1.below (hbd.mono (Nat.le_refl _))).below hby
         have hst := GY.store h8
         have FY := Lib.hid (GY.put h8)
         have CY := Lib.hid ((Chg.of_below hbd [w.heap.size]).trans (Chg.of_below hby [w.heap.size]))
         clear hby GY))
  have BF := Lib.hid ((CY.out.setRow (g := w.heap.size) (.inl (by simp)) (lc y)).below H0.out.2 H0.out.2.size (fun k hk => by rw [List.mem_singleton.1 hk]; exact Nat.le_refl _))
  go_wp2
  exact bodyPost_ret (v := .tuple #[.agg (lc y), .int .i64 0]) (results_cell_tmp rfl _ _ _ _ _ _ _ _ rfl rfl FY.out.1 Try.underlying33 rfl (by rw [info_line, lc_size, h8])) rfl ⟨rfl, BF.out⟩
/-- the moves that a move tells -/
def mvV (M : Nat) (e : Int) : Int := if e = 0 then ((M + 1 : Nat) : Int) else 0
theorem u64_same {a : Int} (h0 : 0 ≤ a) (h1 : a < 18446744073709551616) : IntKind.u64.wrap a = a := by simp [IntKind.wrap, IntKind.signed, IntKind.bits]; omega

set_option maxHeartbeats 1000000 in
theorem tmove_is {x g q n P per p M : Nat} {R : Int × Nv} {s : Nv} {w : World} (hR : tmove n P M s = R) (H : TOk s n P M) (hn : 0 < n) (hn2 : n ≤ 1000) (hm : M + 1 < 4611686018427387904) (hqg : q ≠ g) (hxg : x ≠ g) (hc : s.c + 500 < 4611686018427387904)
    (h : Tq w x g q n per p) (hQ : Lq w q g (n + 1) P) (hN : Nm w g s) :
    Calls Try.prog 27 #[.pointer (some ⟨x, 0, none⟩), .int .i64 (M : Int)] w fun e w' => e = .returned (.tuple #[.int .i64 (mvV M R.1), .int .i64 R.1]) ∧ Nm w' g R.2 ∧ Chg [g] w w' := by
  unfold tmove at hR
  obtain ⟨y, hy⟩ : ∃ y, hold s (n + 1) P (frN n M) = y := ⟨_, rfl⟩
  have h8 : y.length = 8 := by rw [← hy]; exact H.l.ok.line _
  have hfr : frN n M < n + 1 := Nat.lt_succ_of_le (frN_le n M)
  obtain ⟨o, oc⟩ := lput_out (a := gN n M) (d := y) H.l h8 (gN_lt M)
  have r0 := lput_rg (n + 1) P (gN n M : Nat) y s (k := 0) (by decide)
  rw [hy] at hR
  have MC := Lib.hid (move_yes n M w hn (by omega))
  have hgp := gN_lt (n := n) M
  have GC := Lib.hid (lget_is hy H.l hfr hQ hN)
  generalize frN n M = fr at *
  generalize gN n M = gp at *
  obtain ⟨Q, hQe⟩ : ∃ Q, lput (n + 1) P (gp : Int) y s = Q := ⟨_, rfl⟩
  rw [hQe] at hR o oc r0
  rcases Q with ⟨e1, s1⟩
  dsimp only at hR o oc r0
  have c0 := h.c0
  have c1 := h.c1
  have c2 := h.c2
  have KK : Hid (q ≠ g ∧ x ≠ g) := Lib.hid ⟨hqg, hxg⟩
  have PC := Lib.hid (fun (w' : World) (hl : Lq w' q g (n + 1) P) (hn : Nm w' g s) => lput_is hQe H.l h8 hqg (by omega) hl hn)
  have N0 := Lib.hid hN
  have L0 := Lib.hid hQ
  have T0 := Lib.hid h
  have OO := Lib.hid o
  have RR := Lib.hid (r0.trans H.rg)
  have HC : Hid (s1.c < 4611686018427387904) := Lib.hid (by omega)
  have own := o.own
  clear h hN hQ hQe H hy hfr hgp o r0 oc hqg hxg hc
  go_enter Try.func27, Try.ntmps27
  go_wp2_with fail
  refine (MC.out).mono ?_; rintro e w' ⟨rfl, rfl⟩
  go_wp2_with fail
  refine (GC.out).mono ?_; rintro e w1 ⟨rfl, hb⟩
  obtain ⟨W, hW, H1⟩ := boxed1 w1 h8
  have HB := Lib.hid (below_more hb (H1.out.2.mono (Nat.le_refl _)))
  have N1 := Lib.hid (N0.out.below HB.out)
  have L1 := Lib.hid (L0.out.below HB.out)
  have T1 := Lib.hid (T0.out.below HB.out)
  have hbg : Hid (w1.heap.size ∉ [g]) := Lib.hid (by have := N0.out.lt; have := hb.size; simp; omega)
  have l0 : ∀ w', Chg [g] W w' → (lineLoad (.pointer (some ⟨w1.heap.size, 0, none⟩))).run Try.prog w' = .ok (.agg (lc y)) w' := fun w' hc => (hc.ln H1.out.1 hbg.out).load
  have d1 : ∀ w', Chg [g] W w' → w'.cell? ⟨x, 1, none⟩ = some (.pointer (some ⟨q, 0, none⟩)) := fun w' hc => (T1.out.chg hc (by simpa using KK.out.2)).c1
  have hbd : Below W.heap.size W W.drew := (Below.refl _ _).drew
  clear hb c0 c1 c2
  go_wp2
  go_region_held3 (fun w' => Chg [g] W w')
    (first | assumption | exact (Chg.refl _ _).drew)
    (first
      | (go_at_call 28; refine (PC.out _ (L1.out.below hbd) (N1.out.below hbd)).mono ?_; rintro e wy ⟨rfl, hNy, hCy⟩
         have NY := Lib.hid hNy
         have CY := Lib.hid ((Chg.of_below hbd [g]).trans hCy)
         clear hNy hCy))
  have CW := Lib.hid ((Chg.of_below HB.out [g]).trans CY.out)
  have c0 := (T1.out.chg CY.out (by simpa using KK.out.2)).c0
  have TY := Lib.hid (T1.out.chg CY.out (by simpa using KK.out.2))
  clear l0 d1 hbd
  rcases own with ⟨rfl, q1, _⟩ | ⟨rfl, _⟩ | ⟨rfl, _⟩
  · rw [if_pos rfl] at hR
    have k1 : IntKind.u64.wrap (M : Int) = (M : Int) := u64_same (by omega) (by omega)
    have k2 : IntKind.u64.wrap ((M : Int) + 1) = ((M + 1 : Nat) : Int) := by rw [show (M : Int) + 1 = ((M + 1 : Nat) : Int) by omega]; exact u64_same (by omega) (by omega)
    have hc2 := set_cases q1 (k := 0) (by decide) ((M + 1 : Nat) : Int)
    obtain ⟨se, hse⟩ : ∃ se, s1.setE ((0 : Nat) : Int) = se := ⟨_, rfl⟩
    obtain ⟨s2, hs2⟩ : ∃ s2, s1.set ((0 : Nat) : Int) ((M + 1 : Nat) : Int) = s2 := ⟨_, rfl⟩
    have SC := set_is hse hs2 NY.out OO.out.ok HC.out
    rw [show ((0 : Nat) : Int) = 0 from rfl] at SC
    have SC := Lib.hid SC
    rw [hse, hs2] at hR hc2
    have ER := Lib.hid hR
    have hms : Hid (M + 1 < 4611686018427387904) := Lib.hid hm
    clear hR hse hs2 q1 hm
    generalize hM1 : M + 1 = M1 at *
    have EM := Lib.hid hM1
    clear hM1
    go_wp2_with fail
    refine (SC.out).mono ?_; rintro e wf ⟨rfl, hNf, _, hCf⟩
    have NF := Lib.hid hNf
    have CF := Lib.hid (CW.out.trans hCf)
    have TF := Lib.hid (TY.out.chg hCf (by simpa using KK.out.2))
    clear hNf hCf c0
    rcases hc2 with ⟨rfl, v1, v2⟩ | ⟨rfl, _⟩
    · have MV := Lib.hid (tmoves_is (M := M1) TF.out.c0 NF.out v1 (by rw [v2]; exact upd_same _ _ _) hms.out)
      clear v1 v2
      go_wp2_with fail
      refine (MV.out).mono ?_; rintro e w' ⟨rfl, rfl⟩
      go_wp2
      go_ret2
      exact ⟨by rw [← ER.out]; dsimp only; rw [mvV, if_pos rfl, EM.out]; rfl, by rw [← ER.out]; exact NF.out, CF.out⟩
    · go_wp2
      go_ret2
      exact ⟨by rw [← ER.out]; rfl, by rw [← ER.out]; exact NF.out, CF.out⟩
  · rw [if_neg (by decide)] at hR
    have ER := Lib.hid hR
    clear hR
    go_wp2
    go_ret2
    exact ⟨by rw [← ER.out]; rfl, by rw [← ER.out]; exact NY.out, CW.out⟩
  · rw [if_neg (by decide)] at hR
    have ER := Lib.hid hR
    clear hR
    go_wp2
    go_ret2
    exact ⟨by rw [← ER.out]; rfl, by rw [← ER.out]; exact NY.out, CW.out⟩
theorem tput_nil (a : Int) (d : List Int) (w : World) : Calls Try.prog 13 #[.pointer none, .int .i64 a, .agg (lc d)] w fun e w' => e = .returned (.int .i64 1) ∧ Below w.heap.size w w' := by
  have HB := Lib.hid (bal (o := .cells (lc d) 33) (Below.refl w.heap.size w))
  go_enter Try.func13, Try.ntmps13
  go_wp2_with fail
  refine (tready_nil a _).mono ?_; rintro e w' ⟨rfl, rfl⟩
  go_wp2_with fail
  go_ret
  exact ⟨rfl, HB.out⟩
theorem tput_no {x g q n per p : Nat} {a : Int} {d : List Int} {w : World} (h : Tq w x g q n per p) (ha : ¬ (0 ≤ a ∧ a < n)) :
    Calls Try.prog 13 #[.pointer (some ⟨x, 0, none⟩), .int .i64 a, .agg (lc d)] w fun e w' => e = .returned (.int .i64 1) ∧ Below w.heap.size w w' := by
  have HB := Lib.hid (bal (o := .cells (lc d) 33) (Below.refl w.heap.size w))
  have C := Lib.hid (tready_out (h.alloc (.cells (lc d) 33)) ha)
  clear h ha
  go_enter Try.func13, Try.ntmps13
  go_wp2_with fail
  refine (C.out).mono ?_; rintro e w' ⟨rfl, rfl⟩
  go_wp2_with fail
  go_ret
  exact ⟨rfl, HB.out⟩

set_option maxHeartbeats 2000000 in
theorem tput_is {x g q n P per p M a : Nat} {d : List Int} {R : Int × Nv} {s : Nv} {w : World} (hR : tput n P per p M a d s = R) (H : TOk s n P M) (hn2 : n ≤ 1000) (ha : a < n) (hd8 : d.length = 8) (hm : M + 1 < 4611686018427387904) (hp : p < 4611686018427387904)
    (hqg : q ≠ g) (hxg : x ≠ g) (hxq : x ≠ q) (hc : s.c + 500 < 4611686018427387904) (h : Tq w x g q n per p) (hQ : Lq w q g (n + 1) P) (hN : Nm w g s) :
    Calls Try.prog 13 #[.pointer (some ⟨x, 0, none⟩), .int .i64 (a : Int), .agg (lc d)] w fun e w' => e = .returned (.int .i64 R.1) ∧ Nm w' g R.2 ∧ Tq w' x g q n per (tp per p) ∧ Lq w' q g (n + 1) P ∧ Chg [g, x] w w' := by
  have hn : 0 < n := by omega
  obtain ⟨W, hW, H0⟩ := boxed1 w hd8
  have T0 := Lib.hid (h.below (H0.out.2.mono (Nat.le_refl _)))
  have L0 := Lib.hid (hQ.below (H0.out.2.mono (Nat.le_refl _)))
  have N0 := Lib.hid (hN.below (H0.out.2.mono (Nat.le_refl _)))
  have KK : Hid (q ≠ g ∧ x ≠ g ∧ q ≠ x ∧ w.heap.size ≠ g ∧ w.heap.size ≠ x) := Lib.hid ⟨hqg, hxg, fun e => hxq e.symm, by have := hN.lt; omega, by have := h.lt; omega⟩
  have C := Lib.hid (tready_is H T0.out N0.out ha)
  have DC := Lib.hid (due_is T0.out hp)
  have B0 := Lib.hid (Chg.of_below H0.out.2 [g, x])
  have HT := Lib.hid H
  have HK : Hid (a < n ∧ n ≤ 1000 ∧ M + 1 < 4611686018427387904 ∧ s.c + 500 < 4611686018427387904) := Lib.hid ⟨ha, hn2, hm, hc⟩
  clear h hQ hN hp hqg hxg hxq
  unfold tput at hR
  by_cases hpp : per ≤ p + 1
  · rw [if_pos hpp] at hR
    rw [decide_eq_true hpp] at DC
    obtain ⟨Q, hQe⟩ : ∃ Q, tmove n P M s = Q := ⟨_, rfl⟩
    obtain ⟨M', o, oc⟩ := tmove_out H hn
    rw [hQe] at hR o oc
    rcases Q with ⟨e1, s1⟩
    dsimp only at hR o oc
    have QE := Lib.hid hQe
    have OO := Lib.hid o
    have OC : Hid (s1.c ≤ s.c + 41) := Lib.hid oc
    have HR := Lib.hid hR
    clear hpp hQe o oc hR H ha hn2 hm hc
    go_enter Try.func13, Try.ntmps13
    go_wp2_with fail
    refine (C.out).mono ?_; rintro e w' ⟨rfl, rfl⟩
    go_wp2_with fail
    refine (DC.out).mono ?_; rintro e w1 ⟨rfl, hT, hC⟩
    have N1 := Lib.hid (N0.out.chg hC (by simpa using fun e => KK.out.2.1 e.symm))
    have L1 := Lib.hid (L0.out.chg hC (by simpa using KK.out.2.2.1))
    have T1 := Lib.hid hT
    have C1 := Lib.hid (B0.out.trans (hC.mono (by simp)))
    have G1 := Lib.hid (hC.ln H0.out.1 (by simpa using KK.out.2.2.2.2))
    clear hT hC
    have MC := Lib.hid (tmove_is QE.out HT.out hn HK.out.2.1 HK.out.2.2.1 KK.out.1 KK.out.2.1 HK.out.2.2.2 T1.out L1.out N1.out)
    go_wp2_with fail
    refine (MC.out).mono ?_; rintro e w2 ⟨rfl, hNm, hC⟩
    have N2 := Lib.hid hNm
    have L2 := Lib.hid (L1.out.chg hC (by simpa using KK.out.1))
    have T2 := Lib.hid (T1.out.chg hC (by simpa using KK.out.2.1))
    have C2 := Lib.hid (C1.out.trans (hC.mono (by simp)))
    have G2 := Lib.hid (hC.ln G1.out (by simpa using KK.out.2.2.2.1))
    clear hNm hC
    by_cases he : e1 = 0
    · subst he
      have hR := HR.out
      rw [if_pos rfl] at hR
      have hmv : mvV M 0 = ((M + 1 : Nat) : Int) := by rw [mvV, if_pos rfl]
      dsimp only
      rw [hmv]
      obtain ⟨d1, hM⟩ : s1.dark = false ∧ M' = M + 1 := by rcases OO.out.own with ⟨_, h1, h2⟩ | ⟨h, _⟩ | ⟨h, _⟩ <;> first | exact ⟨h1, h2⟩ | cases h
      subst hM
      have H1 := OO.out.tok HT.out d1 HK.out.2.2.1
      have hs1 := slN_lt (n := n) hn (M + 1) a
      have SC := Lib.hid (slot_yes n (M + 1) a w2.drew (by have := HK.out.2.1; omega) (by have := HK.out.2.2.1; omega) HK.out.1)
      have PC := Lib.hid (fun (w' : World) (hl : Lq w' q g (n + 1) P) (hn : Nm w' g s1) => lput_is hR H1.l hd8 KK.out.1 (by have := OC.out; have := HK.out.2.2.2; omega) hl hn)
      generalize slN n (M + 1) a = sl at *
      generalize M + 1 = M1 at *
      have l0 : ∀ w', Chg [g] w2 w' → (lineLoad (.pointer (some ⟨w.heap.size, 0, none⟩))).run Try.prog w' = .ok (.agg (lc d)) w' := fun w' hc => (hc.ln G2.out (by simpa using KK.out.2.2.2.1)).load
      have d1 : ∀ w', Chg [g] w2 w' → w'.cell? ⟨x, 1, none⟩ = some (.pointer (some ⟨q, 0, none⟩)) := fun w' hc => (T2.out.chg hc (by simpa using KK.out.2.1)).c1
      have d2 : ∀ w', Chg [g] w2 w' → w'.cell? ⟨x, 2, none⟩ = some (.int .i64 (n : Int)) := fun w' hc => (T2.out.chg hc (by simpa using KK.out.2.1)).c2
      have hbd : Below w2.heap.size w2 w2.drew := (Below.refl _ _).drew
      clear hR hmv H1 hs1
      go_wp2
      go_region_held3 (fun w' => Chg [g] w2 w')
        (first | assumption | exact (Chg.refl _ _).drew)
        (first
          | (go_at_call 29; refine (SC.out).mono ?_; rintro e wz ⟨rfl, rfl⟩)
          | (go_at_call 28; refine (PC.out _ (L2.out.below hbd) (N2.out.below hbd)).mono ?_; rintro e wy ⟨rfl, hNy, hCy⟩
             have NY := Lib.hid hNy
             have CY := Lib.hid ((Chg.of_below hbd [g]).trans hCy)
             clear hNy hCy))
      have TY := Lib.hid (T2.out.chg CY.out (by simpa using KK.out.2.1))
      have LY := Lib.hid (L2.out.chg CY.out (by simpa using KK.out.1))
      have CW := Lib.hid (C2.out.trans (CY.out.mono (by simp)))
      clear l0 d1 d2
      go_wp2
      go_ret
      exact ⟨rfl, NY.out, TY.out, LY.out, CW.out⟩
    · have hR := HR.out
      rw [if_neg he] at hR
      have ER := Lib.hid hR
      have t0 : (e1 == 0) = false := by simpa using he
      clear hR he
      go_wp2
      go_ret
      exact ⟨by rw [← ER.out]; rfl, by rw [← ER.out]; exact N2.out, T2.out, L2.out, C2.out⟩
  · rw [if_neg hpp] at hR
    rw [decide_eq_false hpp] at DC
    have hs1 := slN_lt (n := n) hn M a
    have SC := Lib.hid (fun w' => slot_yes n M a w' (by have := HK.out.2.1; omega) (by have := HK.out.2.2.1; omega) HK.out.1)
    have PC := Lib.hid (fun (w' : World) (hl : Lq w' q g (n + 1) P) (hn : Nm w' g s) => lput_is hR H.l hd8 KK.out.1 (by have := HK.out.2.2.2; omega) hl hn)
    generalize slN n M a = sl at *
    clear hpp hR H ha hn2 hm hc hs1
    go_enter Try.func13, Try.ntmps13
    go_wp2_with fail
    refine (C.out).mono ?_; rintro e w' ⟨rfl, rfl⟩
    go_wp2_with fail
    refine (DC.out).mono ?_; rintro e w2 ⟨rfl, hT, hC⟩
    have N2 := Lib.hid (N0.out.chg hC (by simpa using fun e => KK.out.2.1 e.symm))
    have L2 := Lib.hid (L0.out.chg hC (by simpa using KK.out.2.2.1))
    have T2 := Lib.hid hT
    have C2 := Lib.hid (B0.out.trans (hC.mono (by simp)))
    have G2 := Lib.hid (hC.ln H0.out.1 (by simpa using KK.out.2.2.2.2))
    clear hT hC
    have l0 : ∀ w', Chg [g] w2 w' → (lineLoad (.pointer (some ⟨w.heap.size, 0, none⟩))).run Try.prog w' = .ok (.agg (lc d)) w' := fun w' hc => (hc.ln G2.out (by simpa using KK.out.2.2.2.1)).load
    have d1 : ∀ w', Chg [g] w2 w' → w'.cell? ⟨x, 1, none⟩ = some (.pointer (some ⟨q, 0, none⟩)) := fun w' hc => (T2.out.chg hc (by simpa using KK.out.2.1)).c1
    have d2 : ∀ w', Chg [g] w2 w' → w'.cell? ⟨x, 2, none⟩ = some (.int .i64 (n : Int)) := fun w' hc => (T2.out.chg hc (by simpa using KK.out.2.1)).c2
    have hbd : Below w2.heap.size w2 w2.drew := (Below.refl _ _).drew
    go_wp2
    go_region_held3 (fun w' => Chg [g] w2 w')
      (first | assumption | exact (Chg.refl _ _).drew)
      (first
        | (go_at_call 29; refine (SC.out _).mono ?_; rintro e wz ⟨rfl, rfl⟩)
        | (go_at_call 28; refine (PC.out _ (L2.out.below hbd) (N2.out.below hbd)).mono ?_; rintro e wy ⟨rfl, hNy, hCy⟩
           have NY := Lib.hid hNy
           have CY := Lib.hid ((Chg.of_below hbd [g]).trans hCy)
           clear hNy hCy))
    have TY := Lib.hid (T2.out.chg CY.out (by simpa using KK.out.2.1))
    have LY := Lib.hid (L2.out.chg CY.out (by simpa using KK.out.1))
    have CW := Lib.hid (C2.out.trans (CY.out.mono (by simp)))
    clear l0 d1 d2
    go_wp2
    go_ret
    exact ⟨rfl, NY.out, TY.out, LY.out, CW.out⟩
end Go.Proofs.Ytjchmkgkibiadaa
