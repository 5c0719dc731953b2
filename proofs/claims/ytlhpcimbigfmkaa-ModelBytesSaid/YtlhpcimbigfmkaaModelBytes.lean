/-
  What is written is read; what is not written is nought; beyond a block's end nothing is had. No conditions.
-/
import Derived.Test.YtlhpcimbigfmkaaMby
namespace Go.Proofs.Ytlhpcimbigfmkaa.modelBytes
set_option maxRecDepth 100000
open Go.Proofs.Ytlhpcimbigfmkaa Go.ChangeShapes Go.WideShapes Go.ChangeAt Go.RowKit

theorem part200 (a : Int) : ∃ u m n : Nat, IntKind.u64.wrap a = (u : Int) ∧ (u : Int).tmod 200 = (m : Int) ∧ IntKind.i64.wrap (m : Int) = (m : Int) ∧ IntKind.i64.wrap (1 + (m : Int)) = (n : Int) ∧ 1 ≤ n ∧ n ≤ 200 := by
  obtain ⟨u, h, _⟩ := u64_nat a
  have := Nat.mod_lt u (show 0 < 200 by decide)
  exact ⟨u, u % 200, 1 + u % 200, h, tmod_nat u 200, i64_nat _ (by omega), by rw [show 1 + ((u % 200 : Nat) : Int) = ((1 + u % 200 : Nat) : Int) by omega]; exact i64_nat _ (by omega), by omega, by omega⟩
theorem part1 (a : Int) (B : Nat) (h1 : B ≤ 448) : ∃ u M k : Nat, IntKind.i64.wrap ((B : Int) + 1) = (M : Int) ∧ IntKind.u64.wrap a = (u : Int) ∧ IntKind.u64.wrap (M : Int) = (M : Int) ∧ ¬ M = 0 ∧ (u : Int).tmod (M : Int) = (k : Int) ∧ IntKind.i64.wrap (k : Int) = (k : Int) ∧ k ≤ B := by
  obtain ⟨u, hu, _⟩ := u64_nat a
  have hlt : u % (B + 1) < B + 1 := Nat.mod_lt _ (by omega)
  refine ⟨u, B + 1, u % (B + 1), by rw [show (B : Int) + 1 = ((B + 1 : Nat) : Int) by omega]; exact i64_nat _ (by omega), hu, by rw [IntKind.wrap_u64]; omega, by omega, tmod_nat u (B + 1), i64_nat _ (by omega), by omega⟩

theorem much (a0 a1 : Int) (q : Option Addr) (L d : Nat) (w : World) (h : 100 < L) :
    Calls Try.prog 7 #[.int .i64 a0, .int .i64 a1, .slice q L d] w fun e w' => e = .returned (.bool true) ∧ Below w.heap.size w w' := by
  obtain ⟨u, m, n, j0, j1, j2, j3, _, _⟩ := part200 a0
  have i1 : (L : Int) > 100 := by omega
  clear h
  go_enter Try.func7, Try.ntmps7
  go_wp2_with fail
  refine (awake_any _).mono ?_; rintro e w' ⟨rfl, hb⟩
  go_wp2_with fail
  go_ret
  exact ⟨rfl, hb⟩

theorem made_bytes (n : Nat) : (madeCells #[.int .u8 0] n).toList = List.replicate n (.int .u8 0) := by rw [toList_madeCells_one]
theorem size_u8 : (Try.prog.info? 5).map (·.size) = some 1 := by kernel_rfl
set_option maxHeartbeats 4000000 in
theorem few (a0 a1 : Int) (q : Option Addr) (d : Nat) (bl : List Int) (w : World) (hu : RA byE w (.slice q bl.length d) bl) (hL : bl.length ≤ 100) (_h1 : (Lit.int .i64 a1).wf = true) :
    Calls Try.prog 7 #[.int .i64 a0, .int .i64 a1, .slice q bl.length d] w fun e w' => e = .returned (.bool true) ∧ Below w.heap.size w w' := by
  obtain ⟨u, m, n, j0, j1, j2, j3, j4, j5⟩ := part200 a0
  have C1 := Lib.hid (mnew_yes 64 (by decide) w)
  obtain ⟨K, hK⟩ : ∃ K : Nat, needN n = K := ⟨(needN n).toNat, by unfold needN; split <;> omega⟩
  have hk2 : 2 ≤ K ∧ K ≤ 26 := by
    unfold needN at hK
    split at hK <;> omega
  obtain ⟨K1, hK1⟩ : ∃ K1, K - 1 = K1 := ⟨_, rfl⟩
  obtain ⟨R, hR⟩ : ∃ R, 8 * (K - 1) = R := ⟨_, rfl⟩
  obtain ⟨u2, M1, A, t1, t2, t3, t4, t5, t6, t7⟩ := part1 a1 R (by omega)
  have F := Lib.hid (fresh_is (N := 64) (k := (K : Int)) (by decide) (by omega) (by omega))
  have ONE := Lib.hid (oneB_is (N := 64) (K := K) (by decide) hk2.1 (by omega))
  have CN := Lib.hid (fun w => rneed_is n w)
  rw [hK] at CN
  have i1 : ¬ (bl.length : Int) > 100 := by omega
  have k1 : IntKind.i64.wrap ((K : Int) - 1) = (K1 : Int) := by rw [show (K : Int) - 1 = (K1 : Int) by omega]; exact i64_nat _ (by omega)
  have k2 : IntKind.i64.wrap ((K1 : Int) * 8) = (R : Int) := by rw [show (K1 : Int) * 8 = (R : Int) by omega]; exact i64_nat _ (by omega)
  have k3 : IntKind.i64.wrap (8 + (A : Int)) = ((8 + A : Nat) : Int) := by rw [show 8 + (A : Int) = ((8 + A : Nat) : Int) by omega]; exact i64_nat _ (by omega)
  have k4 : IntKind.i64.wrap ((R : Int) + 9) = ((R + 9 : Nat) : Int) := by rw [show (R : Int) + 9 = ((R + 9 : Nat) : Int) by omega]; exact i64_nat _ (by omega)
  have k5 : IntKind.i64.wrap ((A : Int) + (bl.length : Int)) = ((A + bl.length : Nat) : Int) := by rw [show (A : Int) + (bl.length : Int) = ((A + bl.length : Nat) : Int) by omega]; exact i64_nat _ (by omega)
  obtain ⟨O, hO⟩ : ∃ O, 8 + A = O := ⟨_, rfl⟩
  obtain ⟨R9, hR9⟩ : ∃ O, R + 9 = O := ⟨_, rfl⟩
  obtain ⟨AL, hAL⟩ : ∃ O, A + bl.length = O := ⟨_, rfl⟩
  rw [hO] at k3
  rw [hR9] at k4
  rw [hAL] at k5
  have hmk := run_make_row' (P := Try.prog) 33 5 (.int .u8 0) 1 Try.underlying33 byE.hi rfl .i64 .i64 R (by omega) (by omega)
  have HU := Lib.hid (fun w' (hb : Below w.heap.size w w') => ra_below hu hb)
  have NUM := Lib.hid (show 2 ≤ K ∧ K ≤ 26 ∧ K - 1 = K1 ∧ 8 * (K - 1) = R ∧ A ≤ R ∧ 8 + A = O ∧ R + 9 = R9 ∧ A + bl.length = AL ∧ bl.length ≤ 100 from ⟨hk2.1, hk2.2, hK1, hR, t7, hO, hR9, hAL, hL⟩)
  have HBY := Lib.hid (ra_ok hu)
  have OVER : Hid (∀ wl : List Int, blkF wl = some (alB K [⟨0, 64, false⟩] 8) → refF wl 8 R9 = 1) := Lib.hid fun wl hB => by
    have h1 := ONE.out.ref 8 R9
    have := NUM.out
    rw [if_neg (by omega)] at h1
    unfold refF at h1 ⊢
    rw [ONE.out.hB] at h1
    rw [hB]
    exact h1
  clear hk2 hK1 hR t7 hO hR9 hAL hL j4 j5 hu
  by_cases hle : AL ≤ R
  · by_cases hRA : R = A
    · first | subst hRA | skip
      have REF : Hid (refF (alW (firstL (64 : Nat)) K [⟨0, (64 : Nat), false⟩] 8) O bl.length = 0) := Lib.hid (by
        have := NUM.out
        rw [ONE.out.ref, if_pos (by omega)])
      have x1 : (AL : Int) ≤ (R : Int) := by omega
      have x2 : decide (AL ≤ R) = true := decide_eq_true hle
      go_enter Try.func7, Try.ntmps7
      go_wp2_with fail
      refine (C1.out).mono ?_; rintro e w1 ⟨⟨g, rfl, hg, hM⟩, b1⟩
      have M1 := Lib.hid (hM [] (fun _ h => by cases h))
      have hgw : g < w1.heap.size := M1.out.dlt g (List.mem_cons_self ..)
      have D1 := Lib.hid b1
      have HG := Lib.hid (show ∀ k ∈ [g], w.heap.size ≤ k from fun k hk => by rw [List.mem_singleton.1 hk]; exact hg)
      clear b1 hg hM C1
      have C3 := Lib.hid (malloc_is n 8 w1 M1.out)
      rw [hK, F.out.alq] at C3
      simp only [Option.isSome_some] at C3
      go_wp2_with fail
      refine (C3.out).mono ?_; rintro e w3 ⟨rfl, m3, c3⟩
      have D3 := Lib.hid (below_chg D1.out c3 HG.out)
      have M3 := Lib.hid m3
      clear m3 c3 C3
      go_wp2_with fail
      refine (CN.out _).mono ?_; rintro e w4 ⟨rfl, rfl⟩
      have C4 := Lib.hid (mwrite_is O bl _ w3 M3.out (HU.out w3 D3.out) (by have := NUM.out; omega))
      rw [REF.out] at C4
      go_wp2_with fail
      refine (C4.out).mono ?_; rintro e w5 ⟨rfl, E, tE, m5, c5⟩
      have D5 := Lib.hid (below_chg D3.out c5 HG.out)
      have M5 := Lib.hid m5
      have RD : Hid (refF (appF (alW (firstL (64 : Nat)) K [⟨0, (64 : Nat), false⟩] 8) E) 8 R = 0 ∧ rdR (appF (alW (firstL (64 : Nat)) K [⟨0, (64 : Nat), false⟩] 8) E) 8 R = splice (List.replicate R 0) R bl) := Lib.hid (by
        have := NUM.out
        have h1 := oneB_wrote ONE.out (by omega) (by omega) (by omega) (at_ := R) (bl := bl) (by omega) (M := E) (by rw [show 8 + R = O by omega]; exact tE) m5.hB
        rw [show 8 * (K - 1) = R by omega] at h1
        exact h1)
      have OV := Lib.hid (OVER.out _ m5.hB)
      clear m5 c5 C4 tE
      generalize appF (alW (firstL (64 : Nat)) K [⟨0, (64 : Nat), false⟩] 8) E = wl2 at *
      have C5 := Lib.hid (mread_is 8 R w5 M5.out)
      rw [RD.out.1, RD.out.2] at C5
      go_wp2_with fail
      refine (C5.out).mono ?_; rintro e w6 ⟨⟨v6, rfl, o6⟩, b6⟩
      have D6 := Lib.hid (below_more D5.out b6)
      have O6 := Lib.hid o6.ra
      have M6 := Lib.hid (M5.out.below b6)
      have HU6 := Lib.hid (HU.out w6 D6.out)
      clear b6 o6 C5
      obtain ⟨W7, hW7⟩ : ∃ W, w6.alloc (.cells (madeCells #[.int .u8 0] R) 5) = W := ⟨_, rfl⟩
      have hB7 : Below w6.heap.size w6 W7 := by rw [← hW7]; exact bal (Below.refl _ _)
      have hg7 : W7.heap[w6.heap.size]? = some (.cells (List.replicate R (.int .u8 0)).toArray 5 (0, 0)) := by
        rw [← hW7, ← made_bytes, Array.toArray_toList]; exact heap_alloc_new w6 _
      have HG7 := Lib.hid hg7
      have HB7 := Lib.hid hB7
      obtain ⟨cs, hcs⟩ : ∃ cs, bl.map (Value.int .u8) = cs := ⟨_, rfl⟩
      have CS : Hid (cs.length = Nat.min bl.length (0)) := Lib.hid (by
        have := NUM.out
        rw [← hcs, List.length_map]
        exact (Nat.min_eq_left (by omega)).symm)
      have CF : Hid (R + cs.length ≤ (List.replicate R (Value.int .u8 0)).length) := Lib.hid (by
        have := NUM.out
        rw [← hcs, List.length_map, List.length_replicate]
        omega)
      have CP : Hid (0 < cs.length → (some ⟨w6.heap.size, 0, none⟩ : Option Addr) = some ⟨w6.heap.size, R, none⟩ ∧ ∃ ad, q = some ad ∧ ∀ j v, cs[j]? = some v → W7.cell? (ad.add j) = some v) := Lib.hid fun h0 => by
        have := NUM.out
        rw [← hcs, List.length_map] at h0
        refine ⟨by exfalso; omega, ?_⟩
        obtain ⟨bb, off, rfl, _, hc⟩ := byte_at (ra_below HU6.out HB7.out) h0
        refine ⟨_, rfl, fun j v hj => ?_⟩
        have hj' : j < bl.length := by have := (List.getElem?_eq_some_iff.1 hj).1; rw [← hcs, List.length_map] at this; exact this
        have e : (⟨bb, off, none⟩ : Addr).add j = ⟨bb, off + j, none⟩ := Go.WideShapes.add_plain ..
        rw [e, (hc j hj').1, ← hj, ← hcs, List.getElem?_map, List.getElem?_eq_getElem hj', List.getD_eq_getElem?_getD, List.getElem?_eq_getElem hj']
        rfl
      have CO : Hid (∀ v ∈ cs, v.oneCell' = true) := Lib.hid fun v hv => by
        rw [← hcs] at hv
        obtain ⟨x, _, rfl⟩ := List.mem_map.1 hv
        rfl
      have FIN : Hid (∀ w', w'.heap[w6.heap.size]? = some (.cells (splice (List.replicate R (Value.int .u8 0)) R cs).toArray 5 (0, 0)) → RA byE w' (.slice (some ⟨w6.heap.size, 0, none⟩) R R) (splice (List.replicate R 0) R bl)) := Lib.hid fun w' h => by
        have := NUM.out
        have e : (splice (List.replicate R (0 : Int)) R bl).map (Value.int .u8) = splice (List.replicate R (Value.int .u8 0)) R cs := by rw [splice_map, List.map_replicate, hcs]
        rw [← e] at h
        exact by_of h (by rw [length_splice _ _ _ (by rw [List.length_replicate]; omega), List.length_replicate]) (splice_by HBY.out) (by omega)
      have q1 : (R : Int) ≤ (R : Int) := by have := NUM.out; omega
      obtain ⟨S, hS⟩ : ∃ S, splice (List.replicate R (0 : Int)) R bl = S := ⟨_, rfl⟩
      obtain ⟨R0, hR0⟩ : ∃ R0, List.replicate R (Value.int .u8 0) = R0 := ⟨_, rfl⟩
      rw [hS] at FIN O6
      rw [hR0] at FIN HG7 CF
      clear hS hR0 hcs hB7 hg7 RD ONE F HU REF
      go_wp2_with (with_reducible refine at_dst 72 ?_; refine wpList_copy_splice (o := ⟨some 72, _, _, _, _, _⟩) rfl (.tmp 70) (.tmp 71) 33 33 rfl 5 Try.underlying33 size_u8 _ _ _ _ _ _ rfl rfl w6.heap.size R R0 5 HG7.out cs CS.out CP.out CF.out CO.out w6.heap.size w6 HB7.out (Nat.le_refl _) ?_)
      intro w8 hg8 hb8
      have D8 := Lib.hid (below_more D6.out hb8)
      have W8 := Lib.hid (FIN.out w8 hg8.out)
      have M8 := Lib.hid (M6.out.below hb8)
      have O8 := Lib.hid (ra_below O6.out hb8)
      clear hg8 hb8 CS CF CP CO FIN HG7 HU6
      have C9 := Lib.hid (mread_is 8 R9 w8 M8.out)
      rw [OV.out] at C9
      go_wp2_with fail
      refine (C9.out).mono ?_; rintro e w9 ⟨⟨v9, rfl, o9⟩, b9⟩
      have D9 := Lib.hid (below_more D8.out b9)
      have s1 := run_strConv (ra_below O8.out b9)
      have s2 := run_strConv (ra_below W8.out b9)
      clear b9 o9 C9
      generalize strOfNums S = str at *
      go_wp2_with fail
      refine (awake_any _).mono ?_; rintro e w10 ⟨rfl, b10⟩
      have D10 := Lib.hid (below_more D9.out b10)
      go_wp2_with fail
      go_ret
      exact ⟨rfl, D10.out⟩
    · first | subst hRA | skip
      have REF : Hid (refF (alW (firstL (64 : Nat)) K [⟨0, (64 : Nat), false⟩] 8) O bl.length = 0) := Lib.hid (by
        have := NUM.out
        rw [ONE.out.ref, if_pos (by omega)])
      have x1 : (AL : Int) ≤ (R : Int) := by omega
      have x2 : decide (AL ≤ R) = true := decide_eq_true hle
      go_enter Try.func7, Try.ntmps7
      go_wp2_with fail
      refine (C1.out).mono ?_; rintro e w1 ⟨⟨g, rfl, hg, hM⟩, b1⟩
      have M1 := Lib.hid (hM [] (fun _ h => by cases h))
      have hgw : g < w1.heap.size := M1.out.dlt g (List.mem_cons_self ..)
      have D1 := Lib.hid b1
      have HG := Lib.hid (show ∀ k ∈ [g], w.heap.size ≤ k from fun k hk => by rw [List.mem_singleton.1 hk]; exact hg)
      clear b1 hg hM C1
      have C3 := Lib.hid (malloc_is n 8 w1 M1.out)
      rw [hK, F.out.alq] at C3
      simp only [Option.isSome_some] at C3
      go_wp2_with fail
      refine (C3.out).mono ?_; rintro e w3 ⟨rfl, m3, c3⟩
      have D3 := Lib.hid (below_chg D1.out c3 HG.out)
      have M3 := Lib.hid m3
      clear m3 c3 C3
      go_wp2_with fail
      refine (CN.out _).mono ?_; rintro e w4 ⟨rfl, rfl⟩
      have C4 := Lib.hid (mwrite_is O bl _ w3 M3.out (HU.out w3 D3.out) (by have := NUM.out; omega))
      rw [REF.out] at C4
      go_wp2_with fail
      refine (C4.out).mono ?_; rintro e w5 ⟨rfl, E, tE, m5, c5⟩
      have D5 := Lib.hid (below_chg D3.out c5 HG.out)
      have M5 := Lib.hid m5
      have RD : Hid (refF (appF (alW (firstL (64 : Nat)) K [⟨0, (64 : Nat), false⟩] 8) E) 8 R = 0 ∧ rdR (appF (alW (firstL (64 : Nat)) K [⟨0, (64 : Nat), false⟩] 8) E) 8 R = splice (List.replicate R 0) A bl) := Lib.hid (by
        have := NUM.out
        have h1 := oneB_wrote ONE.out (by omega) (by omega) (by omega) (at_ := A) (bl := bl) (by omega) (M := E) (by rw [show 8 + A = O by omega]; exact tE) m5.hB
        rw [show 8 * (K - 1) = R by omega] at h1
        exact h1)
      have OV := Lib.hid (OVER.out _ m5.hB)
      clear m5 c5 C4 tE
      generalize appF (alW (firstL (64 : Nat)) K [⟨0, (64 : Nat), false⟩] 8) E = wl2 at *
      have C5 := Lib.hid (mread_is 8 R w5 M5.out)
      rw [RD.out.1, RD.out.2] at C5
      go_wp2_with fail
      refine (C5.out).mono ?_; rintro e w6 ⟨⟨v6, rfl, o6⟩, b6⟩
      have D6 := Lib.hid (below_more D5.out b6)
      have O6 := Lib.hid o6.ra
      have M6 := Lib.hid (M5.out.below b6)
      have HU6 := Lib.hid (HU.out w6 D6.out)
      clear b6 o6 C5
      obtain ⟨W7, hW7⟩ : ∃ W, w6.alloc (.cells (madeCells #[.int .u8 0] R) 5) = W := ⟨_, rfl⟩
      have hB7 : Below w6.heap.size w6 W7 := by rw [← hW7]; exact bal (Below.refl _ _)
      have hg7 : W7.heap[w6.heap.size]? = some (.cells (List.replicate R (.int .u8 0)).toArray 5 (0, 0)) := by
        rw [← hW7, ← made_bytes, Array.toArray_toList]; exact heap_alloc_new w6 _
      have HG7 := Lib.hid hg7
      have HB7 := Lib.hid hB7
      obtain ⟨cs, hcs⟩ : ∃ cs, bl.map (Value.int .u8) = cs := ⟨_, rfl⟩
      have CS : Hid (cs.length = Nat.min bl.length (R - A)) := Lib.hid (by
        have := NUM.out
        rw [← hcs, List.length_map]
        exact (Nat.min_eq_left (by omega)).symm)
      have CF : Hid (A + cs.length ≤ (List.replicate R (Value.int .u8 0)).length) := Lib.hid (by
        have := NUM.out
        rw [← hcs, List.length_map, List.length_replicate]
        omega)
      have CP : Hid (0 < cs.length → ∃ ad, q = some ad ∧ ∀ j v, cs[j]? = some v → W7.cell? (ad.add j) = some v) := Lib.hid fun h0 => by
        have := NUM.out
        rw [← hcs, List.length_map] at h0
        obtain ⟨bb, off, rfl, _, hc⟩ := byte_at (ra_below HU6.out HB7.out) h0
        refine ⟨_, rfl, fun j v hj => ?_⟩
        have hj' : j < bl.length := by have := (List.getElem?_eq_some_iff.1 hj).1; rw [← hcs, List.length_map] at this; exact this
        have e : (⟨bb, off, none⟩ : Addr).add j = ⟨bb, off + j, none⟩ := Go.WideShapes.add_plain ..
        rw [e, (hc j hj').1, ← hj, ← hcs, List.getElem?_map, List.getElem?_eq_getElem hj', List.getD_eq_getElem?_getD, List.getElem?_eq_getElem hj']
        rfl
      have CO : Hid (∀ v ∈ cs, v.oneCell' = true) := Lib.hid fun v hv => by
        rw [← hcs] at hv
        obtain ⟨x, _, rfl⟩ := List.mem_map.1 hv
        rfl
      have FIN : Hid (∀ w', w'.heap[w6.heap.size]? = some (.cells (splice (List.replicate R (Value.int .u8 0)) A cs).toArray 5 (0, 0)) → RA byE w' (.slice (some ⟨w6.heap.size, 0, none⟩) R R) (splice (List.replicate R 0) A bl)) := Lib.hid fun w' h => by
        have := NUM.out
        have e : (splice (List.replicate R (0 : Int)) A bl).map (Value.int .u8) = splice (List.replicate R (Value.int .u8 0)) A cs := by rw [splice_map, List.map_replicate, hcs]
        rw [← e] at h
        exact by_of h (by rw [length_splice _ _ _ (by rw [List.length_replicate]; omega), List.length_replicate]) (splice_by HBY.out) (by omega)
      have q1 : (A : Int) ≤ (R : Int) := by have := NUM.out; omega
      obtain ⟨S, hS⟩ : ∃ S, splice (List.replicate R (0 : Int)) A bl = S := ⟨_, rfl⟩
      obtain ⟨R0, hR0⟩ : ∃ R0, List.replicate R (Value.int .u8 0) = R0 := ⟨_, rfl⟩
      rw [hS] at FIN O6
      rw [hR0] at FIN HG7 CF
      clear hS hR0 hcs hB7 hg7 RD ONE F HU REF
      go_wp2_with (with_reducible refine at_dst 72 ?_; refine wpList_copy_splice (o := ⟨some 72, _, _, _, _, _⟩) rfl (.tmp 70) (.tmp 71) 33 33 rfl 5 Try.underlying33 size_u8 _ _ _ _ _ _ rfl rfl w6.heap.size A R0 5 HG7.out cs CS.out (fun h0 => ⟨rfl, CP.out h0⟩) CF.out CO.out w6.heap.size w6 HB7.out (Nat.le_refl _) ?_)
      intro w8 hg8 hb8
      have D8 := Lib.hid (below_more D6.out hb8)
      have W8 := Lib.hid (FIN.out w8 hg8.out)
      have M8 := Lib.hid (M6.out.below hb8)
      have O8 := Lib.hid (ra_below O6.out hb8)
      clear hg8 hb8 CS CF CP CO FIN HG7 HU6
      have C9 := Lib.hid (mread_is 8 R9 w8 M8.out)
      rw [OV.out] at C9
      go_wp2_with fail
      refine (C9.out).mono ?_; rintro e w9 ⟨⟨v9, rfl, o9⟩, b9⟩
      have D9 := Lib.hid (below_more D8.out b9)
      have s1 := run_strConv (ra_below O8.out b9)
      have s2 := run_strConv (ra_below W8.out b9)
      clear b9 o9 C9
      generalize strOfNums S = str at *
      go_wp2_with fail
      refine (awake_any _).mono ?_; rintro e w10 ⟨rfl, b10⟩
      have D10 := Lib.hid (below_more D9.out b10)
      go_wp2_with fail
      go_ret
      exact ⟨rfl, D10.out⟩
  · have REF : Hid (refF (alW (firstL (64 : Nat)) K [⟨0, (64 : Nat), false⟩] 8) O bl.length = 1) := Lib.hid (by
      have := NUM.out
      rw [ONE.out.ref, if_neg (by omega)])
    have x1 : ¬ (AL : Int) ≤ (R : Int) := by omega
    have x2 : decide (AL ≤ R) = false := decide_eq_false hle
    go_enter Try.func7, Try.ntmps7
    go_wp2_with fail
    refine (C1.out).mono ?_; rintro e w1 ⟨⟨g, rfl, hg, hM⟩, b1⟩
    have M1 := Lib.hid (hM [] (fun _ h => by cases h))
    have hgw : g < w1.heap.size := M1.out.dlt g (List.mem_cons_self ..)
    have D1 := Lib.hid b1
    have HG := Lib.hid (show ∀ k ∈ [g], w.heap.size ≤ k from fun k hk => by rw [List.mem_singleton.1 hk]; exact hg)
    clear b1 hg hM C1
    have C3 := Lib.hid (malloc_is n 8 w1 M1.out)
    rw [hK, F.out.alq] at C3
    simp only [Option.isSome_some] at C3
    go_wp2_with fail
    refine (C3.out).mono ?_; rintro e w3 ⟨rfl, m3, c3⟩
    have D3 := Lib.hid (below_chg D1.out c3 HG.out)
    have M3 := Lib.hid m3
    clear m3 c3 C3
    go_wp2_with fail
    refine (CN.out _).mono ?_; rintro e w4 ⟨rfl, rfl⟩
    have C4 := Lib.hid (mwrite_is O bl _ w3 M3.out (HU.out w3 D3.out) (by have := NUM.out; omega))
    rw [REF.out] at C4
    go_wp2_with fail
    refine (C4.out).mono ?_; rintro e w5 ⟨rfl, E, tE, m5, c5⟩
    have D5 := Lib.hid (below_chg D3.out c5 HG.out)
    have M5 := Lib.hid m5
    have hE : E = [] := by
      unfold WrT at tE
      rw [REF.out, if_neg (by decide)] at tE
      exact tE
    subst hE
    have RD : Hid (refF (appF (alW (firstL (64 : Nat)) K [⟨0, (64 : Nat), false⟩] 8) []) 8 R = 0 ∧ rdR (appF (alW (firstL (64 : Nat)) K [⟨0, (64 : Nat), false⟩] 8) []) 8 R = List.replicate R 0) := Lib.hid (by
      have := NUM.out
      have h1 := oneB_read ONE.out (by omega) (by omega) (by omega)
      rw [show 8 * (K - 1) = R by omega] at h1
      exact h1)
    have OV := Lib.hid (OVER.out _ m5.hB)
    clear m5 c5 C4 tE
    generalize appF (alW (firstL (64 : Nat)) K [⟨0, (64 : Nat), false⟩] 8) [] = wl2 at *
    have C5 := Lib.hid (mread_is 8 R w5 M5.out)
    rw [RD.out.1, RD.out.2] at C5
    go_wp2_with fail
    refine (C5.out).mono ?_; rintro e w6 ⟨⟨v6, rfl, o6⟩, b6⟩
    have D6 := Lib.hid (below_more D5.out b6)
    have O6 := Lib.hid o6.ra
    have M6 := Lib.hid (M5.out.below b6)
    have HU6 := Lib.hid (HU.out w6 D6.out)
    clear b6 o6 C5
    obtain ⟨W7, hW7⟩ : ∃ W, w6.alloc (.cells (madeCells #[.int .u8 0] R) 5) = W := ⟨_, rfl⟩
    have hB7 : Below w6.heap.size w6 W7 := by rw [← hW7]; exact bal (Below.refl _ _)
    have hg7 : W7.heap[w6.heap.size]? = some (.cells (List.replicate R (.int .u8 0)).toArray 5 (0, 0)) := by
      rw [← hW7, ← made_bytes, Array.toArray_toList]; exact heap_alloc_new w6 _
    have HB7 := Lib.hid hB7
    have W7R := Lib.hid (show RA byE W7 (.slice (some ⟨w6.heap.size, 0, none⟩) R R) (List.replicate R 0) from by_of (by rw [List.map_replicate]; exact hg7) (by rw [List.length_replicate]) (fun x hx => by rw [(List.mem_replicate.1 hx).2]; exact ⟨by decide, by decide⟩) (by have := NUM.out; omega))
    have D8 := Lib.hid (below_more D6.out HB7.out)
    have M8 := Lib.hid (M6.out.below HB7.out)
    have O8 := Lib.hid (ra_below O6.out HB7.out)
    generalize List.replicate R (0 : Int) = S at *
    clear hB7 hg7 RD ONE F HU REF HU6
    have C9 := Lib.hid (mread_is 8 R9 W7 M8.out)
    rw [OV.out] at C9
    go_wp2_with fail
    refine (C9.out).mono ?_; rintro e w9 ⟨⟨v9, rfl, o9⟩, b9⟩
    have D9 := Lib.hid (below_more D8.out b9)
    have s1 := run_strConv (ra_below O8.out b9)
    have s2 := run_strConv (ra_below W7R.out b9)
    clear b9 o9 C9
    generalize strOfNums S = str at *
    go_wp2_with fail
    refine (awake_any _).mono ?_; rintro e w10 ⟨rfl, b10⟩
    have D10 := Lib.hid (below_more D9.out b10)
    go_wp2_with fail
    go_ret
    exact ⟨rfl, D10.out⟩

theorem walk (a0 a1 : Int) (l2 : List Int) (v2 : Value) (w : World) (_h0 : (Lit.int .i64 a0).wf = true) (h1 : (Lit.int .i64 a1).wf = true) (h2 : RA byE w v2 l2) :
    Calls Try.prog 7 #[.int .i64 a0, .int .i64 a1, v2] w fun e w' => e = .returned (.bool true) ∧ Below w.heap.size w w' := by
  obtain ⟨q, d, rfl, _, _⟩ := ra_shape h2
  by_cases h : 100 < l2.length
  · exact much a0 a1 q _ d w h
  · exact few a0 a1 q d l2 w h2 (by omega) h1

set_option maxRecDepth 100000 in
theorem lifted (os : Os) (started : os.Started) (H : Type) (enc : TypeId × Value → H) :
    ReturnsInHanded {} Try.checked os 7 .any (Rows.modelBytesSpec.pre6 enc Try.prog Try.f7 Rows.modelBytesRow.domain false) (Rows.modelBytesSpec.post enc Try.prog Try.f7 false true false false) := by
  refine returnsInHanded_of_change (C := Try.checked) own started (by kernel_rfl) Try.func7
    (ChangeSpec.witness6 (enc := enc) (C := Try.checked) false ⟨#[], #[.int .i64 0, .int .i64 0, .slice none 0 0], []⟩ 8 (by kernel_rfl) (by kernel_rfl) (by kernel_rfl) (by kernel_rfl)) ?_
  intro W base args ds gs before hval0 hW hcnd _
  have hval : ∀ (j : Nat) t v, Try.f7.params[j]? = some t → args[j]? = some v → Value.okWide Try.prog W .any base t v := hval0
  have hW' := hW
  have hlt := hW.lt
  obtain ⟨p, q, hA0, hV, hpq, hfz, hnd⟩ := hW
  have hA : DataW.TrodAll enc Try.prog W 0 (fun _ => true) true Try.f7.params.toList args.toList ds p := hA0
  rw [Try.params7] at hA hval
  obtain ⟨v0, vs0, d0, ds0, p0, q0, hargs, rfl, hp, h0, r0⟩ := trodAll_cons hA
  obtain ⟨v1, vs1, d1, ds1, p1, q1, rfl, rfl, rfl, h1, r1⟩ := trodAll_cons r0
  obtain ⟨v2, vs2, d2, ds2, p2, q2, rfl, rfl, rfl, h2, r2⟩ := trodAll_cons r1
  obtain ⟨rfl, rfl, rfl⟩ := trodAll_nil r2
  obtain rfl : args = #[v0, v1, v2] := by cases args; simp_all
  obtain ⟨rfl, rfl⟩ := trodVars_none hV
  have hlt' : ∀ x ∈ before, x.block < W.heap.size := fun x hx => hlt x hx
  obtain ⟨a0, rfl, rfl, rfl, w0⟩ := open_int Try.underlying3 (hval 0 3 v0 rfl rfl) h0
  obtain ⟨a1, rfl, rfl, rfl, w1⟩ := open_int Try.underlying3 (hval 1 3 v1 rfl rfl) h1
  obtain ⟨l2, w2⟩ := bytes_in (hval 2 33 v2 rfl rfl) h2
  refine (walk a0 a1 l2 v2 W w0 w1 w2).mono fun e W' ⟨he, hb⟩ => ?_
  subst he
  exact ⟨_, rfl, law_post rfl (by kernel_rfl) hW' (by rw [Try.params7]; intro t ht; simp only [List.mem_cons, List.not_mem_nil, or_false] at ht; (repeat' (first | (rcases ht with rfl | ht) | subst ht)) <;> exact ⟨by kernel_rfl, of_decide_eq_true (by kernel_rfl)⟩) rfl hb⟩

theorem over : Rows.modelBytesRow.holds Try.pinned (OpenSpec.ofChange Rows.modelBytesSpec) :=
  OpenClaim.holds_of_wide 7 Try.f7 rfl rfl rfl rfl rfl rfl rfl ⟨rfl, rfl, rfl, rfl, rfl⟩ rfl rfl rfl rfl rfl (by kernel_rfl) Try.func7 (by kernel_rfl)
    (of_decide_eq_true (by kernel_rfl)) (by unfold Func.isWrapper; first | (rw [if_pos (by decide +kernel)]; kernel_rfl) | (rw [if_neg (by decide +kernel)]; exact ⟨rfl, rfl⟩))
    (fun os started H enc _ => lifted os started H enc)

theorem proved : Rows.ModelBytesSaid := over
end Go.Proofs.Ytlhpcimbigfmkaa.modelBytes
