/-
  Contracts of package code: which operations may be; one more written.
-/
import Derived.Test.YtdnijdbhdlengaaCdf
namespace Go.Proofs.Ytdnijdbhdlengaa
set_option maxRecDepth 100000
open Go.RowKit

def NumC (x : Px) : Prop := (0 ≤ vOf (toC x) ∧ vOf (toC x) ≤ 65535) ∧ (0 ≤ nOf (toC x) ∧ nOf (toC x) ≤ 255) ∧ (setZ (setW x 0) 0).o = 0 ∧ (setZ (setW x 0) 0).nn = 0 ∧ (setZ (setW x 0) 0).msk = 0
def DatC (x : Px) : Prop := if x.d = 4 then x.bl.length ≤ 255 else x.bl.length = 0
theorem mayC_iff (x : Px) : MayC (toC x) ↔ (1 ≤ x.d ∧ x.d ≤ 8) ∧ NumC x ∧ DatC x := by
  obtain ⟨d, o, n, m, v, bl⟩ := x
  rcases kinds d with rfl | rfl | rfl | rfl | rfl | rfl | rfl | rfl | ⟨h, _⟩
  iterate 8
    · by_cases hb : bl = []
      · simp [MayC, NumC, DatC, vOf, nOf, setW, setZ, toC, hb]
        try omega
      · simp [MayC, NumC, DatC, vOf, nOf, setW, setZ, toC, hb]
        try omega
  · have := h.out
    simp only [MayC, toC]
    constructor
    · omega
    · intro h; exact absurd h.1 this
set_option maxHeartbeats 2000000 in
theorem nums_is (x : Px) (w : World) (b : Bool) (hb : b = true ↔ NumC x) : Calls Try.prog 18 #[.agg (pxc x)] w fun e w' => e = .returned (.bool b) ∧ Below w.heap.size w w' := by
  obtain ⟨W, hW⟩ : ∃ W, w.alloc (.cells (pxc x) 26) = W := ⟨_, rfl⟩
  have V0 : Pxv W w.heap.size x := by rw [← hW]; exact Pxv.new w x
  have B0 : Below w.heap.size w W := by rw [← hW]; exact bal (Below.refl _ _)
  have HB := Lib.hid B0
  have CW := Lib.hid (wide_is V0)
  have CG := Lib.hid (getw_is V0)
  have CN := Lib.hid (narrow_is V0)
  have CZ := Lib.hid (getz_is V0)
  have CS := Lib.hid (setw_is V0 0)
  obtain ⟨f1, hf1⟩ : ∃ f, wdA x.d w.heap.size = f := ⟨_, rfl⟩
  obtain ⟨f2, hf2⟩ : ∃ f, nwA x.d w.heap.size = f := ⟨_, rfl⟩
  have HD := Lib.hid (setW_d x 0)
  have HF2 := Lib.hid hf2
  rw [hf1] at CW CG CS
  rw [hf2] at CN CZ
  unfold NumC at hb
  have CV := fun w' => upto_is (vOf (toC x)) 65535 _ rfl w'
  have CX := fun w' => upto_is (nOf (toC x)) 255 _ rfl w'
  rw [← decide_eq_true_iff (p := 0 ≤ vOf (toC x) ∧ vOf (toC x) ≤ 65535), ← decide_eq_true_iff (p := 0 ≤ nOf (toC x) ∧ nOf (toC x) ≤ 255)] at hb
  generalize decide (0 ≤ vOf (toC x) ∧ vOf (toC x) ≤ 65535) = b1 at *
  generalize decide (0 ≤ nOf (toC x) ∧ nOf (toC x) ≤ 255) = b2 at *
  generalize vOf (toC x) = v at *
  generalize nOf (toC x) = z at *
  have CV := Lib.hid CV
  have CX := Lib.hid CX
  have HE := Lib.hid hb
  clear V0 B0 hf1 hf2 hb
  go_enter Try.func18, Try.ntmps18
  go_wp2_with fail
  refine (CW.out).mono ?_; rintro e w' ⟨rfl, rfl⟩
  go_wp2_with fail
  refine (CG.out).mono ?_; rintro e w' ⟨rfl, rfl⟩
  go_wp2_with fail
  refine (CN.out).mono ?_; rintro e w' ⟨rfl, rfl⟩
  go_wp2_with fail
  refine (CZ.out).mono ?_; rintro e w' ⟨rfl, rfl⟩
  go_wp2_with fail
  refine (CW.out).mono ?_; rintro e w' ⟨rfl, rfl⟩
  go_wp2_with fail
  refine (CS.out).mono ?_; rintro e w1 ⟨rfl, V1, C1⟩
  have CN1 := narrow_is V1
  have CS1 := setz_is V1 0
  rw [HD.out, HF2.out] at CN1 CS1
  have CN1 := Lib.hid CN1
  have CS1 := Lib.hid CS1
  have HB1 := Lib.hid (C1.below HB.out HB.out.size (fun g hg => by rw [List.mem_singleton.1 hg]; exact Nat.le_refl _))
  clear V1 C1 CS CW CG CN CZ
  go_wp2_with fail
  refine (CN1.out).mono ?_; rintro e w' ⟨rfl, rfl⟩
  go_wp2_with fail
  refine (CS1.out).mono ?_; rintro e w2 ⟨rfl, V2, C2⟩
  have HB2 := Lib.hid (C2.below HB1.out HB1.out.size (fun g hg => by rw [List.mem_singleton.1 hg]; exact Nat.le_refl _))
  have c1 := V2.c1
  have c2 := V2.c2
  have c3 := V2.c3
  have HE := HE.out
  generalize (setZ (setW x 0) 0).o = o2 at *
  generalize (setZ (setW x 0) 0).nn = n2 at *
  generalize (setZ (setW x 0) 0).msk = m2 at *
  clear V2 C2 CN1 CS1
  cases b1
  · obtain rfl : b = false := by cases b <;> simp at HE ⊢
    clear HE
    go_wp2_with fail
    refine (CV.out _).mono ?_; rintro e w' ⟨rfl, rfl⟩
    go_wp2_with fail
    go_ret
    exact ⟨rfl, HB2.out⟩
  · cases b2
    · obtain rfl : b = false := by cases b <;> simp at HE ⊢
      clear HE
      go_wp2_with fail
      refine (CV.out _).mono ?_; rintro e w' ⟨rfl, rfl⟩
      go_wp2_with fail
      refine (CX.out _).mono ?_; rintro e w' ⟨rfl, rfl⟩
      go_wp2_with fail
      go_ret
      exact ⟨rfl, HB2.out⟩
    · by_cases h1 : o2 = 0
      · by_cases h2 : n2 = 0
        · by_cases h3 : m2 = 0
          · obtain rfl : b = true := HE.2 ⟨rfl, rfl, h1, h2, h3⟩
            subst h1 h2 h3
            clear HE
            go_wp2_with fail
            refine (CV.out _).mono ?_; rintro e w' ⟨rfl, rfl⟩
            go_wp2_with fail
            refine (CX.out _).mono ?_; rintro e w' ⟨rfl, rfl⟩
            go_wp2_with fail
            go_ret
            exact ⟨rfl, HB2.out⟩
          · obtain rfl : b = false := by cases b; rfl; exact absurd (HE.1 rfl).2.2.2.2 h3
            have e3 : (m2 == 0) = false := beq_eq_false_iff_ne.2 h3
            subst h1 h2
            clear HE h3
            go_wp2_with fail
            refine (CV.out _).mono ?_; rintro e w' ⟨rfl, rfl⟩
            go_wp2_with fail
            refine (CX.out _).mono ?_; rintro e w' ⟨rfl, rfl⟩
            go_wp2_with fail
            go_ret
            exact ⟨rfl, HB2.out⟩
        · obtain rfl : b = false := by cases b; rfl; exact absurd (HE.1 rfl).2.2.2.1 h2
          have e3 : (n2 == 0) = false := beq_eq_false_iff_ne.2 h2
          subst h1
          clear HE h2
          go_wp2_with fail
          refine (CV.out _).mono ?_; rintro e w' ⟨rfl, rfl⟩
          go_wp2_with fail
          refine (CX.out _).mono ?_; rintro e w' ⟨rfl, rfl⟩
          go_wp2_with fail
          go_ret
          exact ⟨rfl, HB2.out⟩
      · obtain rfl : b = false := by cases b; rfl; exact absurd (HE.1 rfl).2.2.1 h1
        have e3 : (o2 == 0) = false := beq_eq_false_iff_ne.2 h1
        clear HE h1
        go_wp2_with fail
        refine (CV.out _).mono ?_; rintro e w' ⟨rfl, rfl⟩
        go_wp2_with fail
        refine (CX.out _).mono ?_; rintro e w' ⟨rfl, rfl⟩
        go_wp2_with fail
        go_ret
        exact ⟨rfl, HB2.out⟩
set_option maxHeartbeats 2000000 in
theorem data_is (d o n m : Int) (p : Option Addr) (c : Nat) (bl : List Int) (w : World) (b : Bool) (hb : b = true ↔ DatC ⟨d, o, n, m, .slice p bl.length c, bl⟩) : Calls Try.prog 19 #[.agg (pxc ⟨d, o, n, m, .slice p bl.length c, bl⟩)] w fun e w' => e = .returned (.bool b) ∧ Below w.heap.size w w' := by
  obtain ⟨W, hW⟩ : ∃ W, w.alloc (.cells (pxc ⟨d, o, n, m, .slice p bl.length c, bl⟩) 26) = W := ⟨_, rfl⟩
  have V0 : Pxv W w.heap.size ⟨d, o, n, m, .slice p bl.length c, bl⟩ := by rw [← hW]; exact Pxv.new w _
  have B0 : Below w.heap.size w W := by rw [← hW]; exact bal (Below.refl _ _)
  have HB := Lib.hid B0
  have c0 := V0.c0
  have c4 := V0.c4
  unfold DatC at hb
  dsimp only at c0 c4 hb
  clear V0 B0
  by_cases h4 : d = 4
  · rw [if_pos h4] at hb
    subst h4
    by_cases hl : bl.length ≤ 255
    · obtain rfl : b = true := hb.2 hl
      have i1 : (bl.length : Int) ≤ 255 := by omega
      clear hb
      go_enter Try.func19, Try.ntmps19
      go_wp2_with fail
      go_ret
      exact ⟨rfl, HB.out⟩
    · obtain rfl : b = false := by cases b; rfl; exact absurd (hb.1 rfl) hl
      have i1 : ¬ (bl.length : Int) ≤ 255 := by omega
      clear hb
      go_enter Try.func19, Try.ntmps19
      go_wp2_with fail
      go_ret
      exact ⟨rfl, HB.out⟩
  · rw [if_neg h4] at hb
    have e4 : (d == 4) = false := beq_eq_false_iff_ne.2 h4
    by_cases hl : bl.length = 0
    · obtain rfl : b = true := hb.2 hl
      clear hb
      generalize bl.length = N at *
      have i1 : ((N : Int) == 0) = true := by rw [hl]; rfl
      clear hl
      go_enter Try.func19, Try.ntmps19
      go_wp2_with fail
      go_ret
      exact ⟨rfl, HB.out⟩
    · obtain rfl : b = false := by cases b; rfl; exact absurd (hb.1 rfl) hl
      clear hb
      generalize bl.length = N at *
      have i1 : ((N : Int) == 0) = false := beq_eq_false_iff_ne.2 (by omega)
      go_enter Try.func19, Try.ntmps19
      go_wp2_with fail
      go_ret
      exact ⟨rfl, HB.out⟩
set_option maxHeartbeats 2000000 in
theorem cmayop_is (d o n m : Int) (p : Option Addr) (c : Nat) (bl : List Int) (w : World) (b : Bool) (hb : b = true ↔ MayC ⟨d, o, n, m, bl⟩) : Calls Try.prog 9 #[.agg (pxc ⟨d, o, n, m, .slice p bl.length c, bl⟩)] w fun e w' => e = .returned (.bool b) ∧ Below w.heap.size w w' := by
  have hb : b = true ↔ (1 ≤ d ∧ d ≤ 8) ∧ NumC ⟨d, o, n, m, .slice p bl.length c, bl⟩ ∧ DatC ⟨d, o, n, m, .slice p bl.length c, bl⟩ := hb.trans (mayC_iff ⟨d, o, n, m, .slice p bl.length c, bl⟩)
  obtain ⟨W, hW⟩ : ∃ W, w.alloc (.cells (pxc ⟨d, o, n, m, .slice p bl.length c, bl⟩) 26) = W := ⟨_, rfl⟩
  have V0 : Pxv W w.heap.size ⟨d, o, n, m, .slice p bl.length c, bl⟩ := by rw [← hW]; exact Pxv.new w _
  have B0 : Below w.heap.size w W := by rw [← hW]; exact bal (Below.refl _ _)
  have HB := Lib.hid B0
  have HV := Lib.hid V0
  have c0 := V0.c0
  have ld := V0.whole
  dsimp only at c0
  obtain ⟨b1, h1⟩ : ∃ b1, decide (1 ≤ d ∧ d ≤ 8) = b1 := ⟨_, rfl⟩
  have CK := Lib.hid (kind_is d b1 h1)
  obtain ⟨b2, h2⟩ : ∃ b2 : Bool, b2 = true ↔ NumC ⟨d, o, n, m, .slice p bl.length c, bl⟩ := ⟨@decide _ (Classical.propDecidable _), @decide_eq_true_iff _ (Classical.propDecidable _)⟩
  obtain ⟨b3, h3⟩ : ∃ b3 : Bool, b3 = true ↔ DatC ⟨d, o, n, m, .slice p bl.length c, bl⟩ := ⟨@decide _ (Classical.propDecidable _), @decide_eq_true_iff _ (Classical.propDecidable _)⟩
  have CN := Lib.hid (fun w => nums_is ⟨d, o, n, m, .slice p bl.length c, bl⟩ w b2 h2)
  have CD := Lib.hid (fun w => data_is d o n m p c bl w b3 h3)
  have e : b = (b1 && b2 && b3) := by
    rw [Bool.eq_iff_iff, hb, ← h2, ← h3, ← h1]; simp [and_assoc]
  clear hb h1 h2 h3 V0 B0
  subst e
  cases b1
  · go_enter Try.func9, Try.ntmps9
    go_wp2_with fail
    refine (CK.out _).mono ?_; rintro e w' ⟨rfl, rfl⟩
    go_wp2_with fail
    go_ret
    exact ⟨rfl, HB.out⟩
  · cases b2
    · go_enter Try.func9, Try.ntmps9
      go_wp2_with fail
      refine (CK.out _).mono ?_; rintro e w' ⟨rfl, rfl⟩
      go_wp2_with fail
      refine (CN.out _).mono ?_; rintro e w1 ⟨rfl, hb⟩
      have B1 := Lib.hid (below_more HB.out hb)
      clear hb
      go_wp2_with fail
      go_ret
      exact ⟨rfl, B1.out⟩
    · go_enter Try.func9, Try.ntmps9
      go_wp2_with fail
      refine (CK.out _).mono ?_; rintro e w' ⟨rfl, rfl⟩
      go_wp2_with fail
      refine (CN.out _).mono ?_; rintro e w1 ⟨rfl, hb⟩
      have B1 := Lib.hid (below_more HB.out hb)
      have ld1 := (HV.out.below hb).whole
      clear hb
      go_wp2_with fail
      refine (CD.out _).mono ?_; rintro e w2 ⟨rfl, hb⟩
      have B2 := Lib.hid (below_more B1.out hb)
      clear hb
      go_wp2_with fail
      go_ret
      exact ⟨rfl, B2.out⟩
set_option maxHeartbeats 2000000 in
theorem add_is {B : Nat} {w : World} {bv : Value} {b0 : List Int} (O : OwnA byE B w bv b0) (hB : B ≤ w.heap.size) (d o n m : Int) (p : Option Addr) (c : Nat) (bl : List Int) (hd : ∀ w', Below B w w' → RA byE w' (.slice p bl.length c) bl) (hl : b0.length + 4 + bl.length ≤ 1000000) (hm : MayC ⟨d, o, n, m, bl⟩) :
    Calls Try.prog 21 #[bv, .agg (pxc ⟨d, o, n, m, .slice p bl.length c, bl⟩)] w fun e w' => (∃ u, e = .returned u ∧ OwnA byE B w' u (b0 ++ opB ⟨d, o, n, m, bl⟩)) ∧ Below B w w' := by
  obtain ⟨W, hW⟩ : ∃ W, w.alloc (.cells (pxc ⟨d, o, n, m, .slice p bl.length c, bl⟩) 26) = W := ⟨_, rfl⟩
  have V0 : Pxv W w.heap.size ⟨d, o, n, m, .slice p bl.length c, bl⟩ := by rw [← hW]; exact Pxv.new w _
  have B0 : Below w.heap.size w W := by rw [← hW]; exact bal (Below.refl _ _)
  have HB := Lib.hid (below_base (Below.refl B w) hB B0)
  have O0 := Lib.hid (O.below B0)
  have CW := Lib.hid (wide_is V0)
  have CG := Lib.hid (getw_is V0)
  have CN := Lib.hid (narrow_is V0)
  have CZ := Lib.hid (getz_is V0)
  have c0 := V0.c0
  have c4 := V0.c4
  obtain ⟨f1, hf1⟩ : ∃ f, wdA d w.heap.size = f := ⟨_, rfl⟩
  obtain ⟨f2, hf2⟩ : ∃ f, nwA d w.heap.size = f := ⟨_, rfl⟩
  dsimp only at CW CG CN CZ c0 c4
  rw [hf1] at CW CG
  rw [hf2] at CN CZ
  have ez : (if d = 4 then (bl.length : Int) else nOf ⟨d, o, n, m, bl⟩) = zOf ⟨d, o, n, m, bl⟩ := by
    unfold nOf zOf; dsimp only
    by_cases h3 : d = 3
    · subst h3; rfl
    · by_cases h4 : d = 4
      · subst h4; rfl
      · rw [if_neg h4, if_neg h3, if_neg h3, if_neg h4]
  have kb := hm.kind
  have vb := hm.v
  have zb := hm.z
  have eo : opB ⟨d, o, n, m, bl⟩ = [d, vOf ⟨d, o, n, m, bl⟩ % 256, vOf ⟨d, o, n, m, bl⟩ / 256 % 256, zOf ⟨d, o, n, m, bl⟩ % 256] ++ bl := if_pos kb
  rw [eo]
  have eC : toC ⟨d, o, n, m, .slice p bl.length c, bl⟩ = ⟨d, o, n, m, bl⟩ := rfl
  rw [eC] at CG CZ
  generalize vOf ⟨d, o, n, m, bl⟩ = V at *
  generalize nOf ⟨d, o, n, m, bl⟩ = NZ at *
  generalize zOf ⟨d, o, n, m, bl⟩ = Z at *
  dsimp only at kb
  obtain ⟨A, hA⟩ : ∃ A, V % 256 = A := ⟨_, rfl⟩
  obtain ⟨Q, hQ⟩ : ∃ Q, V / 256 = Q := ⟨_, rfl⟩
  obtain ⟨Q2, hQ2⟩ : ∃ Q2, Q % 256 = Q2 := ⟨_, rfl⟩
  obtain ⟨Z2, hZ2⟩ : ∃ Z2, Z % 256 = Z2 := ⟨_, rfl⟩
  rw [hA, hQ, hQ2, hZ2]
  have u0 : IntKind.u8.wrap d = d := by simp [IntKind.wrap, IntKind.signed, IntKind.bits]; omega
  have u1 : IntKind.u8.wrap V = A := by simp [IntKind.wrap, IntKind.signed, IntKind.bits]; omega
  have u2 : IntKind.u8.wrap Q = Q2 := by simp [IntKind.wrap, IntKind.signed, IntKind.bits]; omega
  have u3 : IntKind.u8.wrap Z = Z2 := by simp [IntKind.wrap, IntKind.signed, IntKind.bits]; omega
  have HL := Lib.hid hl
  have HR := Lib.hid hd
  have BB := Lib.hid B0
  have VV := Lib.hid V0
  have OO0 := Lib.hid O
  clear V0 B0 hf1 hf2 O hl hd hm eo eC
  obtain ⟨W4, hW4⟩ : ∃ W4, W.alloc (.cells #[.int .u8 d, .int .u8 A, .int .u8 Q2, .int .u8 Z2] 5) = W4 := ⟨_, rfl⟩
  have hsl : (bySlice 4 #[(0, .int .u8 d), (1, .int .u8 A), (2, .int .u8 Q2), (3, .int .u8 Z2)]).run Try.prog W = .ok (.slice (some ⟨W.heap.size, 0, none⟩) 4 4) W4 := by rw [← hW4]; exact built_by4 W d A Q2 Z2
  have B4 : Below W.heap.size W W4 := by rw [← hW4]; exact bal (Below.refl _ _)
  have BW := Lib.hid (HB.out.trans (B4.mono (Nat.le_trans hB BB.out.size)))
  have O1 := Lib.hid (O0.out.below B4)
  have L1 : Hid (RA byE W4 (.slice (some ⟨W.heap.size, 0, none⟩) 4 4) [d, A, Q2, Z2]) := Lib.hid (by
    have := own_lit_a byE W (l := [d, A, Q2, Z2]) (fun x hx => by
      show By x
      unfold By
      simp only [List.mem_cons, List.not_mem_nil, or_false] at hx
      rcases hx with rfl | rfl | rfl | rfl <;> omega) (by unfold maxLen; simp)
    rw [← hW4]
    simpa [byE] using this.ra)
  have V1 := Lib.hid (VV.out.below B4)
  have HNE : Hid (some w.heap.size ≠ bv.ownBlock) := Lib.hid (fun e => by have := (OO0.out.lt _ e.symm).2; omega)
  have hl1 : Hid (b0.length + [d, A, Q2, Z2].length ≤ 140737488355328) := Lib.hid (by have := HL.out; simp; omega)
  have hl2 : Hid ((b0 ++ [d, A, Q2, Z2]).length + bl.length ≤ 140737488355328) := Lib.hid (by have := HL.out; simp; omega)
  have HBS := Lib.hid (Nat.le_trans hB (Nat.le_trans BB.out.size B4.size))
  clear hW4 B4 hB zb vb kb
  by_cases h4 : d = 4
  · rw [if_pos h4] at ez
    subst h4
    subst ez
    go_enter Try.func21, Try.ntmps21
    go_wp2_with fail
    refine (CW.out).mono ?_; rintro e w' ⟨rfl, rfl⟩
    go_wp2_with fail
    refine (CG.out).mono ?_; rintro e w' ⟨rfl, rfl⟩
    go_wp2_with fail
    refine (CN.out).mono ?_; rintro e w' ⟨rfl, rfl⟩
    go_wp2_with fail
    refine (CZ.out).mono ?_; rintro e w' ⟨rfl, rfl⟩
    go_wp2_with (at_builtin; refine app_bys rfl _ _ rfl _ _ _ rfl O1.out _ [4, A, Q2, Z2] rfl L1.out hl1 HBS.out ?_)
    intro v5 w5 ho hg hx
    have B5 := Lib.hid (below_app BW.out HBS.out O1.out hg)
    have c4 := (show Pxv w5 w.heap.size _ from Whole.grown V1.out hg HNE.out).c4
    dsimp only at c4
    have O5 := Lib.hid ho
    have R5 := Lib.hid (HR.out _ B5.out)
    have HS5 := Lib.hid (Nat.le_trans HBS.out hg.size)
    clear ho hg hx
    go_wp2_with (at_builtin; refine app_bys rfl _ _ rfl _ _ _ rfl O5.out _ bl rfl R5.out hl2 HS5.out ?_)
    intro v6 w6 ho hg hx
    have B6 := Lib.hid (below_app B5.out HS5.out O5.out hg)
    obtain ⟨p6, c6, rfl, _⟩ := ho.shape
    have O6 := Lib.hid ho
    clear ho hg hx
    go_wp2
    go_ret
    exact ⟨⟨_, rfl, O6.out⟩, B6.out⟩
  · rw [if_neg h4] at ez
    subst ez
    have e4 : (d == 4) = false := beq_eq_false_iff_ne.2 h4
    go_enter Try.func21, Try.ntmps21
    go_wp2_with fail
    refine (CW.out).mono ?_; rintro e w' ⟨rfl, rfl⟩
    go_wp2_with fail
    refine (CG.out).mono ?_; rintro e w' ⟨rfl, rfl⟩
    go_wp2_with fail
    refine (CN.out).mono ?_; rintro e w' ⟨rfl, rfl⟩
    go_wp2_with fail
    refine (CZ.out).mono ?_; rintro e w' ⟨rfl, rfl⟩
    go_wp2_with (at_builtin; refine app_bys rfl _ _ rfl _ _ _ rfl O1.out _ [d, A, Q2, Z2] rfl L1.out hl1 HBS.out ?_)
    intro v5 w5 ho hg hx
    have B5 := Lib.hid (below_app BW.out HBS.out O1.out hg)
    have c4 := (show Pxv w5 w.heap.size _ from Whole.grown V1.out hg HNE.out).c4
    dsimp only at c4
    have O5 := Lib.hid ho
    have R5 := Lib.hid (HR.out _ B5.out)
    have HS5 := Lib.hid (Nat.le_trans HBS.out hg.size)
    clear ho hg hx
    go_wp2_with (at_builtin; refine app_bys rfl _ _ rfl _ _ _ rfl O5.out _ bl rfl R5.out hl2 HS5.out ?_)
    intro v6 w6 ho hg hx
    have B6 := Lib.hid (below_app B5.out HS5.out O5.out hg)
    obtain ⟨p6, c6, rfl, _⟩ := ho.shape
    have O6 := Lib.hid ho
    clear ho hg hx
    go_wp2
    go_ret
    exact ⟨⟨_, rfl, O6.out⟩, B6.out⟩
theorem enc_len : ∀ {l : List Cx} (_ : ∀ x ∈ l, MayC x), (enc l).length ≤ l.length * 259
  | [], _ => by simp [enc]
  | x :: l, h => by
    have h1 := h x (List.mem_cons_self ..)
    have h2 := enc_len (l := l) (fun y hy => h y (List.mem_cons_of_mem _ hy))
    have h3 := h1.ranges.1
    rw [enc_cons, List.length_append, List.length_cons]
    have h4 : (opB x).length = 4 + x.bl.length := by unfold opB; rw [if_pos h1.kind]; simp; omega
    omega
def encR (b : Bool) (l : List Px) : List Int := if b then enc (l.map toC) else []
/-- encoding under way -/
structure ES (w wr : World) (l : List Px) (bv : Value) (k : Nat) : Prop where
  le : k ≤ l.length
  may : ∀ x ∈ l.take k, MayC (toC x)
  own : OwnA byE w.heap.size wr bv (enc ((l.take k).map toC))
  below : Below w.heap.size w wr
theorem ES.len {w wr : World} {l : List Px} {bv : Value} {k : Nat} (h : ES w wr l bv k) : (enc ((l.take k).map toC)).length ≤ l.length * 259 := by
  have := enc_len (l := (l.take k).map toC) (fun x hx => by
    obtain ⟨y, hy, rfl⟩ := List.mem_map.1 hx
    exact h.may y hy)
  rw [List.length_map, List.length_take] at this
  have := h.le
  have : min k l.length * 259 ≤ l.length * 259 := Nat.mul_le_mul_right _ (by omega)
  omega
theorem px_next {l : List Px} {k : Nat} (hk : k < l.length) : l.take (k + 1) = l.take k ++ [l.getD k default] := by
  rw [List.getD_eq_getElem?_getD, List.getElem?_eq_getElem hk]; exact List.take_append_getElem hk |>.symm
theorem ES.step {w wr w' : World} {l : List Px} {bv u : Value} {k : Nat} (h : ES w wr l bv k) (hk : k < l.length) (hm : MayC (toC (l.getD k default))) (ho : OwnA byE w.heap.size w' u (enc ((l.take k).map toC) ++ opB (toC (l.getD k default)))) (hb : Below w.heap.size w w') : ES w w' l u (k + 1) := by
  refine ⟨hk, fun x hx => ?_, ?_, hb⟩
  · rw [px_next hk] at hx
    rcases List.mem_append.1 hx with hx | hx
    · exact h.may x hx
    · rw [List.mem_singleton.1 hx]; exact hm
  · rw [px_next hk, List.map_append, enc, List.flatMap_append]
    simpa [enc] using ho
end Go.Proofs.Ytdnijdbhdlengaa
