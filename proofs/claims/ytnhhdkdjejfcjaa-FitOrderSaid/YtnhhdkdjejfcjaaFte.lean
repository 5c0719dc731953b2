/-
  Contract of package fit: which block is chosen.
-/
import Derived.Test.YtnhhdkdjejfcjaaFtd
import Derived.Deep.RegionHeld3
namespace Go.Proofs.Ytnhhdkdjejfcjaa
set_option maxRecDepth 100000
open Go.RowKit

theorem ins_getD {f : List Nat} {k : Nat} (h : k < f.length) : (ins f).getD k 0 = ((f.getD k 0 : Nat) : Int) := by
  simp [ins, h]
theorem getD_cut_n {f : List Nat} {k : Nat} (hk : k < f.length) : f.drop k = f.getD k 0 :: f.drop (k + 1) := by
  rw [List.getD_eq_getElem?_getD, List.getElem?_eq_getElem hk]; exact List.drop_eq_getElem_cons hk
theorem getD_mem_n {f : List Nat} {k : Nat} (hk : k < f.length) : f.getD k 0 ∈ f := by
  rw [List.getD_eq_getElem?_getD, List.getElem?_eq_getElem hk]; exact List.getElem_mem hk
/-- the rest to be chosen of -/
def Chs (cs : List Int) (l : List Bk) (f : List Nat) (R : Option Nat) (k : Nat) (o : Option Nat) : Prop := chO cs l o (f.drop k) = R ∧ ∀ d, o = some d → d < l.length
theorem Chs.first {cs : List Int} {l : List Bk} {f : List Nat} {R : Option Nat} {k : Nat} (h : Chs cs l f R k none) (hk : k < f.length) (hf : ∀ i ∈ f, i < l.length) : Chs cs l f R (k + 1) (some (f.getD k 0)) := by
  obtain ⟨h1, _⟩ := h
  rw [getD_cut_n hk, chO] at h1
  exact ⟨h1, fun d e => by cases e; exact hf _ (getD_mem_n hk)⟩
theorem Chs.turn {cs : List Int} {l : List Bk} {f : List Nat} {R : Option Nat} {k c : Nat} (h : Chs cs l f R k (some c)) (hk : k < f.length) (hf : ∀ i ∈ f, i < l.length) (ha : ahd cs (atL l (f.getD k 0)) (atL l c) = true) : Chs cs l f R (k + 1) (some (f.getD k 0)) := by
  obtain ⟨h1, _⟩ := h
  rw [getD_cut_n hk, chO, if_pos ha] at h1
  exact ⟨h1, fun d e => by cases e; exact hf _ (getD_mem_n hk)⟩
theorem Chs.stay {cs : List Int} {l : List Bk} {f : List Nat} {R : Option Nat} {k c : Nat} (h : Chs cs l f R k (some c)) (hk : k < f.length) (ha : ahd cs (atL l (f.getD k 0)) (atL l c) = false) : Chs cs l f R (k + 1) (some c) := by
  obtain ⟨h1, h2⟩ := h
  rw [getD_cut_n hk, chO, ha, if_neg Bool.false_ne_true] at h1
  exact ⟨h1, h2⟩

set_option maxHeartbeats 2000000 in
theorem choose_is (n : Int) (cs : List Int) (l : List Bk) (v u : Value) (R : Option Nat) (w : World) (hv : RA blkE w v l) (hu : RI w u cs) (hl : l.length ≤ 1000) (hR : chN n cs l = R) :
    Calls Try.prog 8 #[v, .int .i64 n, u] w fun e w' => e = .returned (.int .i64 (oi R)) ∧ Below w.heap.size w w' := by
  have T := Lib.hid (fits_is n l v w hv hl)
  have hm : ∀ i ∈ fitN n l, i < l.length := fun i hi => (fitN_mem hi).1
  rw [chN] at hR
  generalize fitN n l = F at *
  obtain ⟨p, cap, rfl, hlc, hcm⟩ := ra_shape hv
  obtain ⟨pu, cu, rfl, _, _, _⟩ := id hu
  have HL := Lib.hid hl
  have HV := Lib.hid hv
  have HU := Lib.hid hu
  have HR := Lib.hid hR
  have HM := Lib.hid hm
  clear hcm hlc hv hu hl hR hm
  go_enter Try.func8, Try.ntmps8
  go_wp2_with fail
  refine (T.out).mono ?_; rintro e w1 ⟨⟨v1, rfl, o1⟩, b1⟩
  have D1 := Lib.hid b1
  have HV1 := Lib.hid (ra_below HV.out b1)
  have HU1 := Lib.hid (ri_below HU.out b1)
  have HF1 := Lib.hid o1.ri
  have HFL : Hid (F.length ≤ 9223372036854775807) := Lib.hid (by
    obtain ⟨_, _, _, h1, h2, _⟩ := o1.ri
    rw [ins_length] at h1
    unfold maxLen at h2
    omega)
  obtain ⟨pf, cf, rfl⟩ := o1.shape
  clear b1 o1 T HV HU
  rw [ins_length] at HF1 ⊢
  go_wp2
  go_loopw [7, 14] (fun y i wr => ∃ (k : Nat) (o : Option Nat), k ≤ F.length ∧ i = .int .i64 k ∧ y = .int .i64 (oi o) ∧ Hid (Chs cs l F R k o ∧ Below w1.heap.size w1 wr)) (fun _ i _ => F.length - (intOf i).toNat)
  case atStart => exact ⟨0, none, Nat.zero_le _, rfl, rfl, Lib.hid ⟨⟨HR.out, fun _ e => by cases e⟩, Below.refl _ _⟩⟩
  case round =>
    obtain ⟨k, o, hk, rfl, rfl, H⟩ := hrel
    by_cases hlt : k < F.length
    · obtain ⟨bf, of, rfl, _, hfr⟩ := ri_some (ri_below HF1.out H.out.2) (by rw [ins_length]; omega)
      have cf1 := hfr k (by rw [ins_length]; exact hlt)
      rw [ins_getD hlt] at cf1
      have hi := HM.out _ (getD_mem_n hlt)
      have i0 : (0 : Int) ≤ (k : Int) := by omega
      have i1 : (k : Int) < (F.length : Int) := by omega
      have i2 : ¬ (k : Int) < 0 := by omega
      have i3 : IntKind.i64.wrap ((k : Int) + 1) = ((k + 1 : Nat) : Int) := by rw [show (k : Int) + 1 = ((k + 1 : Nat) : Int) by omega]; exact i64_nat _ (by have := HFL.out; omega)
      have HK := Lib.hid hlt
      cases o with
      | none =>
        have HN := Lib.hid (H.out.1.first hlt HM.out)
        have HB := Lib.hid H.out.2
        have e0 : (oi none == -1) = true := rfl
        simp only [oi] at e0 ⊢
        generalize F.getD k 0 = I at *
        clear hfr hk
        go_wp2_with fail
        go_quiet (fail)
        go_wp2
        go_roundw
        case rel => exact ⟨k + 1, some I, by have := HK.out; omega, by go_num, rfl, Lib.hid ⟨HN.out, below_drewN HB.out _⟩⟩
        case measure => have := HK.out; simp [intOf]; omega
      | some c =>
        have hc := H.out.1.2 c rfl
        obtain ⟨r, hr⟩ : ∃ r, ahd cs (atL l (F.getD k 0)) (atL l c) = r := ⟨_, rfl⟩
        obtain ⟨b, off, rfl, _, _⟩ := blk_at (ra_below HV1.out H.out.2) (by omega)
        have ld : ∀ w', Below wr.heap.size wr w' → ∀ j, j < l.length → (blkLoad (.pointer (some ⟨b, off + j * 3, none⟩))).run Try.prog w' = .ok (.agg (bc (l.getD j default))) w' ∧ (l.getD j default).Wf := fun w' hb j hj => by
          obtain ⟨_, _, e, _, hx⟩ := blk_at (ra_below HV1.out (below_more H.out.2 hb)) (by omega)
          cases e
          exact ⟨(hx j hj).1, (hx j hj).2.2.2.2⟩
        have wi := (ld wr (Below.refl _ _) _ hi).2
        have wc := (ld wr (Below.refl _ _) _ hc).2
        have l1 : ∀ w', Below wr.heap.size wr w' → (blkLoad (.pointer (some ⟨b, off + F.getD k 0 * 3, none⟩))).run Try.prog w' = .ok (.agg (bc (l.getD (F.getD k 0) default))) w' := fun w' hb => (ld w' hb _ hi).1
        have l2 : ∀ w', Below wr.heap.size wr w' → (blkLoad (.pointer (some ⟨b, off + c * 3, none⟩))).run Try.prog w' = .ok (.agg (bc (l.getD c default))) w' := fun w' hb => (ld w' hb _ hc).1
        have HUR := Lib.hid (fun w' (hb : Below wr.heap.size wr w') => ri_below HU1.out (below_more H.out.2 hb))
        have HN : Hid (Chs cs l F R (k + 1) (if r = true then some (F.getD k 0) else some c)) := Lib.hid (by
          cases r
          · exact H.out.1.stay hlt hr
          · exact H.out.1.turn hlt HM.out hr)
        have HB := Lib.hid H.out.2
        have e0 : ((c : Int) == -1) = false := beq_eq_false_iff_ne.2 (by omega)
        have q0 : (c : Int) < (l.length : Int) := by omega
        have q1 : ((F.getD k 0 : Nat) : Int) < (l.length : Int) := by omega
        have q2 : ¬ (c : Int) < 0 := by omega
        have q3 : ¬ ((F.getD k 0 : Nat) : Int) < 0 := by omega
        have q4 : (0 : Int) ≤ (c : Int) := by omega
        have q5 : (0 : Int) ≤ ((F.getD k 0 : Nat) : Int) := by omega
        simp only [oi, atL] at e0 hr ⊢
        generalize F.getD k 0 = I at *
        generalize l.getD I default = X at *
        generalize l.getD c default = Y at *
        generalize l.length = L at *
        clear hfr hk ld H HV1 HU1 hi hc
        go_wp2_with fail
        go_region_held3 (fun w' => Below wr.heap.size wr w')
          (first | exact (Below.refl _ _).drew | exact below_more ‹Below wr.heap.size wr _› hbq)
          (first
            | (go_at_call 14; refine (ahead_is _ _ cs _ _ (HUR.out _ (by assumption)) (by assumption) (by assumption) r (by assumption)).mono ?_; rintro e wq ⟨rfl, hbq⟩))
        have HB2 := Lib.hid (below_more HB.out ‹Below wr.heap.size wr wq›)
        cases r
        · go_wp2
          go_roundw
          case rel => exact ⟨k + 1, some c, by have := HK.out; omega, by go_num, rfl, Lib.hid ⟨HN.out, HB2.out⟩⟩
          case measure => have := HK.out; simp [intOf]; omega
        · go_wp2
          go_roundw
          case rel => exact ⟨k + 1, some I, by have := HK.out; omega, by go_num, rfl, Lib.hid ⟨HN.out, HB2.out⟩⟩
          case measure => have := HK.out; simp [intOf]; omega
    · obtain rfl : k = F.length := by omega
      obtain ⟨h1, _⟩ := H.out.1
      rw [List.drop_length, chO] at h1
      subst h1
      have HB := Lib.hid (below_more D1.out H.out.2)
      go_wp2
      go_ret
      exact ⟨rfl, HB.out⟩
end Go.Proofs.Ytnhhdkdjejfcjaa
