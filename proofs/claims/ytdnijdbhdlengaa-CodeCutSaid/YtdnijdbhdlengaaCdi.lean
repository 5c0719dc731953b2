/-
  Contract of package code: Encode.
-/
import Derived.Test.YtdnijdbhdlengaaCdh
namespace Go.Proofs.Ytdnijdbhdlengaa
set_option maxRecDepth 100000
open Go.RowKit

set_option maxHeartbeats 2000000 in
theorem encode_is (l : List Px) (v : Value) (w : World) (h : RO w v l) (hl : l.length ≤ 1000) (hdl : ∀ x ∈ l, x.bl.length ≤ 4000) (b : Bool) (hb : b = true ↔ ∀ x ∈ l, MayC (toC x)) :
    Calls Try.prog 11 #[v] w fun e w' => (∃ u, e = .returned (.tuple #[u, .bool b]) ∧ OwnA byE w.heap.size w' u (encR b l)) ∧ Below w.heap.size w w' := by
  obtain ⟨p0, cp0, rfl, _⟩ := h.shape
  have HV := Lib.hid (fun (w' : World) (hb : Below w.heap.size w w') => h.below hb)
  have HL := Lib.hid (And.intro hl hdl)
  have HE := Lib.hid hb
  have H0 := Lib.hid (show ES w w l (.slice none 0 0) 0 from ⟨Nat.zero_le _, by simp, by simpa [enc] using own_nil_a byE _ _, Below.refl _ _⟩)
  clear h hl hdl hb
  obtain ⟨N, hN⟩ : ∃ N, l.length = N := ⟨_, rfl⟩
  rw [hN] at HV HL ⊢
  have HN := Lib.hid hN
  clear hN
  go_enter Try.func11, Try.ntmps11
  go_wp2
  go_loopw [4, 9] (fun bv i wr => ∃ k : Nat, i = .int .i64 k ∧ Hid (ES w wr l bv k)) (fun _ i _ => N - (intOf i).toNat)
  case atStart => exact ⟨0, rfl, H0⟩
  case round =>
    obtain ⟨k, rfl, H⟩ := hrel
    have hkN : k ≤ N := by rw [← HN.out]; exact H.out.le
    by_cases hk : k < N
    · have hk' : k < l.length := by rw [HN.out]; exact hk
      obtain ⟨q, off, rfl, hq, hx⟩ := ro_at (HV.out _ H.out.below) (by omega)
      obtain ⟨ld0, _, _, _, hwi, hdat⟩ := hx k hk'
      have hbl := HL.out.2 (l.getD k default) (by rw [List.getD_eq_getElem?_getD, List.getElem?_eq_getElem hk']; exact List.getElem_mem hk')
      have HST := Lib.hid (fun hm w' u ho hb => H.out.step (w' := w') (u := u) hk' hm ho hb)
      have hin : l.getD k default ∈ l := by rw [List.getD_eq_getElem?_getD, List.getElem?_eq_getElem hk']; exact List.getElem_mem hk'
      have HIN := Lib.hid (fun (hh : ∀ x ∈ l, MayC (toC x)) => hh _ hin)
      have HD := Lib.hid (fun (w' : World) (hb : Below w.heap.size w w') => (HV.out w' hb).2 _ hin)
      have hlen := H.out.len
      obtain ⟨x, hxx⟩ : ∃ x, l.getD k default = x := ⟨_, rfl⟩
      rw [hxx] at ld0 hwi hdat hbl HST HIN HD
      obtain ⟨d, o, n, m, xv, bl⟩ := x
      dsimp only at hdat hbl HD
      obtain ⟨p, c, rfl, _⟩ := ra_shape hdat
      obtain ⟨W, hW, hst, HW⟩ := px_boxed wr ⟨d, o, n, m, .slice p bl.length c, bl⟩ rfl
      have ld := HW.out.1.whole
      have BW := Lib.hid (below_more H.out.below HW.out.2)
      have OW := Lib.hid (H.out.own.below HW.out.2)
      have VW := Lib.hid HW.out.1
      have i1 : (k : Int) < (N : Int) := by omega
      have i2 : ¬ (k : Int) < 0 := by omega
      have i3 : IntKind.i64.wrap ((k : Int) + 1) = ((k + 1 : Nat) : Int) := by rw [show (k : Int) + 1 = ((k + 1 : Nat) : Int) by omega]; exact i64_nat _ (by have := HL.out.1; omega)
      have HBL := Lib.hid (And.intro hbl hlen)
      clear hx hwi hdat hbl hin hlen hxx
      by_cases hm : MayC ⟨d, o, n, m, bl⟩
      · have CM := Lib.hid (fun w => cmayop_is d o n m p c bl w true ⟨fun _ => hm, fun _ => rfl⟩)
        have HM := Lib.hid hm
        clear hm
        go_wp2_with fail
        refine (CM.out _).mono ?_; rintro e w1 ⟨rfl, b1⟩
        have B1 := Lib.hid (below_more BW.out b1)
        have ld1 := (VW.out.below b1).whole
        have O1 := OW.out.below b1
        have CA := Lib.hid (add_is O1 B1.out.size d o n m p c bl (fun w' hb => HD.out w' (B1.out.trans hb)) (by have := HBL.out; have := HL.out.1; rw [HN.out] at *; simp only at *; omega) HM.out)
        clear b1 O1
        go_wp2_with fail
        refine (CA.out).mono ?_; rintro e w2 ⟨⟨u, rfl, ho⟩, hb2⟩
        obtain ⟨pu, cu, rfl, _⟩ := ho.shape
        obtain ⟨Lu, hLu⟩ : ∃ Lu, (enc (List.map toC (List.take k l)) ++ opB ⟨d, o, n, m, bl⟩).length = Lu := ⟨_, rfl⟩
        rw [hLu] at ho ⊢
        clear hLu
        have HS := Lib.hid (HST.out HM.out w2 _ ho (B1.out.trans hb2))
        clear ho hb2
        go_wp2
        go_roundw
        case rel => exact ⟨k + 1, by go_num, HS⟩
        case measure => simp [intOf]; omega
      · have CM := Lib.hid (fun w => cmayop_is d o n m p c bl w false ⟨(fun h => nomatch h), fun h => absurd h hm⟩)
        obtain rfl : b = false := by
          cases b
          · rfl
          · exact absurd (HIN.out (HE.out.1 rfl)) hm
        clear hm
        go_wp2_with fail
        refine (CM.out _).mono ?_; rintro e w1 ⟨rfl, b1⟩
        have B1 := Lib.hid (below_more BW.out b1)
        clear b1
        go_wp2
        go_ret2
        exact ⟨⟨_, rfl, own_nil_a _ _ _⟩, B1.out⟩
    · obtain rfl : k = N := by omega
      have i1 : ¬ (k : Int) < (k : Int) := by omega
      have ht : l.take k = l := List.take_of_length_le (by rw [HN.out]; exact Nat.le_refl _)
      obtain rfl : b = true := HE.out.2 (fun x hx => H.out.may x (by rw [ht]; exact hx))
      have HF := Lib.hid (And.intro (show OwnA byE w.heap.size wr u4 (encR true l) from by have := H.out.own; rw [ht] at this; exact this) H.out.below)
      clear ht
      go_wp2
      go_ret2
      exact ⟨⟨_, rfl, HF.out.1⟩, HF.out.2⟩
end Go.Proofs.Ytdnijdbhdlengaa
