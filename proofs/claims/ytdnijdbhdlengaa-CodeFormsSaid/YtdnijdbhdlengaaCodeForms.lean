/-
  Any bytes, any operations: package code tells what the document's reference tells. No conditions.
-/
import Derived.Test.YtdnijdbhdlengaaCdn
import Derived.Test.YtdnijdbhdlengaaCdw
namespace Go.Proofs.Ytdnijdbhdlengaa.codeForms
set_option maxRecDepth 100000
open Go.Proofs.Ytdnijdbhdlengaa Go.ChangeShapes Go.WideShapes Go.ChangeAt Go.RowKit

theorem far (p q : Option Addr) (N M c d : Nat) (w : World) (h : 2000 < N ∨ 200 < M) :
    Calls Try.prog 3 #[.slice p N c, .slice q M d] w fun e w' => e = .returned (.bool true) ∧ Below w.heap.size w w' := by
  by_cases h1 : 2000 < N
  · have i1 : (N : Int) > 2000 := by omega
    clear h
    go_enter Try.func3, Try.ntmps3
    go_wp2_with fail
    refine (awake_any _).mono ?_; rintro e w' ⟨rfl, hb⟩
    go_wp2_with fail
    go_ret
    exact ⟨rfl, hb⟩
  · have i1 : ¬ (N : Int) > 2000 := by omega
    have i2 : (M : Int) > 200 := by omega
    clear h
    go_enter Try.func3, Try.ntmps3
    go_wp2_with fail
    refine (awake_any _).mono ?_; rintro e w' ⟨rfl, hb⟩
    go_wp2_with fail
    go_ret
    exact ⟨rfl, hb⟩
set_option maxHeartbeats 4000000 in
theorem near (b0 : List Int) (l : List Px) (p q : Option Addr) (N M c d : Nat) (w : World) (hv : RA byE w (.slice p N c) b0) (hu : RO w (.slice q M d) l) (h1 : N ≤ 2000) (h2 : M ≤ 200) (hN : b0.length = N) (hM : l.length = M) :
    Calls Try.prog 3 #[.slice p N c, .slice q M d] w fun e w' => e = .returned (.bool true) ∧ Below w.heap.size w w' := by
  have i1 : ¬ (N : Int) > 2000 := by omega
  have i2 : ¬ (M : Int) > 200 := by omega
  have HV := Lib.hid (fun (w' : World) (hb : Below w.heap.size w w') => ra_below hv hb)
  have HU := Lib.hid (fun (w' : World) (hb : Below w.heap.size w w') => hu.below hb)
  have HL := Lib.hid (And.intro h1 (And.intro h2 (And.intro hN hM)))
  clear hv hu h1 h2 hN hM
  go_enter Try.func3, Try.ntmps3
  go_wp2
  go_loopw [22] (fun i wr => ∃ k : Nat, k ≤ M ∧ i = .int .i64 k ∧ Hid ((∀ x ∈ l.take k, x.bl.length ≤ 400) ∧ Below w.heap.size w wr)) (fun i _ => M - (intOf i).toNat)
  case atStart => exact ⟨0, Nat.zero_le _, rfl, Lib.hid ⟨by simp, Below.refl _ _⟩⟩
  case round =>
    obtain ⟨k, hkM, rfl, H⟩ := hrel
    by_cases hk : k < M
    · have hk' : k < l.length := by rw [HL.out.2.2.2]; exact hk
      obtain ⟨q0, off, rfl, hq, hx⟩ := ro_at (HU.out _ H.out.2) (by omega)
      obtain ⟨ld0, _, _, _, hwi, hdat⟩ := hx k hk'
      have hin : l.getD k default ∈ l := by rw [List.getD_eq_getElem?_getD, List.getElem?_eq_getElem hk']; exact List.getElem_mem hk'
      have HD := Lib.hid (fun (w' : World) (hb : Below w.heap.size w w') => (HU.out w' hb).2 _ hin)
      have HT := Lib.hid (px_next hk')
      obtain ⟨x, hxx⟩ : ∃ x, l.getD k default = x := ⟨_, rfl⟩
      rw [hxx] at ld0 hwi hdat HD HT
      obtain ⟨d1, o, n, m, xv, bl⟩ := x
      dsimp only at hdat HD
      obtain ⟨px, cx, rfl, _⟩ := ra_shape hdat
      obtain ⟨W, hW, hst, HW⟩ := px_boxed wr ⟨d1, o, n, m, .slice px bl.length cx, bl⟩ rfl
      have c4 := HW.out.1.c4
      dsimp only at c4
      have BW := Lib.hid (below_more H.out.2 HW.out.2)
      have i3 : (k : Int) < (M : Int) := by omega
      have i4 : ¬ (k : Int) < 0 := by omega
      have i5 : IntKind.i64.wrap ((k : Int) + 1) = ((k + 1 : Nat) : Int) := by rw [show (k : Int) + 1 = ((k + 1 : Nat) : Int) by omega]; exact i64_nat _ (by have := HL.out; omega)
      have r0 : ∀ w' : World, Below W.heap.size W w' → (pxLoad (.pointer (some ⟨wr.heap.size, 0, none⟩))).run Try.prog w' = .ok (.agg (pxc ⟨d1, o, n, m, .slice px bl.length cx, bl⟩)) w' := fun w' hb => (HW.out.1.below hb).whole
      obtain ⟨b, hb⟩ : ∃ b : Bool, b = true ↔ MayC ⟨d1, o, n, m, bl⟩ := ⟨@decide _ (Classical.propDecidable _), @decide_eq_true_iff _ (Classical.propDecidable _)⟩
      have C1 := Lib.hid (fun w => cmayop_is d1 o n m px cx bl w b hb)
      have C2 := Lib.hid (fun (w' : World) (hw : Below W.heap.size W w') => rmayop_is d1 o n m px cx bl w' (HD.out w' (below_more BW.out hw)) b hb)
      clear hx hwi hdat hin hxx hb hk'
      by_cases h4 : bl.length ≤ 400
      · have j1 : ¬ (bl.length : Int) > 400 := by omega
        have HS0 : Hid (∀ x ∈ l.take (k + 1), x.bl.length ≤ 400) := Lib.hid (by
          rw [HT.out]
          intro x hx
          rcases List.mem_append.1 hx with hx | hx
          · exact H.out.1 x hx
          · rw [List.mem_singleton.1 hx]; exact h4)
        generalize bl.length = Nb at *
        go_wp2
        go_region_held3 (fun w' => Below W.heap.size W w')
          (first | assumption | exact (Below.refl _ _).drew | exact below_more ‹Below W.heap.size W _› hbq)
          (first
            | (go_at_call 9; refine (C1.out _).mono ?_; rintro e wq ⟨rfl, hbq⟩)
            | (go_at_call 10; refine (C2.out _ (by assumption)).mono ?_; rintro e wq ⟨rfl, hbq⟩))
        have HS := Lib.hid (And.intro HS0.out (below_more BW.out ‹Below W.heap.size W wq›))
        have jb : (b != b) = false := by simp
        go_wp2
        go_roundw
        case rel => exact ⟨k + 1, by omega, by go_num, HS⟩
        case measure => simp [intOf]; omega
      · have j1 : (bl.length : Int) > 400 := by omega
        generalize bl.length = Nb at *
        go_wp2_with fail
        refine (awake_any _).mono ?_; rintro e w' ⟨rfl, hb⟩
        have HS := Lib.hid (below_more BW.out hb)
        clear hb
        go_wp2_with fail
        go_ret
        exact ⟨rfl, HS.out⟩
    · obtain rfl : k = M := by omega
      have t1 : l.take k = l := List.take_of_length_le (by rw [HL.out.2.2.2]; exact Nat.le_refl _)
      have hdl := H.out.1
      rw [t1] at hdl
      have HB := Lib.hid H.out.2
      obtain ⟨b, hb⟩ : ∃ b : Bool, b = true ↔ ∀ x ∈ l, MayC (toC x) := ⟨@decide _ (Classical.propDecidable _), @decide_eq_true_iff _ (Classical.propDecidable _)⟩
      have C1 := Lib.hid (encode_is l _ wr (HU.out _ HB.out) (by have := HL.out; omega) (fun x hx => by have := hdl x hx; omega) b hb)
      have C2 := Lib.hid (fun (w' : World) (hw : Below w.heap.size w w') => rencode_is l _ w' (HU.out _ hw) (by have := HL.out; omega) (fun x hx => by have := hdl x hx; omega) b hb)
      have C3 := Lib.hid (fun (w' : World) (hw : Below w.heap.size w w') => decode_is b0 _ w' (HV.out _ hw) (by have := HL.out; omega))
      have C4 := Lib.hid (fun (w' : World) (hw : Below w.heap.size w w') => rdecode_is b0 _ w' (HV.out _ hw) (by have := HL.out; omega))
      have hlc := (byts_of (HV.out _ HB.out)).few
      have HLC := Lib.hid hlc
      clear t1 hdl hb hlc
      go_wp2_with fail
      refine (C1.out).mono ?_; rintro e w1 ⟨⟨u1, rfl, hu1⟩, b1⟩
      have B1 := Lib.hid (below_more HB.out b1)
      have R1 := Lib.hid hu1.ra
      clear hu1 b1
      go_wp2_with fail
      refine (C2.out _ B1.out).mono ?_; rintro e w2 ⟨⟨u2, rfl, hu2⟩, b2⟩
      have B2 := Lib.hid (below_more B1.out b2)
      have R1 := Lib.hid (ra_below R1.out b2)
      have R2 := Lib.hid hu2.ra
      clear hu2 b2
      go_wp2_with fail
      refine (C3.out _ B2.out).mono ?_; rintro e w3 ⟨⟨u3, L3, rfl, hL3, e3, _⟩, b3⟩
      have B3 := Lib.hid (below_more B2.out b3)
      have R1 := Lib.hid (ra_below R1.out b3)
      have R2 := Lib.hid (ra_below R2.out b3)
      have O3 := Lib.hid hL3.ro
      have E3 := Lib.hid e3
      clear hL3 e3 b3
      go_wp2_with fail
      refine (C4.out _ B3.out).mono ?_; rintro e w4 ⟨⟨u4, L4, rfl, hL4, e4, _⟩, b4⟩
      have B4 := Lib.hid (below_more B3.out b4)
      have R1 := Lib.hid (ra_below R1.out b4)
      have R2 := Lib.hid (ra_below R2.out b4)
      have O3 := Lib.hid (O3.out.below b4)
      have C5 := Lib.hid (sameops_is L3 L4 u3 u4 w4 O3.out hL4.ro (by have h1 := congrArg List.length E3.out; rw [List.length_map] at h1; have := HLC.out; have := HL.out; omega) true ⟨fun _ => by rw [E3.out, e4], fun _ => rfl⟩)
      clear hL4 e4 b4
      go_wp2_with fail
      refine (C5.out).mono ?_; rintro e w5 ⟨rfl, b5⟩
      have B5 := Lib.hid (below_more B4.out b5)
      have hs1 := run_strConv (ra_below R1.out b5)
      have hs2 := run_strConv (ra_below R2.out b5)
      obtain ⟨p1, c1, rfl, _⟩ := ra_shape R1.out
      obtain ⟨p2, c2, rfl, _⟩ := ra_shape R2.out
      generalize strOfNums (encR b l) = sl at *
      generalize (encR b l).length = nl at *
      have jb : (b == b) = true := by simp
      clear b5
      go_wp2_with fail
      refine (awake_any _).mono ?_; rintro e w6 ⟨rfl, hb⟩
      have HS := Lib.hid (below_more B5.out hb)
      clear hb
      go_wp2_with fail
      go_ret
      exact ⟨rfl, HS.out⟩
theorem walk (l0 : List Int) (v0 : Value) (l1 : List Px) (v1 : Value) (w : World) (w0 : RA byE w v0 l0) (w1 : RA (opE w) w v1 l1) :
    Calls Try.prog 3 #[v0, v1] w fun e w' => e = .returned (.bool true) ∧ Below w.heap.size w w' := by
  have hu := ro_in w1
  obtain ⟨p, c, rfl, _⟩ := ra_shape w0
  obtain ⟨q, d, rfl, _⟩ := hu.shape
  by_cases h : 2000 < l0.length ∨ 200 < l1.length
  · exact far p q _ _ c d w h
  · exact near l0 l1 p q _ _ c d w w0 hu (by omega) (by omega) rfl rfl

set_option maxRecDepth 100000 in
theorem lifted (os : Os) (started : os.Started) (H : Type) (enc : TypeId × Value → H) :
    ReturnsInHanded {} Try.checked os 3 .any (Rows.codeFormsSpec.pre6 enc Try.prog Try.f3 Rows.codeFormsRow.domain false) (Rows.codeFormsSpec.post enc Try.prog Try.f3 false true false false) := by
  refine returnsInHanded_of_change (C := Try.checked) own started (by kernel_rfl) Try.func3
    (ChangeSpec.witness6 (enc := enc) (C := Try.checked) false ⟨#[], #[.slice none 0 0, .slice none 0 0], []⟩ 8 (by kernel_rfl) (by kernel_rfl) (by kernel_rfl) (by kernel_rfl)) ?_
  intro W base args ds gs before hval0 hW hcnd _
  have hval : ∀ (j : Nat) t v, Try.f3.params[j]? = some t → args[j]? = some v → Value.okWide Try.prog W .any base t v := hval0
  have hW' := hW
  have hlt := hW.lt
  obtain ⟨p, q, hA0, hV, hpq, hfz, hnd⟩ := hW
  have hA : DataW.TrodAll enc Try.prog W 0 (fun _ => true) true Try.f3.params.toList args.toList ds p := hA0
  rw [Try.params3] at hA hval
  obtain ⟨v0, vs0, d0, ds0, p0, q0, hargs, rfl, hp, h0, r0⟩ := trodAll_cons hA
  obtain ⟨v1, vs1, d1, ds1, p1, q1, rfl, rfl, rfl, h1, r1⟩ := trodAll_cons r0
  obtain ⟨rfl, rfl, rfl⟩ := trodAll_nil r1
  obtain rfl : args = #[v0, v1] := by cases args; simp_all
  obtain ⟨rfl, rfl⟩ := trodVars_none hV
  have hlt' : ∀ x ∈ before, x.block < W.heap.size := fun x hx => hlt x hx
  obtain ⟨l0, w0⟩ := bytes_in (hval 0 22 v0 rfl rfl) h0
  obtain ⟨l1, w1⟩ := hops_in (hval 1 23 v1 rfl rfl) h1
  refine (walk l0 v0 l1 v1 W w0 w1).mono fun e W' ⟨he, hb⟩ => ?_
  subst he
  exact ⟨_, rfl, law_post rfl (by kernel_rfl) hW' (by rw [Try.params3]; intro t ht; simp only [List.mem_cons, List.not_mem_nil, or_false] at ht; (repeat' (first | (rcases ht with rfl | ht) | subst ht)) <;> exact ⟨by kernel_rfl, of_decide_eq_true (by kernel_rfl)⟩) rfl hb⟩

theorem over : Rows.codeFormsRow.holds Try.pinned (OpenSpec.ofChange Rows.codeFormsSpec) :=
  OpenClaim.holds_of_wide 3 Try.f3 rfl rfl rfl rfl rfl rfl rfl ⟨rfl, rfl, rfl, rfl, rfl⟩ rfl rfl rfl rfl rfl (by kernel_rfl) Try.func3 (by kernel_rfl)
    (of_decide_eq_true (by kernel_rfl)) (by unfold Func.isWrapper; first | (rw [if_pos (by decide +kernel)]; kernel_rfl) | (rw [if_neg (by decide +kernel)]; exact ⟨rfl, rfl⟩))
    (fun os started H enc _ => lifted os started H enc)

theorem proved : Rows.CodeFormsSaid := over
end Go.Proofs.Ytdnijdbhdlengaa.codeForms
