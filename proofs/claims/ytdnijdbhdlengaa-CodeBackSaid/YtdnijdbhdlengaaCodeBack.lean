/-
  What is encoded is decoded as it was; whatever is decoded of bytes can be encoded, in no more bytes, and is decoded the same. No conditions.
-/
import Derived.Test.YtdnijdbhdlengaaCdl
import Derived.Test.YtdnijdbhdlengaaCdw
namespace Go.Proofs.Ytdnijdbhdlengaa.codeBack
set_option maxRecDepth 100000
open Go.Proofs.Ytdnijdbhdlengaa Go.ChangeShapes Go.WideShapes Go.ChangeAt Go.RowKit

theorem far (p q : Option Addr) (N M c d : Nat) (w : World) (h : 2000 < N ∨ 100 < M) :
    Calls Try.prog 4 #[.slice p N c, .slice q M d] w fun e w' => e = .returned (.bool true) ∧ Below w.heap.size w w' := by
  by_cases h1 : 2000 < N
  · have i1 : (N : Int) > 2000 := by omega
    clear h
    go_enter Try.func4, Try.ntmps4
    go_wp2_with fail
    refine (awake_any _).mono ?_; rintro e w' ⟨rfl, hb⟩
    go_wp2_with fail
    go_ret
    exact ⟨rfl, hb⟩
  · have i1 : ¬ (N : Int) > 2000 := by omega
    have i2 : (M : Int) > 100 := by omega
    clear h
    go_enter Try.func4, Try.ntmps4
    go_wp2_with fail
    refine (awake_any _).mono ?_; rintro e w' ⟨rfl, hb⟩
    go_wp2_with fail
    go_ret
    exact ⟨rfl, hb⟩
set_option maxHeartbeats 4000000 in
theorem near (b0 : List Int) (l : List Px) (p q : Option Addr) (N M c d : Nat) (w : World) (hv : RA byE w (.slice p N c) b0) (hu : RO w (.slice q M d) l) (h1 : N ≤ 2000) (h2 : M ≤ 100) (hN : b0.length = N) (hM : l.length = M) :
    Calls Try.prog 4 #[.slice p N c, .slice q M d] w fun e w' => e = .returned (.bool true) ∧ Below w.heap.size w w' := by
  have i1 : ¬ (N : Int) > 2000 := by omega
  have i2 : ¬ (M : Int) > 100 := by omega
  have HV := Lib.hid (fun (w' : World) (hb : Below w.heap.size w w') => ra_below hv hb)
  have HU := Lib.hid (fun (w' : World) (hb : Below w.heap.size w w') => hu.below hb)
  have HL := Lib.hid (And.intro h1 (And.intro h2 (And.intro hN hM)))
  have HBy := Lib.hid (byts_of hv)
  clear hv hu h1 h2 hN hM
  go_enter Try.func4, Try.ntmps4
  go_wp2
  go_loopw [23] (fun i wr => ∃ k : Nat, k ≤ M ∧ i = .int .i64 k ∧ Hid ((∀ x ∈ l.take k, x.bl.length ≤ 255) ∧ Below w.heap.size w wr)) (fun i _ => M - (intOf i).toNat)
  case atStart => exact ⟨0, Nat.zero_le _, rfl, Lib.hid ⟨by simp, Below.refl _ _⟩⟩
  case round =>
    obtain ⟨k, hkM, rfl, H⟩ := hrel
    by_cases hk : k < M
    · have hk' : k < l.length := by rw [HL.out.2.2.2]; exact hk
      obtain ⟨q0, off, rfl, hq, hx⟩ := ro_at (HU.out _ H.out.2) (by omega)
      obtain ⟨ld0, _, _, _, hwi, hdat⟩ := hx k hk'
      have HT := Lib.hid (px_next hk')
      obtain ⟨x, hxx⟩ : ∃ x, l.getD k default = x := ⟨_, rfl⟩
      rw [hxx] at ld0 hwi hdat HT
      obtain ⟨d1, o, n, m, xv, bl⟩ := x
      dsimp only at hdat
      obtain ⟨px, cx, rfl, _⟩ := ra_shape hdat
      obtain ⟨W, hW, hst, HW⟩ := px_boxed wr ⟨d1, o, n, m, .slice px bl.length cx, bl⟩ rfl
      have c4 := HW.out.1.c4
      dsimp only at c4
      have BW := Lib.hid (below_more H.out.2 HW.out.2)
      have i3 : (k : Int) < (M : Int) := by omega
      have i4 : ¬ (k : Int) < 0 := by omega
      have i5 : IntKind.i64.wrap ((k : Int) + 1) = ((k + 1 : Nat) : Int) := by rw [show (k : Int) + 1 = ((k + 1 : Nat) : Int) by omega]; exact i64_nat _ (by have := HL.out; omega)
      clear hx hwi hdat hxx hk'
      by_cases h4 : bl.length ≤ 255
      · have j1 : ¬ (bl.length : Int) > 255 := by omega
        have HS : Hid ((∀ x ∈ l.take (k + 1), x.bl.length ≤ 255) ∧ Below w.heap.size w W) := Lib.hid ⟨by
          rw [HT.out]
          intro x hx
          rcases List.mem_append.1 hx with hx | hx
          · exact H.out.1 x hx
          · rw [List.mem_singleton.1 hx]; exact h4, BW.out⟩
        generalize bl.length = Nb at *
        go_wp2
        go_roundw
        case rel => exact ⟨k + 1, by omega, by go_num, HS⟩
        case measure => simp [intOf]; omega
      · have j1 : (bl.length : Int) > 255 := by omega
        generalize bl.length = Nb at *
        go_wp2_with fail
        refine (awake_any _).mono ?_; rintro e w' ⟨rfl, hb⟩
        have HS := Lib.hid (below_more BW.out hb)
        clear hb
        go_wp2_with fail
        go_ret
        exact ⟨rfl, HS.out⟩
    · obtain rfl : k = M := by omega
      have t1 : l.take k = l := List.take_of_length_le (by rw [HL.out.2.2.2]; exact Nat.le_refl _)
      have hdl := H.out.1
      rw [t1] at hdl
      have HB := Lib.hid H.out.2
      have D1 := Lib.hid (fun (w' : World) (hw : Below w.heap.size w w') => decode_is b0 _ w' (HV.out _ hw) (by have := HL.out; omega))
      rcases Classical.em (∀ x ∈ l, MayC (toC x)) with hb | hb
      · have C1 := Lib.hid (encode_is l _ wr (HU.out _ HB.out) (by have := HL.out; omega) (fun x hx => by have := hdl x hx; omega) true ⟨fun _ => hb, fun _ => rfl⟩)
        have hel : (encR true l).length ≤ 100000 := by
          have := enc_len (l := l.map toC) (fun x hx => by obtain ⟨y, hy, rfl⟩ := List.mem_map.1 hx; exact hb y hy)
          rw [List.length_map] at this
          show (enc (l.map toC)).length ≤ _
          have := HL.out; omega
        have hed : dec (encR true l) = l.map toC := by
          have := dec_enc (l := l.map toC) (fun x hx => by obtain ⟨y, hy, rfl⟩ := List.mem_map.1 hx; exact hb y hy) []
          rw [List.append_nil, dec_nil, List.append_nil] at this
          exact this
        have HEL := Lib.hid (And.intro hel hed)
        clear t1 hdl hb hel hed
        go_wp2_with fail
        refine (C1.out).mono ?_; rintro e w1 ⟨⟨u1, rfl, hu1⟩, b1⟩
        have B1 := Lib.hid (below_more HB.out b1)
        have C2 := Lib.hid (decode_is (encR true l) u1 w1 hu1.ra HEL.out.1)
        obtain ⟨p1, c1, rfl, _⟩ := hu1.shape
        generalize (encR true l).length = n1 at *
        clear hu1 b1
        go_wp2_with fail
        refine (C2.out).mono ?_; rintro e w2 ⟨⟨u2, L2, rfl, hL2, e2, _⟩, b2⟩
        have B2 := Lib.hid (below_more B1.out b2)
        have C3 := Lib.hid (sameops_is L2 l u2 _ w2 hL2.ro (HU.out _ B2.out) (by have h1 := congrArg List.length e2; rw [HEL.out.2, List.length_map, List.length_map] at h1; have := HL.out; omega) true ⟨fun _ => by rw [e2, HEL.out.2], fun _ => rfl⟩)
        clear hL2 e2 b2
        go_wp2_with fail
        refine (C3.out).mono ?_; rintro e w3 ⟨rfl, b3⟩
        have B3 := Lib.hid (below_more B2.out b3)
        clear b3
        go_wp2_with fail
        refine (D1.out _ B3.out).mono ?_; rintro e w4 ⟨⟨u4, L4, rfl, hL4, e4, hd4⟩, b4⟩
        have B4 := Lib.hid (below_more B3.out b4)
        have hm4 : ∀ x ∈ L4, MayC (toC x) := fun x hx => HBy.out.may _ (by rw [← e4]; exact List.mem_map.2 ⟨x, hx, rfl⟩)
        have hn4 : L4.length ≤ 500 := by
          have h1 := congrArg List.length e4
          have h2 := HBy.out.few
          rw [List.length_map] at h1
          have := HL.out; omega
        have C5 := Lib.hid (encode_is L4 u4 w4 hL4.ro (by omega) (fun x hx => by have := hd4 x hx; omega) true ⟨fun _ => hm4, fun _ => rfl⟩)
        have R4 := Lib.hid hL4.ro
        have hle : (encR true L4).length ≤ N := by
          show (enc (L4.map toC)).length ≤ N
          rw [e4]
          have := HBy.out.len; have := HL.out; omega
        have hde : dec (encR true L4) = L4.map toC := by
          have := dec_enc (l := L4.map toC) (fun x hx => by obtain ⟨y, hy, rfl⟩ := List.mem_map.1 hx; exact hm4 y hy) []
          rw [List.append_nil, dec_nil, List.append_nil] at this
          exact this
        have H4 := Lib.hid (And.intro hle (And.intro hde hn4))
        clear hL4 e4 hd4 b4 hm4 hn4 hle hde
        go_wp2_with fail
        refine (C5.out).mono ?_; rintro e w5 ⟨⟨u5, rfl, hu5⟩, b5⟩
        have B5 := Lib.hid (below_more B4.out b5)
        have R5 := Lib.hid (R4.out.below b5)
        have C6 := Lib.hid (decode_is (encR true L4) u5 w5 hu5.ra (by have := H4.out.1; have := HL.out; omega))
        obtain ⟨p5, c5, rfl, _⟩ := hu5.shape
        have k1 : ((encR true L4).length : Int) ≤ (N : Int) := by have := H4.out.1; omega
        have k2 : (encR true L4).length ≤ N := H4.out.1
        generalize (encR true L4).length = n5 at *
        clear hu5 b5
        go_wp2_with fail
        refine (C6.out).mono ?_; rintro e w6 ⟨⟨u6, L6, rfl, hL6, e6, _⟩, b6⟩
        have B6 := Lib.hid (below_more B5.out b6)
        have C7 := Lib.hid (sameops_is L6 L4 u6 u4 w6 hL6.ro (R5.out.below b6) (by have h1 := congrArg List.length e6; rw [H4.out.2.1, List.length_map, List.length_map] at h1; have := H4.out.2.2; omega) true ⟨fun _ => by rw [e6, H4.out.2.1], fun _ => rfl⟩)
        clear hL6 e6 b6
        go_wp2_with fail
        refine (C7.out).mono ?_; rintro e w7 ⟨rfl, b7⟩
        have B7 := Lib.hid (below_more B6.out b7)
        clear b7
        go_wp2_with fail
        refine (awake_any _).mono ?_; rintro e w8 ⟨rfl, hb⟩
        have HS := Lib.hid (below_more B7.out hb)
        clear hb
        go_wp2_with fail
        go_ret
        exact ⟨rfl, HS.out⟩
      · have C1 := Lib.hid (encode_is l _ wr (HU.out _ HB.out) (by have := HL.out; omega) (fun x hx => by have := hdl x hx; omega) false ⟨(fun h => nomatch h), fun h => absurd h hb⟩)
        clear t1 hdl hb
        go_wp2_with fail
        refine (C1.out).mono ?_; rintro e w3 ⟨⟨u1, rfl, hu1⟩, b1⟩
        have B3 := Lib.hid (below_more HB.out b1)
        obtain ⟨p1, c1, rfl, _⟩ := hu1.shape
        clear hu1 b1
        go_wp2_with fail
        refine (D1.out _ B3.out).mono ?_; rintro e w4 ⟨⟨u4, L4, rfl, hL4, e4, hd4⟩, b4⟩
        have B4 := Lib.hid (below_more B3.out b4)
        have hm4 : ∀ x ∈ L4, MayC (toC x) := fun x hx => HBy.out.may _ (by rw [← e4]; exact List.mem_map.2 ⟨x, hx, rfl⟩)
        have hn4 : L4.length ≤ 500 := by
          have h1 := congrArg List.length e4
          have h2 := HBy.out.few
          rw [List.length_map] at h1
          have := HL.out; omega
        have C5 := Lib.hid (encode_is L4 u4 w4 hL4.ro (by omega) (fun x hx => by have := hd4 x hx; omega) true ⟨fun _ => hm4, fun _ => rfl⟩)
        have R4 := Lib.hid hL4.ro
        have hle : (encR true L4).length ≤ N := by
          show (enc (L4.map toC)).length ≤ N
          rw [e4]
          have := HBy.out.len; have := HL.out; omega
        have hde : dec (encR true L4) = L4.map toC := by
          have := dec_enc (l := L4.map toC) (fun x hx => by obtain ⟨y, hy, rfl⟩ := List.mem_map.1 hx; exact hm4 y hy) []
          rw [List.append_nil, dec_nil, List.append_nil] at this
          exact this
        have H4 := Lib.hid (And.intro hle (And.intro hde hn4))
        clear hL4 e4 hd4 b4 hm4 hn4 hle hde
        go_wp2_with fail
        refine (C5.out).mono ?_; rintro e w5 ⟨⟨u5, rfl, hu5⟩, b5⟩
        have B5 := Lib.hid (below_more B4.out b5)
        have R5 := Lib.hid (R4.out.below b5)
        have C6 := Lib.hid (decode_is (encR true L4) u5 w5 hu5.ra (by have := H4.out.1; have := HL.out; omega))
        obtain ⟨p5, c5, rfl, _⟩ := hu5.shape
        have k1 : ((encR true L4).length : Int) ≤ (N : Int) := by have := H4.out.1; omega
        have k2 : (encR true L4).length ≤ N := H4.out.1
        generalize (encR true L4).length = n5 at *
        clear hu5 b5
        go_wp2_with fail
        refine (C6.out).mono ?_; rintro e w6 ⟨⟨u6, L6, rfl, hL6, e6, _⟩, b6⟩
        have B6 := Lib.hid (below_more B5.out b6)
        have C7 := Lib.hid (sameops_is L6 L4 u6 u4 w6 hL6.ro (R5.out.below b6) (by have h1 := congrArg List.length e6; rw [H4.out.2.1, List.length_map, List.length_map] at h1; have := H4.out.2.2; omega) true ⟨fun _ => by rw [e6, H4.out.2.1], fun _ => rfl⟩)
        clear hL6 e6 b6
        go_wp2_with fail
        refine (C7.out).mono ?_; rintro e w7 ⟨rfl, b7⟩
        have B7 := Lib.hid (below_more B6.out b7)
        clear b7
        go_wp2_with fail
        refine (awake_any _).mono ?_; rintro e w8 ⟨rfl, hb⟩
        have HS := Lib.hid (below_more B7.out hb)
        clear hb
        go_wp2_with fail
        go_ret
        exact ⟨rfl, HS.out⟩
theorem walk (l0 : List Int) (v0 : Value) (l1 : List Px) (v1 : Value) (w : World) (w0 : RA byE w v0 l0) (w1 : RA (opE w) w v1 l1) :
    Calls Try.prog 4 #[v0, v1] w fun e w' => e = .returned (.bool true) ∧ Below w.heap.size w w' := by
  have hu := ro_in w1
  obtain ⟨p, c, rfl, _⟩ := ra_shape w0
  obtain ⟨q, d, rfl, _⟩ := hu.shape
  by_cases h : 2000 < l0.length ∨ 100 < l1.length
  · exact far p q _ _ c d w h
  · exact near l0 l1 p q _ _ c d w w0 hu (by omega) (by omega) rfl rfl

set_option maxRecDepth 100000 in
theorem lifted (os : Os) (started : os.Started) (H : Type) (enc : TypeId × Value → H) :
    ReturnsInHanded {} Try.checked os 4 .any (Rows.codeBackSpec.pre6 enc Try.prog Try.f4 Rows.codeBackRow.domain false) (Rows.codeBackSpec.post enc Try.prog Try.f4 false true false false) := by
  refine returnsInHanded_of_change (C := Try.checked) own started (by kernel_rfl) Try.func4
    (ChangeSpec.witness6 (enc := enc) (C := Try.checked) false ⟨#[], #[.slice none 0 0, .slice none 0 0], []⟩ 8 (by kernel_rfl) (by kernel_rfl) (by kernel_rfl) (by kernel_rfl)) ?_
  intro W base args ds gs before hval0 hW hcnd _
  have hval : ∀ (j : Nat) t v, Try.f4.params[j]? = some t → args[j]? = some v → Value.okWide Try.prog W .any base t v := hval0
  have hW' := hW
  have hlt := hW.lt
  obtain ⟨p, q, hA0, hV, hpq, hfz, hnd⟩ := hW
  have hA : DataW.TrodAll enc Try.prog W 0 (fun _ => true) true Try.f4.params.toList args.toList ds p := hA0
  rw [Try.params4] at hA hval
  obtain ⟨v0, vs0, d0, ds0, p0, q0, hargs, rfl, hp, h0, r0⟩ := trodAll_cons hA
  obtain ⟨v1, vs1, d1, ds1, p1, q1, rfl, rfl, rfl, h1, r1⟩ := trodAll_cons r0
  obtain ⟨rfl, rfl, rfl⟩ := trodAll_nil r1
  obtain rfl : args = #[v0, v1] := by cases args; simp_all
  obtain ⟨rfl, rfl⟩ := trodVars_none hV
  have hlt' : ∀ x ∈ before, x.block < W.heap.size := fun x hx => hlt x hx
  obtain ⟨l0, w0⟩ := bytes_in (hval 0 22 v0 rfl rfl) h0
  obtain ⟨l1, w1⟩ := hops_in (hval 1 23 v1 rfl rfl) h1
  refine (walk l0 v0 l1 v1 W w0 w1).mono fun e W' ⟨he, hb⟩ => ?_
  subst he
  exact ⟨_, rfl, law_post rfl (by kernel_rfl) hW' (by rw [Try.params4]; intro t ht; simp only [List.mem_cons, List.not_mem_nil, or_false] at ht; (repeat' (first | (rcases ht with rfl | ht) | subst ht)) <;> exact ⟨by kernel_rfl, of_decide_eq_true (by kernel_rfl)⟩) rfl hb⟩

theorem over : Rows.codeBackRow.holds Try.pinned (OpenSpec.ofChange Rows.codeBackSpec) :=
  OpenClaim.holds_of_wide 4 Try.f4 rfl rfl rfl rfl rfl rfl rfl ⟨rfl, rfl, rfl, rfl, rfl⟩ rfl rfl rfl rfl rfl (by kernel_rfl) Try.func4 (by kernel_rfl)
    (of_decide_eq_true (by kernel_rfl)) (by unfold Func.isWrapper; first | (rw [if_pos (by decide +kernel)]; kernel_rfl) | (rw [if_neg (by decide +kernel)]; exact ⟨rfl, rfl⟩))
    (fun os started H enc _ => lifted os started H enc)

theorem proved : Rows.CodeBackSaid := over
end Go.Proofs.Ytdnijdbhdlengaa.codeBack
