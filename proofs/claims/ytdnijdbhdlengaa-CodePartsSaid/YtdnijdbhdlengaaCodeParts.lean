/-
  Two scripts, one behind the other, are the operations of both, if the first one ends with an operation. No conditions.
-/
import Derived.Test.YtdnijdbhdlengaaCdn
import Derived.Test.YtdnijdbhdlengaaCdw
namespace Go.Proofs.Ytdnijdbhdlengaa.codeParts
set_option maxRecDepth 100000
open Go.Proofs.Ytdnijdbhdlengaa Go.ChangeShapes Go.WideShapes Go.ChangeAt Go.RowKit

theorem built_ops0 (w : World) : (Instr.buildSlice 23 0 #[]).run Try.prog w = .ok (.slice (some ⟨w.heap.size, 0, none⟩) 0 0) (w.alloc (.cells #[] 26)) := by
  simp only [Instr.buildSlice, Sem.run_bind, run_underlying Try.underlying23, Result.andThen]
  kernel_rfl
theorem ops_zero (w : World) : OwnA opF w.heap.size (w.alloc (.cells #[] 26)) (.slice (some ⟨w.heap.size, 0, none⟩) 0 0) [] := by
  have := own_lit_a opF w (l := []) (fun x hx => by cases hx) (by unfold maxLen; simp)
  simpa [opF] using this
section
variable {ops : Array Oper} {rest : List Oper} {o : Oper} {a : Act} {w : World} {Q : Exit → Act → World → Prop}
/-- append, where a guard asks for it -/
theorem asked_by (hw : Region.wanted o (yielded ops a.tmps) = true) (s x : Operand) (ho : o.op = .call { callee := .builtin .append, args := #[s, x], argTypes := #[22, 22] }) (B : Nat) (v : Value) (l : List Int) (hs : a.eval s = v) (hown : OwnA byE B w v l)
    (u : Value) (r : List Int) (hx : a.eval x = u) (hr : RA byE w u r) (hlen : Hid (l.length + r.length ≤ 140737488355328)) (hB : B ≤ w.heap.size)
    (h : ∀ v' w', OwnA byE B w' v' (l ++ r) → w.grownBy w' v.ownBlock → (v'.ownBlock = v.ownBlock ∨ v'.ownBlock = some w.heap.size) → wpList Try.prog ops Q rest (a.put o.dst v') w') : wpList Try.prog ops Q (o :: rest) a w :=
  wpList_step fun K hK => by
    rw [if_pos hw]
    exact wp_app byE s x ho B v l hs hown u r hx hr (by have := hlen.out; show _ * 1 ≤ _; omega) hB fun v' w' h2 h3 h4 => hK _ _ (h v' w' h2 h3 h4)
theorem asked_op (hw : Region.wanted o (yielded ops a.tmps) = true) (s x : Operand) (ho : o.op = .call { callee := .builtin .append, args := #[s, x], argTypes := #[23, 23] }) (B : Nat) (v : Value) (l : List Px) (hs : a.eval s = v) (hown : OwnA opF B w v l)
    (u : Value) (r : List Px) (hx : a.eval x = u) (hr : RA opF w u r) (hlen : Hid (l.length + r.length ≤ 1000000)) (hB : B ≤ w.heap.size)
    (h : ∀ v' w', OwnA opF B w' v' (l ++ r) → w.grownBy w' v.ownBlock → (v'.ownBlock = v.ownBlock ∨ v'.ownBlock = some w.heap.size) → wpList Try.prog ops Q rest (a.put o.dst v') w') : wpList Try.prog ops Q (o :: rest) a w :=
  wpList_step fun K hK => by
    rw [if_pos hw]
    exact wp_app opF s x ho B v l hs hown u r hx hr (by have := hlen.out; show _ * 56 ≤ _; omega) hB fun v' w' h2 h3 h4 => hK _ _ (h v' w' h2 h3 h4)
end
theorem far (p q : Option Addr) (N M c d : Nat) (w : World) (h : 60 < M ∨ 1000 < N) :
    Calls Try.prog 5 #[.slice q M d, .slice p N c] w fun e w' => e = .returned (.bool true) ∧ Below w.heap.size w w' := by
  by_cases h1 : 60 < M
  · have i1 : (M : Int) > 60 := by omega
    clear h
    go_enter Try.func5, Try.ntmps5
    go_wp2_with fail
    refine (awake_any _).mono ?_; rintro e w' ⟨rfl, hb⟩
    go_wp2_with fail
    go_ret
    exact ⟨rfl, hb⟩
  · have i1 : ¬ (M : Int) > 60 := by omega
    have i2 : (N : Int) > 1000 := by omega
    clear h
    go_enter Try.func5, Try.ntmps5
    go_wp2_with fail
    refine (awake_any _).mono ?_; rintro e w' ⟨rfl, hb⟩
    go_wp2_with fail
    go_ret
    exact ⟨rfl, hb⟩
set_option maxHeartbeats 4000000 in
theorem near (b0 : List Int) (l : List Px) (p q : Option Addr) (N M c d : Nat) (w : World) (hv : RA byE w (.slice p N c) b0) (hu : RO w (.slice q M d) l) (h1 : N ≤ 1000) (h2 : M ≤ 60) (hN : b0.length = N) (hM : l.length = M) :
    Calls Try.prog 5 #[.slice q M d, .slice p N c] w fun e w' => e = .returned (.bool true) ∧ Below w.heap.size w w' := by
  have i1 : ¬ (N : Int) > 1000 := by omega
  have i2 : ¬ (M : Int) > 60 := by omega
  have HV := Lib.hid (fun (w' : World) (hb : Below w.heap.size w w') => ra_below hv hb)
  have HU := Lib.hid (fun (w' : World) (hb : Below w.heap.size w w') => hu.below hb)
  have HL := Lib.hid (And.intro h1 (And.intro h2 (And.intro hN hM)))
  have HBy := Lib.hid (byts_of hv)
  clear hv hu h1 h2 hN hM
  go_enter Try.func5, Try.ntmps5
  go_wp2
  go_loopw [20] (fun i wr => ∃ k : Nat, k ≤ M ∧ i = .int .i64 k ∧ Hid ((∀ x ∈ l.take k, MayC (toC x)) ∧ Below w.heap.size w wr)) (fun i _ => M - (intOf i).toNat)
  case atStart => exact ⟨0, Nat.zero_le _, rfl, Lib.hid ⟨by simp, Below.refl _ _⟩⟩
  case round =>
    obtain ⟨k, hkM, rfl, H⟩ := hrel
    by_cases hk : k < M
    · have hk' : k < l.length := by rw [HL.out.2.2.2]; exact hk
      obtain ⟨q0, off, rfl, hq, hx⟩ := ro_at (HU.out _ H.out.2) (by omega)
      obtain ⟨ld0, _, _, _, hwi, hdat⟩ := hx k hk'
      have hin : l.getD k default ∈ l := by rw [List.getD_eq_getElem?_getD, List.getElem?_eq_getElem hk']; exact List.getElem_mem hk'
      have HD := Lib.hid (fun (w' : World) (hb : Below w.heap.size w w') => (HU.out w' hb).2 _ hin)
      have HT := Lib.hid (px_next hk')
      obtain ⟨x, hxx⟩ : ∃ x, l.getD k default = x := ⟨_, rfl⟩
      rw [hxx] at ld0 hwi hdat HD HT
      obtain ⟨d1, o, n, m, xv, bl⟩ := x
      dsimp only at hdat HD
      obtain ⟨px, cx, rfl, _⟩ := ra_shape hdat
      obtain ⟨W, hW, hst, HW⟩ := px_boxed wr ⟨d1, o, n, m, .slice px bl.length cx, bl⟩ rfl
      have ld := HW.out.1.whole
      have BW := Lib.hid (below_more H.out.2 HW.out.2)
      have i3 : (k : Int) < (M : Int) := by omega
      have i4 : ¬ (k : Int) < 0 := by omega
      have i5 : IntKind.i64.wrap ((k : Int) + 1) = ((k + 1 : Nat) : Int) := by rw [show (k : Int) + 1 = ((k + 1 : Nat) : Int) by omega]; exact i64_nat _ (by have := HL.out; omega)
      clear hx hwi hdat hin hxx hk'
      rcases Classical.em (MayC ⟨d1, o, n, m, bl⟩) with hm | hm
      · have C2 := Lib.hid (rmayop_is d1 o n m px cx bl W (HD.out W BW.out) true ⟨fun _ => hm, fun _ => rfl⟩)
        have HM : Hid (∀ x ∈ l.take (k + 1), MayC (toC x)) := Lib.hid (by
          rw [HT.out]
          intro x hx
          rcases List.mem_append.1 hx with hx | hx
          · exact H.out.1 x hx
          · rw [List.mem_singleton.1 hx]; exact hm)
        clear hm
        generalize bl.length = Nb at *
        go_wp2_with fail
        refine (C2.out).mono ?_; rintro e w1 ⟨rfl, b1⟩
        have HS := Lib.hid (And.intro HM.out (below_more BW.out b1))
        clear b1
        go_wp2
        go_roundw
        case rel => exact ⟨k + 1, by omega, by go_num, HS⟩
        case measure => simp [intOf]; omega
      · have C2 := Lib.hid (rmayop_is d1 o n m px cx bl W (HD.out W BW.out) false ⟨(fun h => nomatch h), fun h => absurd h hm⟩)
        clear hm
        generalize bl.length = Nb at *
        go_wp2_with fail
        refine (C2.out).mono ?_; rintro e w1 ⟨rfl, b1⟩
        have B1 := Lib.hid (below_more BW.out b1)
        clear b1
        go_wp2_with fail
        refine (awake_any _).mono ?_; rintro e w' ⟨rfl, hb⟩
        have HS := Lib.hid (below_more B1.out hb)
        clear hb
        go_wp2_with fail
        go_ret
        exact ⟨rfl, HS.out⟩
    · obtain rfl : k = M := by omega
      have t1 : l.take k = l := List.take_of_length_le (by rw [HL.out.2.2.2]; exact Nat.le_refl _)
      have hml := H.out.1
      rw [t1] at hml
      have HB := Lib.hid H.out.2
      have hmc : ∀ x ∈ l.map toC, MayC x := fun x hx => by obtain ⟨y, hy, rfl⟩ := List.mem_map.1 hx; exact hml y hy
      have C1 := Lib.hid (encode_is l _ wr (HU.out _ HB.out) (by have := HL.out; omega) (fun x hx => by have := (hml x hx).ranges.1; show x.bl.length ≤ 4000; have h : x.bl.length ≤ 255 := this; omega) true ⟨fun _ => hml, fun _ => rfl⟩)
      have D1 := Lib.hid (fun (w' : World) (hw : Below w.heap.size w w') => decode_is b0 _ w' (HV.out _ hw) (by have := HL.out; omega))
      have hel : (encR true l).length ≤ 20000 := by
        have := enc_len hmc
        rw [List.length_map] at this
        show (enc (l.map toC)).length ≤ _
        have := HL.out; omega
      have hed : dec (encR true l ++ b0) = l.map toC ++ dec b0 := dec_enc hmc b0
      have HE := Lib.hid (And.intro hel hed)
      clear t1 hml hmc hel hed
      go_wp2_with fail
      refine (C1.out).mono ?_; rintro e w1 ⟨⟨u1, rfl, hu1⟩, b1⟩
      have B1 := Lib.hid (below_more HB.out b1)
      obtain ⟨W2, hW2⟩ : ∃ W2, w1.alloc (.cells #[] 5) = W2 := ⟨_, rfl⟩
      have O2 := Lib.hid (hW2 ▸ by_zero w1)
      have b2 : Below w1.heap.size w1 W2 := hW2 ▸ bal (Below.refl _ _)
      have B12 := Lib.hid b2
      have R2 := Lib.hid (ra_below hu1.ra b2)
      have hl2 : Hid (([] : List Int).length + (encR true l).length ≤ 140737488355328) := Lib.hid (by have := HE.out.1; simp only [List.length_nil]; omega)
      obtain ⟨p1, c1, rfl, _⟩ := hu1.shape
      obtain ⟨ne, hne⟩ : ∃ ne, (encR true l).length = ne := ⟨_, rfl⟩
      rw [hne] at R2 ⊢
      clear hu1 b1 b2 hne
      go_wp2_with (at_builtin; refine asked_by (by rfl) _ _ rfl _ _ _ rfl O2.out _ (encR true l) rfl R2.out hl2 B12.out.size ?_)
      intro v3 w3 ho hg hx
      have B13 := Lib.hid (below_app B12.out B12.out.size O2.out hg)
      have O3 := Lib.hid (show OwnA byE w1.heap.size w3 v3 (encR true l) from ho)
      have B3 := Lib.hid (below_more B1.out B13.out)
      have R3 := Lib.hid (HV.out _ B3.out)
      have hl3 : Hid ((encR true l).length + b0.length ≤ 140737488355328) := Lib.hid (by have := HE.out.1; have := HL.out; omega)
      clear ho hg hx
      go_wp2_with (at_builtin; refine asked_by (by rfl) _ _ rfl _ _ _ rfl O3.out _ b0 rfl R3.out hl3 B13.out.size ?_)
      intro v4 w4 ho hg hx
      have B14 := Lib.hid (below_app B13.out B13.out.size O3.out hg)
      have B4 := Lib.hid (below_more B1.out B14.out)
      have C4 := Lib.hid (decode_is _ v4 w4 ho.ra (by rw [List.length_append]; have := HE.out.1; have := HL.out; omega))
      clear ho hg hx
      go_wp2_with fail
      refine (C4.out).mono ?_; rintro e w5 ⟨⟨u5, L5, rfl, hL5, e5, _⟩, b5⟩
      have B5 := Lib.hid (below_more B4.out b5)
      have E5 := Lib.hid (e5.trans HE.out.2)
      obtain ⟨W6, hW6⟩ : ∃ W6, w5.alloc (.cells #[] 26) = W6 := ⟨_, rfl⟩
      have hsl := built_ops0 w5
      rw [hW6] at hsl
      have hsl : (opSlice 0 #[]).run Try.prog w5 = .ok (.slice (some ⟨w5.heap.size, 0, none⟩) 0 0) W6 := hsl
      have O6 := Lib.hid (hW6 ▸ ops_zero w5)
      have b6 : Below w5.heap.size w5 W6 := hW6 ▸ bal (Below.refl _ _)
      have B56 := Lib.hid b6
      have B6 := Lib.hid (below_more B5.out b6)
      have R5 := Lib.hid (hL5.ro)
      have R6 := Lib.hid (HU.out _ B6.out).1
      have hl6 : Hid (([] : List Px).length + l.length ≤ 1000000) := Lib.hid (by have := HL.out; simp only [List.length_nil]; omega)
      clear C4 hL5 e5 b5 b6
      go_wp2_with (at_builtin; refine asked_op (by rfl) _ _ rfl _ _ _ rfl O6.out _ l rfl R6.out hl6 B56.out.size ?_)
      intro v7 w7 ho hg hx
      have B57 := Lib.hid (below_app B56.out B56.out.size O6.out hg)
      have O7 := Lib.hid (show OwnA opF w5.heap.size w7 v7 l from ho)
      have B7 := Lib.hid (below_more B5.out B57.out)
      have C8 := Lib.hid (D1.out _ B7.out)
      clear ho hg hx
      go_wp2_with fail
      refine (C8.out).mono ?_; rintro e w8 ⟨⟨u8, L8, rfl, hL8, e8, _⟩, b8⟩
      have B58 := Lib.hid (B57.out.trans (b8.mono B57.out.size))
      have B8 := Lib.hid (below_more B5.out B58.out)
      have O8 := Lib.hid (O7.out.below b8)
      have R8 := Lib.hid hL8
      have S8 := Lib.hid b8.size
      have E8 := Lib.hid e8
      have hn8 : L8.length ≤ 250 := by
        have h1 := congrArg List.length e8
        have h2 := HBy.out.few
        rw [List.length_map] at h1
        have := HL.out; omega
      have hl8 : Hid (l.length + L8.length ≤ 1000000) := Lib.hid (by have := HL.out; omega)
      have HN8 := Lib.hid hn8
      clear C8 hL8 e8 b8 hn8
      go_wp2_with (at_builtin; refine asked_op (by rfl) _ _ rfl _ _ _ rfl O8.out _ L8 rfl R8.out.row.ra hl8 B58.out.size ?_)
      intro v9 w9 ho hg hx
      have B59 := Lib.hid (below_app B58.out B58.out.size O8.out hg)
      have B9 := Lib.hid (below_more B5.out B59.out)
      have D9 : OpD w9 (l ++ L8) := by
        refine OpD.app (HU.out _ B9.out).2 fun x hx => ?_
        refine ((R8.out.data x hx).kept hg ?_).ra
        cases e : x.v.ownBlock with
        | none => exact .inl rfl
        | some g =>
          refine .inr fun e2 => ?_
          have h1 := ((R8.out.data x hx).lt g e).1
          have h2 := (O7.out.lt g e2.symm).2
          omega
      have C9 := Lib.hid (sameops_is L5 (l ++ L8) u5 v9 w9 (R5.out.below B59.out) ⟨ho.ra, D9⟩ (by have h1 := congrArg List.length E5.out; have h2 := congrArg List.length E8.out; rw [List.length_append, List.length_map, List.length_map] at h1; rw [List.length_map] at h2; have := HN8.out; have := HL.out; omega) true ⟨fun _ => by rw [E5.out, List.map_append, E8.out], fun _ => rfl⟩)
      clear ho hg hx D9
      go_wp2_with fail
      refine (C9.out).mono ?_; rintro e w10 ⟨rfl, b10⟩
      have B10 := Lib.hid (below_more B9.out b10)
      clear b10
      go_wp2_with fail
      refine (awake_any _).mono ?_; rintro e w11 ⟨rfl, hb⟩
      have HS := Lib.hid (below_more B10.out hb)
      clear hb
      go_wp2_with fail
      go_ret
      exact ⟨rfl, HS.out⟩
theorem walk (l0 : List Px) (v0 : Value) (l1 : List Int) (v1 : Value) (w : World) (w0 : RA (opE w) w v0 l0) (w1 : RA byE w v1 l1) :
    Calls Try.prog 5 #[v0, v1] w fun e w' => e = .returned (.bool true) ∧ Below w.heap.size w w' := by
  have hu := ro_in w0
  obtain ⟨p, c, rfl, _⟩ := ra_shape w1
  obtain ⟨q, d, rfl, _⟩ := hu.shape
  by_cases h : 60 < l0.length ∨ 1000 < l1.length
  · exact far p q _ _ c d w h
  · exact near l1 l0 p q _ _ c d w w1 hu (by omega) (by omega) rfl rfl

set_option maxRecDepth 100000 in
theorem lifted (os : Os) (started : os.Started) (H : Type) (enc : TypeId × Value → H) :
    ReturnsInHanded {} Try.checked os 5 .any (Rows.codePartsSpec.pre6 enc Try.prog Try.f5 Rows.codePartsRow.domain false) (Rows.codePartsSpec.post enc Try.prog Try.f5 false true false false) := by
  refine returnsInHanded_of_change (C := Try.checked) own started (by kernel_rfl) Try.func5
    (ChangeSpec.witness6 (enc := enc) (C := Try.checked) false ⟨#[], #[.slice none 0 0, .slice none 0 0], []⟩ 8 (by kernel_rfl) (by kernel_rfl) (by kernel_rfl) (by kernel_rfl)) ?_
  intro W base args ds gs before hval0 hW hcnd _
  have hval : ∀ (j : Nat) t v, Try.f5.params[j]? = some t → args[j]? = some v → Value.okWide Try.prog W .any base t v := hval0
  have hW' := hW
  have hlt := hW.lt
  obtain ⟨p, q, hA0, hV, hpq, hfz, hnd⟩ := hW
  have hA : DataW.TrodAll enc Try.prog W 0 (fun _ => true) true Try.f5.params.toList args.toList ds p := hA0
  rw [Try.params5] at hA hval
  obtain ⟨v0, vs0, d0, ds0, p0, q0, hargs, rfl, hp, h0, r0⟩ := trodAll_cons hA
  obtain ⟨v1, vs1, d1, ds1, p1, q1, rfl, rfl, rfl, h1, r1⟩ := trodAll_cons r0
  obtain ⟨rfl, rfl, rfl⟩ := trodAll_nil r1
  obtain rfl : args = #[v0, v1] := by cases args; simp_all
  obtain ⟨rfl, rfl⟩ := trodVars_none hV
  have hlt' : ∀ x ∈ before, x.block < W.heap.size := fun x hx => hlt x hx
  obtain ⟨l0, w0⟩ := hops_in (hval 0 23 v0 rfl rfl) h0
  obtain ⟨l1, w1⟩ := bytes_in (hval 1 22 v1 rfl rfl) h1
  refine (walk l0 v0 l1 v1 W w0 w1).mono fun e W' ⟨he, hb⟩ => ?_
  subst he
  exact ⟨_, rfl, law_post rfl (by kernel_rfl) hW' (by rw [Try.params5]; intro t ht; simp only [List.mem_cons, List.not_mem_nil, or_false] at ht; (repeat' (first | (rcases ht with rfl | ht) | subst ht)) <;> exact ⟨by kernel_rfl, of_decide_eq_true (by kernel_rfl)⟩) rfl hb⟩

theorem over : Rows.codePartsRow.holds Try.pinned (OpenSpec.ofChange Rows.codePartsSpec) :=
  OpenClaim.holds_of_wide 5 Try.f5 rfl rfl rfl rfl rfl rfl rfl ⟨rfl, rfl, rfl, rfl, rfl⟩ rfl rfl rfl rfl rfl (by kernel_rfl) Try.func5 (by kernel_rfl)
    (of_decide_eq_true (by kernel_rfl)) (by unfold Func.isWrapper; first | (rw [if_pos (by decide +kernel)]; kernel_rfl) | (rw [if_neg (by decide +kernel)]; exact ⟨rfl, rfl⟩))
    (fun os started H enc _ => lifted os started H enc)

theorem proved : Rows.CodePartsSaid := over
end Go.Proofs.Ytdnijdbhdlengaa.codeParts
