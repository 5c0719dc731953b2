/-
  A heap that there isn't tells nothing and refuses all; of plans that may not be, or of a memory of another length, none is made. No conditions.
-/
import Derived.Test.YtjkefcidbcifpaaGreatZmf
namespace Go.Proofs.YtjkefcidbcifpaaGreat.heapNil
set_option maxRecDepth 100000
open Go.Proofs.YtjkefcidbcifpaaGreat Go.ChangeShapes Go.WideShapes Go.ChangeAt Go.RowKit

set_option maxRecDepth 100000 in
set_option maxHeartbeats 4000000 in
theorem walk (c0 e0 g0 k0 : Int) (c1 : Px) (w : World) (_ : (Lit.int .i64 c0).wf = true ∧ (Lit.int .i64 e0).wf = true ∧ (Lit.int .i64 g0).wf = true ∧ (Lit.int .i64 k0).wf = true) (w1 : c1.Wf w) :
    Calls Tryz.prog 6 #[(Value.agg #[Value.int IntKind.i64 c0, Value.int IntKind.i64 e0, Value.int IntKind.i64 g0, Value.int IntKind.i64 k0]), .agg (pxc c1)] w fun e w' => e = .returned (.bool true) ∧ Below w.heap.size w w' := by
  obtain ⟨W0, hW0, H0⟩ := plan_boxed w c0 e0 g0 k0
  obtain ⟨q, c, hvv, _⟩ := ra_shape w1.rv
  obtain ⟨W, hW⟩ : ∃ W, W0.alloc (.cells (pxc c1) 37) = W := ⟨_, rfl⟩
  have B1 : Below W0.heap.size W0 W := by rw [← hW]; exact bal (Below.refl _ _)
  have HB := Lib.hid (below_more H0.out.2 B1)
  have PQ := Lib.hid (H0.out.1.below B1)
  have PX : Hid (Pxv W W0.heap.size c1) := Lib.hid (by rw [← hW]; exact Pxv.new W0 c1)
  have lp : ∀ w', Below W.heap.size W w' → (planLoad (.pointer (some ⟨w.heap.size, 0, none⟩))).run Tryz.prog w' = .ok (Value.agg #[Value.int IntKind.i64 c0, Value.int IntKind.i64 e0, Value.int IntKind.i64 g0, Value.int IntKind.i64 k0]) w' := fun w' hb => (PQ.out.below hb).load
  have lx : ∀ w', Below W.heap.size W w' → (pxLoad (.pointer (some ⟨W0.heap.size, 0, none⟩))).run Tryz.prog w' = .ok (.agg (pxc c1)) w' := fun w' hb => run_pxLoad fun j u hj => by rw [Whole.at_ (PX.out.below hb), Nat.zero_add, ← hj]; simp [pxc]
  have l1 := lx W (Below.refl _ _)
  have hsl := run_opSlice1 W c1 hvv
  have HO := Lib.hid (ops_one w W w1)
  have HL := Lib.hid (heavy21 (W0 := w) [c1] [] _ _ HO.out (ri_nil _))
  have LP := Lib.hid lp
  have LX := Lib.hid lx
  have M1 := Lib.hid (fun w => (show Calls Tryz.prog 39 #[(Value.agg #[Value.int IntKind.i64 c0, Value.int IntKind.i64 e0, Value.int IntKind.i64 g0, Value.int IntKind.i64 k0])] w fun e w' => (∃ r : Bool, e = .returned (.bool r) ∧ (r = true ↔ May c0 e0 g0 k0)) ∧ Below w.heap.size w w' from by
    by_cases h : May c0 e0 g0 k0
    · exact (rmay_yes h w).mono fun e w' hh => ⟨⟨true, hh.1, by simp [h]⟩, hh.2⟩
    · exact (rmay_no h w).mono fun e w' hh => ⟨⟨false, hh.1, by simp [h]⟩, hh.2⟩))
  have M2 := Lib.hid (fun w (h : May c0 e0 g0 k0) => rdevice_any (p := g0) (b := k0) h rfl w)
  have N1 := Lib.hid (fun w => hformat_err (w := w) (gv := .pointer none) (l := c0) (s := e0) (p := g0) (b := k0) (E := 1) (by decide) fun W _ => hready_arg (nl := 0) (fun w' _ => lines_nil w') (fun h => by have := h.1; have := h.2.1; unfold dvM; omega))
  have N2 := Lib.hid (fun w g s (q : Nm w g s) (hs : s.n = 100) => hformat_err (w := w) (gv := .pointer (some ⟨g, 0, none⟩)) (l := c0) (s := e0) (p := g0) (b := k0) (E := 1) (by decide) fun W hb => hready_arg (nl := 100) (fun w' hb' => by have := lines_any g s w' ((q.below hb).below hb'); rw [hs] at this; exact this) (fun h => by have := h.1; have := h.2.1; unfold dvM; omega))
  have N3 := Lib.hid (fun w => new_yes 100 (.slice none 0 0) [] w (by decide) (by decide) (ri_nil w))
  have HD : Hid (May c0 e0 g0 k0 → (dvM c0 e0 == 100) = false) := Lib.hid fun h => beq_eq_false_iff_ne.2 (by have := h.1; have := h.2.1; unfold dvM; omega)
  clear lp lx hvv B1 H0 w1
  go_enter Tryz.func6, Tryz.ntmps6
  go_wp2_with fail
  refine (HL.out).mono ?_; rintro e w2 ⟨⟨r, rfl, hr⟩, b2⟩
  have B2 := Lib.hid (show Below W.heap.size W w2 from (by
    have := b2
    exact below_more (bal (Below.refl _ _)) this))
  have hr0 := Lib.hid hr
  clear b2 HL l1 hsl hr
  by_cases hr : r = 0
  rotate_left
  · have i1 : (r : Int) > 0 := by omega
    have i2 : 0 < r := by omega
    clear hr
    go_wp2_with fail
    refine (awake_any _).mono ?_; rintro e w3 ⟨rfl, b3⟩
    have D3 := Lib.hid (below_more HB.out (below_more B2.out b3))
    go_wp2_with fail
    go_ret
    exact ⟨rfl, D3.out⟩
  subst hr
  have CW := Lib.hid (fun w => hWords_nil w)
  go_wp2_with fail
  refine (CW.out _).mono ?_; rintro e w3 ⟨rfl, b3⟩
  have B3 := Lib.hid (below_more B2.out b3)
  clear b3
  go_wp2_with fail
  refine (N3.out _).mono ?_; rintro e w4 ⟨g, rfl, hg, hN, b4⟩
  have B4 := Lib.hid (below_more B3.out b4)
  have NM := Lib.hid hN
  have l4 := LP.out _ B4.out
  clear b4 hg hN
  go_wp2_with fail
  refine (M1.out _).mono ?_; rintro e w5 ⟨⟨r, rfl, hm⟩, b5⟩
  have B5 := Lib.hid (below_more B4.out b5)
  have NM5 := Lib.hid (NM.out.below b5)
  have l5 := LP.out _ B5.out
  have x5 := LX.out _ B5.out
  clear b5 l4 NM
  have DN := Lib.hid (fun w => hdo_nil c1 w)
  have SA := Lib.hid (fun w => rsame_is (w := w) (e := 1) (o := 0) (e' := 1) (o' := 0) (own_nil_by 0 w).ra (own_nil_by 0 w).ra)
  have HNL := Lib.hid (fun w => hcnt_nil w)
  have HMV := Lib.hid (fun w => hmov_nil w)
  have HLF := Lib.hid (fun w => hleft_nil w)
  have HWN := Lib.hid (fun w => hworn_nil w)
  by_cases hctrue : r = true
  · subst hctrue
    have hmm := hm.1 rfl
    have i100 := HD.out hmm
    go_wp2_with fail
    refine (M2.out _ hmm).mono ?_; rintro e w6 ⟨rfl, b6⟩
    have B6 := Lib.hid (below_more B5.out b6)
    have NM6 := Lib.hid (NM5.out.below b6)
    have l6 := LP.out _ B6.out
    have x6 := LX.out _ B6.out
    clear b6 l5 x5 hm hmm
    have DV1 := Lib.hid B6.out
    go_wp2_with fail
    refine (DN.out _).mono ?_; rintro e w7 ⟨rfl, b7⟩
    have B7 := Lib.hid (below_more B6.out b7)
    have NM7 := Lib.hid (NM6.out.below b7)
    clear b7 x6
    go_wp2_with fail
    refine (SA.out _).mono ?_; rintro e w8 ⟨rfl, b8⟩
    have B8 := Lib.hid (below_more B7.out b8)
    have NM8 := Lib.hid (NM7.out.below b8)
    have l8 := LP.out _ B8.out
    clear b8 l6
    go_wp2_with fail
    refine (HNL.out _).mono ?_; rintro e w9 ⟨rfl, rfl⟩
    go_wp2_with fail
    refine (HMV.out _).mono ?_; rintro e w9 ⟨rfl, rfl⟩
    go_wp2_with fail
    refine (HLF.out _).mono ?_; rintro e w9 ⟨rfl, rfl⟩
    go_wp2_with fail
    refine (HWN.out _).mono ?_; rintro e w9 ⟨rfl, rfl⟩
    go_wp2_with fail
    refine (N1.out _).mono ?_; rintro e w9 ⟨rfl, b9⟩
    have B9 := Lib.hid (below_more B8.out b9)
    have l9 := LP.out _ B9.out
    have NM9 := Lib.hid (NM8.out.below b9)
    clear b9 l8
    go_wp2_with fail
    refine (N2.out _ _ _ NM9.out rfl).mono ?_; rintro e w10 ⟨rfl, b10⟩
    have B10 := Lib.hid (below_more B9.out b10)
    clear b10 l9
    go_wp2_with fail
    refine (awake_any _).mono ?_; rintro e w11 ⟨rfl, b11⟩
    have D11 := Lib.hid (below_more HB.out (below_more B10.out b11))
    go_wp2_with fail
    go_ret
    exact ⟨rfl, D11.out⟩
  by_cases hcfalse : r = false
  · subst hcfalse
    have B6 := B5
    have NM6 := NM5
    have l6 := l5
    have x6 := x5
    clear hm
    have DV1 := Lib.hid B6.out
    go_wp2_with fail
    refine (DN.out _).mono ?_; rintro e w7 ⟨rfl, b7⟩
    have B7 := Lib.hid (below_more B6.out b7)
    have NM7 := Lib.hid (NM6.out.below b7)
    clear b7 x6
    go_wp2_with fail
    refine (SA.out _).mono ?_; rintro e w8 ⟨rfl, b8⟩
    have B8 := Lib.hid (below_more B7.out b8)
    have NM8 := Lib.hid (NM7.out.below b8)
    have l8 := LP.out _ B8.out
    clear b8 l6
    go_wp2_with fail
    refine (HNL.out _).mono ?_; rintro e w9 ⟨rfl, rfl⟩
    go_wp2_with fail
    refine (HMV.out _).mono ?_; rintro e w9 ⟨rfl, rfl⟩
    go_wp2_with fail
    refine (HLF.out _).mono ?_; rintro e w9 ⟨rfl, rfl⟩
    go_wp2_with fail
    refine (HWN.out _).mono ?_; rintro e w9 ⟨rfl, rfl⟩
    go_wp2_with fail
    refine (N1.out _).mono ?_; rintro e w9 ⟨rfl, b9⟩
    have B9 := Lib.hid (below_more B8.out b9)
    have l9 := LP.out _ B9.out
    have NM9 := Lib.hid (NM8.out.below b9)
    clear b9 l8
    go_wp2_with fail
    refine (N2.out _ _ _ NM9.out rfl).mono ?_; rintro e w10 ⟨rfl, b10⟩
    have B10 := Lib.hid (below_more B9.out b10)
    clear b10 l9
    go_wp2_with fail
    refine (awake_any _).mono ?_; rintro e w11 ⟨rfl, b11⟩
    have D11 := Lib.hid (below_more HB.out (below_more B10.out b11))
    go_wp2_with fail
    go_ret
    exact ⟨rfl, D11.out⟩
  cases r <;> simp at hctrue hcfalse

set_option maxRecDepth 100000 in
theorem lifted (os : Os) (started : os.Started) (H : Type) (enc : TypeId × Value → H) :
    ReturnsInHanded {} Tryz.checked os 6 .any (Rows.heapNilSpec.pre6 enc Tryz.prog Tryz.f6 Rows.heapNilRow.domain false) (Rows.heapNilSpec.post enc Tryz.prog Tryz.f6 false true false false) := by
  refine returnsInHanded_of_change (C := Tryz.checked) own started (by kernel_rfl) Tryz.func6
    (ChangeSpec.witness6 (enc := enc) (C := Tryz.checked) false ⟨#[], #[.agg #[.int .i64 0, .int .i64 0, .int .i64 0, .int .i64 0], .agg #[.int .i64 0, .int .i64 0, .int .i64 0, .int .i64 0, .slice none 0 0]], []⟩ 8 (by kernel_rfl) (by kernel_rfl) (by kernel_rfl) (by kernel_rfl)) ?_
  intro W base args ds gs before hval0 hW hcnd _
  have hval : ∀ (j : Nat) t v, Tryz.f6.params[j]? = some t → args[j]? = some v → Value.okWide Tryz.prog W .any base t v := hval0
  have hW' := hW
  have hlt := hW.lt
  obtain ⟨p, q, hA0, hV, hpq, hfz, hnd⟩ := hW
  have hA : DataW.TrodAll enc Tryz.prog W 0 (fun _ => true) true Tryz.f6.params.toList args.toList ds p := hA0
  rw [Tryz.params6] at hA hval
  obtain ⟨v0, vs0, d0, ds0, p0, q0, hargs, rfl, hp, h0, r0⟩ := trodAll_cons hA
  obtain ⟨v1, vs1, d1, ds1, p1, q1, rfl, rfl, rfl, h1, r1⟩ := trodAll_cons r0
  obtain ⟨rfl, rfl, rfl⟩ := trodAll_nil r1
  obtain rfl : args = #[v0, v1] := by cases args; simp_all
  obtain ⟨rfl, rfl⟩ := trodVars_none hV
  have hlt' : ∀ x ∈ before, x.block < W.heap.size := fun x hx => hlt x hx
  obtain ⟨c0, e0, g0, k0, rfl, w0⟩ := plan_in (hval 0 23 v0 rfl rfl) h0
  obtain ⟨c1, rfl, w1⟩ := hop_in (hval 1 37 v1 rfl rfl) h1
  refine (walk c0 e0 g0 k0 c1 W w0 w1).mono fun e W' ⟨he, hb⟩ => ?_
  subst he
  exact ⟨_, rfl, law_post rfl (by kernel_rfl) hW' (by rw [Tryz.params6]; intro t ht; simp only [List.mem_cons, List.not_mem_nil, or_false] at ht; (repeat' (first | (rcases ht with rfl | ht) | subst ht)) <;> exact ⟨by kernel_rfl, of_decide_eq_true (by kernel_rfl)⟩) rfl hb⟩

theorem over : Rows.heapNilRow.holds Tryz.pinned (OpenSpec.ofChange Rows.heapNilSpec) :=
  OpenClaim.holds_of_wide 6 Tryz.f6 rfl rfl rfl rfl rfl rfl rfl ⟨rfl, rfl, rfl, rfl, rfl⟩ rfl rfl rfl rfl rfl (by kernel_rfl) Tryz.func6 (by kernel_rfl)
    (of_decide_eq_true (by kernel_rfl)) (by unfold Func.isWrapper; first | (rw [if_pos (by decide +kernel)]; kernel_rfl) | (rw [if_neg (by decide +kernel)]; exact ⟨rfl, rfl⟩))
    (fun os started H enc _ => lifted os started H enc)

theorem proved : Rows.HeapNilSaid := over
end Go.Proofs.YtjkefcidbcifpaaGreat.heapNil
