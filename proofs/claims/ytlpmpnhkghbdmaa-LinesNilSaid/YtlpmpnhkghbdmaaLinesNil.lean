/-
  Lines that there aren't; a memory that is too small, or a table that may not be. No conditions.
-/
import Derived.Test.YtlpmpnhkghbdmaaLnw
import Derived.Test.YtlpmpnhkghbdmaaPt
namespace Go.Proofs.Ytlpmpnhkghbdmaa.linesNil
open Go.Proofs.Ytlpmpnhkghbdmaa Go.ChangeShapes Go.WideShapes Go.ChangeAt Go.RowKit

theorem plain (x : Int) : ∃ s1, (newNv 9 []).set 4 x = s1 ∧ (newNv 9 []).setE 4 = 0 ∧ s1.n = 7 + 2 ∧ s1.dark = false ∧ s1.tb 2 = [0, x] := by
  have C0 := newNv_calm 9 []
  have h := C0.set (k := 4) (by decide) x
  have e : (newNv 9 []).set ((4 : Nat) : Int) x = (newNv 9 []).set 4 x := rfl
  rw [e] at h
  refine ⟨_, rfl, C0.setE (k := 4) (by decide), by rw [h]; rfl, by rw [h]; rfl, ?_⟩
  rw [h]; rfl

set_option maxHeartbeats 4000000 in
theorem walk (c : Pt) (x : Int) (w : World) (hc : c.Wf) (_ : (Lit.int .u64 x).wf = true) :
    Calls Try.prog 5 #[.agg (pc c), .int .u64 x] w fun e w' => e = .returned (.bool true) ∧ Below w.heap.size w w' := by
  obtain ⟨s1, a1, a2, a3, a4, a5⟩ := plain x
  obtain ⟨b, hb⟩ : ∃ b, mayT [0, x] 7 = b := ⟨_, rfl⟩
  have A1 := Lib.hid a1; have A2 := Lib.hid a2; have A3 := Lib.hid a3; have A4 := Lib.hid a4
  have A5 : Hid (mayT (s1.tb 2) 7 = b) := Lib.hid (by rw [a5]; exact hb)
  have HB := Lib.hid hb
  have LK := Lib.hid (newNv_lok (S := 7) (P := 2) (by decide) (by decide) (by decide) [])
  have O0 := Lib.hid (newNv_ok (n := 9) (by decide) (by decide) [])
  have K0 : Hid ((newNv 9 []).c < 4611686018427387904 ∧ (newNv 9 []).n ≤ 200 ∧ ¬ (newNv 9 []).n = 9 + 1) := Lib.hid ⟨by decide, by decide, by decide⟩
  obtain ⟨s0, e0⟩ : ∃ s0, newNv 9 [] = s0 := ⟨_, rfl⟩
  have e0' : newNv (7 + 2) [] = s0 := e0
  rw [e0'] at LK
  rw [e0] at A1 A2 K0 O0
  clear a1 a2 a3 a4 a5 hb e0'
  have hl8 := hc.len
  obtain ⟨W0, hW0⟩ : ∃ W0, w.alloc (.cells (pc c) 35) = W0 := ⟨_, rfl⟩
  have P0 := Pv.new w hl8
  have B0 := bal (o := .cells (pc c) 35) (Below.refl w.heap.size w)
  rw [hW0] at P0 B0
  have PV := Lib.hid P0
  have BB := Lib.hid B0
  have c0 := P0.slot
  clear P0 B0 hc
  go_enter Try.func5, Try.ntmps5
  go_wp2_with fail
  refine (lget_nil _ _).mono ?_; rintro e w1 ⟨rfl, hb⟩
  obtain ⟨W1, hW1, H1⟩ := boxed1 w1 (a := [0, 0, 0, 0, 0, 0, 0, 0]) rfl
  have B1 := Lib.hid (below_more (below_more BB.out hb) H1.out.2)
  have P1 := Lib.hid ((PV.out.below hb).below H1.out.2)
  have L1 := Lib.hid H1.out.1
  have hst : (lineStore (.pointer (some ⟨w1.heap.size, 0, none⟩)) (.agg (lc zeros))).run Try.prog W1 = .ok () W1 := by rw [← hW1]; exact store_new w1 zeros zeros rfl rfl
  clear hb c0
  go_wp2_with fail
  refine (new_yes 9 _ [] _ (by decide) (by decide) (ri_nil _)).mono ?_; rintro e w2 ⟨g, rfl, hg, hN, hb⟩
  rw [e0] at hN
  have N2 := Lib.hid hN
  have G2 : Hid (w.heap.size ≤ g) := Lib.hid (Nat.le_trans B1.out.size hg)
  have B2 := Lib.hid (below_more B1.out hb)
  have P2 := Lib.hid (P1.out.below hb)
  have L2 := Lib.hid (L1.out.below hb)
  clear hN hg hb
  go_wp2_with fail
  refine (lnew_null _ _ _).mono ?_; rintro e w' ⟨rfl, rfl⟩
  go_wp2_with fail
  refine (lnew_size g s0 9 1 _ N2.out (by decide) (by decide) K0.out.2.1 K0.out.2.2).mono ?_; rintro e w' ⟨rfl, rfl⟩
  go_wp2_with fail
  refine (lnew_few g 0 9 _ (.inl (by decide))).mono ?_; rintro e w' ⟨rfl, rfl⟩
  go_wp2_with fail
  refine (lnew_yes LK.out N2.out).mono ?_; rintro e w3 ⟨q, rfl, hq, hQ, hb⟩
  have B3 := Lib.hid (below_more B2.out hb)
  have P3 := Lib.hid (P2.out.below hb)
  have N3 := Lib.hid (N2.out.below hb)
  have l3 := (L2.out.below hb).load
  have c0 := P3.out.slot
  have l4 := P3.out.line
  clear hq hQ hb
  go_wp2_with fail
  refine (lput_nil _ _ _).mono ?_; rintro e w4 ⟨rfl, hb⟩
  have B4 := Lib.hid (below_more B3.out hb)
  have N4 := Lib.hid (N3.out.below hb)
  clear hb c0 l3 l4
  go_wp2_with fail
  refine (slots_nil _).mono ?_; rintro e w' ⟨rfl, rfl⟩
  go_wp2_with fail
  refine (lleft_nil _).mono ?_; rintro e w' ⟨rfl, rfl⟩
  go_wp2_with fail
  refine (set_is A2.out A1.out N4.out O0.out K0.out.1).mono ?_; rintro e w5 ⟨rfl, hN, hO, hC⟩
  have N5 := Lib.hid hN
  have B5 := Lib.hid (hC.own B4.out G2.out)
  clear hN hO hC
  cases b
  · go_wp2_with fail
    refine (lnew_bad g s1 7 2 w5 N5.out (by decide) (by decide) (by decide) A3.out A4.out false A5.out).mono ?_; rintro e w6 ⟨hn, _, hb⟩
    obtain rfl := hn rfl
    have B6 := Lib.hid (below_more B5.out hb)
    have OL := Lib.hid ((own_lit_u w6 [0, x] (by unfold maxLen; simp)).ru)
    have BL := Lib.hid (bal (o := .cells #[.int .u64 0, .int .u64 x] 25) B6.out)
    have RM := Lib.hid (rmay_any _ [0, x] 7 _ OL.out (by decide))
    rw [HB.out] at RM
    clear hn hb
    go_wp2_with fail
    refine (RM.out).mono ?_; rintro e w' ⟨rfl, rfl⟩
    go_wp2_with fail
    refine (awake_any _).mono ?_; rintro e w7 ⟨rfl, hb⟩
    have B7 := Lib.hid (below_more BL.out hb)
    go_wp2
    go_ret
    exact ⟨rfl, B7.out⟩
  · go_wp2_with fail
    refine (lnew_bad g s1 7 2 w5 N5.out (by decide) (by decide) (by decide) A3.out A4.out true A5.out).mono ?_; rintro e w6 ⟨_, hn, hb⟩
    obtain ⟨q2, rfl, _⟩ := hn rfl
    have B6 := Lib.hid (below_more B5.out hb)
    have OL := Lib.hid ((own_lit_u w6 [0, x] (by unfold maxLen; simp)).ru)
    have BL := Lib.hid (bal (o := .cells #[.int .u64 0, .int .u64 x] 25) B6.out)
    have RM := Lib.hid (rmay_any _ [0, x] 7 _ OL.out (by decide))
    rw [HB.out] at RM
    clear hn hb
    go_wp2_with fail
    refine (RM.out).mono ?_; rintro e w' ⟨rfl, rfl⟩
    go_wp2_with fail
    refine (awake_any _).mono ?_; rintro e w7 ⟨rfl, hb⟩
    have B7 := Lib.hid (below_more BL.out hb)
    go_wp2
    go_ret
    exact ⟨rfl, B7.out⟩

set_option maxRecDepth 100000 in
theorem lifted (os : Os) (started : os.Started) (H : Type) (enc : TypeId × Value → H) :
    ReturnsInHanded {} Try.checked os 5 .any (Rows.linesNilSpec.pre6 enc Try.prog Try.f5 Rows.linesNilRow.domain false) (Rows.linesNilSpec.post enc Try.prog Try.f5 false true false false) := by
  refine returnsInHanded_of_change (C := Try.checked) own started (by kernel_rfl) Try.func5
    (ChangeSpec.witness6 (enc := enc) (C := Try.checked) false ⟨#[], #[.agg #[.int .i64 0, .int .u64 0, .int .u64 0, .int .u64 0, .int .u64 0, .int .u64 0, .int .u64 0, .int .u64 0, .int .u64 0], .int .u64 0], []⟩ 8 (by kernel_rfl) (by kernel_rfl) (by kernel_rfl) (by kernel_rfl)) ?_
  intro W base args ds gs before hval0 hW hcnd _
  have hval : ∀ (j : Nat) t v, Try.f5.params[j]? = some t → args[j]? = some v → Value.okWide Try.prog W .any base t v := hval0
  have hW' := hW
  have hlt := hW.lt
  obtain ⟨p, q, hA0, hV, hpq, hfz, hnd⟩ := hW
  have hA : DataW.TrodAll enc Try.prog W 0 (fun _ => true) true Try.f5.params.toList args.toList ds p := hA0
  rw [Try.params5] at hA hval
  obtain ⟨v0, vs0, d0, ds0, p0, q0, hargs, rfl, hp, h0, r0⟩ := trodAll_cons hA
  obtain ⟨v1, vs1, d1, ds1, p1, q1, rfl, rfl, rfl, h1, r1⟩ := trodAll_cons r0
  obtain ⟨rfl, rfl, rfl⟩ := trodAll_nil r1
  obtain rfl : args = #[v0, v1] := by cases args; simp_all
  obtain ⟨rfl, rfl⟩ := trodVars_none hV
  have hlt' : ∀ x ∈ before, x.block < W.heap.size := fun x hx => hlt x hx
  obtain ⟨c0, rfl, w0⟩ := put_in (hval 0 35 v0 rfl rfl) h0
  obtain ⟨a1, rfl, rfl, rfl, w1⟩ := open_int Try.underlying25 (hval 1 25 v1 rfl rfl) h1
  refine (walk c0 a1 W w0 w1).mono fun e W' ⟨he, hb⟩ => ?_
  subst he
  exact ⟨_, rfl, law_post rfl (by kernel_rfl) hW' (by rw [Try.params5]; intro t ht; simp only [List.mem_cons, List.not_mem_nil, or_false] at ht; (repeat' (first | (rcases ht with rfl | ht) | subst ht)) <;> exact ⟨by kernel_rfl, of_decide_eq_true (by kernel_rfl)⟩) rfl hb⟩

theorem over : Rows.linesNilRow.holds Try.pinned (OpenSpec.ofChange Rows.linesNilSpec) :=
  OpenClaim.holds_of_wide 5 Try.f5 rfl rfl rfl rfl rfl rfl rfl ⟨rfl, rfl, rfl, rfl, rfl⟩ rfl rfl rfl rfl rfl (by kernel_rfl) Try.func5 (by kernel_rfl)
    (of_decide_eq_true (by kernel_rfl)) (by unfold Func.isWrapper; first | (rw [if_pos (by decide +kernel)]; kernel_rfl) | (rw [if_neg (by decide +kernel)]; exact ⟨rfl, rfl⟩))
    (fun os started H enc _ => lifted os started H enc)

theorem proved : Rows.LinesNilSaid := over
end Go.Proofs.Ytlpmpnhkghbdmaa.linesNil
