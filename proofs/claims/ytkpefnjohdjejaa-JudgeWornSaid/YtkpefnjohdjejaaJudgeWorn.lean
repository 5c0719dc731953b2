/-
  Once something was refused as worn, all that would change something must be, and what is read goes on. No conditions.
-/
import Derived.Test.YtkpefnjohdjejaaJgv
import Derived.Test.YtkpefnjohdjejaaZma
namespace Go.Proofs.Ytkpefnjohdjejaa.judgeWorn
set_option maxRecDepth 100000
open Go.Proofs.Ytkpefnjohdjejaa Go.ChangeShapes Go.WideShapes Go.ChangeAt Go.RowKit

theorem q_wear {N : Int} (J : JK N) {d : Int} {b : Bool} {s' : Js} (h : SeeQ (jS N) 4 8 0 [d] 3 0 [] b s') : b = true ∧ s' = { jS N with w := true } := by
  unfold SeeQ at h
  rw [if_neg (by decide), if_pos (by decide)] at h
  obtain ⟨er, s2, hc, h⟩ := h
  unfold ChQ at hc
  rw [if_neg (by decide), if_pos rfl] at hc
  have he : er = 0 := hc.1.trans J.r1
  rwa [if_pos ⟨he, (by simp [must]), by decide⟩] at h
theorem q_a {N : Int} (J : JK N) {d : Int} {b : Bool} {s' : Js} (h : SeeQ { jS N with w := true } 4 8 0 [d] 0 0 [] b s') : b = false ∧ s' = { jS N with w := true } := by
  unfold SeeQ at h
  rw [if_neg (by decide), if_pos (by decide)] at h
  obtain ⟨er, s2, hc, h⟩ := h
  unfold ChQ at hc
  rw [if_neg (by decide), if_pos rfl] at hc
  have he : er = 0 := hc.1.trans J.r1
  rwa [if_neg (fun q => absurd q.2.2.1 (by decide)), if_pos ⟨he, (by simp [must]), rfl⟩] at h
theorem q_b {N : Int} (J : JK N) : SeeQ { jS N with w := true } 2 8 0 [] 0 0 [] false { jS N with w := true } := by
  unfold SeeQ
  rw [if_neg (by decide), if_pos (by decide)]
  exact ⟨0, _, by unfold ChQ; rw [if_pos rfl]; exact ⟨J.f8.symm, rfl⟩, by rw [if_neg (fun q => absurd q.2.2.1 (by decide)), if_pos ⟨rfl, by decide, rfl⟩]; exact ⟨rfl, rfl⟩⟩
theorem q_c {N : Int} (J : JK N) : SeeQ { jS N with w := true } 2 8 0 [] 3 0 [] true { jS N with w := true } := by
  unfold SeeQ
  rw [if_neg (by decide), if_pos (by decide)]
  exact ⟨0, _, by unfold ChQ; rw [if_pos rfl]; exact ⟨J.f8.symm, rfl⟩, by rw [if_pos ⟨rfl, by decide, by decide⟩]; exact ⟨rfl, rfl⟩⟩
theorem q_e {N : Int} : SeeQ { jS N with w := true } 1 0 1 [] 4 0 [] false { jS N with w := true } := by
  unfold SeeQ SeeA
  rw [if_pos rfl, if_neg (by decide), if_neg (by decide), if_pos rfl]
  exact ⟨rfl, rfl⟩
theorem q_f {N : Int} (J : JK N) : SeeQ { jS N with w := true } 3 8 1 [] 0 0 [0] true { jS N with w := true } := by
  unfold SeeQ
  rw [if_neg (by decide), if_neg (by decide), if_pos rfl]
  refine ⟨(decide_eq_true ⟨J.r1.symm, rfl, J.rd.symm⟩).symm, rfl⟩
theorem q_g {N : Int} (J : JK N) : SeeQ { jS N with w := true } 2 16 0 [] 1 0 [] true { jS N with w := true } := by
  obtain ⟨s2, hq⟩ : ∃ s2, ChQ { jS N with w := true } 2 16 [] 1 s2 := ⟨_, by unfold ChQ; rw [if_pos rfl]; exact ⟨J.f16.symm, rfl⟩⟩
  have h2 := chq_no hq (by decide)
  unfold SeeQ
  rw [if_neg (by decide), if_pos (by decide)]
  exact ⟨1, _, hq, by rw [if_neg (fun q => absurd q.1 (by decide)), if_neg (fun q => absurd q.1 (by decide)), if_pos (by decide)]; exact ⟨rfl, h2.symm⟩⟩
set_option maxHeartbeats 4000000 in
theorem walk (a0 a1 : Int) (w : World) (_ : (Lit.int .i64 a0).wf = true) (w1 : (Lit.int .u8 a1).wf = true) :
    Calls Try.prog 6 #[.int .i64 a0, .int .u8 a1] w fun e w' => e = .returned (.bool true) ∧ Below w.heap.size w w' := by
  obtain ⟨u0, hu0, _⟩ := u64_nat a0
  have m0 : u0 % 100 < 100 := Nat.mod_lt _ (by decide)
  have t0 : (u0 : Int).tmod 100 = ((u0 % 100 : Nat) : Int) := tmod_nat u0 100
  generalize u0 % 100 = n0 at *
  have k0 : IntKind.i64.wrap (n0 : Int) = n0 := i64_nat _ (by omega)
  have j0 : IntKind.i64.wrap (1 + (n0 : Int)) = ((1 + n0 : Nat) : Int) := by rw [show 1 + (n0 : Int) = ((1 + n0 : Nat) : Int) by omega]; exact i64_nat _ (by omega)
  obtain ⟨kk, hkk, JJ⟩ := jk_of (n := 1 + n0) (by omega) (by omega)
  have QA := Lib.hid (jq_alloc (n := 1 + n0) (by omega) (by omega))
  have HJ := Lib.hid JJ
  have HBy : Hid (By a1) := Lib.hid (by
    have : 0 ≤ a1 ∧ a1 ≤ 255 := by simpa [Lit.wf, IntKind.min, IntKind.max, IntKind.signed, IntKind.bits] using w1
    unfold By; omega)
  clear m0 w1 JJ hkk
  generalize 1 + n0 = N0 at *
  generalize needN (N0 : Int) = N at *
  have C1 := Lib.hid (jnew_k 64 (by decide) w (Below.refl w.heap.size w))
  go_enter Try.func6, Try.ntmps6
  go_wp2_with fail
  refine (C1.out).mono ?_; rintro e w1 ⟨j, rfl, h1⟩
  have C2 := Lib.hid (h1.see ⟨1, 0, N0, 0, .slice none 0 0, []⟩ 0 8 (ra_nil_by w1) (by simp) (ra_nil_by w1) QA.out)
  clear h1 C1
  go_wp2_with fail
  refine (C2.out).mono ?_; rintro e w2 ⟨rfl, h2⟩
  obtain ⟨W2, hW2⟩ : ∃ W, w2.alloc (.cells #[.int .u8 a1] 5) = W := ⟨_, rfl⟩
  have o2 := by_one w2 HBy.out
  rw [hW2] at o2
  have h3 : Jb w W2 j (jS N) := h2.below (by rw [← hW2]; exact bal (Below.refl _ _))
  have C3 := Lib.hid (h3.any ⟨4, 8, 0, 0, .slice (some ⟨w2.heap.size, 0, none⟩) 1 1, [a1]⟩ 3 0 o2.ra (by simp) (ra_nil_by W2))
  clear h2 h3 o2 C2
  go_wp2_with fail
  refine (C3.out).mono ?_; rintro e w4 ⟨b, s', rfl, hq, h4⟩
  obtain ⟨rfl, rfl⟩ := q_wear HJ.out hq
  have H4 := Lib.hid h4
  have C4 := Lib.hid h4.worn
  clear hq h4 C3
  go_wp2_with fail
  refine (C4.out).mono ?_; rintro e w5 ⟨rfl, rfl⟩
  obtain ⟨W4, hW4⟩ : ∃ W, w4.alloc (.cells #[.int .u8 a1] 5) = W := ⟨_, rfl⟩
  have o4 := by_one w4 HBy.out
  rw [hW4] at o4
  have h5 := H4.out.below (show Below w4.heap.size w4 W4 by rw [← hW4]; exact bal (Below.refl _ _))
  have C5 := Lib.hid (h5.any ⟨4, 8, 0, 0, .slice (some ⟨w4.heap.size, 0, none⟩) 1 1, [a1]⟩ 0 0 o4.ra (by simp) (ra_nil_by W4))
  clear h5 o4 C4 H4
  go_wp2_with fail
  refine (C5.out).mono ?_; rintro e w6 ⟨b, s', rfl, hq, h6⟩
  obtain ⟨rfl, rfl⟩ := q_a HJ.out hq
  have C6 := Lib.hid (h6.see ⟨2, 8, 0, 0, .slice none 0 0, []⟩ 0 0 (ra_nil_by w6) (by simp) (ra_nil_by w6) (q_b HJ.out))
  clear hq h6 C5
  go_wp2_with fail
  refine (C6.out).mono ?_; rintro e w7 ⟨rfl, h7⟩
  have C7 := Lib.hid (h7.see ⟨2, 8, 0, 0, .slice none 0 0, []⟩ 3 0 (ra_nil_by w7) (by simp) (ra_nil_by w7) (q_c HJ.out))
  clear h7 C6
  go_wp2_with fail
  refine (C7.out).mono ?_; rintro e w8 ⟨rfl, h8⟩
  have C8 := Lib.hid (h8.see ⟨1, 0, 1, 0, .slice none 0 0, []⟩ 4 0 (ra_nil_by w8) (by simp) (ra_nil_by w8) (q_e))
  clear h8 C7
  go_wp2_with fail
  refine (C8.out).mono ?_; rintro e w9 ⟨rfl, h9⟩
  obtain ⟨W9, hW9⟩ : ∃ W, w9.alloc (.cells #[.int .u8 0] 5) = W := ⟨_, rfl⟩
  have o9 := by_one w9 (c := 0) (by unfold By; omega)
  rw [hW9] at o9
  have h10 := h9.below (show Below w9.heap.size w9 W9 by rw [← hW9]; exact bal (Below.refl _ _))
  have C9 := Lib.hid (h10.see ⟨3, 8, 1, 0, .slice none 0 0, []⟩ 0 0 (ra_nil_by W9) (by simp) o9.ra (q_f HJ.out))
  clear h9 h10 o9 C8
  go_wp2_with fail
  refine (C9.out).mono ?_; rintro e w11 ⟨rfl, h11⟩
  have C10 := Lib.hid (h11.see ⟨2, 16, 0, 0, .slice none 0 0, []⟩ 1 0 (ra_nil_by w11) (by simp) (ra_nil_by w11) (q_g HJ.out))
  clear h11 C9
  go_wp2_with fail
  refine (C10.out).mono ?_; rintro e w12 ⟨rfl, h12⟩
  have C11 := Lib.hid h12.blk
  have D12 := Lib.hid h12.b
  clear h12 C10
  go_wp2_with fail
  refine (C11.out).mono ?_; rintro e w13 ⟨⟨v13, rfl, o13⟩, b13⟩
  have D13 := Lib.hid (below_more D12.out b13)
  obtain ⟨q13, c13, rfl, _⟩ := ra_shape o13.ra
  have hl : 1 ≤ (jS N).l.length := HJ.out.ln
  have hl1 : ((jS N).l.length : Int) ≥ 1 := by omega
  clear o13 b13 D12
  dsimp only
  generalize (jS N).l.length = ll at *
  go_wp2_with fail
  refine (awake_any _).mono ?_; rintro e w14 ⟨rfl, b14⟩
  have D14 := Lib.hid (below_more D13.out b14)
  go_wp2_with fail
  go_ret
  exact ⟨rfl, D14.out⟩
set_option maxRecDepth 100000 in
theorem lifted (os : Os) (started : os.Started) (H : Type) (enc : TypeId × Value → H) :
    ReturnsInHanded {} Try.checked os 6 .any (Rows.judgeWornSpec.pre6 enc Try.prog Try.f6 Rows.judgeWornRow.domain false) (Rows.judgeWornSpec.post enc Try.prog Try.f6 false true false false) := by
  refine returnsInHanded_of_change (C := Try.checked) own started (by kernel_rfl) Try.func6
    (ChangeSpec.witness6 (enc := enc) (C := Try.checked) false ⟨#[], #[.int .i64 0, .int .u8 0], []⟩ 8 (by kernel_rfl) (by kernel_rfl) (by kernel_rfl) (by kernel_rfl)) ?_
  intro W base args ds gs before hval0 hW hcnd _
  have hval : ∀ (j : Nat) t v, Try.f6.params[j]? = some t → args[j]? = some v → Value.okWide Try.prog W .any base t v := hval0
  have hW' := hW
  have hlt := hW.lt
  obtain ⟨p, q, hA0, hV, hpq, hfz, hnd⟩ := hW
  have hA : DataW.TrodAll enc Try.prog W 0 (fun _ => true) true Try.f6.params.toList args.toList ds p := hA0
  rw [Try.params6] at hA hval
  obtain ⟨v0, vs0, d0, ds0, p0, q0, hargs, rfl, hp, h0, r0⟩ := trodAll_cons hA
  obtain ⟨v1, vs1, d1, ds1, p1, q1, rfl, rfl, rfl, h1, r1⟩ := trodAll_cons r0
  obtain ⟨rfl, rfl, rfl⟩ := trodAll_nil r1
  obtain rfl : args = #[v0, v1] := by cases args; simp_all
  obtain ⟨rfl, rfl⟩ := trodVars_none hV
  have hlt' : ∀ x ∈ before, x.block < W.heap.size := fun x hx => hlt x hx
  obtain ⟨a0, rfl, rfl, rfl, w0⟩ := open_int Try.underlying3 (hval 0 3 v0 rfl rfl) h0
  obtain ⟨a1, rfl, rfl, rfl, w1⟩ := open_int Try.underlying5 (hval 1 5 v1 rfl rfl) h1
  refine (walk a0 a1 W w0 w1).mono fun e W' ⟨he, hb⟩ => ?_
  subst he
  exact ⟨_, rfl, law_post rfl (by kernel_rfl) hW' (by rw [Try.params6]; intro t ht; simp only [List.mem_cons, List.not_mem_nil, or_false] at ht; (repeat' (first | (rcases ht with rfl | ht) | subst ht)) <;> exact ⟨by kernel_rfl, of_decide_eq_true (by kernel_rfl)⟩) rfl hb⟩

theorem over : Rows.judgeWornRow.holds Try.pinned (OpenSpec.ofChange Rows.judgeWornSpec) :=
  OpenClaim.holds_of_wide 6 Try.f6 rfl rfl rfl rfl rfl rfl rfl ⟨rfl, rfl, rfl, rfl, rfl⟩ rfl rfl rfl rfl rfl (by kernel_rfl) Try.func6 (by kernel_rfl)
    (of_decide_eq_true (by kernel_rfl)) (by unfold Func.isWrapper; first | (rw [if_pos (by decide +kernel)]; kernel_rfl) | (rw [if_neg (by decide +kernel)]; exact ⟨rfl, rfl⟩))
    (fun os started H enc _ => lifted os started H enc)

theorem proved : Rows.JudgeWornSaid := over
end Go.Proofs.Ytkpefnjohdjejaa.judgeWorn
