/-
  Any operations, at any offsets, done to a model and to an image of the same blocks tell the same; blocks, bytes and root are the same behind each; a copy goes its own way. No conditions.
-/
import Derived.Test.YtlhpcimbigfmkaaMpl
namespace Go.Proofs.Ytlhpcimbigfmkaa.modelPlays
set_option maxRecDepth 100000
open Go.Proofs.Ytlhpcimbigfmkaa Go.ChangeShapes Go.WideShapes Go.ChangeAt Go.RowKit

theorem many (a0 : Int) (p q : Option Addr) (L M c d S : Nat) (w : World) (hS : IntKind.i64.wrap ((L : Int) + (M : Int)) = (S : Int)) (h : 120 < S) :
    Calls Try.prog 3 #[.int .i64 a0, .slice p L c, .slice q M d] w fun e w' => e = .returned (.bool true) ∧ Below w.heap.size w w' := by
  have i1 : (S : Int) > 120 := by omega
  clear h
  go_enter Try.func3, Try.ntmps3
  go_wp2_with fail
  refine (awake_any _).mono ?_; rintro e w' ⟨rfl, hb⟩
  go_wp2_with fail
  go_ret
  exact ⟨rfl, hb⟩
theorem none_ (a0 : Int) (p q : Option Addr) (L M c d S : Nat) (w : World) (hS : IntKind.i64.wrap ((L : Int) + (M : Int)) = (S : Int)) (h : ¬ 120 < S) (hm : ¬ Mw a0) :
    Calls Try.prog 3 #[.int .i64 a0, .slice p L c, .slice q M d] w fun e w' => e = .returned (.bool true) ∧ Below w.heap.size w w' := by
  have i1 : ¬ (S : Int) > 120 := by omega
  have C1 := Lib.hid (mnew_no a0 hm w)
  have C2 := Lib.hid (rnew_no a0 hm)
  clear h hm
  go_enter Try.func3, Try.ntmps3
  go_wp2_with fail
  refine (C1.out).mono ?_; rintro e w1 ⟨rfl, b1⟩
  have D1 := Lib.hid b1
  clear b1
  go_wp2_with fail
  refine (C2.out _).mono ?_; rintro e w2 ⟨rfl, rfl⟩
  go_wp2_with fail
  refine (awake_any _).mono ?_; rintro e w2 ⟨rfl, b2⟩
  have D2 := Lib.hid (below_more D1.out b2)
  go_wp2_with fail
  go_ret
  exact ⟨rfl, D2.out⟩

set_option maxHeartbeats 4000000 in
theorem some_ (N : Nat) (l1 l2 : List Qx) (v1 v2 : Value) (S : Nat) (w : World) (h1 : RA (qoE w) w v1 l1) (h2 : RA (qoE w) w v2 l2) (hS : IntKind.i64.wrap ((l1.length : Int) + (l2.length : Int)) = (S : Int)) (hS2 : l1.length + l2.length = S) (h : ¬ 120 < S) (hm : Mw N) :
    Calls Try.prog 3 #[.int .i64 N, v1, v2] w fun e w' => e = .returned (.bool true) ∧ Below w.heap.size w w' := by
  have i1 : ¬ (S : Int) > 120 := by omega
  have C1 := Lib.hid (mnew_yes N hm w)
  have C2 := Lib.hid (rnew_yes N hm)
  obtain ⟨p, c, rfl, _, _⟩ := ra_shape h1
  obtain ⟨q, d, rfl, _, _⟩ := ra_shape h2
  have H1 := Lib.hid (And.intro h1 (show l1.length ≤ 1000 by omega))
  have H2 := Lib.hid (And.intro h2 (show l2.length ≤ 1000 by omega))
  clear h hm h1 h2 hS2
  go_enter Try.func3, Try.ntmps3
  go_wp2_with fail
  refine (C1.out).mono ?_; rintro e w1 ⟨⟨g, rfl, hg, hM⟩, b1⟩
  have M1 := Lib.hid (hM [] (fun _ h => by cases h))
  have G1 := Lib.hid (show w.heap.size ≤ g ∧ g < w1.heap.size from ⟨hg, M1.out.dlt g (List.mem_cons_self ..)⟩)
  have D1 := Lib.hid b1
  clear b1 hg hM C1
  go_wp2_with fail
  refine (C2.out _).mono ?_; rintro e w2 ⟨⟨x, rfl, hx, hx2, hR⟩, b2⟩
  have P2 := Lib.hid (show Pair w2 [x, g] g x (firstL N) [⟨0, N, false⟩] 0 from ⟨M1.out.more b2 hx hx2, hR [g] (fun k hk => by rw [List.mem_singleton.1 hk]; exact G1.out.2)⟩)
  have X2 := Lib.hid (show w.heap.size ≤ x ∧ g ≠ x from ⟨Nat.le_trans D1.out.size hx, by have := G1.out; omega⟩)
  have D2 := Lib.hid (below_more D1.out b2)
  clear b2 hx hx2 hR C2
  have C3 := Lib.hid (plays_is w l1 _ w2 H1.out.1 H1.out.2 D2.out G1.out.1 X2.out.1 X2.out.2 P2.out)
  go_wp2_with fail
  refine (C3.out).mono ?_; rintro e w3 ⟨rfl, ⟨wl, l, r, hP⟩, c3⟩
  have P3 := Lib.hid hP
  have D3 := Lib.hid (below_chg D2.out c3 (fun k hk => by
    rcases List.mem_cons.1 hk with rfl | hk
    · exact G1.out.1
    · rw [List.mem_singleton.1 hk]; exact X2.out.1))
  clear hP c3 C3 P2
  have C4 := Lib.hid (rclone_is w3 P3.out.r)
  go_wp2_with fail
  refine (C4.out).mono ?_; rintro e w4 ⟨⟨y, rfl, hy, hy2, hR⟩, b4⟩
  have P4 := Lib.hid (show Pair w4 [y, x, g] g x wl l r ∧ Rm w4 [y, x, g] y wl l r from ⟨⟨P3.out.m.more b4 hy hy2, P3.out.r.more b4 hy hy2⟩, hR⟩)
  have Y4 := Lib.hid (show y ≠ x ∧ y ≠ g from ⟨fun e => by have := P3.out.r.dlt x P3.out.r.gD; omega, fun e => by have := P3.out.m.dlt g P3.out.m.gD; omega⟩)
  have D4 := Lib.hid (below_more D3.out b4)
  clear b4 hy hy2 hR C4
  have C5 := Lib.hid (mcopy_is w4 P4.out.1.m)
  go_wp2_with fail
  refine (C5.out).mono ?_; rintro e w5 ⟨⟨z, rfl, hz, hz2, hM⟩, b5⟩
  have P5 := Lib.hid (show Pair w5 [z, y, x, g] z x wl l r ∧ Mo w5 [z, y, x, g] g wl l r ∧ Rm w5 [z, y, x, g] y wl l r from ⟨⟨hM, P4.out.1.r.more b5 hz hz2⟩, P4.out.1.m.more b5 hz hz2, P4.out.2.more b5 hz hz2⟩)
  have Z5 := Lib.hid (show w.heap.size ≤ z ∧ z ≠ x ∧ z ≠ y ∧ z ≠ g from ⟨Nat.le_trans D4.out.size hz, fun e => by have := P4.out.1.r.dlt x P4.out.1.r.gD; omega, fun e => by have := P4.out.2.dlt y P4.out.2.gD; omega, fun e => by have := P4.out.1.m.dlt g P4.out.1.m.gD; omega⟩)
  have D5 := Lib.hid (below_more D4.out b5)
  clear b5 hz hz2 hM C5 P4
  have C6 := Lib.hid (plays_is w l2 _ w5 H2.out.1 H2.out.2 D5.out Z5.out.1 X2.out.1 Z5.out.2.1 P5.out.1)
  go_wp2_with fail
  refine (C6.out).mono ?_; rintro e w6 ⟨rfl, _, c6⟩
  have hin : ∀ k ∈ [z, x], k ∈ [z, y, x, g] := fun k hk => by
    rcases List.mem_cons.1 hk with rfl | hk
    · simp
    · rw [List.mem_singleton.1 hk]; simp
  have M6 := Lib.hid (P5.out.2.1.chg c6 hin (fun q => by
    rcases List.mem_cons.1 q with q | q
    · exact Z5.out.2.2.2 q.symm
    · exact X2.out.2 (List.mem_singleton.1 q)))
  have R6 := Lib.hid (P5.out.2.2.chg c6 hin (fun q => by
    rcases List.mem_cons.1 q with q | q
    · exact Z5.out.2.2.1 q.symm
    · exact Y4.out.1 (List.mem_singleton.1 q)))
  have D6 := Lib.hid (below_chg D5.out c6 (fun k hk => by
    rcases List.mem_cons.1 hk with rfl | hk
    · exact Z5.out.1
    · rw [List.mem_singleton.1 hk]; exact X2.out.1))
  clear c6 C6 P5 hin
  have C7 := Lib.hid (same_models w6 M6.out R6.out)
  go_wp2_with fail
  refine (C7.out).mono ?_; rintro e w7 ⟨rfl, b7⟩
  have D7 := Lib.hid (below_more D6.out b7)
  clear b7 C7
  go_wp2_with fail
  refine (awake_any _).mono ?_; rintro e w8 ⟨rfl, b8⟩
  have D8 := Lib.hid (below_more D7.out b8)
  go_wp2_with fail
  go_ret
  exact ⟨rfl, D8.out⟩

theorem walk (a0 : Int) (l1 : List Qx) (v1 : Value) (l2 : List Qx) (v2 : Value) (w : World) (_h0 : (Lit.int .i64 a0).wf = true) (h1 : RA (qoE w) w v1 l1) (z1 : l1.length * 48 ≤ 140737488351232) (h2 : RA (qoE w) w v2 l2) (z2 : l2.length * 48 ≤ 140737488351232) :
    Calls Try.prog 3 #[.int .i64 a0, v1, v2] w fun e w' => e = .returned (.bool true) ∧ Below w.heap.size w w' := by
  obtain ⟨p, c, rfl, _, _⟩ := ra_shape h1
  obtain ⟨q, d, rfl, _, _⟩ := ra_shape h2
  obtain ⟨S, hS⟩ : ∃ S, l1.length + l2.length = S := ⟨_, rfl⟩
  have hw : IntKind.i64.wrap ((l1.length : Int) + (l2.length : Int)) = (S : Int) := by
    rw [show (l1.length : Int) + (l2.length : Int) = (S : Int) by omega]
    exact i64_nat _ (by omega)
  by_cases h : 120 < S
  · exact many a0 p q _ _ c d S w hw h
  · by_cases hm : Mw a0
    · obtain ⟨N, rfl⟩ : ∃ N : Nat, a0 = N := ⟨a0.toNat, by have := hm.1; omega⟩
      exact some_ N l1 l2 _ _ S w h1 h2 hw hS h hm
    · exact none_ a0 p q _ _ c d S w hw h hm

set_option maxRecDepth 100000 in
theorem lifted (os : Os) (started : os.Started) (H : Type) (enc : TypeId × Value → H) :
    ReturnsInHanded {} Try.checked os 3 .any (Rows.modelPlaysSpec.pre6 enc Try.prog Try.f3 Rows.modelPlaysRow.domain false) (Rows.modelPlaysSpec.post enc Try.prog Try.f3 false true false false) := by
  refine returnsInHanded_of_change_sized (C := Try.checked) own started (by kernel_rfl) Try.func3
    (ChangeSpec.witness6 (enc := enc) (C := Try.checked) false ⟨#[], #[.int .i64 0, .slice none 0 0, .slice none 0 0], []⟩ 8 (by kernel_rfl) (by kernel_rfl) (by kernel_rfl) (by kernel_rfl)) ?_
  intro W base args ds gs before hval0 hW hcnd hsz _
  have hval : ∀ (j : Nat) t v, Try.f3.params[j]? = some t → args[j]? = some v → Value.okWide Try.prog W .any base t v := hval0
  have hW' := hW
  have hlt := hW.lt
  obtain ⟨p, q, hA0, hV, hpq, hfz, hnd⟩ := hW
  have hA : DataW.TrodAll enc Try.prog W 0 (fun _ => true) true Try.f3.params.toList args.toList ds p := hA0
  rw [Try.params3] at hA hval
  obtain ⟨v0, vs0, d0, ds0, p0, q0, hargs, rfl, hp, h0, r0⟩ := trodAll_cons hA
  obtain ⟨v1, vs1, d1, ds1, p1, q1, rfl, rfl, rfl, h1, r1⟩ := trodAll_cons r0
  obtain ⟨v2, vs2, d2, ds2, p2, q2, rfl, rfl, rfl, h2, r2⟩ := trodAll_cons r1
  obtain ⟨rfl, rfl, rfl⟩ := trodAll_nil r2
  obtain rfl : args = #[v0, v1, v2] := by cases args; simp_all
  obtain ⟨rfl, rfl⟩ := trodVars_none hV
  have hlt' : ∀ x ∈ before, x.block < W.heap.size := fun x hx => hlt x hx
  obtain ⟨a0, rfl, rfl, rfl, w0⟩ := open_int Try.underlying3 (hval 0 3 v0 rfl rfl) h0
  obtain ⟨l1, w1, z1⟩ := mops_in_sized (hval 1 22 v1 rfl rfl) h1 (j := 1) rfl rfl hsz
  obtain ⟨l2, w2, z2⟩ := mops_in_sized (hval 2 22 v2 rfl rfl) h2 (j := 2) rfl rfl hsz
  refine (walk a0 l1 v1 l2 v2 W w0 w1 z1 w2 z2).mono fun e W' ⟨he, hb⟩ => ?_
  subst he
  exact ⟨_, rfl, law_post rfl (by kernel_rfl) hW' (by rw [Try.params3]; intro t ht; simp only [List.mem_cons, List.not_mem_nil, or_false] at ht; (repeat' (first | (rcases ht with rfl | ht) | subst ht)) <;> exact ⟨by kernel_rfl, of_decide_eq_true (by kernel_rfl)⟩) rfl hb⟩

theorem over : Rows.modelPlaysRow.holds Try.pinned (OpenSpec.ofChange Rows.modelPlaysSpec) :=
  OpenClaim.holds_of_wide 3 Try.f3 rfl rfl rfl rfl rfl rfl rfl ⟨rfl, rfl, rfl, rfl, rfl⟩ rfl rfl rfl rfl rfl (by kernel_rfl) Try.func3 (by kernel_rfl)
    (of_decide_eq_true (by kernel_rfl)) (by unfold Func.isWrapper; first | (rw [if_pos (by decide +kernel)]; kernel_rfl) | (rw [if_neg (by decide +kernel)]; exact ⟨rfl, rfl⟩))
    (fun os started H enc _ => lifted os started H enc)

theorem proved : Rows.ModelPlaysSaid := over
end Go.Proofs.Ytlhpcimbigfmkaa.modelPlays
