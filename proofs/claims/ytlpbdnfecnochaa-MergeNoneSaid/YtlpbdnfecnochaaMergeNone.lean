/-
  Of blocks that may be, package merge gives back a used one, and none else: of what is free, or is not there, it tells no blocks and no edit. No conditions.
-/
import Derived.Test.YtlpbdnfecnochaaMgw
import Derived.Test.YtlpbdnfecnochaaBkd
namespace Go.Proofs.Ytlpbdnfecnochaa.mergeNone
set_option maxRecDepth 100000
open Go.Proofs.Ytlpbdnfecnochaa Go.ChangeShapes Go.WideShapes Go.ChangeAt Go.RowKit

set_option maxHeartbeats 1000000 in
theorem far (l : List Bk) (p : Option Addr) (c : Nat) (n i : Int) (w : World) (hv : RA blkE w (.slice p l.length c) l) (h : 300 < l.length ∨ mayL n l = false) :
    Calls Try.prog 6 #[.slice p l.length c, .int .i64 n, .int .i64 i] w fun e w' => e = .returned (.bool true) ∧ Below w.heap.size w w' := by
  by_cases h1 : 300 < l.length
  · clear hv h
    generalize l.length = L at *
    have i1 : (L : Int) > 300 := by omega
    go_enter Try.func6, Try.ntmps6
    go_wp2_with fail
    refine (awake_any _).mono ?_; rintro e w' ⟨rfl, hb⟩
    go_wp2_with fail
    go_ret
    exact ⟨rfl, hb⟩
  have h3 : mayL n l = false := h.resolve_left h1
  have M := Lib.hid (rmay_is n l _ false w hv (by omega) h3)
  have i1 : ¬ (l.length : Int) > 300 := by omega
  clear hv h h1 h3
  generalize l.length = L at *
  go_enter Try.func6, Try.ntmps6
  go_wp2_with fail
  refine (M.out).mono ?_; rintro e w1 ⟨rfl, b1⟩
  have D1 := Lib.hid b1
  clear b1
  go_wp2_with fail
  refine (awake_any _).mono ?_; rintro e w2 ⟨rfl, b2⟩
  have D2 := Lib.hid (below_more D1.out b2)
  clear b2
  go_wp2_with fail
  go_ret
  exact ⟨rfl, D2.out⟩

set_option maxHeartbeats 2000000 in
theorem none_ (l : List Bk) (p : Option Addr) (c : Nat) (n i : Int) (w : World) (hv : RA blkE w (.slice p l.length c) l) (h1 : l.length ≤ 300) (h3 : mayL n l = true) (hr : canM l i = false) :
    Calls Try.prog 6 #[.slice p l.length c, .int .i64 n, .int .i64 i] w fun e w' => e = .returned (.bool true) ∧ Below w.heap.size w w' := by
  have M := Lib.hid (rmay_is n l _ true w hv (by omega) h3)
  have B := Lib.hid (fun (w' : World) (hb : Below w.heap.size w w') => mblocks_is l i _ w' (ra_below hv hb) (by omega) false hr)
  have E := Lib.hid (fun (w' : World) (hb : Below w.heap.size w w') => medit_is l i _ w' (ra_below hv hb) (by omega) false hr)
  rw [mrgF_no hr] at B
  rw [medF_no hr] at E
  have HV := Lib.hid (fun (w' : World) (hb : Below w.heap.size w w') => ra_below hv hb)
  have i1 : ¬ (l.length : Int) > 300 := by omega
  have q : eqE ⟨0, 0⟩ ⟨0, 0⟩ = true := by decide
  rcases canM_no hr with h | h | h | ⟨g0, g1, h⟩
  · rw [mayL_mayS h3] at h
    cases h
  · have j0 : ¬ i ≥ 0 := by omega
    clear hv h1 h3 hr HV
    generalize l.length = L at *
    go_enter Try.func6, Try.ntmps6
    go_wp2_with fail
    refine (M.out).mono ?_; rintro e w1 ⟨rfl, b1⟩
    have D1 := Lib.hid b1
    go_wp2_with fail
    refine (B.out _ D1.out).mono ?_; rintro e w2 ⟨⟨u, rfl, o⟩, b2⟩
    have D2 := Lib.hid (below_more D1.out b2)
    obtain ⟨_, _, rfl, _, _⟩ := o.shape
    clear b1 b2 o M B
    go_wp2_with fail
    refine (E.out _ D2.out).mono ?_; rintro e w3 ⟨rfl, b3⟩
    have D3 := Lib.hid (below_more D2.out b3)
    obtain ⟨V, hV, HW⟩ := ed_boxed w3 ⟨0, 0⟩
    have ld := HW.out.1.load
    have D4 := Lib.hid (below_more D3.out HW.out.2)
    clear b3 E D1 D2 D3
    go_wp2_with fail
    refine (awake_any _).mono ?_; rintro e w5 ⟨rfl, b5⟩
    have D5 := Lib.hid (below_more D4.out b5)
    clear b5
    go_wp2_with fail
    go_ret
    exact ⟨rfl, D5.out⟩
  · have j0 : i ≥ 0 := by omega
    have j1 : ¬ i < (l.length : Int) := by omega
    clear hv h1 h3 hr HV h
    generalize l.length = L at *
    go_enter Try.func6, Try.ntmps6
    go_wp2_with fail
    refine (M.out).mono ?_; rintro e w1 ⟨rfl, b1⟩
    have D1 := Lib.hid b1
    go_wp2_with fail
    refine (B.out _ D1.out).mono ?_; rintro e w2 ⟨⟨u, rfl, o⟩, b2⟩
    have D2 := Lib.hid (below_more D1.out b2)
    obtain ⟨_, _, rfl, _, _⟩ := o.shape
    clear b1 b2 o M B
    go_wp2_with fail
    refine (E.out _ D2.out).mono ?_; rintro e w3 ⟨rfl, b3⟩
    have D3 := Lib.hid (below_more D2.out b3)
    obtain ⟨V, hV, HW⟩ := ed_boxed w3 ⟨0, 0⟩
    have ld := HW.out.1.load
    have D4 := Lib.hid (below_more D3.out HW.out.2)
    clear b3 E D1 D2 D3
    go_wp2_with fail
    refine (awake_any _).mono ?_; rintro e w5 ⟨rfl, b5⟩
    have D5 := Lib.hid (below_more D4.out b5)
    clear b5
    go_wp2_with fail
    go_ret
    exact ⟨rfl, D5.out⟩
  · obtain ⟨k, rfl⟩ : ∃ k : Nat, i = k := ⟨i.toNat, by omega⟩
    have hk : k < l.length := by omega
    rw [bAt_nat] at h
    obtain ⟨b, off, rfl, _, _⟩ := blk_at hv (by omega)
    have HX : Hid (∀ w', Below w.heap.size w w' → w'.cell? ⟨b, off + k * 3 + 2, none⟩ = some (.bool false)) := Lib.hid fun w' hb' => by
      obtain ⟨_, _, e, _, hx⟩ := blk_at (HV.out w' hb') (by omega)
      cases e
      rw [← h]
      exact (hx k hk).2.2.2.1
    have j0 : (k : Int) ≥ 0 := by omega
    have j1 : (k : Int) < (l.length : Int) := by omega
    have j2 : ¬ (k : Int) < 0 := by omega
    have j3 : ¬ (l.length : Int) ≤ (k : Int) := by omega
    clear hv h1 h3 hr HV h g0 g1 hk
    generalize l.length = L at *
    go_enter Try.func6, Try.ntmps6
    go_wp2_with fail
    refine (M.out).mono ?_; rintro e w1 ⟨rfl, b1⟩
    have D1 := Lib.hid b1
    go_wp2_with fail
    refine (B.out _ D1.out).mono ?_; rintro e w2 ⟨⟨u, rfl, o⟩, b2⟩
    have D2 := Lib.hid (below_more D1.out b2)
    obtain ⟨_, _, rfl, _, _⟩ := o.shape
    clear b1 b2 o M B
    go_wp2_with fail
    refine (E.out _ D2.out).mono ?_; rintro e w3 ⟨rfl, b3⟩
    have D3 := Lib.hid (below_more D2.out b3)
    obtain ⟨V, hV, HW⟩ := ed_boxed w3 ⟨0, 0⟩
    have ld := HW.out.1.load
    have D4 := Lib.hid (below_more D3.out HW.out.2)
    have x := HX.out V D4.out
    clear b3 E D1 D2 D3
    go_wp2_with fail
    refine (awake_any _).mono ?_; rintro e w5 ⟨rfl, b5⟩
    have D5 := Lib.hid (below_more D4.out b5)
    clear b5
    go_wp2_with fail
    go_ret
    exact ⟨rfl, D5.out⟩

set_option maxHeartbeats 2000000 in
theorem one_ (l : List Bk) (p : Option Addr) (c : Nat) (n i : Int) (w : World) (hv : RA blkE w (.slice p l.length c) l) (h1 : l.length ≤ 300) (h3 : mayL n l = true) (hr : canM l i = true) :
    Calls Try.prog 6 #[.slice p l.length c, .int .i64 n, .int .i64 i] w fun e w' => e = .returned (.bool true) ∧ Below w.heap.size w w' := by
  have M := Lib.hid (rmay_is n l _ true w hv (by omega) h3)
  obtain ⟨k, rfl⟩ : ∃ k : Nat, i = k := ⟨i.toNat, by have := (canM_yes.1 hr).2.1; omega⟩
  obtain ⟨_, hk, hu⟩ := canM_nat hr
  have B := Lib.hid (fun (w' : World) (hb : Below w.heap.size w w') => mblocks_is l k _ w' (ra_below hv hb) (by omega) true hr)
  have E := Lib.hid (fun (w' : World) (hb : Below w.heap.size w w') => medit_is l k _ w' (ra_below hv hb) (by omega) true hr)
  have HV := Lib.hid (fun (w' : World) (hb : Below w.heap.size w w') => ra_below hv hb)
  have i1 : ¬ (l.length : Int) > 300 := by omega
  obtain ⟨b, off, rfl, _, _⟩ := blk_at hv (by omega)
  have HX : Hid (∀ w', Below w.heap.size w w' → w'.cell? ⟨b, off + k * 3 + 2, none⟩ = some (.bool true)) := Lib.hid fun w' hb' => by
    obtain ⟨_, _, e, _, hx⟩ := blk_at (HV.out w' hb') (by omega)
    cases e
    rw [← hu]
    exact (hx k hk).2.2.2.1
  have j0 : (k : Int) ≥ 0 := by omega
  have j1 : (k : Int) < (l.length : Int) := by omega
  have j2 : ¬ (k : Int) < 0 := by omega
  have j3 : ¬ (l.length : Int) ≤ (k : Int) := by omega
  clear hv h1 h3 hr HV hu hk
  generalize l.length = L at *
  generalize mrgF l k = P at *
  generalize medF l k = e0 at *
  go_enter Try.func6, Try.ntmps6
  go_wp2_with fail
  refine (M.out).mono ?_; rintro e w1 ⟨rfl, b1⟩
  have D1 := Lib.hid b1
  go_wp2_with fail
  refine (B.out _ D1.out).mono ?_; rintro e w2 ⟨⟨u, rfl, o⟩, b2⟩
  have D2 := Lib.hid (below_more D1.out b2)
  obtain ⟨_, _, rfl, _, _⟩ := o.shape
  clear b1 b2 o M B
  generalize P.length = Y at *
  go_wp2_with fail
  refine (E.out _ D2.out).mono ?_; rintro e w3 ⟨rfl, b3⟩
  have D3 := Lib.hid (below_more D2.out b3)
  obtain ⟨V, hV, HW⟩ := ed_boxed w3 e0
  have ld := HW.out.1.load
  have D4 := Lib.hid (below_more D3.out HW.out.2)
  have x := HX.out V D4.out
  clear b3 E D1 D2 D3
  go_wp2_with fail
  refine (awake_any _).mono ?_; rintro e w5 ⟨rfl, b5⟩
  have D5 := Lib.hid (below_more D4.out b5)
  clear b5
  go_wp2_with fail
  go_ret
  exact ⟨rfl, D5.out⟩

theorem walk (l0 : List Bk) (v0 : Value) (a1 a2 : Int) (w : World) (h0 : RA blkE w v0 l0) (_ : (Lit.int .i64 a1).wf = true) (_ : (Lit.int .i64 a2).wf = true) :
    Calls Try.prog 6 #[v0, .int .i64 a1, .int .i64 a2] w fun e w' => e = .returned (.bool true) ∧ Below w.heap.size w w' := by
  obtain ⟨p, c, rfl, _⟩ := ra_shape h0
  by_cases h : 300 < l0.length ∨ mayL a1 l0 = false
  · exact far l0 p c a1 a2 w h0 h
  · have h' := not_or.1 h
    cases hr : canM l0 a2
    · exact none_ l0 p c a1 a2 w h0 (by omega) (by simpa using h'.2) hr
    · exact one_ l0 p c a1 a2 w h0 (by omega) (by simpa using h'.2) hr

set_option maxRecDepth 100000 in
theorem lifted (os : Os) (started : os.Started) (H : Type) (enc : TypeId × Value → H) :
    ReturnsInHanded {} Try.checked os 6 .any (Rows.mergeNoneSpec.pre6 enc Try.prog Try.f6 Rows.mergeNoneRow.domain false) (Rows.mergeNoneSpec.post enc Try.prog Try.f6 false true false false) := by
  refine returnsInHanded_of_change (C := Try.checked) own started (by kernel_rfl) Try.func6
    (ChangeSpec.witness6 (enc := enc) (C := Try.checked) false ⟨#[], #[.slice none 0 0, .int .i64 0, .int .i64 0], []⟩ 8 (by kernel_rfl) (by kernel_rfl) (by kernel_rfl) (by kernel_rfl)) ?_
  intro W base args ds gs before hval0 hW hcnd _
  have hval : ∀ (j : Nat) t v, Try.f6.params[j]? = some t → args[j]? = some v → Value.okWide Try.prog W .any base t v := hval0
  have hW' := hW
  have hlt := hW.lt
  obtain ⟨p, q, hA0, hV, hpq, hfz, hnd⟩ := hW
  have hA : DataW.TrodAll enc Try.prog W 0 (fun _ => true) true Try.f6.params.toList args.toList ds p := hA0
  rw [Try.params6] at hA hval
  obtain ⟨v0, vs0, d0, ds0, p0, q0, hargs, rfl, hp, h0, r0⟩ := trodAll_cons hA
  obtain ⟨v1, vs1, d1, ds1, p1, q1, rfl, rfl, rfl, h1, r1⟩ := trodAll_cons r0
  obtain ⟨v2, vs2, d2, ds2, p2, q2, rfl, rfl, rfl, h2, r2⟩ := trodAll_cons r1
  obtain ⟨rfl, rfl, rfl⟩ := trodAll_nil r2
  obtain rfl : args = #[v0, v1, v2] := by cases args; simp_all
  obtain ⟨rfl, rfl⟩ := trodVars_none hV
  have hlt' : ∀ x ∈ before, x.block < W.heap.size := fun x hx => hlt x hx
  obtain ⟨l0, w0⟩ := blocks_in (hval 0 22 v0 rfl rfl) h0
  obtain ⟨a1, rfl, rfl, rfl, w1⟩ := open_int Try.underlying3 (hval 1 3 v1 rfl rfl) h1
  obtain ⟨a2, rfl, rfl, rfl, w2⟩ := open_int Try.underlying3 (hval 2 3 v2 rfl rfl) h2
  refine (walk l0 v0 a1 a2 W w0 w1 w2).mono fun e W' ⟨he, hb⟩ => ?_
  subst he
  exact ⟨_, rfl, law_post rfl (by kernel_rfl) hW' (by rw [Try.params6]; intro t ht; simp only [List.mem_cons, List.not_mem_nil, or_false] at ht; (repeat' (first | (rcases ht with rfl | ht) | subst ht)) <;> exact ⟨by kernel_rfl, of_decide_eq_true (by kernel_rfl)⟩) rfl hb⟩

theorem over : Rows.mergeNoneRow.holds Try.pinned (OpenSpec.ofChange Rows.mergeNoneSpec) :=
  OpenClaim.holds_of_wide 6 Try.f6 rfl rfl rfl rfl rfl rfl rfl ⟨rfl, rfl, rfl, rfl, rfl⟩ rfl rfl rfl rfl rfl (by kernel_rfl) Try.func6 (by kernel_rfl)
    (of_decide_eq_true (by kernel_rfl)) (by unfold Func.isWrapper; first | (rw [if_pos (by decide +kernel)]; kernel_rfl) | (rw [if_neg (by decide +kernel)]; exact ⟨rfl, rfl⟩))
    (fun os started H enc _ => lifted os started H enc)

theorem proved : Rows.MergeNoneSaid := over
end Go.Proofs.Ytlpbdnfecnochaa.mergeNone
