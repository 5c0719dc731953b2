/-
  Of any blocks and numbers, package carve tells the blocks behind a taking, the words that are written, and where bytes begin, as the reference does. No conditions.
-/
import Derived.Test.YtabdcdddkmklcaaCrk
import Derived.Test.YtabdcdddkmklcaaCrw
import Derived.Test.YtabdcdddkmklcaaEds
import Derived.Test.YtabdcdddkmklcaaBkg
import Derived.Test.YtabdcdddkmklcaaBkv
import Derived.Deep.RegionHeld3
namespace Go.Proofs.Ytabdcdddkmklcaa.carveForms
set_option maxRecDepth 100000
open Go.Proofs.Ytabdcdddkmklcaa Go.ChangeShapes Go.WideShapes Go.ChangeAt Go.RowKit

set_option maxHeartbeats 1000000 in
theorem far (l0 : List Bk) (p0 : Option Addr) (c0 : Nat) (a1 a2 : Int) (c : Bk) (w : World) (h : 600 < l0.length) :
    Calls Try.prog 3 #[.slice p0 l0.length c0, .int .i64 a1, .int .i64 a2, .agg (bc c)] w fun e w' => e = .returned (.bool true) ∧ Below w.heap.size w w' := by
  obtain ⟨W, hW, HW⟩ := blk_boxed w c
  generalize l0.length = L at *
  have i1 : (L : Int) > 600 := by omega
  clear h
  go_enter Try.func3, Try.ntmps3
  go_wp2_with fail
  refine (awake_any _).mono ?_; rintro e w1 ⟨rfl, b1⟩
  have D := Lib.hid (below_more HW.out.2 b1)
  go_wp2_with fail
  go_ret
  exact ⟨rfl, D.out⟩

set_option maxHeartbeats 4000000 in
theorem near (l0 : List Bk) (p0 : Option Addr) (c0 : Nat) (a1 a2 : Int) (c : Bk) (w : World) (h0 : RA blkE w (.slice p0 l0.length c0) l0) (n0 : l0.length ≤ 600) :
    Calls Try.prog 3 #[.slice p0 l0.length c0, .int .i64 a1, .int .i64 a2, .agg (bc c)] w fun e w' => e = .returned (.bool true) ∧ Below w.heap.size w w' := by
  obtain ⟨W, hW, HW⟩ := blk_boxed w c
  obtain ⟨r, hr⟩ : ∃ r, canC l0 a1 a2 = r := ⟨_, rfl⟩
  obtain ⟨x, hx⟩ : ∃ x, offB c.a = x := ⟨_, rfl⟩
  have i0 : ¬ (l0.length : Int) > 600 := by omega
  have HV := Lib.hid (fun (w' : World) (hb : Below w.heap.size w w') => ra_below h0 hb)
  have B1 := Lib.hid (fun (w' : World) (hb : Below w.heap.size w w') => cblocks_is l0 a1 a2 _ w' (HV.out w' hb) (by omega) r hr)
  have B2 := Lib.hid (fun (w' : World) (hb : Below w.heap.size w w') => rcarved_is l0 a1 a2 _ w' (HV.out w' hb) (by omega) r hr)
  have E1 := Lib.hid (fun (w' : World) (hb : Below w.heap.size w w') => cedits_is l0 a1 a2 _ w' (HV.out w' hb) (by omega))
  have E2 := Lib.hid (fun (w' : World) (hb : Below w.heap.size w w') => rcedits_is l0 a1 a2 _ w' (HV.out w' hb) (by omega))
  have F1 := Lib.hid (fun (w' : World) => off_is c x hx w')
  have F2 := Lib.hid (fun (w' : World) => roff_is c x hx w')
  have r1 : (r == r) = true := by simp
  have x1 : (x == x) = true := by simp
  have HG : Hid (∀ w', Below W.heap.size W w' → (blkLoad (.pointer (some ⟨w.heap.size, 0, none⟩))).run Try.prog w' = .ok (.agg (bc c)) w') := Lib.hid fun w' hb => (HW.out.1.below hb).load
  clear hr h0 n0 hx HV
  generalize l0.length = L at *
  have D0 := Lib.hid HW.out.2
  clear HW
  go_enter Try.func3, Try.ntmps3
  go_wp2_with fail
  refine (B1.out W D0.out).mono ?_; rintro e w1 ⟨⟨v, rfl, o1⟩, b1⟩
  have O1 := Lib.hid o1
  have D1 := Lib.hid (below_more D0.out b1)
  have X1 := Lib.hid b1
  clear o1 b1
  go_wp2_with fail
  refine (B2.out w1 D1.out).mono ?_; rintro e V ⟨⟨u, rfl, o2⟩, b2⟩
  have D2 := Lib.hid (below_more D1.out b2)
  have X2 := Lib.hid (below_more X1.out b2)
  have SB : Hid (∀ w', Below V.heap.size V w' → Calls Try.prog 11 #[v, u] w' fun e w'' => e = .returned (.bool true) ∧ Below w'.heap.size w' w'') := Lib.hid fun w' hb => (blks_same (w := w') (ra_below (O1.out.below b2).ra hb) (ra_below o2.ra hb)).mono fun e w'' ⟨h1, n, h2⟩ => ⟨h1, by subst h2; exact below_drewN (Below.refl _ _) n⟩
  have E1' : Hid (∀ w', Below V.heap.size V w' → _) := Lib.hid fun w' hb => E1.out w' (below_more D2.out hb)
  have E2' : Hid (∀ w', Below V.heap.size V w' → _) := Lib.hid fun w' hb => E2.out w' (below_more D2.out hb)
  have hld : ∀ w', Below V.heap.size V w' → (blkLoad (.pointer (some ⟨w.heap.size, 0, none⟩))).run Try.prog w' = .ok (.agg (bc c)) w' := fun w' hb => HG.out w' (below_more X2.out hb)
  clear o2 b2 O1 B1 B2 E1 E2 X1 X2 D1 D0 HG
  go_wp2_with fail
  go_region_held3 (fun w' => Below V.heap.size V w')
    (first | exact (Below.refl _ _).drew | exact below_more ‹Below V.heap.size V _› hbq)
    (first
      | (go_at_call 11; refine (SB.out _ ‹Below V.heap.size V _›).mono ?_; rintro e wq ⟨rfl, hbq⟩)
      | (go_at_call 13; refine (E1'.out _ ‹Below V.heap.size V _›).mono ?_; rintro e wq ⟨⟨ue, rfl, oe⟩, hbq⟩
         have NE := Lib.hid oe
         clear oe)
      | (go_at_call 14; refine (E2'.out _ ‹Below V.heap.size V _›).mono ?_; rintro e wq ⟨⟨uf, rfl, of⟩, hbq⟩
         have NF := Lib.hid (And.intro (NE.out.below hbq).ra of.ra)
         clear of)
      | (go_at_call 12; refine (edits_same_b NF.out.1 NF.out.2).mono ?_; rintro e wq ⟨rfl, hbq⟩)
      | (go_at_call 15; refine (F1.out _).mono ?_; rintro e wq ⟨rfl, hbq⟩)
      | (go_at_call 16; refine (F2.out _).mono ?_; rintro e wq ⟨rfl, hbq⟩)
      | (go_at_call 8; refine (awake_any _).mono ?_; rintro e wq ⟨rfl, hbq⟩))
  have HB := Lib.hid (below_more D2.out ‹Below V.heap.size V wq›)
  go_wp2
  go_ret
  exact ⟨rfl, HB.out⟩

theorem walk (l0 : List Bk) (v0 : Value) (a1 a2 : Int) (c3 : Bk) (w : World) (h0 : RA blkE w v0 l0) (_ : (Lit.int .i64 a1).wf = true) (_ : (Lit.int .i64 a2).wf = true) (_ : c3.Wf) :
    Calls Try.prog 3 #[v0, .int .i64 a1, .int .i64 a2, .agg (bc c3)] w fun e w' => e = .returned (.bool true) ∧ Below w.heap.size w w' := by
  obtain ⟨p0, c0, rfl, _⟩ := ra_shape h0
  by_cases h : 600 < l0.length
  · exact far l0 p0 c0 a1 a2 c3 w h
  · exact near l0 p0 c0 a1 a2 c3 w h0 (by omega)

set_option maxRecDepth 100000 in
theorem lifted (os : Os) (started : os.Started) (H : Type) (enc : TypeId × Value → H) :
    ReturnsInHanded {} Try.checked os 3 .any (Rows.carveFormsSpec.pre6 enc Try.prog Try.f3 Rows.carveFormsRow.domain false) (Rows.carveFormsSpec.post enc Try.prog Try.f3 false true false false) := by
  refine returnsInHanded_of_change (C := Try.checked) own started (by kernel_rfl) Try.func3
    (ChangeSpec.witness6 (enc := enc) (C := Try.checked) false ⟨#[], #[.slice none 0 0, .int .i64 0, .int .i64 0, .agg #[.int .i64 0, .int .i64 0, .bool false]], []⟩ 8 (by kernel_rfl) (by kernel_rfl) (by kernel_rfl) (by kernel_rfl)) ?_
  intro W base args ds gs before hval0 hW hcnd _
  have hval : ∀ (j : Nat) t v, Try.f3.params[j]? = some t → args[j]? = some v → Value.okWide Try.prog W .any base t v := hval0
  have hW' := hW
  have hlt := hW.lt
  obtain ⟨p, q, hA0, hV, hpq, hfz, hnd⟩ := hW
  have hA : DataW.TrodAll enc Try.prog W 0 (fun _ => true) true Try.f3.params.toList args.toList ds p := hA0
  rw [Try.params3] at hA hval
  obtain ⟨v0, vs0, d0, ds0, p0, q0, hargs, rfl, hp, h0, r0⟩ := trodAll_cons hA
  obtain ⟨v1, vs1, d1, ds1, p1, q1, rfl, rfl, rfl, h1, r1⟩ := trodAll_cons r0
  obtain ⟨v2, vs2, d2, ds2, p2, q2, rfl, rfl, rfl, h2, r2⟩ := trodAll_cons r1
  obtain ⟨v3, vs3, d3, ds3, p3, q3, rfl, rfl, rfl, h3, r3⟩ := trodAll_cons r2
  obtain ⟨rfl, rfl, rfl⟩ := trodAll_nil r3
  obtain rfl : args = #[v0, v1, v2, v3] := by cases args; simp_all
  obtain ⟨rfl, rfl⟩ := trodVars_none hV
  have hlt' : ∀ x ∈ before, x.block < W.heap.size := fun x hx => hlt x hx
  obtain ⟨l0, w0⟩ := blocks_in (hval 0 22 v0 rfl rfl) h0
  obtain ⟨a1, rfl, rfl, rfl, w1⟩ := open_int Try.underlying3 (hval 1 3 v1 rfl rfl) h1
  obtain ⟨a2, rfl, rfl, rfl, w2⟩ := open_int Try.underlying3 (hval 2 3 v2 rfl rfl) h2
  obtain ⟨c3, rfl, w3⟩ := block_in (hval 3 24 v3 rfl rfl) h3
  refine (walk l0 v0 a1 a2 c3 W w0 w1 w2 w3).mono fun e W' ⟨he, hb⟩ => ?_
  subst he
  exact ⟨_, rfl, law_post rfl (by kernel_rfl) hW' (by rw [Try.params3]; intro t ht; simp only [List.mem_cons, List.not_mem_nil, or_false] at ht; (repeat' (first | (rcases ht with rfl | ht) | subst ht)) <;> exact ⟨by kernel_rfl, of_decide_eq_true (by kernel_rfl)⟩) rfl hb⟩

theorem over : Rows.carveFormsRow.holds Try.pinned (OpenSpec.ofChange Rows.carveFormsSpec) :=
  OpenClaim.holds_of_wide 3 Try.f3 rfl rfl rfl rfl rfl rfl rfl ⟨rfl, rfl, rfl, rfl, rfl⟩ rfl rfl rfl rfl rfl (by kernel_rfl) Try.func3 (by kernel_rfl)
    (of_decide_eq_true (by kernel_rfl)) (by unfold Func.isWrapper; first | (rw [if_pos (by decide +kernel)]; kernel_rfl) | (rw [if_neg (by decide +kernel)]; exact ⟨rfl, rfl⟩))
    (fun os started H enc _ => lifted os started H enc)

theorem proved : Rows.CarveFormsSaid := over
end Go.Proofs.Ytabdcdddkmklcaa.carveForms
