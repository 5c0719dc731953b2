/-
  For more words the block that is chosen is no smaller; what fits more fits less. No conditions.
-/
import Derived.Test.YtnhhdkdjejfcjaaFtw
namespace Go.Proofs.Ytnhhdkdjejfcjaa.fitMore
set_option maxRecDepth 100000
open Go.Proofs.Ytnhhdkdjejfcjaa Go.ChangeShapes Go.WideShapes Go.ChangeAt Go.RowKit

theorem far (l : List Bk) (p : Option Addr) (c : Nat) (n x : Int) (w : World) (h : 300 < l.length) :
    Calls Try.prog 6 #[.slice p l.length c, .int .i64 n, .int .i64 x] w fun e w' => e = .returned (.bool true) ∧ Below w.heap.size w w' := by
  generalize l.length = L at *
  have i1 : (L : Int) > 300 := by omega
  go_enter Try.func6, Try.ntmps6
  go_wp2_with fail
  refine (awake_any _).mono ?_; rintro e w' ⟨rfl, hb⟩
  go_wp2_with fail
  go_ret
  exact ⟨rfl, hb⟩

/-- what fits more fits less -/
theorem plain {n m : Int} {l : List Bk} (h2 : 2 ≤ n) (hm : n ≤ m) {d : Nat} (hd : chN m [] l = some d) : ∃ c, chN n [] l = some c ∧ c < l.length ∧ d < l.length ∧ (l.getD c default).s ≤ (l.getD d default).s := by
  have hne : fitN m l ≠ [] := fun h => by rw [chN_none h] at hd; cases hd
  obtain ⟨d', e, hdm, _⟩ := chN_some (cs := []) hne
  rw [hd] at e
  cases e
  obtain ⟨hl, hf, _, _⟩ := fitN_mem hdm
  obtain ⟨q1, q2, q3⟩ := fitB_iff.1 hf
  have hf2 : fitB n (l.getD d default) = true := fitB_iff.2 ⟨q1, h2, by omega⟩
  obtain ⟨c, hc, hcm, _⟩ := chN_some (cs := []) (fitN_some (getD_mem hl) hf2)
  obtain ⟨hcl, _, hmin, _⟩ := fitN_mem hcm
  exact ⟨c, hc, hcl, hl, hmin _ (getD_mem hl) hf2⟩

set_option maxHeartbeats 1000000 in
theorem near (l : List Bk) (p : Option Addr) (cp : Nat) (a1 a2 : Int) (w : World) (hv : RA blkE w (.slice p l.length cp) l) (h : l.length ≤ 300) :
    Calls Try.prog 6 #[.slice p l.length cp, .int .i64 a1, .int .i64 a2] w fun e w' => e = .returned (.bool true) ∧ Below w.heap.size w w' := by
  obtain ⟨x, hx, _⟩ := u64_nat a1
  obtain ⟨y, hy, _⟩ := u64_nat a2
  have t1 : (x : Int).tmod 50 = ((x % 50 : Nat) : Int) := tmod_nat x 50
  have t2 : (y : Int).tmod 50 = ((y % 50 : Nat) : Int) := tmod_nat y 50
  obtain ⟨p1, hp⟩ : ∃ p, x % 50 = p := ⟨_, rfl⟩
  obtain ⟨q1, hq⟩ : ∃ p, y % 50 = p := ⟨_, rfl⟩
  rw [hp] at t1
  rw [hq] at t2
  have t3 : IntKind.i64.wrap (p1 : Int) = p1 := i64_nat _ (by omega)
  have t4 : IntKind.i64.wrap (q1 : Int) = q1 := i64_nat _ (by omega)
  obtain ⟨n, hn⟩ : ∃ n, 2 + p1 = n := ⟨_, rfl⟩
  obtain ⟨m, hm⟩ : ∃ s, n + q1 = s := ⟨_, rfl⟩
  have t5 : IntKind.i64.wrap (2 + (p1 : Int)) = (n : Int) := by rw [show 2 + (p1 : Int) = (n : Int) by omega]; exact i64_nat _ (by omega)
  have t6 : IntKind.i64.wrap ((n : Int) + (q1 : Int)) = (m : Int) := by rw [show (n : Int) + (q1 : Int) = (m : Int) by omega]; exact i64_nat _ (by omega)
  obtain ⟨ra, hra⟩ : ∃ r, chN n [] l = r := ⟨_, rfl⟩
  obtain ⟨rb, hrb⟩ : ∃ r, chN m [] l = r := ⟨_, rfl⟩
  have C1 := Lib.hid (choose_is n [] l _ _ ra w hv (ri_nil w) (by omega) hra)
  have C2 := Lib.hid (fun w' (hb : Below w.heap.size w w') => choose_is m [] l _ _ rb w' (ra_below hv hb) (ri_nil w') (by omega) hrb)
  have i1 : ¬ (l.length : Int) > 300 := by omega
  cases rb with
  | none =>
    clear hv h hp hq hn hm hra hrb
    generalize l.length = L at *
    generalize oi ra = z at *
    go_enter Try.func6, Try.ntmps6
    go_wp2_with fail
    refine (C1.out).mono ?_; rintro e w1 ⟨rfl, b1⟩
    have D1 := Lib.hid b1
    clear b1
    go_wp2_with fail
    refine (C2.out _ D1.out).mono ?_; rintro e w2 ⟨rfl, b2⟩
    have D2 := Lib.hid (below_more D1.out b2)
    clear b2
    simp only [oi]
    go_wp2_with fail
    refine (awake_any _).mono ?_; rintro e w3 ⟨rfl, b3⟩
    have D3 := Lib.hid (below_more D2.out b3)
    clear b3
    go_wp2_with fail
    go_ret
    exact ⟨rfl, D3.out⟩
  | some d =>
    obtain ⟨c, hc, hcl, hdl, hs⟩ := plain (n := n) (m := m) (by omega) (by omega) hrb
    rw [hc] at hra
    subst hra
    obtain ⟨b, off, rfl, _, _⟩ := blk_at hv (by omega)
    have ld : ∀ w', Below w.heap.size w w' → ∀ j, j < l.length → w'.cell? ⟨b, off + j * 3 + 1, none⟩ = some (.int .i64 (l.getD j default).s) := fun w' hb j hj => by
      obtain ⟨_, _, e, _, hx⟩ := blk_at (ra_below hv hb) (by omega)
      cases e
      exact (hx j hj).2.2.1
    have LD := Lib.hid ld
    have i2 : ¬ (d : Int) < 0 := by omega
    have i3 : ¬ (c : Int) < 0 := by omega
    have i4 : (c : Int) ≥ 0 := by omega
    have i5 : (c : Int) < (l.length : Int) := by omega
    have i6 : (d : Int) < (l.length : Int) := by omega
    have i7 : (0 : Int) ≤ (d : Int) := by omega
    have L1 := Lib.hid (fun w' hb => LD.out w' hb c hcl)
    have L2 := Lib.hid (fun w' hb => LD.out w' hb d hdl)
    clear ld LD hv h hp hq hn hm hc hrb hcl hdl
    generalize (l.getD c default).s = s1 at *
    generalize (l.getD d default).s = s2 at *
    generalize l.length = L at *
    go_enter Try.func6, Try.ntmps6
    go_wp2_with fail
    refine (C1.out).mono ?_; rintro e w1 ⟨rfl, b1⟩
    have D1 := Lib.hid b1
    clear b1
    go_wp2_with fail
    refine (C2.out _ D1.out).mono ?_; rintro e w2 ⟨rfl, b2⟩
    have D2 := Lib.hid (below_more D1.out b2)
    have l1 : ∀ w', Below w2.heap.size w2 w' → w'.cell? ⟨b, off + c * 3 + 1, none⟩ = some (.int .i64 s1) := fun w' hb => L1.out w' (below_more D2.out hb)
    have l2 : ∀ w', Below w2.heap.size w2 w' → w'.cell? ⟨b, off + d * 3 + 1, none⟩ = some (.int .i64 s2) := fun w' hb => L2.out w' (below_more D2.out hb)
    clear b2 C1 C2
    simp only [oi]
    go_wp2_with fail
    go_region_held3 (fun w' => Below w2.heap.size w2 w')
      (first | exact (Below.refl _ _).drew | exact below_more ‹Below w2.heap.size w2 _› hbq)
      (first
        | (go_at_call 7; refine (awake_any _).mono ?_; rintro e wq ⟨rfl, hbq⟩))
    have HB := Lib.hid (below_more D2.out ‹Below w2.heap.size w2 wq›)
    go_wp2
    go_ret
    exact ⟨rfl, HB.out⟩

theorem walk (l0 : List Bk) (v0 : Value) (a1 a2 : Int) (w : World) (h0 : RA blkE w v0 l0) (_ : (Lit.int .i64 a1).wf = true) (_ : (Lit.int .i64 a2).wf = true) :
    Calls Try.prog 6 #[v0, .int .i64 a1, .int .i64 a2] w fun e w' => e = .returned (.bool true) ∧ Below w.heap.size w w' := by
  obtain ⟨p, c, rfl, _⟩ := ra_shape h0
  by_cases h : 300 < l0.length
  · exact far l0 p c a1 a2 w h
  · exact near l0 p c a1 a2 w h0 (by omega)

set_option maxRecDepth 100000 in
theorem lifted (os : Os) (started : os.Started) (H : Type) (enc : TypeId × Value → H) :
    ReturnsInHanded {} Try.checked os 6 .any (Rows.fitMoreSpec.pre6 enc Try.prog Try.f6 Rows.fitMoreRow.domain false) (Rows.fitMoreSpec.post enc Try.prog Try.f6 false true false false) := by
  refine returnsInHanded_of_change (C := Try.checked) own started (by kernel_rfl) Try.func6
    (ChangeSpec.witness6 (enc := enc) (C := Try.checked) false ⟨#[], #[.slice none 0 0, .int .i64 0, .int .i64 0], []⟩ 8 (by kernel_rfl) (by kernel_rfl) (by kernel_rfl) (by kernel_rfl)) ?_
  intro W base args ds gs before hval0 hW hcnd _
  have hval : ∀ (j : Nat) t v, Try.f6.params[j]? = some t → args[j]? = some v → Value.okWide Try.prog W .any base t v := hval0
  have hW' := hW
  have hlt := hW.lt
  obtain ⟨p, q, hA0, hV, hpq, hfz, hnd⟩ := hW
  have hA : DataW.TrodAll enc Try.prog W 0 (fun _ => true) true Try.f6.params.toList args.toList ds p := hA0
  rw [Try.params6] at hA hval
  obtain ⟨v0, vs0, d0, ds0, p0, q0, hargs, rfl, hp, h0, r0⟩ := trodAll_cons hA
  obtain ⟨v1, vs1, d1, ds1, p1, q1, rfl, rfl, rfl, h1, r1⟩ := trodAll_cons r0
  obtain ⟨v2, vs2, d2, ds2, p2, q2, rfl, rfl, rfl, h2, r2⟩ := trodAll_cons r1
  obtain ⟨rfl, rfl, rfl⟩ := trodAll_nil r2
  obtain rfl : args = #[v0, v1, v2] := by cases args; simp_all
  obtain ⟨rfl, rfl⟩ := trodVars_none hV
  have hlt' : ∀ x ∈ before, x.block < W.heap.size := fun x hx => hlt x hx
  obtain ⟨l0, w0⟩ := blocks_in (hval 0 22 v0 rfl rfl) h0
  obtain ⟨a1, rfl, rfl, rfl, w1⟩ := open_int Try.underlying3 (hval 1 3 v1 rfl rfl) h1
  obtain ⟨a2, rfl, rfl, rfl, w2⟩ := open_int Try.underlying3 (hval 2 3 v2 rfl rfl) h2
  refine (walk l0 v0 a1 a2 W w0 w1 w2).mono fun e W' ⟨he, hb⟩ => ?_
  subst he
  exact ⟨_, rfl, law_post rfl (by kernel_rfl) hW' (by rw [Try.params6]; intro t ht; simp only [List.mem_cons, List.not_mem_nil, or_false] at ht; (repeat' (first | (rcases ht with rfl | ht) | subst ht)) <;> exact ⟨by kernel_rfl, of_decide_eq_true (by kernel_rfl)⟩) rfl hb⟩

theorem over : Rows.fitMoreRow.holds Try.pinned (OpenSpec.ofChange Rows.fitMoreSpec) :=
  OpenClaim.holds_of_wide 6 Try.f6 rfl rfl rfl rfl rfl rfl rfl ⟨rfl, rfl, rfl, rfl, rfl⟩ rfl rfl rfl rfl rfl (by kernel_rfl) Try.func6 (by kernel_rfl)
    (of_decide_eq_true (by kernel_rfl)) (by unfold Func.isWrapper; first | (rw [if_pos (by decide +kernel)]; kernel_rfl) | (rw [if_neg (by decide +kernel)]; exact ⟨rfl, rfl⟩))
    (fun os started H enc _ => lifted os started H enc)

theorem proved : Rows.FitMoreSaid := over
end Go.Proofs.Ytnhhdkdjejfcjaa.fitMore
