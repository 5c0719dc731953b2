/-
  A part is no more than one of the whole; two parts of a whole are one. No conditions.
-/
import Derived.Test.YtaghncdeojdghaaAdd
namespace Go.Proofs.Ytaghncdeojdghaa.meanRatios
open Go.Proofs.Ytaghncdeojdghaa Go.Proofs.Ytaghncdeojdghaa.D Go.ChangeShapes Go.WideShapes Go.ChangeAt Go.RowKit

def one : Nat := 4607182418800017408
def lo6 : Nat := 4607182409792818153
def hi6 : Nat := 4607182423303617035
theorem one_W : one = W 1 := by rw [W_one]; rfl
/-- the places of the parts that two bounds are told in -/
def g40 : Nat := 1034
theorem lp_g : 2 ^ lp = 2 ^ 40 * 2 ^ g40 := by rw [← Nat.pow_add]; congr 1
theorem val_one : val one = 2 ^ lp := by rw [one_W, val_W (by decide), Nat.one_mul]

/-- a part is between two neighbours of a grid -/
theorem part_grid {a b : Nat} (hab : a ≤ b) (hb : 1 ≤ b) (hb2 : b ≤ 2 ^ 20) : a * 2 ^ 40 / b * 2 ^ g40 ≤ val (Q a b) ∧ val (Q a b) ≤ (a * 2 ^ 40 / b + 1) * 2 ^ g40 ∧ a * 2 ^ 40 / b ≤ 2 ^ 40 := by
  have hd := Nat.div_add_mod (a * 2 ^ 40) b
  have hm := Nat.mod_lt (a * 2 ^ 40) (show 0 < b by omega)
  have hle : a * 2 ^ 40 / b ≤ 2 ^ 40 := Nat.div_le_of_le_mul (Nat.mul_le_mul_right _ hab)
  have e : a * 2 ^ lp = a * 2 ^ 40 * 2 ^ g40 := by rw [lp_g, Nat.mul_assoc]
  generalize hf : a * 2 ^ 40 / b = f at *
  have v := val_rn (m := f) (c := g40) (by omega) (by decide)
  have v1 := val_rn (m := f + 1) (c := g40) (by omega) (by decide)
  refine ⟨?_, ?_, hle⟩
  · rw [← v]
    refine val_le.2 (Q_ge (by omega) hb (by omega) (rn_inf _ _) ?_)
    rw [v, e, Nat.mul_right_comm]
    have h : f * b ≤ a * 2 ^ 40 := by rw [Nat.mul_comm f b]; omega
    exact Nat.mul_le_mul_right _ h
  · rw [← v1]
    refine val_le.2 (Q_le (by omega) hb (by omega) ?_)
    rw [v1, e, Nat.mul_right_comm (f + 1) (2 ^ g40) b]
    have h : a * 2 ^ 40 ≤ (f + 1) * b := by rw [Nat.mul_comm (f + 1) b, Nat.mul_add, Nat.mul_one]; omega
    exact Nat.mul_le_mul_right _ h

def p21 : Nat := 1021
def p22 : Nat := 1022
theorem val_lo : val (lo6 + 1) = (2 ^ 52 + (lo6 + 1) % 2 ^ 52) * 2 ^ p21 := by
  have h1 : ¬ lo6 + 1 < 2 ^ 52 := by decide
  have h2 : (lo6 + 1) / 2 ^ 52 - 1 = p21 := by decide
  unfold val
  rw [if_neg h1, h2]
theorem val_hi6 : val (hi6 - 1) = (2 ^ 52 + (hi6 - 1) % 2 ^ 52) * 2 ^ p22 := by
  have h1 : ¬ hi6 - 1 < 2 ^ 52 := by decide
  have h2 : (hi6 - 1) / 2 ^ 52 - 1 = p22 := by decide
  unfold val
  rw [if_neg h1, h2]

theorem both {a b : Nat} (hab : a ≤ b) (hb : 1 ≤ b) (hb2 : b ≤ 2 ^ 20) : ∃ s, Ieee.double.add (Q a b) (Q (b - a) b) = some s ∧ s ≤ inf ∧ lo6 < s ∧ s < hi6 := by
  obtain ⟨s, h1, h2, h3, h4⟩ := add_small (Q_fin (a := a) (b := b) (by omega) hb (by omega)) (Q_fin (a := b - a) (b := b) (by omega) hb (by omega))
  refine ⟨s, h1, h2, ?_, ?_⟩
  · obtain ⟨x1, _, _⟩ := part_grid hab hb hb2
    obtain ⟨y1, _, _⟩ := part_grid (a := b - a) (b := b) (by omega) hb hb2
    refine h3 (lo6 + 1) (by decide) ?_
    refine Nat.le_trans ?_ (Nat.add_le_add x1 y1)
    rw [val_lo, ← Nat.add_mul]
    have e : 2 ^ g40 = 2 ^ 13 * 2 ^ p21 := by rw [← Nat.pow_add]; congr 1
    rw [e, ← Nat.mul_assoc]
    refine Nat.mul_le_mul_right _ ?_
    have hd1 := Nat.div_add_mod (a * 2 ^ 40) b
    have hm1 := Nat.mod_lt (a * 2 ^ 40) (show 0 < b by omega)
    have hd2 := Nat.div_add_mod ((b - a) * 2 ^ 40) b
    have hm2 := Nat.mod_lt ((b - a) * 2 ^ 40) (show 0 < b by omega)
    have hs : 2 ^ 40 - 1 ≤ a * 2 ^ 40 / b + (b - a) * 2 ^ 40 / b := by
      refine Nat.le_of_not_lt fun g => ?_
      have g2 : a * 2 ^ 40 / b + (b - a) * 2 ^ 40 / b + 2 ≤ 2 ^ 40 := by omega
      have g3 := Nat.mul_le_mul_left b g2
      rw [Nat.mul_add, Nat.mul_add] at g3
      omega
    have e2 : 2 ^ 52 + (lo6 + 1) % 2 ^ 52 ≤ (2 ^ 40 - 1) * 2 ^ 13 := by decide
    exact Nat.le_trans e2 (Nat.mul_le_mul_right _ hs)
  · obtain ⟨_, x1, _⟩ := part_grid hab hb hb2
    obtain ⟨_, y1, _⟩ := part_grid (a := b - a) (b := b) (by omega) hb hb2
    have : s ≤ hi6 - 1 := by
      refine h4 (hi6 - 1) ?_
      refine Nat.le_trans (Nat.add_le_add x1 y1) ?_
      rw [val_hi6, ← Nat.add_mul]
      have e : 2 ^ g40 = 2 ^ 12 * 2 ^ p22 := by rw [← Nat.pow_add]; congr 1
      rw [e, ← Nat.mul_assoc]
      refine Nat.mul_le_mul_right _ ?_
      have hd1 := Nat.div_add_mod (a * 2 ^ 40) b
      have hd2 := Nat.div_add_mod ((b - a) * 2 ^ 40) b
      have hs : a * 2 ^ 40 / b + 1 + ((b - a) * 2 ^ 40 / b + 1) ≤ 2 ^ 40 + 2 := by
        refine Nat.le_of_not_lt fun g => ?_
        have g2 : 2 ^ 40 + 1 ≤ a * 2 ^ 40 / b + (b - a) * 2 ^ 40 / b := by omega
        have g3 := Nat.mul_le_mul_left b g2
        rw [Nat.mul_add, Nat.mul_add] at g3
        omega
      have e2 : (2 ^ 40 + 2) * 2 ^ 12 ≤ 2 ^ 52 + (hi6 - 1) % 2 ^ 52 := by decide
      exact Nat.le_trans (Nat.mul_le_mul_right _ hs) e2
    have : 0 < hi6 := by decide
    omega

theorem part_one {a b : Nat} (hab : a ≤ b) (hb : 1 ≤ b) (hb2 : b ≤ 2 ^ 20) : Q a b ≤ one ∧ (Q a b = one ↔ a = b) ∧ (Q a b = 0 ↔ a = 0) := by
  have h1 : Q a b ≤ W 1 := Q_le_nat (by omega) hb (by omega) (by decide) (by omega)
  rw [← one_W] at h1
  refine ⟨h1, ⟨fun h => ?_, fun h => ?_⟩, ⟨fun h => ?_, fun h => by rw [h, Q_zero]⟩⟩
  · refine Nat.le_antisymm hab (Nat.le_of_not_lt fun g => ?_)
    obtain ⟨_, _, _⟩ := part_grid hab hb hb2
    -- below one by more than a place of the grid
    have hg : Q a b ≤ one - 1 := by
      refine Q_le (by omega) hb (by omega) ?_
      have hv : (2 ^ 40 - 2 ^ 10) * 2 ^ g40 ≤ val (one - 1) := by
        have v := val_rn (m := 2 ^ 40 - 2 ^ 10) (c := g40) (by decide) (by decide)
        rw [← v]
        refine val_le.2 ?_
        have : rn (2 ^ 40 - 2 ^ 10) g40 < one := by
          refine Nat.lt_of_not_le fun k => ?_
          have := val_le.2 k
          rw [v, val_one, lp_g] at this
          have := Nat.le_of_mul_le_mul_right this (Nat.two_pow_pos g40)
          omega
        omega
      refine Nat.le_trans ?_ (Nat.mul_le_mul_right _ hv)
      rw [lp_g, ← Nat.mul_assoc, Nat.mul_right_comm _ (2 ^ g40) b]
      refine Nat.mul_le_mul_right _ ?_
      omega
    rw [h] at hg
    have : 0 < one := by decide
    omega
  · subst h
    refine Nat.le_antisymm h1 ?_
    rw [one_W]
    exact Q_ge_nat (by omega) hb (by omega) (by decide) (by omega)
  · refine Nat.eq_zero_of_not_pos fun g => ?_
    have := Q_pos g (by omega) hb (by omega : b ≤ 2 ^ 60)
    omega

theorem u64_nat (a : Int) : ∃ u : Nat, IntKind.u64.wrap a = (u : Int) ∧ u < 2 ^ 64 := by
  refine ⟨(a % 18446744073709551616).toNat, ?_, by omega⟩
  have h : IntKind.u64.wrap a = a % 18446744073709551616 := by simp [IntKind.wrap, IntKind.signed, IntKind.bits]
  rw [h]; omega
theorem tmod_nat (u n : Nat) : (u : Int).tmod ((n : Nat) : Int) = ((u % n : Nat) : Int) := by rw [Int.natCast_emod]; exact Int.tmod_eq_emod_of_nonneg (by omega)

theorem rat_c (a b : Nat) (ha : a ≤ 1000000) (hb : b ≤ 1000000) (h1 : 1 ≤ b) (x : Nat) (hx : Q a b = x) (w : World) :
    Calls Try.prog 15 #[.int .i64 (a : Int), .int .i64 (b : Int)] w fun e w' => e = .returned (.float .f64 x) ∧ ∃ n, w' = w.drewN n := by
  have := mrat_any (a : Int) (b : Int) w
  rwa [hn_small ha, hn_small hb, show ratV a b = x by unfold ratV; rw [if_neg (by omega), hx]] at this

set_option maxHeartbeats 1000000 in
theorem walk (a0 a1 : Int) (w : World) (_ : (Lit.int .i64 a0).wf = true) (_ : (Lit.int .i64 a1).wf = true) :
    Calls Try.prog 8 #[.int .i64 a0, .int .i64 a1] w fun e w' => e = .returned (.bool true) ∧ Below w.heap.size w w' := by
  obtain ⟨u, hu, _⟩ := u64_nat a1
  obtain ⟨v, hv, _⟩ := u64_nat a0
  obtain ⟨b, hb⟩ : ∃ b, b = 1 + u % 1000000 := ⟨_, rfl⟩
  obtain ⟨a, ha⟩ : ∃ a, a = v % (b + 1) := ⟨_, rfl⟩
  have hb1 : 1 ≤ b := by omega
  have hb2 : b ≤ 1000000 := by omega
  have hab : a ≤ b := by have := Nat.mod_lt v (show 0 < b + 1 by omega); omega
  have t1 : (u : Int).tmod 1000000 = (b : Int) - 1 := by have h := tmod_nat u 1000000; rw [show ((1000000 : Nat) : Int) = 1000000 from rfl] at h; omega
  have t2 : (v : Int).tmod ((b : Int) + 1) = (a : Int) := by have := tmod_nat v (b + 1); rw [ha]; exact_mod_cast this
  have t3 : (1 : Int) + ((b : Int) - 1) = (b : Int) := by omega
  obtain ⟨c, hc⟩ : ∃ c, c = b - a := ⟨_, rfl⟩
  have t4 : (b : Int) - (a : Int) = (c : Int) := by omega
  obtain ⟨f1, f2, f3⟩ := part_one hab hb1 (by omega)
  obtain ⟨s, g1, g2, g3, g4⟩ := both hab hb1 (by omega)
  have hQ : Q a b ≤ inf := by have : one ≤ inf := by decide
                              omega
  have ho : one ≤ inf := by decide
  have o1 : (FloatKind.f64.format.order (Q a b) 0 == some .gt || FloatKind.f64.format.order (Q a b) 0 == some .eq) = true := by rw [ord_ge hQ (by decide)]; simp
  have o2 : (FloatKind.f64.format.order (Q a b) 4607182418800017408 == some .lt || FloatKind.f64.format.order (Q a b) 4607182418800017408 == some .eq) = true := (ord_le hQ (show 4607182418800017408 ≤ inf from ho)).trans (decide_eq_true f1)
  have o3 : (FloatKind.f64.format.order (Q a b) 4607182418800017408 == some .eq) = decide (a = b) := (ord_eq hQ (show 4607182418800017408 ≤ inf from ho)).trans (decide_eq_decide.2 f2)
  have o4 : (FloatKind.f64.format.order (Q a b) 0 == some .eq) = decide (a = 0) := by rw [ord_eq hQ (by decide)]; exact decide_eq_decide.2 f3
  rw [o4] at o1
  rw [o3] at o2
  have o5 : (FloatKind.f64.format.order s 4607182409792818153 == some .gt) = true := by rw [ord_gt g2 (by decide)]; exact decide_eq_true g3
  have o6 : (FloatKind.f64.format.order s 4607182423303617035 == some .lt) = true := by rw [ord_lt g2 (by decide)]; exact decide_eq_true g4
  have i1 : ((a : Int) == (b : Int)) = decide (a = b) := by rw [Bool.eq_iff_iff]; simp; omega
  have i2 : ((a : Int) == 0) = decide (a = 0) := by rw [Bool.eq_iff_iff]; simp
  have hs : ∀ w, (binOp .add 25 (.float .f64 (Q a b)) (.float .f64 (Q (b - a) b))).run Try.prog w = .ok (.float .f64 s) w := fun w => run_float_arith w .add _ .f64 _ _ s g1
  rw [← hc] at hs
  have C1 := Lib.hid (rat_c a b (by omega) hb2 hb1 _ rfl)
  have C2 := Lib.hid (rat_c c b (by omega) hb2 hb1 _ rfl)
  clear f1 f2 f3 g1 g2 g3 g4 hQ ho hc ha hb
  generalize Q a b = x at *
  generalize Q c b = y at *
  generalize decide (a = b) = d1 at *
  generalize decide (a = 0) = d2 at *
  go_enter Try.func8, Try.ntmps8
  go_wp2_with fail
  refine (C1.out _).mono ?_; rintro e w1 ⟨rfl, h1⟩
  have B1 := Lib.hid (below_drew h1)
  clear h1
  go_wp2_with fail
  refine (C2.out _).mono ?_; rintro e w2 ⟨rfl, h2⟩
  have B2 := Lib.hid (below_more B1.out (below_drew h2))
  clear h2
  go_wp2_with fail
  refine (awake_any _).mono ?_; rintro e w3 ⟨rfl, h3⟩
  go_wp2_with fail
  go_ret
  exact ⟨rfl, below_more B2.out h3⟩

set_option maxRecDepth 100000 in
theorem lifted (os : Os) (started : os.Started) (H : Type) (enc : TypeId × Value → H) :
    ReturnsInHanded {} Try.checked os 8 .any (Rows.meanRatiosSpec.pre6 enc Try.prog Try.f8 Rows.meanRatiosRow.domain false) (Rows.meanRatiosSpec.post enc Try.prog Try.f8 false true false false) := by
  refine returnsInHanded_of_change (C := Try.checked) own started (by kernel_rfl) Try.func8
    (ChangeSpec.witness6 (enc := enc) (C := Try.checked) false ⟨#[], #[.int .i64 0, .int .i64 0], []⟩ 8 (by kernel_rfl) (by kernel_rfl) (by kernel_rfl) (by kernel_rfl)) ?_
  intro W base args ds gs before hval0 hW hcnd _
  have hval : ∀ (j : Nat) t v, Try.f8.params[j]? = some t → args[j]? = some v → Value.okWide Try.prog W .any base t v := hval0
  have hW' := hW
  have hlt := hW.lt
  obtain ⟨p, q, hA0, hV, hpq, hfz, hnd⟩ := hW
  have hA : DataW.TrodAll enc Try.prog W 0 (fun _ => true) true Try.f8.params.toList args.toList ds p := hA0
  rw [Try.params8] at hA hval
  obtain ⟨v0, vs0, d0, ds0, p0, q0, hargs, rfl, hp, h0, r0⟩ := trodAll_cons hA
  obtain ⟨v1, vs1, d1, ds1, p1, q1, rfl, rfl, rfl, h1, r1⟩ := trodAll_cons r0
  obtain ⟨rfl, rfl, rfl⟩ := trodAll_nil r1
  obtain rfl : args = #[v0, v1] := by cases args; simp_all
  obtain ⟨rfl, rfl⟩ := trodVars_none hV
  have hlt' : ∀ x ∈ before, x.block < W.heap.size := fun x hx => hlt x hx
  obtain ⟨a0, rfl, rfl, rfl, w0⟩ := open_int Try.underlying3 (hval 0 3 v0 rfl rfl) h0
  obtain ⟨a1, rfl, rfl, rfl, w1⟩ := open_int Try.underlying3 (hval 1 3 v1 rfl rfl) h1
  refine (walk a0 a1 W w0 w1).mono fun e W' ⟨he, hb⟩ => ?_
  subst he
  exact ⟨_, rfl, law_post rfl (by kernel_rfl) hW' (by rw [Try.params8]; intro t ht; simp only [List.mem_cons, List.not_mem_nil, or_false] at ht; (repeat' (first | (rcases ht with rfl | ht) | subst ht)) <;> exact ⟨by kernel_rfl, of_decide_eq_true (by kernel_rfl)⟩) rfl hb⟩

theorem over : Rows.meanRatiosRow.holds Try.pinned (OpenSpec.ofChange Rows.meanRatiosSpec) :=
  OpenClaim.holds_of_wide 8 Try.f8 rfl rfl rfl rfl rfl rfl rfl ⟨rfl, rfl, rfl, rfl, rfl⟩ rfl rfl rfl rfl rfl (by kernel_rfl) Try.func8 (by kernel_rfl)
    (of_decide_eq_true (by kernel_rfl)) (by unfold Func.isWrapper; first | (rw [if_pos (by decide +kernel)]; kernel_rfl) | (rw [if_neg (by decide +kernel)]; exact ⟨rfl, rfl⟩))
    (fun os started H enc _ => lifted os started H enc)

theorem proved : Rows.MeanRatiosSaid := over
end Go.Proofs.Ytaghncdeojdghaa.meanRatios
