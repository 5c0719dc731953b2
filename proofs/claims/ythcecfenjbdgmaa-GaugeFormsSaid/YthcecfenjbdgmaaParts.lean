/-
  A part of a whole, as a word: no more than one, and with the other part one but for a little. And how uint64 of an int, and its rest, are told.
-/
import Derived.Test.YthcecfenjbdgmaaAdd
namespace Go.Proofs.Ythcecfenjbdgmaa
set_option maxRecDepth 100000
open Go.Proofs.Ythcecfenjbdgmaa.D Go.ChangeShapes Go.WideShapes Go.ChangeAt Go.RowKit

def one : Nat := 4607182418800017408
def lo6 : Nat := 4607182409792818153
def hi6 : Nat := 4607182423303617035
theorem one_W : one = W 1 := by rw [W_one]; rfl
/-- the places of the parts that two bounds are told in -/
def g40 : Nat := 1034
theorem lp_g : 2 ^ lp = 2 ^ 40 * 2 ^ g40 := by rw [← Nat.pow_add]; congr 1
theorem val_one : val one = 2 ^ lp := by rw [one_W, val_W (by decide), Nat.one_mul]

/-- a part is between two neighbours of a grid -/
theorem part_grid {a b : Nat} (hab : a ≤ b) (hb : 1 ≤ b) (hb2 : b ≤ 2 ^ 20) : a * 2 ^ 40 / b * 2 ^ g40 ≤ val (Q a b) ∧ val (Q a b) ≤ (a * 2 ^ 40 / b + 1) * 2 ^ g40 ∧ a * 2 ^ 40 / b ≤ 2 ^ 40 := by
  have hd := Nat.div_add_mod (a * 2 ^ 40) b
  have hm := Nat.mod_lt (a * 2 ^ 40) (show 0 < b by omega)
  have hle : a * 2 ^ 40 / b ≤ 2 ^ 40 := Nat.div_le_of_le_mul (Nat.mul_le_mul_right _ hab)
  have e : a * 2 ^ lp = a * 2 ^ 40 * 2 ^ g40 := by rw [lp_g, Nat.mul_assoc]
  generalize hf : a * 2 ^ 40 / b = f at *
  have v := val_rn (m := f) (c := g40) (by omega) (by decide)
  have v1 := val_rn (m := f + 1) (c := g40) (by omega) (by decide)
  refine ⟨?_, ?_, hle⟩
  · rw [← v]
    refine val_le.2 (Q_ge (by omega) hb (by omega) (rn_inf _ _) ?_)
    rw [v, e, Nat.mul_right_comm]
    have h : f * b ≤ a * 2 ^ 40 := by rw [Nat.mul_comm f b]; omega
    exact Nat.mul_le_mul_right _ h
  · rw [← v1]
    refine val_le.2 (Q_le (by omega) hb (by omega) ?_)
    rw [v1, e, Nat.mul_right_comm (f + 1) (2 ^ g40) b]
    have h : a * 2 ^ 40 ≤ (f + 1) * b := by rw [Nat.mul_comm (f + 1) b, Nat.mul_add, Nat.mul_one]; omega
    exact Nat.mul_le_mul_right _ h

def p21 : Nat := 1021
def p22 : Nat := 1022
theorem val_lo : val (lo6 + 1) = (2 ^ 52 + (lo6 + 1) % 2 ^ 52) * 2 ^ p21 := by
  have h1 : ¬ lo6 + 1 < 2 ^ 52 := by decide
  have h2 : (lo6 + 1) / 2 ^ 52 - 1 = p21 := by decide
  unfold val
  rw [if_neg h1, h2]
theorem val_hi6 : val (hi6 - 1) = (2 ^ 52 + (hi6 - 1) % 2 ^ 52) * 2 ^ p22 := by
  have h1 : ¬ hi6 - 1 < 2 ^ 52 := by decide
  have h2 : (hi6 - 1) / 2 ^ 52 - 1 = p22 := by decide
  unfold val
  rw [if_neg h1, h2]

theorem both {a b : Nat} (hab : a ≤ b) (hb : 1 ≤ b) (hb2 : b ≤ 2 ^ 20) : ∃ s, Ieee.double.add (Q a b) (Q (b - a) b) = some s ∧ s ≤ inf ∧ lo6 < s ∧ s < hi6 := by
  obtain ⟨s, h1, h2, h3, h4⟩ := add_small (Q_fin (a := a) (b := b) (by omega) hb (by omega)) (Q_fin (a := b - a) (b := b) (by omega) hb (by omega))
  refine ⟨s, h1, h2, ?_, ?_⟩
  · obtain ⟨x1, _, _⟩ := part_grid hab hb hb2
    obtain ⟨y1, _, _⟩ := part_grid (a := b - a) (b := b) (by omega) hb hb2
    refine h3 (lo6 + 1) (by decide) ?_
    refine Nat.le_trans ?_ (Nat.add_le_add x1 y1)
    rw [val_lo, ← Nat.add_mul]
    have e : 2 ^ g40 = 2 ^ 13 * 2 ^ p21 := by rw [← Nat.pow_add]; congr 1
    rw [e, ← Nat.mul_assoc]
    refine Nat.mul_le_mul_right _ ?_
    have hd1 := Nat.div_add_mod (a * 2 ^ 40) b
    have hm1 := Nat.mod_lt (a * 2 ^ 40) (show 0 < b by omega)
    have hd2 := Nat.div_add_mod ((b - a) * 2 ^ 40) b
    have hm2 := Nat.mod_lt ((b - a) * 2 ^ 40) (show 0 < b by omega)
    have hs : 2 ^ 40 - 1 ≤ a * 2 ^ 40 / b + (b - a) * 2 ^ 40 / b := by
      refine Nat.le_of_not_lt fun g => ?_
      have g2 : a * 2 ^ 40 / b + (b - a) * 2 ^ 40 / b + 2 ≤ 2 ^ 40 := by omega
      have g3 := Nat.mul_le_mul_left b g2
      rw [Nat.mul_add, Nat.mul_add] at g3
      omega
    have e2 : 2 ^ 52 + (lo6 + 1) % 2 ^ 52 ≤ (2 ^ 40 - 1) * 2 ^ 13 := by decide
    exact Nat.le_trans e2 (Nat.mul_le_mul_right _ hs)
  · obtain ⟨_, x1, _⟩ := part_grid hab hb hb2
    obtain ⟨_, y1, _⟩ := part_grid (a := b - a) (b := b) (by omega) hb hb2
    have : s ≤ hi6 - 1 := by
      refine h4 (hi6 - 1) ?_
      refine Nat.le_trans (Nat.add_le_add x1 y1) ?_
      rw [val_hi6, ← Nat.add_mul]
      have e : 2 ^ g40 = 2 ^ 12 * 2 ^ p22 := by rw [← Nat.pow_add]; congr 1
      rw [e, ← Nat.mul_assoc]
      refine Nat.mul_le_mul_right _ ?_
      have hd1 := Nat.div_add_mod (a * 2 ^ 40) b
      have hd2 := Nat.div_add_mod ((b - a) * 2 ^ 40) b
      have hs : a * 2 ^ 40 / b + 1 + ((b - a) * 2 ^ 40 / b + 1) ≤ 2 ^ 40 + 2 := by
        refine Nat.le_of_not_lt fun g => ?_
        have g2 : 2 ^ 40 + 1 ≤ a * 2 ^ 40 / b + (b - a) * 2 ^ 40 / b := by omega
        have g3 := Nat.mul_le_mul_left b g2
        rw [Nat.mul_add, Nat.mul_add] at g3
        omega
      have e2 : (2 ^ 40 + 2) * 2 ^ 12 ≤ 2 ^ 52 + (hi6 - 1) % 2 ^ 52 := by decide
      exact Nat.le_trans (Nat.mul_le_mul_right _ hs) e2
    have : 0 < hi6 := by decide
    omega

theorem part_one {a b : Nat} (hab : a ≤ b) (hb : 1 ≤ b) (hb2 : b ≤ 2 ^ 20) : Q a b ≤ one ∧ (Q a b = one ↔ a = b) ∧ (Q a b = 0 ↔ a = 0) := by
  have h1 : Q a b ≤ W 1 := Q_le_nat (by omega) hb (by omega) (by decide) (by omega)
  rw [← one_W] at h1
  refine ⟨h1, ⟨fun h => ?_, fun h => ?_⟩, ⟨fun h => ?_, fun h => by rw [h, Q_zero]⟩⟩
  · refine Nat.le_antisymm hab (Nat.le_of_not_lt fun g => ?_)
    obtain ⟨_, _, _⟩ := part_grid hab hb hb2
    -- below one by more than a place of the grid
    have hg : Q a b ≤ one - 1 := by
      refine Q_le (by omega) hb (by omega) ?_
      have hv : (2 ^ 40 - 2 ^ 10) * 2 ^ g40 ≤ val (one - 1) := by
        have v := val_rn (m := 2 ^ 40 - 2 ^ 10) (c := g40) (by decide) (by decide)
        rw [← v]
        refine val_le.2 ?_
        have : rn (2 ^ 40 - 2 ^ 10) g40 < one := by
          refine Nat.lt_of_not_le fun k => ?_
          have := val_le.2 k
          rw [v, val_one, lp_g] at this
          have := Nat.le_of_mul_le_mul_right this (Nat.two_pow_pos g40)
          omega
        omega
      refine Nat.le_trans ?_ (Nat.mul_le_mul_right _ hv)
      rw [lp_g, ← Nat.mul_assoc, Nat.mul_right_comm _ (2 ^ g40) b]
      refine Nat.mul_le_mul_right _ ?_
      omega
    rw [h] at hg
    have : 0 < one := by decide
    omega
  · subst h
    refine Nat.le_antisymm h1 ?_
    rw [one_W]
    exact Q_ge_nat (by omega) hb (by omega) (by decide) (by omega)
  · refine Nat.eq_zero_of_not_pos fun g => ?_
    have := Q_pos g (by omega) hb (by omega : b ≤ 2 ^ 60)
    omega

theorem rat_c (a b : Nat) (ha : a ≤ 1000000) (hb : b ≤ 1000000) (h1 : 1 ≤ b) (x : Nat) (hx : Q a b = x) (w : World) :
    Calls Try.prog 26 #[.int .i64 (a : Int), .int .i64 (b : Int)] w fun e w' => e = .returned (.float .f64 x) ∧ ∃ n, w' = w.drewN n := by
  have := mrat_any (a : Int) (b : Int) w
  rwa [hn_small ha, hn_small hb, show ratV a b = x by unfold ratV; rw [if_neg (by omega), hx]] at this

/-- package mean over a slice that reads as l, told by a value that is known -/
theorem of_is {l : List Int} {x : Nat} (hx : ofV (held l) = x) (hm : l.length ≤ maxLen) (v : Value) (w : World) (h : RIm w v l) :
    Calls Try.prog 47 #[v] w fun e w' => e = .returned (.float .f64 x) ∧ ∃ n, w' = w.drewN n := by rw [← hx]; exact mof_any v l w h hm
theorem un_is {l : List Int} {x : Nat} (hx : unV (held l) = x) (hm : l.length ≤ maxLen) (v : Value) (w : World) (h : RIm w v l) :
    Calls Try.prog 36 #[v] w fun e w' => e = .returned (.float .f64 x) ∧ ∃ n, w' = w.drewN n := by rw [← hx]; exact mun_any v l w h hm
theorem rat_is {a b : Int} {x : Nat} (hx : ratV (hn a) (hn b) = x) (w : World) :
    Calls Try.prog 26 #[.int .i64 a, .int .i64 b] w fun e w' => e = .returned (.float .f64 x) ∧ ∃ n, w' = w.drewN n := by rw [← hx]; exact mrat_any a b w
theorem ri_next {w w' : World} {v : Value} {l : List Int} (h : RIm w v l) (h2 : ∃ n, w' = w.drewN n) : RIm w' v l := by
  obtain ⟨n, rfl⟩ := h2; exact ri_drew h n
theorem below_next {w w1 w2 : World} (h : Below w.heap.size w w1) (h2 : ∃ n, w2 = w1.drewN n) : Below w.heap.size w w2 := below_more h (below_drew h2)

theorem rim_in {w : World} {v : Value} {l : List Int} (h : IntsIn .i64 w v l) : RIm w v l := by
  obtain ⟨p, cap, rfl, _, _, _, ⟨h, _⟩ | ⟨b, off, rfl, _, hc⟩⟩ := h
  · exact ⟨p, cap, rfl, .inl h⟩
  · exact ⟨_, cap, rfl, .inr ⟨b, off, rfl, hc⟩⟩
theorem in_len {w : World} {v : Value} {l : List Int} (h : IntsIn .i64 w v l) : l.length ≤ maxLen := by
  obtain ⟨p, cap, _, h1, h2, _⟩ := h; exact Nat.le_trans h1 h2

end Go.Proofs.Ythcecfenjbdgmaa
