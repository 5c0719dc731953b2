/-
  Words of whole numbers and of their quotients; counts, their sum, their squares' sum, the greatest, and how far they spread. Plain mathematics.
-/
import Derived.Test.YthcecfenjbdgmaaRound
namespace Go.Proofs.Ythcecfenjbdgmaa.D
set_option maxRecDepth 100000
open Ieee

/-- the word nearest to a whole number -/
def W (n : Nat) : Nat := rn n lp
theorem nearest_W (n : Nat) : double.nearest false n 0 = W n := by
  have e : (0 : Int) = (-1074 : Int) + (lp : Int) := by rw [lp_eq]; rfl
  rw [e, nearest_rn, word_false]; rfl
theorem W_zero : W 0 = 0 := rn_zero _
theorem W_inf (n : Nat) : W n ≤ inf := rn_inf _ _
theorem val_W {n : Nat} (h : n ≤ 2 ^ 53) : val (W n) = n * 2 ^ lp := by
  obtain ⟨r, h1, h2, h3⟩ := nearest_nat false n h
  rw [nearest_W, word_false] at h1
  rw [h1]; exact h3
theorem W_mono {m n : Nat} (h : m ≤ n) (hm : m ≤ 2 ^ 53) : W m ≤ W n :=
  rn_ge (W_inf m) (by rw [val_W hm]; exact Nat.mul_le_mul_right _ h)
theorem W_strict {m n : Nat} (h : m < n) (hn : n ≤ 2 ^ 53) : W m < W n := by
  refine Nat.lt_of_not_le fun g => ?_
  have := val_le.2 g
  rw [val_W hn, val_W (by omega)] at this
  have := Nat.le_of_mul_le_mul_right this (Nat.two_pow_pos lp)
  omega

theorem val_bin (e : Nat) : val ((e + 1) * 2 ^ 52) = 2 ^ (52 + e) := by
  have : (e + 1) * 2 ^ 52 = e * 2 ^ 52 + 2 ^ 52 := by omega
  rw [this, val_step (.inl (Nat.le_refl _)) (by decide), ← Nat.pow_add]

theorem W_mid {n : Nat} (h : 1 ≤ n) (h2 : n ≤ 2 ^ 60) : 1023 * 2 ^ 52 ≤ W n ∧ W n ≤ 1083 * 2 ^ 52 := by
  have hl := lp_eq
  constructor
  · refine rn_ge (by unfold inf; omega) ?_
    rw [show 1023 * 2 ^ 52 = (1022 + 1) * 2 ^ 52 from rfl, val_bin, show 52 + 1022 = lp from rfl]
    exact Nat.le_mul_of_pos_left _ h
  · refine rn_le ?_
    rw [show 1083 * 2 ^ 52 = (1082 + 1) * 2 ^ 52 from rfl, val_bin, show 52 + 1082 = 60 + lp from rfl, Nat.pow_add]
    exact Nat.mul_le_mul_right _ h2
theorem W_mid' {n : Nat} (h : 1 ≤ n) (h2 : n ≤ 2 ^ 60) : mid (W n) := by
  have := W_mid h h2
  unfold mid; omega
theorem W_one : W 1 = 1023 * 2 ^ 52 := by
  refine rn_eq (by unfold inf; omega) ?_
  rw [show 1023 * 2 ^ 52 = (1022 + 1) * 2 ^ 52 from rfl, val_bin, show 52 + 1022 = lp from rfl, Nat.one_mul]
theorem mid_lt {a : Nat} (h : mid a) : a < inf := by unfold mid at h; unfold inf; omega
theorem mid_pos {a : Nat} (h : mid a) : 0 < a := by unfold mid at h; omega

/-- some places, behind names: their powers are never to be worked out -/
def eLo : Nat := 599
def eHi : Nat := 1499
def eTop : Nat := 1999
def eMid : Nat := 1002
theorem mid_val {a : Nat} (h : mid a) : 2 ^ (52 + eLo) ≤ val a ∧ val a ≤ 2 ^ (52 + eHi) := by
  unfold mid at h
  constructor
  · rw [← val_bin]; exact val_le.2 (by unfold eLo; omega)
  · rw [← val_bin]; exact val_le.2 (by unfold eHi; omega)

theorem qr_fin {a b : Nat} (ha : mid a) (hb : mid b) : qr a b < inf := by
  have hs : qr a b ≤ (eTop + 1) * 2 ^ 52 := by
    refine qr_le ha hb ?_
    rw [val_bin]
    have h1 := (mid_val ha).2
    have h2 := (mid_val hb).1
    calc val a * 2 ^ lp ≤ 2 ^ (52 + eHi) * 2 ^ lp := Nat.mul_le_mul_right _ h1
      _ = 2 ^ (52 + eHi + lp) := by rw [← Nat.pow_add]
      _ ≤ 2 ^ (52 + eTop + (52 + eLo)) := Nat.pow_le_pow_right (by decide) (by unfold eHi eTop eLo lp; omega)
      _ = 2 ^ (52 + eTop) * 2 ^ (52 + eLo) := Nat.pow_add ..
      _ ≤ _ := Nat.mul_le_mul_left _ h2
  unfold inf; unfold eTop at hs; omega
theorem qr_pos {a b : Nat} (ha : mid a) (hb : mid b) : 0 < qr a b := by
  refine qr_ge (s := 1) ha hb (by decide) ?_
  have h1 := (mid_val ha).1
  have h2 := (mid_val hb).2
  have e : val 1 = 1 := by decide
  rw [e, Nat.one_mul]
  calc val b ≤ 2 ^ (52 + eHi) := h2
    _ ≤ 2 ^ (52 + eLo + lp) := Nat.pow_le_pow_right (by decide) (by unfold eHi eLo lp; omega)
    _ = 2 ^ (52 + eLo) * 2 ^ lp := Nat.pow_add ..
    _ ≤ _ := Nat.mul_le_mul_right _ h1

/-- the word of a whole number by another, which is not nought -/
def Q (a b : Nat) : Nat := if a = 0 then 0 else qr (W a) (W b)

theorem read_zero : double.read 0 = .number false 0 (-1074) := by decide
theorem quot_zero (n : Nat) (i j : Int) (h0 : n ≠ 0) : ∃ p, Datum.quotient 54 (.number false 0 i) (.number false n j) = some (.number false 0 p) := by
  simp only [Datum.quotient]
  rw [if_neg h0]
  simp only [Nat.shiftLeft_eq, Nat.zero_mul, Nat.zero_div, Nat.zero_mod, Bool.xor_false]
  exact ⟨_, rfl⟩
theorem div_zero {b : Nat} (hb : mid b) : double.div 0 b = some 0 := by
  have e0 : double.fractionBits + 2 = 54 := rfl
  obtain ⟨p, hp⟩ := quot_zero (2 ^ 52 + b % 2 ^ 52) (-1074) ((-1074 : Int) + ((b / 2 ^ 52 - 1 : Nat) : Int)) (by omega)
  unfold Format.div
  rw [read_zero, read_mid hb, e0, hp, Option.map_some]
  unfold Format.write
  simp only
  unfold Format.nearest
  rw [if_pos rfl, word_false]
theorem div_Q {a b : Nat} (ha : a ≤ 2 ^ 60) (hb : 1 ≤ b) (hb2 : b ≤ 2 ^ 60) : double.div (W a) (W b) = some (Q a b) := by
  unfold Q
  by_cases h : a = 0
  · subst h; rw [if_pos rfl, W_zero]; exact div_zero (W_mid' hb hb2)
  · rw [if_neg h]; exact div_mid (W_mid' (by omega) ha) (W_mid' hb hb2)
theorem Q_fin {a b : Nat} (ha : a ≤ 2 ^ 60) (hb : 1 ≤ b) (hb2 : b ≤ 2 ^ 60) : Q a b < inf := by
  unfold Q
  split
  · decide
  · exact qr_fin (W_mid' (by omega) ha) (W_mid' hb hb2)
theorem Q_pos {a b : Nat} (h : 1 ≤ a) (ha : a ≤ 2 ^ 60) (hb : 1 ≤ b) (hb2 : b ≤ 2 ^ 60) : 0 < Q a b := by
  unfold Q
  rw [if_neg (by omega)]
  exact qr_pos (W_mid' h ha) (W_mid' hb hb2)
theorem Q_zero (b : Nat) : Q 0 b = 0 := by unfold Q; rw [if_pos rfl]

/-- a number that can be written against a quotient of whole numbers up to 2^53 -/
theorem Q_ge {a b s : Nat} (ha : a ≤ 2 ^ 53) (hb : 1 ≤ b) (hb2 : b ≤ 2 ^ 53) (hs : s ≤ inf) (h : val s * b ≤ a * 2 ^ lp) : s ≤ Q a b := by
  unfold Q
  by_cases h0 : a = 0
  · rw [if_pos h0]
    subst h0
    rw [Nat.zero_mul] at h
    have : val s = 0 := by
      rcases Nat.eq_zero_or_pos (val s) with g | g
      · exact g
      · have := Nat.mul_pos g hb; omega
    have : val s ≤ val 0 := by rw [this]; exact Nat.zero_le _
    exact val_le.1 this
  · rw [if_neg h0]
    refine qr_ge (W_mid' (by omega) (by omega)) (W_mid' hb (by omega)) hs ?_
    rw [val_W ha, val_W hb2, ← Nat.mul_assoc]
    exact Nat.mul_le_mul_right _ h
theorem Q_le {a b s : Nat} (ha : a ≤ 2 ^ 53) (hb : 1 ≤ b) (hb2 : b ≤ 2 ^ 53) (h : a * 2 ^ lp ≤ val s * b) : Q a b ≤ s := by
  unfold Q
  by_cases h0 : a = 0
  · rw [if_pos h0]; exact Nat.zero_le _
  · rw [if_neg h0]
    refine qr_le (W_mid' (by omega) (by omega)) (W_mid' hb (by omega)) ?_
    rw [val_W ha, val_W hb2, ← Nat.mul_assoc]
    exact Nat.mul_le_mul_right _ h
theorem Q_ge_nat {a b k : Nat} (ha : a ≤ 2 ^ 53) (hb : 1 ≤ b) (hb2 : b ≤ 2 ^ 53) (hk : k ≤ 2 ^ 53) (h : k * b ≤ a) : W k ≤ Q a b := by
  refine Q_ge ha hb hb2 (W_inf k) ?_
  rw [val_W hk, Nat.mul_right_comm]
  exact Nat.mul_le_mul_right _ h
theorem Q_le_nat {a b k : Nat} (ha : a ≤ 2 ^ 53) (hb : 1 ≤ b) (hb2 : b ≤ 2 ^ 53) (hk : k ≤ 2 ^ 53) (h : a ≤ k * b) : Q a b ≤ W k := by
  refine Q_le ha hb hb2 ?_
  rw [val_W hk, Nat.mul_right_comm]
  exact Nat.mul_le_mul_right _ h
theorem Q_mid {a b : Nat} (h : 1 ≤ a) (ha : a ≤ 2 ^ 53) (hb : 1 ≤ b) (hb2 : b ≤ 2 ^ 20) : mid (Q a b) := by
  have h1 : (eMid + 1) * 2 ^ 52 ≤ Q a b := by
    refine Q_ge ha hb (by omega) (by unfold inf eMid; omega) ?_
    rw [val_bin]
    calc 2 ^ (52 + eMid) * b ≤ 2 ^ (52 + eMid) * 2 ^ 20 := Nat.mul_le_mul_left _ hb2
      _ = 2 ^ (52 + eMid + 20) := by rw [← Nat.pow_add]
      _ = 2 ^ lp := by congr 1
      _ ≤ _ := Nat.le_mul_of_pos_left _ h
  have h2 : Q a b ≤ W a := Q_le_nat ha hb (by omega) ha (Nat.le_mul_of_pos_right _ hb)
  have h3 := (W_mid h (by omega)).2
  unfold mid; unfold eMid at h1; omega

/-- a word that is no number, and the greatest infinity -/
def nanW : Nat := 9221120237041090561
def infW : Nat := 9218868437227405312

/-- a count as it counts -/
def hn (n : Int) : Nat := (min (max n 0) 1000000).toNat
theorem hn_le (n : Int) : hn n ≤ 1000000 := by unfold hn; omega
theorem hn_cast (n : Int) : ((hn n : Nat) : Int) = min (max n 0) 1000000 := by unfold hn; omega
theorem hn_cast' (n : Int) : ((hn n : Nat) : Int) = max 0 (min n 1000000) := by unfold hn; omega
theorem hn_hn (n : Int) : hn ((hn n : Nat) : Int) = hn n := by unfold hn; omega
theorem hn_small {n : Nat} (h : n ≤ 1000000) : hn (n : Int) = n := by unfold hn; omega

def S (m : List Nat) : Nat := m.sum
def Sq (m : List Nat) : Nat := (m.map fun x => x * x).sum
def top (m : List Nat) : Nat := m.foldl max 0

theorem S_nil : S [] = 0 := rfl
theorem Sq_nil : Sq [] = 0 := rfl
theorem S_cons (x : Nat) (m : List Nat) : S (x :: m) = x + S m := by simp [S]
theorem Sq_cons (x : Nat) (m : List Nat) : Sq (x :: m) = x * x + Sq m := by simp [Sq]
theorem S_append (l m : List Nat) : S (l ++ m) = S l + S m := by simp [S]
theorem Sq_append (l m : List Nat) : Sq (l ++ m) = Sq l + Sq m := by simp [Sq]
theorem S_le {m : List Nat} {k : Nat} (h : ∀ x ∈ m, x ≤ k) : S m ≤ m.length * k := by
  induction m with
  | nil => simp [S]
  | cons x m ih =>
    rw [S_cons, List.length_cons, Nat.succ_mul]
    have := h x (List.mem_cons_self ..)
    have := ih fun y hy => h y (List.mem_cons_of_mem _ hy)
    omega
theorem S_ge {m : List Nat} {k : Nat} (h : ∀ x ∈ m, k ≤ x) : m.length * k ≤ S m := by
  induction m with
  | nil => simp
  | cons x m ih =>
    rw [S_cons, List.length_cons, Nat.succ_mul]
    have := h x (List.mem_cons_self ..)
    have := ih fun y hy => h y (List.mem_cons_of_mem _ hy)
    omega
theorem Sq_le {m : List Nat} {k : Nat} (h : ∀ x ∈ m, x ≤ k) : Sq m ≤ m.length * (k * k) := by
  induction m with
  | nil => simp [Sq]
  | cons x m ih =>
    rw [Sq_cons, List.length_cons, Nat.succ_mul]
    have h1 := h x (List.mem_cons_self ..)
    have := Nat.mul_le_mul h1 h1
    have := ih fun y hy => h y (List.mem_cons_of_mem _ hy)
    omega
theorem mem_S {m : List Nat} {x : Nat} (h : x ∈ m) : x ≤ S m := by
  induction m with
  | nil => cases h
  | cons y m ih =>
    rw [S_cons]
    rcases List.mem_cons.1 h with rfl | h
    · omega
    · have := ih h; omega

/-- how far the others are from one -/
def E (x : Nat) (m : List Nat) : Int := (m.map fun y : Nat => ((y : Int) - (x : Int)) * ((y : Int) - (x : Int))).sum
theorem sq_nonneg (x : Int) : 0 ≤ x * x := by
  rcases Int.le_total 0 x with h | h
  · exact Int.mul_nonneg h h
  · have := Int.mul_nonneg (show 0 ≤ -x by omega) (show 0 ≤ -x by omega)
    rwa [Int.neg_mul_neg] at this
theorem E_nonneg (x : Nat) (m : List Nat) : 0 ≤ E x m := by
  induction m with
  | nil => simp [E]
  | cons y m ih =>
    have := sq_nonneg ((y : Int) - (x : Int))
    simp only [E, List.map_cons, List.sum_cons] at ih ⊢
    omega
theorem E_zero {x : Nat} {m : List Nat} : E x m = 0 ↔ ∀ y ∈ m, y = x := by
  induction m with
  | nil => simp [E]
  | cons y m ih =>
    have h1 := sq_nonneg ((y : Int) - (x : Int))
    have h2 := E_nonneg x m
    have e : E x (y :: m) = ((y : Int) - (x : Int)) * ((y : Int) - (x : Int)) + E x m := by simp [E]
    rw [e]
    constructor
    · intro h z hz
      rcases List.mem_cons.1 hz with rfl | hz
      · have : ((z : Int) - (x : Int)) * ((z : Int) - (x : Int)) = 0 := by omega
        rcases Int.mul_eq_zero.1 this with g | g <;> omega
      · exact ih.1 (by omega) z hz
    · intro h
      have := h y (List.mem_cons_self ..)
      subst this
      rw [ih.2 fun z hz => h z (List.mem_cons_of_mem _ hz)]
      simp
theorem E_sums (x : Nat) (m : List Nat) : E x m = (Sq m : Int) - 2 * ((x : Int) * (S m : Int)) + (m.length : Int) * ((x : Int) * (x : Int)) := by
  induction m with
  | nil => simp [E, Sq, S]
  | cons y m ih =>
    have e : E x (y :: m) = ((y : Int) - (x : Int)) * ((y : Int) - (x : Int)) + E x m := by simp [E]
    rw [e, ih, Sq_cons, S_cons, List.length_cons]
    push_cast
    simp only [Int.sub_mul, Int.mul_sub, Int.mul_add, Int.add_mul, Int.one_mul, Int.mul_comm (y : Int) (x : Int)]
    omega
/-- n of them: n times the squares' sum, without the square of the sum -/
def spread (m : List Nat) : Int := (m.length : Int) * (Sq m : Int) - (S m : Int) * (S m : Int)
theorem spread_cons (x : Nat) (m : List Nat) : spread (x :: m) = spread m + E x m := by
  rw [E_sums]
  unfold spread
  rw [Sq_cons, S_cons, List.length_cons]
  push_cast
  simp only [Int.mul_add, Int.add_mul, Int.one_mul, Int.mul_comm (S m : Int) (x : Int)]
  omega
theorem spread_nonneg (m : List Nat) : 0 ≤ spread m := by
  induction m with
  | nil => simp [spread, S, Sq]
  | cons x m ih => rw [spread_cons]; have := E_nonneg x m; omega
theorem spread_zero {m : List Nat} : spread m = 0 ↔ ∀ x ∈ m, ∀ y ∈ m, x = y := by
  induction m with
  | nil => simp [spread, S, Sq]
  | cons x m ih =>
    have h1 := E_nonneg x m
    have h2 := spread_nonneg m
    rw [spread_cons]
    constructor
    · intro h
      have hE := E_zero.1 (show E x m = 0 by omega)
      have all : ∀ y ∈ x :: m, y = x := by
        intro y hy
        rcases List.mem_cons.1 hy with rfl | hy
        · rfl
        · exact hE y hy
      intro a ha b hb
      rw [all a ha, all b hb]
    · intro h
      have e1 : E x m = 0 := E_zero.2 fun y hy => h y (List.mem_cons_of_mem _ hy) x (List.mem_cons_self ..)
      have e2 : spread m = 0 := ih.2 fun a ha b hb => h a (List.mem_cons_of_mem _ ha) b (List.mem_cons_of_mem _ hb)
      omega
/-- the same as a whole number not below nought -/
def spr (m : List Nat) : Nat := m.length * Sq m - S m * S m
theorem spr_le (m : List Nat) : S m * S m ≤ m.length * Sq m := by
  have := spread_nonneg m
  unfold spread at this
  have h : ((S m * S m : Nat) : Int) ≤ ((m.length * Sq m : Nat) : Int) := by push_cast; omega
  exact_mod_cast h
theorem spr_cast (m : List Nat) : ((spr m : Nat) : Int) = spread m := by
  have := spr_le m
  unfold spr spread
  rw [← Int.natCast_mul, ← Int.natCast_mul]
  omega

/-- the greatest -/
theorem foldl_max (m : List Nat) (k : Nat) : k ≤ m.foldl max k ∧ (∀ x ∈ m, x ≤ m.foldl max k) ∧ (m.foldl max k = k ∨ m.foldl max k ∈ m) := by
  induction m generalizing k with
  | nil => exact ⟨Nat.le_refl _, by simp, .inl rfl⟩
  | cons x m ih =>
    obtain ⟨h1, h2, h3⟩ := ih (max k x)
    rw [List.foldl_cons]
    refine ⟨by omega, ?_, ?_⟩
    · intro y hy
      rcases List.mem_cons.1 hy with rfl | hy
      · omega
      · exact h2 y hy
    · rcases h3 with h | h
      · rcases Nat.le_total k x with g | g
        · right; rw [h, Nat.max_eq_right g]; exact List.mem_cons_self ..
        · left; rw [h, Nat.max_eq_left g]
      · exact .inr (List.mem_cons_of_mem _ h)
theorem top_ge {m : List Nat} {x : Nat} (h : x ∈ m) : x ≤ top m := (foldl_max m 0).2.1 x h
theorem top_le {m : List Nat} {k : Nat} (h : ∀ x ∈ m, x ≤ k) : top m ≤ k := by
  rcases (foldl_max m 0).2.2 with g | g
  · unfold top; omega
  · exact h _ g
theorem top_zero {m : List Nat} (h : S m = 0) : top m = 0 := by
  have : top m ≤ 0 := top_le fun x hx => by have := mem_S hx; omega
  omega
theorem top_pos {m : List Nat} (h : 0 < S m) : 0 < top m := by
  refine Nat.pos_of_ne_zero fun g => ?_
  have : S m ≤ m.length * 0 := S_le fun x hx => by have := top_ge hx; omega
  omega

/-- what package mean tells of counts m, as they count -/
def ofV (m : List Nat) : Nat := if m.length = 0 ∨ 200 < m.length then nanW else Q (S m) m.length
def varV (m : List Nat) : Nat := if m.length = 0 ∨ 200 < m.length then nanW else Q (spr m) (m.length * m.length)
def ratV (a b : Nat) : Nat := if b = 0 then (if a = 0 then nanW else infW) else Q a b
def unV (m : List Nat) : Nat := if m.length = 0 ∨ 200 < m.length ∨ S m = 0 then nanW else qr (W (top m)) (Q (S m) m.length)
/-- of what came in -/
def held (l : List Int) : List Nat := l.map hn
theorem held_length (l : List Int) : (held l).length = l.length := by simp [held]
theorem held_le (l : List Int) : ∀ x ∈ held l, x ≤ 1000000 := by
  intro x hx
  obtain ⟨n, _, rfl⟩ := List.mem_map.1 hx
  exact hn_le n
theorem S_bound {m : List Nat} (h : ∀ x ∈ m, x ≤ 1000000) (hl : m.length ≤ 300) : S m ≤ 300000000 := by
  have := S_le h
  have : m.length * 1000000 ≤ 300 * 1000000 := Nat.mul_le_mul_right _ hl
  omega
theorem Sq_bound {m : List Nat} (h : ∀ x ∈ m, x ≤ 1000000) (hl : m.length ≤ 300) : Sq m ≤ 300000000000000 := by
  have := Sq_le h
  have : m.length * (1000000 * 1000000) ≤ 300 * (1000000 * 1000000) := Nat.mul_le_mul_right _ hl
  omega
theorem spr_bound {m : List Nat} (h : ∀ x ∈ m, x ≤ 1000000) (hl : m.length ≤ 200) : spr m ≤ 2 ^ 60 := by
  have h1 := Sq_bound h (by omega)
  have : m.length * Sq m ≤ 200 * 300000000000000 := Nat.mul_le_mul hl h1
  unfold spr; omega
theorem len_sq {m : List Nat} (h0 : 0 < m.length) (hl : m.length ≤ 200) : 1 ≤ m.length * m.length ∧ m.length * m.length ≤ 40000 :=
  ⟨Nat.mul_pos h0 h0, Nat.mul_le_mul hl hl⟩
end Go.Proofs.Ythcecfenjbdgmaa.D
