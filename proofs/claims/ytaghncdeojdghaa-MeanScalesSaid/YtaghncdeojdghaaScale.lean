/-
  Words of numbers twice as large, four times as large: whole numbers, quotients, products. Plain mathematics.
-/
import Derived.Test.YtaghncdeojdghaaAdd
namespace Go.Proofs.Ytaghncdeojdghaa.D
open Ieee

theorem mid_ge {a : Nat} (h : mid a) : 2 ^ 52 ≤ a := by unfold mid at h; omega
theorem W_up {n k : Nat} (h : 1 ≤ n) (h2 : n * 2 ^ k ≤ 2 ^ 53) : W (n * 2 ^ k) = W n + k * 2 ^ 52 := by
  have h3 : n ≤ 2 ^ 53 := Nat.le_trans (Nat.le_mul_of_pos_right _ (Nat.two_pow_pos k)) h2
  apply val_inj
  rw [val_up (mid_ge (W_mid' h (by omega))), val_W h2, val_W h3, Nat.mul_right_comm]
theorem rn_upk {m c : Nat} (h : m ≠ 0) (hc : 52 ≤ c + m.log2) (k : Nat) (hi : rn m c + k * 2 ^ 52 ≤ inf) : rn m (c + k) = rn m c + k * 2 ^ 52 := by
  induction k with
  | zero => simp
  | succ k ih =>
    have hs : (k + 1) * 2 ^ 52 = k * 2 ^ 52 + 2 ^ 52 := Nat.succ_mul ..
    rw [hs, ← Nat.add_assoc (rn m c)] at hi
    rw [hs, ← Nat.add_assoc (rn m c), ← Nat.add_assoc c]
    have e := ih (Nat.le_trans (Nat.le_add_right _ _) hi)
    rw [← e] at hi ⊢
    exact rn_up h (by omega) hi
theorem qr_up {a b : Nat} (ha : mid a) (hb : mid b) (k : Nat) (hi : qr a b + k * 2 ^ 52 ≤ inf) : qr (a + k * 2 ^ 52) b = qr a b + k * 2 ^ 52 := by
  have e1 : qm (a + k * 2 ^ 52) b = qm a b := by
    unfold qm
    rw [show (a + k * 2 ^ 52) % 2 ^ 52 = a % 2 ^ 52 by omega]
  have e2 : qc (a + k * 2 ^ 52) b = qc a b + k := by
    unfold mid at ha hb
    unfold qc; omega
  unfold qr at *
  rw [e1, e2]
  have hb := qm_big a b
  have hl : 54 ≤ (qm a b).log2 := (Nat.le_log2 (by omega)).2 hb
  exact rn_upk (by omega) (by omega) k hi
theorem qr_both (a b k : Nat) (hb : b / 2 ^ 52 ≤ a / 2 ^ 52 + 1019) : qr (a + k * 2 ^ 52) (b + k * 2 ^ 52) = qr a b := by
  have e1 : qm (a + k * 2 ^ 52) (b + k * 2 ^ 52) = qm a b := by
    unfold qm
    rw [show (a + k * 2 ^ 52) % 2 ^ 52 = a % 2 ^ 52 by omega, show (b + k * 2 ^ 52) % 2 ^ 52 = b % 2 ^ 52 by omega]
  have e2 : qc (a + k * 2 ^ 52) (b + k * 2 ^ 52) = qc a b := by
    unfold qc; omega
  unfold qr
  rw [e1, e2]

/-- a power of two, as a word -/
def pw (k : Nat) : Nat := (1023 + k) * 2 ^ 52
theorem pw_mid {k : Nat} (h : k ≤ 52) : mid (pw k) := by unfold mid pw; omega
theorem mul_num (m n : Nat) (i j : Int) : Datum.product (.number false m i) (.number false n j) = some (.number false (m * n) (i + j)) := by
  simp only [Datum.product, Bool.xor_false]
theorem mul_pw {k x : Nat} (hk : k ≤ 52) (hx : mid x) : double.mul (pw k) x = some (x + k * 2 ^ 52) := by
  have hx' := hx
  unfold mid at hx'
  unfold Format.mul
  rw [read_mid (pw_mid hk), read_mid hx, mul_num, Option.map_some]
  unfold Format.write
  simp only
  have e2 : (-1074 : Int) + ((pw k / 2 ^ 52 - 1 : Nat) : Int) + ((-1074 : Int) + ((x / 2 ^ 52 - 1 : Nat) : Int)) = (-1074 : Int) + ((x / 2 ^ 52 - 1 + k - 52 : Nat) : Int) := by
    unfold pw; omega
  rw [e2, nearest_rn, word_false]
  congr 1
  refine rn_eq (by unfold inf; omega) ?_
  rw [val_up (by omega), val_mid hx]
  have e3 : pw k % 2 ^ 52 = 0 := by unfold pw; omega
  rw [e3, Nat.add_zero]
  have e4 : 2 ^ (x / 2 ^ 52 - 1) * 2 ^ k = 2 ^ 52 * 2 ^ (x / 2 ^ 52 - 1 + k - 52) := by
    rw [← Nat.pow_add, ← Nat.pow_add]; congr 1; omega
  rw [Nat.mul_assoc (2 ^ 52 + x % 2 ^ 52), e4]
  ac_rfl
theorem mul_pw_zero {k : Nat} (hk : k ≤ 52) : double.mul (pw k) 0 = some 0 := by
  unfold Format.mul
  rw [read_mid (pw_mid hk), read_zero, mul_num, Option.map_some]
  unfold Format.write
  simp only
  unfold Format.nearest
  rw [Nat.mul_zero, if_pos rfl, word_false]

/-- a quotient of whole numbers, the upper one 2^k times as large -/
theorem Q_up {a b k : Nat} (ha : a * 2 ^ k ≤ 2 ^ 53) (hk : k ≤ 52) (hb : 1 ≤ b) (hb2 : b ≤ 2 ^ 20) : double.mul (pw k) (Q a b) = some (Q (a * 2 ^ k) b) := by
  by_cases h : a = 0
  · subst h
    rw [Nat.zero_mul, Q_zero]; exact mul_pw_zero hk
  · have ha2 : a ≤ 2 ^ 53 := Nat.le_trans (Nat.le_mul_of_pos_right _ (Nat.two_pow_pos k)) ha
    have hm := Q_mid (a := a) (b := b) (by omega) ha2 hb hb2
    rw [mul_pw hk hm]
    have h2 : a * 2 ^ k ≠ 0 := Nat.mul_ne_zero h (Nat.ne_of_gt (Nat.two_pow_pos k))
    unfold Q at *
    rw [if_neg h] at *
    rw [if_neg h2, W_up (by omega) ha]
    congr 1
    symm
    refine qr_up (W_mid' (by omega) (by omega)) (W_mid' hb (by omega)) k ?_
    unfold mid at hm; unfold inf; omega

/-- the greatest by the mean, both twice as large -/
theorem quo_both {t s n : Nat} (ht : 1 ≤ t) (ht2 : t * 2 ≤ 2 ^ 53) (hs : 1 ≤ s) (hs2 : s * 2 ≤ 2 ^ 53) (hb : 1 ≤ n) (hb2 : n ≤ 2 ^ 20) :
    qr (W (t * 2)) (Q (s * 2) n) = qr (W t) (Q s n) := by
  have hm := Q_mid (a := s) (b := n) hs (by omega) hb hb2
  have h := Q_up (a := s) (b := n) (k := 1) (by omega) (by decide) hb hb2
  rw [mul_pw (by decide) hm] at h
  have e1 : Q (s * 2) n = Q s n + 1 * 2 ^ 52 := (Option.some.inj h).symm
  have e2 : W (t * 2) = W t + 1 * 2 ^ 52 := W_up (k := 1) ht ht2
  rw [e1, e2]
  refine qr_both _ _ 1 ?_
  have := (W_mid ht (by omega)).1
  unfold mid at hm
  omega

/-- counts twice as large -/
def dbl (m : List Nat) : List Nat := m.map fun x => x * 2
theorem dbl_length (m : List Nat) : (dbl m).length = m.length := by simp [dbl]
theorem S_dbl (m : List Nat) : S (dbl m) = S m * 2 := by
  induction m with
  | nil => rfl
  | cons x m ih =>
    have e : dbl (x :: m) = x * 2 :: dbl m := rfl
    rw [e, S_cons, S_cons, ih]; omega
theorem Sq_dbl (m : List Nat) : Sq (dbl m) = Sq m * 4 := by
  induction m with
  | nil => rfl
  | cons x m ih =>
    have e : dbl (x :: m) = x * 2 :: dbl m := rfl
    have e2 : x * 2 * (x * 2) = x * x * 4 := by
      rw [Nat.mul_assoc, Nat.mul_comm 2 (x * 2), Nat.mul_assoc x 2 2, ← Nat.mul_assoc]
    rw [e, Sq_cons, Sq_cons, ih, e2]; omega
theorem spr_dbl (m : List Nat) : spr (dbl m) = spr m * 2 ^ 2 := by
  have e : S m * 2 * (S m * 2) = S m * S m * 4 := by
    rw [Nat.mul_assoc, Nat.mul_comm 2 (S m * 2), Nat.mul_assoc (S m) 2 2, ← Nat.mul_assoc]
  unfold spr
  rw [dbl_length, S_dbl, Sq_dbl, e, ← Nat.mul_assoc]
  generalize m.length * Sq m = x
  omega
theorem top_dbl (m : List Nat) : top (dbl m) = top m * 2 := by
  apply Nat.le_antisymm
  · refine top_le fun x hx => ?_
    obtain ⟨y, hy, rfl⟩ := List.mem_map.1 hx
    exact Nat.mul_le_mul_right _ (top_ge hy)
  · rcases (foldl_max m 0).2.2 with g | g
    · have : top m = 0 := g
      omega
    · exact top_ge (List.mem_map.2 ⟨_, g, rfl⟩)

theorem of_dbl {m : List Nat} (h : ∀ x ∈ m, x ≤ 1000000) (h0 : 0 < m.length) (hl : m.length ≤ 200) : double.mul (pw 1) (ofV m) = some (ofV (dbl m)) := by
  unfold ofV
  rw [dbl_length, if_neg (by omega), if_neg (by omega), S_dbl]
  have := S_bound h (by omega)
  exact Q_up (k := 1) (by omega) (by decide) h0 (by omega)
theorem var_dbl {m : List Nat} (h : ∀ x ∈ m, x ≤ 400000) (h0 : 0 < m.length) (hl : m.length ≤ 100) : double.mul (pw 2) (varV m) = some (varV (dbl m)) := by
  unfold varV
  rw [dbl_length, if_neg (by omega), if_neg (by omega), spr_dbl]
  have h1 := Sq_le h
  have h2 : m.length * (400000 * 400000) ≤ 100 * (400000 * 400000) := Nat.mul_le_mul_right _ hl
  have h3 : m.length * Sq m ≤ 100 * (100 * (400000 * 400000)) := Nat.mul_le_mul hl (Nat.le_trans h1 h2)
  have h4 : m.length * m.length ≤ 100 * 100 := Nat.mul_le_mul hl hl
  refine Q_up (k := 2) ?_ (by decide) (Nat.mul_pos h0 h0) (by omega)
  unfold spr; omega
theorem un_dbl {m : List Nat} (h : ∀ x ∈ m, x ≤ 1000000) : unV (dbl m) = unV m := by
  unfold unV
  rw [dbl_length, S_dbl, top_dbl]
  by_cases g : m.length = 0 ∨ 200 < m.length ∨ S m = 0
  · rw [if_pos g, if_pos (by omega)]
  · rw [if_neg g, if_neg (by omega)]
    have h1 := S_bound h (by omega)
    have h2 := top_bound h
    exact quo_both (top_pos (by omega)) (by omega) (by omega) (by omega) (by omega) (by omega)
/-- uneven or no number -/
theorem un_kinds (m : List Nat) : unV m = nanW ∨ unV m ≤ inf := by
  unfold unV
  split
  · exact .inl rfl
  · exact .inr (rn_inf _ _)
end Go.Proofs.Ytaghncdeojdghaa.D
