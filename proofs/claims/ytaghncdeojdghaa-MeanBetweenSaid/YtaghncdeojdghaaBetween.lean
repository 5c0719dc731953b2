/-
  The mean is between the least and the greatest; the variance is nought just where all are the same; in whatever order. Plain mathematics, and what a slice of a slice holds.
-/
import Derived.Test.YtaghncdeojdghaaOwnI
namespace Go.Proofs.Ytaghncdeojdghaa
open D Go.RowKit

def least (m : List Nat) (j : Nat) : Nat := (m.take j).foldl min (m.getD 0 0)
def most (m : List Nat) (j : Nat) : Nat := (m.take j).foldl max (m.getD 0 0)
theorem takeN_snoc {l : List Nat} {k : Nat} (h : k < l.length) : l.take (k + 1) = l.take k ++ [l.getD k 0] := by
  rw [List.take_succ_eq_append_getElem h]; simp [h]
theorem least_step {m : List Nat} {j : Nat} (h : j < m.length) : least m (j + 1) = min (least m j) (m.getD j 0) := by
  unfold least; rw [takeN_snoc h, List.foldl_append]; rfl
theorem most_step {m : List Nat} {j : Nat} (h : j < m.length) : most m (j + 1) = max (most m j) (m.getD j 0) := by
  unfold most; rw [takeN_snoc h, List.foldl_append]; rfl
theorem foldl_min (m : List Nat) (k : Nat) : m.foldl min k ≤ k ∧ (∀ x ∈ m, m.foldl min k ≤ x) ∧ (m.foldl min k = k ∨ m.foldl min k ∈ m) := by
  induction m generalizing k with
  | nil => exact ⟨Nat.le_refl _, by simp, .inl rfl⟩
  | cons x m ih =>
    obtain ⟨h1, h2, h3⟩ := ih (min k x)
    rw [List.foldl_cons]
    refine ⟨by omega, ?_, ?_⟩
    · intro y hy
      rcases List.mem_cons.1 hy with rfl | hy
      · omega
      · exact h2 y hy
    · rcases h3 with h | h
      · rcases Nat.le_total k x with g | g
        · left; rw [h, Nat.min_eq_left g]
        · right; rw [h, Nat.min_eq_right g]; exact List.mem_cons_self ..
      · exact .inr (List.mem_cons_of_mem _ h)
theorem first_mem {m : List Nat} (h : 0 < m.length) : m.getD 0 0 ∈ m := by
  simp [h]
theorem least_is {m : List Nat} (h : 0 < m.length) : least m m.length ∈ m ∧ ∀ x ∈ m, least m m.length ≤ x := by
  unfold least
  rw [List.take_length]
  obtain ⟨_, h2, h3⟩ := foldl_min m (m.getD 0 0)
  refine ⟨?_, h2⟩
  rcases h3 with g | g
  · rw [g]; exact first_mem h
  · exact g
theorem most_is {m : List Nat} (h : 0 < m.length) : most m m.length ∈ m ∧ ∀ x ∈ m, x ≤ most m m.length := by
  unfold most
  rw [List.take_length]
  obtain ⟨_, h2, h3⟩ := foldl_max m (m.getD 0 0)
  refine ⟨?_, h2⟩
  rcases h3 with g | g
  · rw [g]; exact first_mem h
  · exact g

structure Betw (m : List Nat) (a b x v : Nat) : Prop where
  lo : (FloatKind.f64.format.order x (W a) == some .gt || FloatKind.f64.format.order x (W a) == some .eq) = true
  hi : (FloatKind.f64.format.order x (W b) == some .lt || FloatKind.f64.format.order x (W b) == some .eq) = true
  v0 : (FloatKind.f64.format.order v 0 == some .gt || decide (a = b)) = true
  v1 : (FloatKind.f64.format.order v 0 == some .eq) = decide (a = b)
  xx : (FloatKind.f64.format.order x x == some .eq) = true
  vv : (FloatKind.f64.format.order v v == some .eq) = true
  un : 0 < b → (FloatKind.f64.format.order (unV m) 4607182418800017408 == some .gt || FloatKind.f64.format.order (unV m) 4607182418800017408 == some .eq) = true

theorem betw {m : List Nat} {a b : Nat} (h0 : 0 < m.length) (hl : m.length ≤ 200) (h6 : ∀ x ∈ m, x ≤ 1000000) (ha : a ∈ m) (ha2 : ∀ x ∈ m, a ≤ x) (hb : b ∈ m) (hb2 : ∀ x ∈ m, x ≤ b) : Betw m a b (ofV m) (varV m) := by
  have ex : ofV m = Q (S m) m.length := by unfold ofV; rw [if_neg (by omega)]
  have ev : varV m = Q (spr m) (m.length * m.length) := by unfold varV; rw [if_neg (by omega)]
  have hS := S_bound h6 (by omega)
  have hsp := spr_bound h6 hl
  have hb6 := h6 b hb
  have ha6 := h6 a ha
  have hx : ofV m ≤ inf := by rw [ex]; exact Nat.le_of_lt (Q_fin (by omega) h0 (by omega))
  have hv : varV m ≤ inf := by rw [ev]; exact Nat.le_of_lt (Q_fin hsp (len_sq h0 hl).1 (by have := (len_sq h0 hl).2; omega))
  have k1 : W a ≤ ofV m := by
    rw [ex]; exact Q_ge_nat (by omega) h0 (by omega) (by omega) (by have := S_ge ha2; rw [Nat.mul_comm]; exact this)
  have k2 : ofV m ≤ W b := by
    rw [ex]; exact Q_le_nat (by omega) h0 (by omega) (by omega) (by have := S_le hb2; rw [Nat.mul_comm]; exact this)
  have k3 : varV m = 0 ↔ a = b := by
    have z : spr m = 0 ↔ a = b := by
      have c := spr_cast m
      constructor
      · intro h
        exact spread_zero.1 (by rw [← c, h]; rfl) a ha b hb
      · intro h
        have : spread m = 0 := spread_zero.2 fun x hx y hy => by
          have := ha2 x hx; have := ha2 y hy; have := hb2 x hx; have := hb2 y hy; omega
        omega
    rw [← z, ev]
    constructor
    · intro h
      refine Nat.eq_zero_of_not_pos fun g => ?_
      have := Q_pos g hsp (len_sq h0 hl).1 (by have := (len_sq h0 hl).2; omega : m.length * m.length ≤ 2 ^ 60)
      omega
    · intro h; rw [h, Q_zero]
  have v1 : (FloatKind.f64.format.order (varV m) 0 == some .eq) = decide (a = b) := by rw [ord_eq hv (by decide)]; exact decide_eq_decide.2 k3
  refine ⟨?_, ?_, ?_, v1, ?_, ?_, ?_⟩
  · rw [ord_ge hx (W_inf a)]; exact decide_eq_true k1
  · rw [ord_le hx (W_inf b)]; exact decide_eq_true k2
  · rw [← v1, ord_ge hv (by decide)]; exact decide_eq_true (Nat.zero_le _)
  · rw [ord_eq hx hx]; simp
  · rw [ord_eq hv hv]; simp
  · intro hp
    have hSp : 0 < S m := by have := mem_S hb; omega
    have et : top m = b := Nat.le_antisymm (top_le hb2) (top_ge hb)
    have eu : unV m = qr (W b) (ofV m) := by unfold unV; rw [if_neg (by omega), et, ex]
    have hmx : mid (ofV m) := by rw [ex]; exact of_mid h6 h0 hl hSp
    have hmb : mid (W b) := W_mid' hp (by omega)
    have hu : unV m ≤ inf := by rw [eu]; exact Nat.le_of_lt (qr_fin hmb hmx)
    have h1 : one ≤ unV m := by
      rw [eu]
      refine qr_ge hmb hmx (by decide) ?_
      rw [val_one, Nat.mul_comm]
      exact Nat.mul_le_mul_right _ (val_le.2 k2)
    exact (ord_ge hu (show 4607182418800017408 ≤ inf by decide)).trans (decide_eq_true h1)

theorem ofV_congr {a b : List Nat} (h1 : a.length = b.length) (h2 : S a = S b) : ofV a = ofV b := by unfold ofV; rw [h1, h2]
theorem varV_congr {a b : List Nat} (h1 : a.length = b.length) (h2 : S a = S b) (h3 : Sq a = Sq b) : varV a = varV b := by unfold varV spr; rw [h1, h2, h3]
theorem held_turn (l : List Int) (k : Nat) : (held (l.drop k ++ l.take k)).length = (held l).length ∧ S (held (l.drop k ++ l.take k)) = S (held l) ∧ Sq (held (l.drop k ++ l.take k)) = Sq (held l) := by
  have e1 : held (l.drop k ++ l.take k) = held (l.drop k) ++ held (l.take k) := by simp [held]
  have e2 : held l = held (l.take k) ++ held (l.drop k) := by
    conv => lhs; rw [← List.take_append_drop k l]
    simp [held]
  rw [e1, e2]
  refine ⟨by simp; omega, by rw [S_append, S_append]; omega, by rw [Sq_append, Sq_append]; omega⟩

def IW (w : World) (g : Nat) (l : List Int) : Prop := ∀ i, i < l.length → w.cell? ⟨g, i, none⟩ = some (.int .i64 (l.getD i 0))
theorem drop_cellsI {w1 w2 : World} {g cm k : Nat} {m : List Int} (hc : m.length ≤ cm) (hk : k ≤ m.length) (h : IW w1 g m) (hb : Below w1.heap.size w1 w2) :
    ∃ A, (if cm = k then some (⟨g, 0, none⟩ : Addr) else some ⟨g, k, none⟩) = some A ∧ ∀ W : World, Below w2.heap.size w2 W → ∀ j u, ((m.drop k).map iv)[j]? = some u → W.cell? (A.add j) = some u := by
  by_cases hck : cm = k
  · refine ⟨⟨g, 0, none⟩, by rw [if_pos hck], fun W _ j u hj => ?_⟩
    rw [List.drop_of_length_le (by omega)] at hj
    simp at hj
  · refine ⟨⟨g, k, none⟩, by rw [if_neg hck], fun W hW j u hj => ?_⟩
    have hjl : k + j < m.length := by
      have := (List.getElem?_eq_some_iff.1 hj).1
      simp at this; omega
    have e : (⟨g, k, none⟩ : Addr).add j = ⟨g, k + j, none⟩ := Go.WideShapes.add_plain ..
    have h1 := h (k + j) hjl
    have h2 : w2.cell? ⟨g, k + j, none⟩ = some (.int .i64 (m.getD (k + j) 0)) := by rw [hb.cell (World.block_lt_of_cell? w1 _ h1)]; exact h1
    rw [e, hW.cell (World.block_lt_of_cell? w2 _ h2), h2]
    simp [hjl] at hj
    simp [hjl, ← hj, iv]
theorem take_cellsI {w1 w2 : World} {g k : Nat} {m : List Int} (h : IW w1 g m) (hb : Below w1.heap.size w1 w2) (W : World) (hW : Below w2.heap.size w2 W) (j : Nat) (u : Value) (hj : ((m.take k).map iv)[j]? = some u) : W.cell? ((⟨g, 0, none⟩ : Addr).add j) = some u := by
  have hjl : j < m.length ∧ j < k := by
    have := (List.getElem?_eq_some_iff.1 hj).1
    simp at this; omega
  have e : (⟨g, 0, none⟩ : Addr).add j = ⟨g, j, none⟩ := by
    have := Go.WideShapes.add_plain g 0 j
    rw [Nat.zero_add] at this; exact this
  have h1 := h j hjl.1
  have h2 : w2.cell? ⟨g, j, none⟩ = some (.int .i64 (m.getD j 0)) := by rw [hb.cell (World.block_lt_of_cell? w1 _ h1)]; exact h1
  rw [e, hW.cell (World.block_lt_of_cell? w2 _ h2), h2]
  simp [hjl.1, hjl.2] at hj
  simp [hjl.1, ← hj, iv]

/-- a slice of a call's own that is not empty -/
theorem OwnI.some {B n c : Nat} {w : World} {p : Option Addr} {l : List Int} (h : OwnI B w (.slice p n c) l) (h0 : 0 < l.length) : ∃ g, p = some ⟨g, 0, none⟩ ∧ l.length ≤ c ∧ IW w g l := by
  have h' : w.ownsRow B 3 1 (.slice p n c) l.length (l.map iv) := h
  obtain ⟨_, ⟨h1, h2⟩ | ⟨g, cap, cur, h1, _, _, h3, _⟩⟩ := h
  · omega
  · injection h1 with h4 h5 h6
    subst h4 h5 h6
    refine ⟨g, rfl, h3, fun i hi => ?_⟩
    have := h'.cells (g := g) rfl i (iv (l.getD i 0)) (by simp [hi])
    have e : (⟨g, 0, none⟩ : Addr).add i = ⟨g, i, none⟩ := by
      have := Go.WideShapes.add_plain g 0 i
      rw [Nat.zero_add] at this; exact this
    rw [e] at this; exact this
end Go.Proofs.Ytaghncdeojdghaa
