/-
  Bytes of words, plainly: a byte of a word, a word with a byte set; bytes that are read; parts of words; which edits write bytes, what the words are behind them.
-/
import Derived.Test.YtdnijdbhdlengaaCrp
import Derived.Laws.BitsAllLaws
namespace Go.Proofs.Ytdnijdbhdlengaa
set_option maxRecDepth 100000

/-- byte k of a word -/
def bt (x : Int) (k : Nat) : Int := x / 256 ^ k % 256
/-- a word with byte k set -/
def sb (x : Int) (k : Nat) (c : Int) : Int := x + (c - bt x k) * 256 ^ k
/-- a word's number -/
def Wd (x : Int) : Prop := 0 ≤ x ∧ x < 18446744073709551616
def By (x : Int) : Prop := 0 ≤ x ∧ x < 256
theorem bt_by (x : Int) (k : Nat) : By (bt x k) := by unfold By bt; omega
theorem pw_pos (k : Nat) : (0 : Int) < 256 ^ k := Int.pow_pos (by decide)
theorem bt_sb {x c : Int} {k : Nat} (hc : By c) (j : Nat) : bt (sb x k c) j = if j = k then c else bt x j := by
  have hp := pw_pos k
  obtain ⟨c0, c1⟩ := hc
  have hq : sb x k c / 256 ^ k = x / 256 ^ k + (c - bt x k) := by unfold sb; exact Int.add_mul_ediv_right _ _ (by omega)
  split
  · rename_i e
    subst e
    rw [bt, hq, bt]; omega
  · rename_i hne
    rcases Nat.lt_or_gt_of_ne hne with h | h
    · obtain ⟨d, rfl⟩ : ∃ d, k = j + 1 + d := ⟨k - j - 1, by omega⟩
      have hj := pw_pos j
      unfold sb
      generalize c - bt x (j + 1 + d) = M
      have e : M * (256 : Int) ^ (j + 1 + d) = (M * 256 ^ d * 256) * 256 ^ j := by
        rw [Int.pow_add, Int.pow_succ]
        ac_rfl
      rw [e, bt, Int.add_mul_ediv_right _ _ (by omega), bt]
      generalize M * 256 ^ d = K
      omega
    · obtain ⟨d, rfl⟩ : ∃ d, j = k + 1 + d := ⟨j - k - 1, by omega⟩
      have e : ∀ y : Int, y / 256 ^ (k + 1 + d) = y / 256 ^ k / 256 / 256 ^ d := fun y => by
        rw [Int.pow_add, Int.pow_succ, ← Int.ediv_ediv_of_nonneg (by omega), ← Int.ediv_ediv_of_nonneg (by omega)]
      rw [bt, bt, e, e, hq]
      have : (x / 256 ^ k + (c - bt x k)) / 256 = x / 256 ^ k / 256 := by unfold bt; omega
      rw [this]
theorem bt_same {x c : Int} {k : Nat} (hc : By c) : bt (sb x k c) k = c := by rw [bt_sb hc, if_pos rfl]
theorem pw8 : (256 : Int) ^ 8 = 18446744073709551616 := by decide
theorem sb_wd {x c : Int} {k : Nat} (hx : Wd x) (hc : By c) (hk : k < 8) : Wd (sb x k c) := by
  obtain ⟨c0, c1⟩ := hc
  obtain ⟨x0, x1⟩ := hx
  rcases (by omega : k = 0 ∨ k = 1 ∨ k = 2 ∨ k = 3 ∨ k = 4 ∨ k = 5 ∨ k = 6 ∨ k = 7) with rfl | rfl | rfl | rfl | rfl | rfl | rfl | rfl
  all_goals
    simp only [sb, bt, Wd, Int.reducePow]
    omega
/-- words that have the same bytes are one -/
theorem bt_mod : ∀ (k : Nat) {x y : Int}, (∀ j, j < k → bt x j = bt y j) → x % 256 ^ k = y % 256 ^ k
  | 0, x, y, _ => by simp [Int.emod_one]
  | k + 1, x, y, h => by
    have ih := bt_mod k (fun j hj => h j (by omega))
    have e : ∀ z : Int, z % 256 ^ (k + 1) = 256 ^ k * bt z k + z % 256 ^ k := fun z => by
      have hp := pw_pos k
      have a := Int.mul_ediv_add_emod z (256 ^ k)
      have b := Int.mul_ediv_add_emod (z / 256 ^ k) 256
      have r0 := Int.emod_nonneg z (show (256 : Int) ^ k ≠ 0 by omega)
      have r1 := Int.emod_lt_of_pos z hp
      have s0 : 0 ≤ bt z k := (bt_by z k).1
      have s1 : bt z k ≤ 255 := by have := (bt_by z k).2; omega
      have m0 := Int.mul_nonneg (Int.le_of_lt hp) s0
      have m1 : (256 : Int) ^ k * bt z k ≤ 256 ^ k * 255 := Int.mul_le_mul_of_nonneg_left s1 (Int.le_of_lt hp)
      have ez : z = (256 ^ k * bt z k + z % 256 ^ k) + 256 ^ (k + 1) * (z / 256 ^ k / 256) := by
        rw [Int.pow_succ, Int.mul_assoc]
        unfold bt
        rw [Int.add_right_comm, ← Int.mul_add, Int.add_comm (z / 256 ^ k % 256), b, a]
      have := Int.add_mul_emod_self_left (256 ^ k * bt z k + z % 256 ^ k) (256 ^ (k + 1)) (z / 256 ^ k / 256)
      rw [← ez] at this
      rw [this]
      refine Int.emod_eq_of_lt (by omega) ?_
      rw [Int.pow_succ]; omega
    rw [e, e, ih, h k (by omega)]
theorem wd_ext {x y : Int} (hx : Wd x) (hy : Wd y) (h : ∀ k, k < 8 → bt x k = bt y k) : x = y := by
  have := bt_mod 8 h
  rw [pw8, Int.emod_eq_of_lt hx.1 hx.2, Int.emod_eq_of_lt hy.1 hy.2] at this
  exact this

/-- byte p of words -/
def bAt_ (w : List Int) (p : Nat) : Int := bt (w.getD (p / 8) 0) (p % 8)
/-- so many bytes of words -/
def rdB (w : List Int) : Nat → Nat → List Int
  | _, 0 => []
  | o, n + 1 => bAt_ w o :: rdB w (o + 1) n
theorem rdB_length (w : List Int) : ∀ (n o : Nat), (rdB w o n).length = n
  | 0, _ => rfl
  | n + 1, o => by rw [rdB, List.length_cons, rdB_length w n]
theorem rdB_app (w : List Int) : ∀ (n m o : Nat), rdB w o (n + m) = rdB w o n ++ rdB w (o + n) m
  | 0, m, o => by simp [rdB]
  | n + 1, m, o => by rw [Nat.add_right_comm, rdB, rdB, rdB_app w n m, List.cons_append, show o + 1 + n = o + (n + 1) by omega]
theorem rdB_snoc (w : List Int) (n o : Nat) : rdB w o (n + 1) = rdB w o n ++ [bAt_ w (o + n)] := by rw [rdB_app]; rfl
theorem rdB_by (w : List Int) : ∀ (n o : Nat), ∀ x ∈ rdB w o n, By x
  | 0, _, x, h => by cases h
  | n + 1, o, x, h => by
    rcases List.mem_cons.1 h with rfl | h
    · exact bt_by _ _
    · exact rdB_by w n _ x h
theorem rdB_getD (w : List Int) : ∀ (n o k : Nat), k < n → (rdB w o n).getD k 0 = bAt_ w (o + k)
  | n + 1, o, 0, _ => rfl
  | n + 1, o, k + 1, h => by rw [rdB, List.getD_cons_succ, rdB_getD w n (o + 1) k (by omega), show o + 1 + k = o + (k + 1) by omega]
theorem rdB_is {w : List Int} {l : List Int} {o : Nat} (h : ∀ k, k < l.length → bAt_ w (o + k) = l.getD k 0) : rdB w o l.length = l := by
  refine List.ext_getElem (rdB_length ..) fun i h1 h2 => ?_
  have a := rdB_getD w l.length o i h2
  rw [h i h2] at a
  simpa [List.getD_eq_getElem?_getD, h1, h2] using a

/-- a part of a word -/
structure Pc where
  w : Nat
  f : Nat
  n : Nat
instance : Inhabited Pc := ⟨⟨0, 0, 0⟩⟩
/-- how many of n bytes from o on lie in the first one's word -/
def pcK (o n : Nat) : Nat := min (8 - o % 8) n
/-- the parts of words that bytes are -/
def pcs (o n : Nat) : List Pc := if n = 0 then [] else ⟨o / 8, o % 8, pcK o n⟩ :: pcs (o + pcK o n) (n - pcK o n)
termination_by n
decreasing_by unfold pcK; omega
theorem pcs_zero (o : Nat) : pcs o 0 = [] := by rw [pcs, if_pos rfl]
theorem pcs_more {o n : Nat} (h : n ≠ 0) : pcs o n = ⟨o / 8, o % 8, pcK o n⟩ :: pcs (o + pcK o n) (n - pcK o n) := by rw [pcs, if_neg h]
/-- how many words have one of n bytes from o on -/
def cnt (o n : Nat) : Nat := if n = 0 then 0 else (o + n - 1) / 8 - o / 8 + 1
theorem pcs_length : ∀ (n o : Nat), (pcs o n).length = cnt o n := by
  intro n
  induction n using Nat.strongRecOn with
  | ind n ih =>
    intro o
    by_cases h : n = 0
    · subst h; rw [pcs_zero, cnt, if_pos rfl]; rfl
    · have hk : pcK o n = min (8 - o % 8) n := rfl
      rw [pcs_more h, List.length_cons, ih _ (by omega)]
      unfold cnt
      by_cases h1 : n - pcK o n = 0
      · rw [if_pos h1, if_neg h]; omega
      · rw [if_neg h1, if_neg h]; omega
/-- what is left of parts behind some -/
theorem pcs_step {o n k a m : Nat} (h : (pcs o n).drop k = pcs a m) (hk : k < (pcs o n).length) : m ≠ 0 ∧ (pcs o n).getD k default = ⟨a / 8, a % 8, pcK a m⟩ ∧ (pcs o n).drop (k + 1) = pcs (a + pcK a m) (m - pcK a m) := by
  have hm : m ≠ 0 := by
    rintro rfl
    rw [pcs_zero] at h
    have := congrArg List.length h
    rw [List.length_drop] at this
    simp at this; omega
  rw [pcs_more hm] at h
  refine ⟨hm, ?_, ?_⟩
  · have := congrArg (·.getD 0 default) h
    simpa [List.getD_eq_getElem?_getD] using this
  · have := congrArg (·.drop 1) h
    simpa [List.drop_drop] using this
theorem pcK_le {a m : Nat} (h : m ≠ 0) : 1 ≤ pcK a m ∧ pcK a m ≤ m ∧ a % 8 + pcK a m ≤ 8 ∧ (pcK a m = m ∨ (a + pcK a m) % 8 = 0) := by unfold pcK; omega

/-- the byte at p when n bytes, c, are written at o -/
def tgt (w : List Int) (o n : Nat) (c : Nat → Int) (p : Nat) : Int := if o ≤ p ∧ p < o + n then c (p - o) else bAt_ w p
/-- these are the edits that write n bytes, c, at o -/
structure IsE (w : List Int) (o n : Nat) (c : Nat → Int) (L : List Ed) : Prop where
  len : L.length = cnt o n
  at_ : ∀ j, j < L.length → (L.getD j default).w = ((o / 8 + j : Nat) : Int) ∧ Wd (L.getD j default).v ∧ ∀ k, k < 8 → bt (L.getD j default).v k = tgt w o n c (8 * (o / 8 + j) + k)
theorem IsE.one {w : List Int} {o n : Nat} {c c' : Nat → Int} {L L' : List Ed} (h : IsE w o n c L) (h' : IsE w o n c' L') (hc : ∀ k, k < n → c k = c' k) : L = L' := by
  refine List.ext_getElem (h.len.trans h'.len.symm) fun j h1 h2 => ?_
  obtain ⟨a1, a2, a3⟩ := h.at_ j h1
  obtain ⟨b1, b2, b3⟩ := h'.at_ j h2
  have e1 : L.getD j default = L[j] := by simp [h1]
  have e2 : L'.getD j default = L'[j] := by simp [h2]
  rw [e1] at a1 a2 a3
  rw [e2] at b1 b2 b3
  have hw : L[j].w = L'[j].w := a1.trans b1.symm
  have hv : L[j].v = L'[j].v := wd_ext a2 b2 fun k hk => by
    rw [a3 k hk, b3 k hk]
    unfold tgt
    split
    · exact hc _ (by omega)
    · rfl
  cases hx : L[j]; cases hy : L'[j]
  rw [hx, hy] at hw hv
  simp only at hw hv
  rw [hw, hv]
theorem IsE.none (w : List Int) (o : Nat) (c : Nat → Int) : IsE w o 0 c [] := ⟨by simp [cnt], fun j h => by simp at h⟩
theorem getD_snoc {L : List Ed} {e : Ed} (j : Nat) : (L ++ [e]).getD j default = if j = L.length then e else L.getD j default := by
  rw [List.getD_eq_getElem?_getD, List.getD_eq_getElem?_getD, List.getElem?_append]
  split
  · rw [if_neg (by omega)]
  · split
    · rename_i h; subst h; simp
    · rw [List.getElem?_eq_none (l := [e]) (by simp; omega), List.getElem?_eq_none (l := L) (by omega)]
/-- a word more: its bytes are those of the words, but k of them -/
theorem IsE.more {w : List Int} {o n k : Nat} {c : Nat → Int} {L : List Ed} {v : Int} (h : IsE w o n c L) (h0 : n = 0 ∨ (o + n) % 8 = 0) (h1 : 1 ≤ k) (h2 : (o + n) % 8 + k ≤ 8) (hv : Wd v)
    (hb : ∀ j, j < 8 → bt v j = if (o + n) % 8 ≤ j ∧ j < (o + n) % 8 + k then c (n + j - (o + n) % 8) else bt (w.getD ((o + n) / 8) 0) j) : IsE w o (n + k) c (L ++ [⟨(((o + n) / 8 : Nat) : Int), v⟩]) := by
  have hl := h.len
  have hq : o / 8 + L.length = (o + n) / 8 := by rw [hl]; unfold cnt; split <;> omega
  refine ⟨by rw [List.length_append, List.length_singleton, hl]; unfold cnt; rw [if_neg (show n + k ≠ 0 by omega)]; split <;> omega, fun j hj => ?_⟩
  rw [List.length_append, List.length_singleton] at hj
  rw [getD_snoc]
  by_cases hjl : j = L.length
  · rw [if_pos hjl]
    subst hjl
    rw [hq]
    refine ⟨rfl, hv, fun i hi => ?_⟩
    rw [hb i hi]
    unfold tgt bAt_
    have e1 : (8 * ((o + n) / 8) + i) / 8 = (o + n) / 8 := by omega
    have e2 : (8 * ((o + n) / 8) + i) % 8 = i := by omega
    rw [e1, e2]
    by_cases hin : (o + n) % 8 ≤ i ∧ i < (o + n) % 8 + k
    · rw [if_pos hin, if_pos (by omega)]
      congr 1; omega
    · rw [if_neg hin, if_neg (by omega)]
  · rw [if_neg hjl]
    obtain ⟨a1, a2, a3⟩ := h.at_ j (by omega)
    refine ⟨a1, a2, fun i hi => ?_⟩
    rw [a3 i hi]
    unfold tgt
    have : o / 8 + j < (o + n) / 8 := by omega
    by_cases hin : o ≤ 8 * (o / 8 + j) + i ∧ 8 * (o / 8 + j) + i < o + n
    · rw [if_pos hin, if_pos (by omega)]
    · rw [if_neg hin, if_neg (by omega)]
/-- a byte more in the last word -/
theorem IsE.last {w : List Int} {o n : Nat} {c : Nat → Int} {L : List Ed} (h : IsE w o n c L) (hn : n ≠ 0) : 0 < L.length ∧ (L.getD (L.length - 1) default).w = (((o + n - 1) / 8 : Nat) : Int) ∧ Wd (L.getD (L.length - 1) default).v := by
  have hl := h.len
  unfold cnt at hl
  rw [if_neg hn] at hl
  obtain ⟨a1, a2, _⟩ := h.at_ (L.length - 1) (by omega)
  refine ⟨by omega, ?_, a2⟩
  rw [a1]; congr 1; omega
theorem IsE.byte {w : List Int} {o n : Nat} {c : Nat → Int} {L : List Ed} (h : IsE w o n c L) (hn : n ≠ 0) (hm : (o + n) % 8 ≠ 0) (hc : By (c n)) :
    IsE w o (n + 1) c (L.set (L.length - 1) ⟨(L.getD (L.length - 1) default).w, sb (L.getD (L.length - 1) default).v ((o + n) % 8) (c n)⟩) := by
  have hl := h.len
  unfold cnt at hl
  rw [if_neg hn] at hl
  refine ⟨by rw [List.length_set, hl]; unfold cnt; rw [if_neg (by omega)]; omega, fun j hj => ?_⟩
  rw [List.length_set] at hj
  obtain ⟨a1, a2, a3⟩ := h.at_ j hj
  have eg : ∀ x : Ed, (L.set (L.length - 1) x).getD j default = if j = L.length - 1 then x else L.getD j default := fun x => by
    rw [List.getD_eq_getElem?_getD, List.getElem?_set, List.getD_eq_getElem?_getD]
    by_cases e : L.length - 1 = j
    · rw [if_pos e, if_pos e.symm, if_pos (by omega)]; rfl
    · rw [if_neg e, if_neg (fun q => e q.symm)]
  rw [eg]
  by_cases e : j = L.length - 1
  · rw [if_pos e, ← e]
    refine ⟨a1, sb_wd a2 hc (by omega), fun i hi => ?_⟩
    show bt (sb _ _ _) i = _
    rw [bt_sb hc, a3 i hi]
    have hq : o / 8 + j = (o + n) / 8 := by omega
    unfold tgt
    rw [hq]
    by_cases hi2 : i = (o + n) % 8
    · rw [if_pos hi2, if_pos (by omega)]
      congr 1; omega
    · rw [if_neg hi2]
      by_cases hin : o ≤ 8 * ((o + n) / 8) + i ∧ 8 * ((o + n) / 8) + i < o + n
      · rw [if_pos hin, if_pos (by omega)]
      · rw [if_neg hin, if_neg (by omega)]
  · rw [if_neg e]
    refine ⟨a1, a2, fun i hi => ?_⟩
    rw [a3 i hi]
    unfold tgt
    by_cases hin : o ≤ 8 * (o / 8 + j) + i ∧ 8 * (o / 8 + j) + i < o + n
    · rw [if_pos hin, if_pos (by omega)]
    · rw [if_neg hin, if_neg (by omega)]

/-- many bytes set in a word -/
def puB : Int → Nat → List Int → Int
  | x, _, [] => x
  | x, f, c :: r => puB (sb x f c) (f + 1) r
theorem puB_snoc : ∀ (l : List Int) (x c : Int) (f : Nat), puB x f (l ++ [c]) = sb (puB x f l) (f + l.length) c
  | [], _, _, _ => rfl
  | a :: l, x, c, f => by rw [List.cons_append, puB, puB_snoc l, puB, List.length_cons, show f + 1 + l.length = f + (l.length + 1) by omega]
theorem puB_wd : ∀ (l : List Int) (x : Int) (f : Nat), Wd x → (∀ c ∈ l, By c) → f + l.length ≤ 8 → Wd (puB x f l)
  | [], _, _, h, _, _ => h
  | a :: l, x, f, h, hl, hf => by
    rw [List.length_cons] at hf
    exact puB_wd l _ _ (sb_wd h (hl a (List.mem_cons_self ..)) (by omega)) (fun c hc => hl c (List.mem_cons_of_mem _ hc)) (by omega)
theorem bt_puB : ∀ (l : List Int) (x : Int) (f j : Nat), (∀ c ∈ l, By c) → bt (puB x f l) j = if f ≤ j ∧ j < f + l.length then l.getD (j - f) 0 else bt x j
  | [], x, f, j, _ => by rw [puB, if_neg]; simp only [List.length_nil]; omega
  | a :: l, x, f, j, hl => by
    rw [puB, bt_puB l _ _ _ (fun c hc => hl c (List.mem_cons_of_mem _ hc)), List.length_cons, bt_sb (hl a (List.mem_cons_self ..))]
    by_cases h1 : j = f
    · subst h1
      rw [if_neg (by omega), if_pos rfl, if_pos (by omega), Nat.sub_self]; rfl
    · rw [if_neg h1]
      by_cases h2 : f + 1 ≤ j ∧ j < f + 1 + l.length
      · rw [if_pos h2, if_pos (by omega), show j - f = (j - (f + 1)) + 1 by omega, List.getD_cons_succ]
      · rw [if_neg h2, if_neg (by omega)]

/-- words behind the edits that write bytes -/
theorem appF_isE {w : List Int} {o n : Nat} {c : Nat → Int} {L : List Ed} (h : IsE w o n c L) (hw : ∀ x ∈ w, Wd x) (hn : o + n ≤ 8 * w.length) : (∀ x ∈ appF w L, Wd x) ∧ ∀ p, p < 8 * w.length → bAt_ (appF w L) p = tgt w o n c p := by
  have key : ∀ (k : Nat), k ≤ L.length → ∀ q, q < w.length → (appF w (L.take k)).getD q 0 = if o / 8 ≤ q ∧ q < o / 8 + k then (L.getD (q - o / 8) default).v else w.getD q 0 := by
    intro k
    induction k with
    | zero =>
      intro _ q _
      rw [List.take_zero, appF, if_neg (by omega)]
    | succ k ih =>
      intro hk q hq
      have ih := ih (by omega)
      obtain ⟨a1, _, _⟩ := h.at_ k (by omega)
      have hl := h.len
      have hin : o / 8 + k < w.length := by
        unfold cnt at hl
        split at hl <;> omega
      have e1 : L.getD k default = L[k] := by rw [List.getD_eq_getElem?_getD, List.getElem?_eq_getElem (show k < L.length by omega)]; rfl
      rw [List.take_add_one, appF_app, List.getElem?_eq_getElem (show k < L.length by omega)]
      show (appF (appF w (L.take k)) [L[k]]).getD q 0 = _
      rw [appF, appF, appF_length, ← e1, a1, if_pos (by omega), Int.toNat_natCast]
      rw [List.getD_eq_getElem?_getD, List.getElem?_set, appF_length]
      by_cases he : o / 8 + k = q
      · rw [if_pos he, if_pos (by omega), if_pos (by omega), show q - o / 8 = k by omega]; rfl
      · rw [if_neg he, ← List.getD_eq_getElem?_getD, ih q hq]
        by_cases h2 : o / 8 ≤ q ∧ q < o / 8 + k
        · rw [if_pos h2, if_pos (by omega)]
        · rw [if_neg h2, if_neg (by omega)]
  have key' := key L.length (Nat.le_refl _)
  rw [List.take_length] at key'
  have hwq : ∀ q, q < w.length → Wd (w.getD q 0) := fun q hq => by
    rw [List.getD_eq_getElem?_getD, List.getElem?_eq_getElem hq]; exact hw _ (List.getElem_mem hq)
  refine ⟨fun x hx => ?_, fun p hp => ?_⟩
  · obtain ⟨q, hq, rfl⟩ := List.getElem_of_mem hx
    have hq' : q < w.length := by rw [appF_length] at hq; exact hq
    have e : (appF w L)[q] = (appF w L).getD q 0 := by rw [List.getD_eq_getElem?_getD, List.getElem?_eq_getElem hq]; rfl
    rw [e, key' q hq']
    split
    · exact (h.at_ _ (by omega)).2.1
    · exact hwq q hq'
  · unfold bAt_
    rw [key' (p / 8) (by omega)]
    by_cases hin : o / 8 ≤ p / 8 ∧ p / 8 < o / 8 + L.length
    · rw [if_pos hin, (h.at_ _ (by omega)).2.2 _ (Nat.mod_lt _ (by decide))]
      congr 1; omega
    · rw [if_neg hin]
      have hl := h.len
      unfold tgt
      rw [if_neg]
      · rfl
      · unfold cnt at hl
        split at hl <;> omega
/-- words that have the same bytes are the same -/
theorem words_ext {w v : List Int} (hl : w.length = v.length) (hw : ∀ x ∈ w, Wd x) (hv : ∀ x ∈ v, Wd x) (h : ∀ p, p < 8 * w.length → bAt_ w p = bAt_ v p) : w = v := by
  refine List.ext_getElem hl fun i h1 h2 => wd_ext (hw _ (List.getElem_mem h1)) (hv _ (List.getElem_mem h2)) fun k hk => ?_
  have a := h (8 * i + k) (by omega)
  unfold bAt_ at a
  rw [show (8 * i + k) / 8 = i by omega, show (8 * i + k) % 8 = k by omega] at a
  simpa [List.getD_eq_getElem?_getD, h1, h2] using a
end Go.Proofs.Ytdnijdbhdlengaa
