/- texts written together: Gpl Tnp Tnf Lgp Lgq Elm Hom Lgm Lgr Lgs Gpc Tnc Tnd Tnw Tbl Tab Wt Lel -/
import Derived.Test.YtjghhcbiaklomaaMga
import Derived.Test.YtjghhcbiaklomaaMgb
import Derived.Deep.Slices
import Derived.Deep.OwnRows
import Derived.Maps.AppendAt
import Derived.OwnWalk
import Derived.SizedLaws
import Derived.BigQuiet
import Derived.Deep.RegionHeld3
import Derived.Deep.DeepCutAuto
import Derived.Deep.RegionLaw

/-
  Where each line stands, in plain Lean: n lines on n + 1 slots, m moves: the gap, the slot of a line, the line of a slot; what a move moves; a line's slot by one division.
-/
namespace Go.Proofs.Ytjghhcbiaklomaa
set_option maxRecDepth 100000

/-- the slot that is the gap -/
def gN (n m : Nat) : Nat := n - m % (n + 1)
/-- by how much the lines have moved on -/
def sN (n m : Nat) : Nat := m / (n + 1) % n
/-- the slot of a line -/
def slN (n m l : Nat) : Nat := if (l + sN n m) % n < gN n m then (l + sN n m) % n else (l + sN n m) % n + 1
/-- the line of a slot that is not the gap -/
def lnN (n m s : Nat) : Nat := ((if gN n m < s then s - 1 else s) + n - sN n m) % n
/-- from where the next move copies -/
def frN (n m : Nat) : Nat := if gN n m = 0 then n else gN n m - 1

theorem gN_le (n m : Nat) : gN n m ≤ n := Nat.sub_le _ _
theorem sN_lt {n : Nat} (h : 0 < n) (m : Nat) : sN n m < n := Nat.mod_lt _ h
theorem frN_le (n m : Nat) : frN n m ≤ n := by unfold frN; have := gN_le n m; split <;> omega
theorem frN_ne {n : Nat} (h : 0 < n) (m : Nat) : frN n m ≠ gN n m := by unfold frN; split <;> omega

/-- a remainder of what is less than twice as much -/
theorem mod2 {a n : Nat} (h : a < 2 * n) : a % n = if a < n then a else a - n := by
  by_cases c : a < n
  · rw [if_pos c, Nat.mod_eq_of_lt c]
  · rw [if_neg c, Nat.mod_eq_sub_mod (by omega), Nat.mod_eq_of_lt (by omega)]

theorem slN_le {n : Nat} (h : 0 < n) (m l : Nat) : slN n m l ≤ n := by
  unfold slN
  have := Nat.mod_lt (l + sN n m) h
  split <;> omega
theorem slN_ne (n m l : Nat) : slN n m l ≠ gN n m := by unfold slN; split <;> omega
theorem lnN_lt {n : Nat} (h : 0 < n) (m s : Nat) : lnN n m s < n := Nat.mod_lt _ h

/-- each line is found where it stands -/
theorem lnN_slN {n : Nat} (m : Nat) {l : Nat} (h : l < n) : lnN n m (slN n m l) = l := by
  have hs := sN_lt (n := n) (by omega) m
  have e := mod2 (a := l + sN n m) (n := n) (by omega)
  unfold lnN slN
  generalize (l + sN n m) % n = p at e
  generalize sN n m = s at *
  generalize gN n m = g
  have hp : (if g < (if p < g then p else p + 1) then (if p < g then p else p + 1) - 1 else (if p < g then p else p + 1)) = p := by
    by_cases c : p < g
    · simp only [if_pos c]; split <;> omega
    · simp only [if_neg c]; rw [if_pos (by omega)]; omega
  rw [hp, mod2 (by split at e <;> omega)]
  split at e <;> split <;> omega
/-- and each slot that is not the gap holds a line that stands there -/
theorem slN_lnN {n : Nat} (hn : 0 < n) (m : Nat) {s : Nat} (h : s ≤ n) (hg : s ≠ gN n m) : slN n m (lnN n m s) = s := by
  have hs := sN_lt hn m
  have hgl := gN_le n m
  unfold slN lnN
  generalize sN n m = d at *
  generalize gN n m = g at *
  obtain ⟨p, hp⟩ : ∃ p, (if g < s then s - 1 else s) = p := ⟨_, rfl⟩
  have hpn : p < n := by split at hp <;> omega
  rw [hp, mod2 (a := p + n - d) (by omega)]
  have e : ((if p + n - d < n then p + n - d else p + n - d - n) + d) % n = p := by
    rw [mod2 (by split <;> omega)]; split <;> split <;> omega
  rw [e]
  split at hp <;> split <;> omega

/-- A LINE's SLOT BY ONE DIVISION: it goes on by one each n moves -/
theorem slN_eq {n l : Nat} (h : l < n) (m : Nat) : slN n m l = (l + (l + m) / n) % (n + 1) := by
  unfold slN sN gN
  have hq : m = m / (n + 1) * (n + 1) + m % (n + 1) := by have := Nat.div_add_mod m (n + 1); rw [Nat.mul_comm] at this; omega
  generalize m / (n + 1) = q at hq
  have hr : m % (n + 1) < n + 1 := Nat.mod_lt _ (by omega)
  generalize m % (n + 1) = r at *
  rw [Nat.add_mod_mod]
  have hu : l + q = (l + q) / n * n + (l + q) % n := by have := Nat.div_add_mod (l + q) n; rw [Nat.mul_comm] at this; omega
  have hp : (l + q) % n < n := Nat.mod_lt _ (by omega)
  generalize (l + q) / n = u at hu
  generalize (l + q) % n = p at *
  have e1 : (l + m) / n = q + u + (p + r) / n := by
    have : l + m = (p + r) + n * (q + u) := by rw [hq, Nat.mul_add, Nat.mul_add]; rw [Nat.mul_comm n q, Nat.mul_comm n u]; omega
    rw [this, Nat.add_mul_div_left _ _ (by omega)]; omega
  rw [e1]
  have e2 : l + (q + u + (p + r) / n) = (p + (p + r) / n) + (n + 1) * u := by rw [Nat.add_mul, Nat.mul_comm n u]; omega
  rw [e2, Nat.add_mul_mod_self_left]
  by_cases c : p < n - r
  · rw [if_pos c, Nat.div_eq_of_lt (by omega), Nat.mod_eq_of_lt (by omega)]; rfl
  · have : (p + r) / n = 1 := by
      rw [Nat.div_eq_sub_div (by omega) (by omega), Nat.div_eq_of_lt (by omega)]
    rw [if_neg c, this, Nat.mod_eq_of_lt (by omega)]

/-- where the gap goes: to where the line that moves came from -/
theorem gN_next {n : Nat} (m : Nat) : gN n (m + 1) = frN n m := by
  unfold frN gN
  have hr : m % (n + 1) < n + 1 := Nat.mod_lt _ (by omega)
  rw [Nat.add_mod]
  generalize m % (n + 1) = r at *
  by_cases h0 : n = 0
  · subst h0; simp
  rw [Nat.mod_eq_of_lt (a := 1) (by omega)]
  by_cases c : r = n
  · subst c
    rw [Nat.mod_self]; simp
  · rw [Nat.mod_eq_of_lt (by omega)]; split <;> omega

/-- each n moves a line is the one that moves -/
theorem slN_from {n l : Nat} (h : l < n) {m : Nat} (d : n ∣ l + m + 1) : slN n m l = frN n m := by
  unfold slN frN sN gN
  have hq : m = m / (n + 1) * (n + 1) + m % (n + 1) := by have := Nat.div_add_mod m (n + 1); rw [Nat.mul_comm] at this; omega
  generalize m / (n + 1) = q at hq
  have hr : m % (n + 1) < n + 1 := Nat.mod_lt _ (by omega)
  generalize m % (n + 1) = r at *
  rw [Nat.add_mod_mod]
  have hu : l + q = (l + q) / n * n + (l + q) % n := by have := Nat.div_add_mod (l + q) n; rw [Nat.mul_comm] at this; omega
  have hp : (l + q) % n < n := Nat.mod_lt _ (by omega)
  generalize (l + q) / n = u at hu
  generalize (l + q) % n = p at *
  have e : l + m + 1 = (p + r + 1) + n * (q + u) := by rw [hq, Nat.mul_add, Nat.mul_add, Nat.mul_comm n q, Nat.mul_comm n u]; omega
  rw [e] at d
  have d2 : n ∣ p + r + 1 := (Nat.dvd_add_iff_left (Nat.dvd_mul_right n _)).2 d
  obtain ⟨k, hk⟩ := d2
  have k1 : k = 1 ∨ k = 2 := by
    have a1 : k ≠ 0 := by rintro rfl; omega
    have a2 : k < 3 := by
      apply Nat.lt_of_not_le; intro h3
      have := Nat.mul_le_mul_left n h3
      omega
    omega
  rcases k1 with rfl | rfl
  · rw [if_pos (by omega), if_neg (by omega)]; omega
  · rw [if_neg (by omega), if_pos (by omega)]; omega

/-- ONE MOVE: the line at 'from' goes to where the gap was, all others stay -/
theorem slN_next {n l : Nat} (h : l < n) (m : Nat) : slN n (m + 1) l = if slN n m l = frN n m then gN n m else slN n m l := by
  rw [slN_eq h (m + 1)]
  have hle := slN_le (n := n) (by omega) m l
  have hne := slN_ne n m l
  have hn2 := slN_ne n (m + 1) l
  have hle2 := slN_le (n := n) (by omega) (m + 1) l
  rw [gN_next] at hn2
  rw [slN_eq h (m + 1)] at hn2 hle2
  have hs := slN_eq h m
  have hgl := gN_le n m
  have e0 : (l + (m + 1)) / n = (l + m) / n + (if n ∣ l + m + 1 then 1 else 0) := by rw [← Nat.add_assoc]; exact Nat.succ_div ..
  rw [e0] at hn2 hle2 ⊢
  have hx : (l + ((l + m) / n + if n ∣ l + m + 1 then 1 else 0)) % (n + 1) = ((l + (l + m) / n) % (n + 1) + if n ∣ l + m + 1 then 1 else 0) % (n + 1) := by
    rw [← Nat.add_assoc, Nat.mod_add_mod]
  rw [hx, ← hs] at hn2 hle2 ⊢
  by_cases c : slN n m l = frN n m
  · rw [if_pos c]
    by_cases d : n ∣ l + m + 1
    · rw [if_pos d, c]
      unfold frN
      by_cases g0 : gN n m = 0
      · rw [if_pos g0, g0, Nat.mod_self]
      · rw [if_neg g0, Nat.mod_eq_of_lt (by omega)]; omega
    · rw [if_neg d, Nat.add_zero, Nat.mod_eq_of_lt (by omega)] at hn2
      exact absurd c hn2
  · rw [if_neg c]
    by_cases d : n ∣ l + m + 1
    · exact absurd (slN_from h d) c
    · rw [if_neg d, Nat.add_zero, Nat.mod_eq_of_lt (by omega)]

/-- a line stays where it is but for each n-th move -/
theorem slN_stay {n l : Nat} (h : l < n) {m : Nat} (d : ¬ n ∣ l + m + 1) : slN n (m + 1) l = slN n m l := by
  have e0 : (l + (m + 1)) / n = (l + m) / n + (if n ∣ l + m + 1 then 1 else 0) := by rw [← Nat.add_assoc]; exact Nat.succ_div ..
  rw [if_neg d] at e0
  rw [slN_eq h, slN_eq h, e0]; rfl
theorem slN_turn {n l : Nat} (h : l < n) {m : Nat} (d : n ∣ l + m + 1) : slN n (m + 1) l ≠ slN n m l := by
  rw [slN_next h, if_pos (slN_from h d), slN_from h d]
  exact fun e => frN_ne (n := n) (by omega) m e.symm
/-- how often a line has moved, one move on -/
theorem moved_next (n l m k : Nat) : (l + (m + (k + 1))) / n = (l + (m + k)) / n + (if n ∣ l + (m + k) + 1 then 1 else 0) := by
  rw [← Nat.add_assoc m, ← Nat.add_assoc]; exact Nat.succ_div ..
/-- in n + 1 moves it moves once or twice -/
theorem moved_round {n : Nat} (hn : 0 < n) (l m : Nat) : (l + m) / n + 1 ≤ (l + (m + (n + 1))) / n ∧ (l + (m + (n + 1))) / n ≤ (l + m) / n + 2 := by
  have e : (l + (m + (n + 1))) / n = (l + m + 1) / n + 1 := by
    rw [show l + (m + (n + 1)) = l + m + 1 + n by omega, Nat.add_div_right _ hn]
  have e2 : (l + m + 1) / n = (l + m) / n + (if n ∣ l + m + 1 then 1 else 0) := Nat.succ_div ..
  rw [e, e2]; split <;> omega
/-- in n times as many all are where they were -/
theorem slN_whole {n l : Nat} (h : l < n) (m : Nat) : slN n (m + n * (n + 1)) l = slN n m l := by
  rw [slN_eq h, slN_eq h, ← Nat.add_assoc, Nat.add_mul_div_left _ _ (by omega), ← Nat.add_assoc, Nat.add_mod_right]
theorem gN_round (n m : Nat) : gN n (m + n + 1) = gN n m := by
  unfold gN; rw [Nat.add_assoc, Nat.add_mod_right]
end Go.Proofs.Ytjghhcbiaklomaa

/-
  Lines that go round, in plain words: what a move and a Put leave.
-/
namespace Go.Proofs.Ytjghhcbiaklomaa
set_option maxRecDepth 100000

/-- registers that are none of the table's stay -/
theorem repl_rg (S : Nat) (a : Int) (d : List Int) {k : Nat} (hk : k < 3) : ∀ (n : Nat) (t : List Int) (s : Nv), (repl S a d n t s).2.rg k = s.rg k
  | 0, _, _ => rfl
  | n + 1, t, s => by
    have r : ∀ (z : Nv) (v : Int), (z.set (3 + (zeroT t : Int)) v).rg k = z.rg k := fun z v => z.set_rg _ v (by omega)
    have p : ∀ (i : Int), (s.put i d).rg k = s.rg k := fun i => by rw [Nv.put_rg]
    rw [repl]
    split
    · split
      · dsimp only; rw [r, p]
      · split
        · split
          · rw [repl_rg S a d hk n, r, p]
          · dsimp only; rw [r, p]
        · dsimp only; rw [p]
    · rfl
theorem lput_rg (S P : Nat) (a : Int) (d : List Int) (s : Nv) {k : Nat} (hk : k < 3) : (lput S P a d s).2.rg k = s.rg k := by
  unfold lput
  split
  · split
    · rfl
    · split
      · rw [repl_rg S a d hk, Nv.put_rg]
      · dsimp only; rw [Nv.put_rg]
  · rfl
theorem tb_low {s s' : Nv} {x : Int} (P : Nat) (h : s'.rg = upd s.rg 0 x) : s'.tb P = s.tb P := by
  refine list_ext (by simp [Nv.tb]) fun i hi => ?_
  rw [Nv.tb_length] at hi
  rw [Nv.tb_getD _ hi, Nv.tb_getD _ hi, h, upd_other _ _ (by omega)]
theorem hold_same {s s' : Nv} {S P : Nat} (ht : s'.tb P = s.tb P) (hh : s'.h = s.h) (b : Nat) : hold s' S P b = hold s S P b := by
  unfold hold; rw [ht, hh]

/-- lines that go round, and have power: n of them, M moves -/
structure TOk (s : Nv) (n P M : Nat) : Prop where
  l : LOk s (n + 1) P
  rg : s.rg 0 = (M : Int)
  m : M < 4611686018427387904

/-- what a line holds -/
def thold (s : Nv) (n P M b : Nat) : List Int := hold s (n + 1) P (slN n M b)

/-- the gap moves -/
def tmove (n P M : Nat) (s : Nv) : Int × Nv :=
  if (lput (n + 1) P (gN n M : Nat) (hold s (n + 1) P (frN n M)) s).1 = 0 then
    ((lput (n + 1) P (gN n M : Nat) (hold s (n + 1) P (frN n M)) s).2.setE ((0 : Nat) : Int), (lput (n + 1) P (gN n M : Nat) (hold s (n + 1) P (frN n M)) s).2.set ((0 : Nat) : Int) ((M + 1 : Nat) : Int))
  else lput (n + 1) P (gN n M : Nat) (hold s (n + 1) P (frN n M)) s
/-- a Put, where p came since the gap's turn -/
def tput (n P per p M a : Nat) (d : List Int) (s : Nv) : Int × Nv :=
  if per ≤ p + 1 then
    if (tmove n P M s).1 = 0 then lput (n + 1) P (slN n (M + 1) a : Nat) d (tmove n P M s).2 else tmove n P M s
  else lput (n + 1) P (slN n M a : Nat) d s
def tp (per p : Nat) : Nat := if per ≤ p + 1 then 0 else p + 1
def td (per p : Nat) : Nat := if per ≤ p + 1 then 1 else 0

/-- what a move leaves: M' moves -/
structure MOut (s s' : Nv) (n P M M' : Nat) (e : Int) : Prop where
  ok : s'.Ok
  nn : s'.n = s.n
  la : s'.la = s.la
  comes : s'.comes = s.comes
  may : mayT (s'.tb P) (n + 1) = true
  rg : s'.rg 0 = (M' : Int)
  all : ∀ b, b < n → thold s' n P M' b = thold s n P M b
  own : (e = 0 ∧ s'.dark = false ∧ M' = M + 1) ∨ (e = 3 ∧ s'.dark = false ∧ leftT (s'.tb P) = 0 ∧ M' = M) ∨ (e = 2 ∧ s.comes = true ∧ M ≤ M' ∧ M' ≤ M + 1)
  left : leftT (s'.tb P) ≤ leftT (s.tb P)

theorem gN_lt {n : Nat} (M : Nat) : gN n M < n + 1 := Nat.lt_succ_of_le (gN_le n M)
theorem slN_lt {n : Nat} (h : 0 < n) (M b : Nat) : slN n M b < n + 1 := Nat.lt_succ_of_le (slN_le h M b)

theorem tmove_out {s : Nv} {n P M : Nat} (H : TOk s n P M) (hn : 0 < n) : ∃ M', MOut s (tmove n P M s).2 n P M M' (tmove n P M s).1 ∧ (tmove n P M s).2.c ≤ s.c + 41 := by
  unfold tmove
  have h8 : (hold s (n + 1) P (frN n M)).length = 8 := H.l.ok.line _
  obtain ⟨o, oc⟩ := lput_out (a := gN n M) (d := hold s (n + 1) P (frN n M)) H.l h8 (gN_lt M)
  have r0 := lput_rg (n + 1) P (gN n M : Nat) (hold s (n + 1) P (frN n M)) s (k := 0) (by decide)
  generalize lput (n + 1) P (gN n M : Nat) (hold s (n + 1) P (frN n M)) s = R at *
  rcases R with ⟨e, s1⟩
  dsimp only at *
  have keep : ∀ b, b < n → thold s1 n P M b = thold s n P M b := fun b hb => o.oth _ (slN_lt hn M b) (slN_ne n M b)
  rcases o.own with ⟨rfl, d1, e1⟩ | ⟨rfl, d1, l1, _⟩ | ⟨rfl, c1, _⟩
  · rw [if_pos rfl]
    have next : ∀ b, b < n → thold s1 n P (M + 1) b = thold s n P M b := fun b hb => by
      unfold thold
      rw [slN_next hb M]
      split
      · rename_i h; rw [e1, h]
      · exact keep b hb
    have hc := set_cases d1 (k := 0) (by decide) ((M + 1 : Nat) : Int)
    have q1 := s1.set_n ((0 : Nat) : Int) ((M + 1 : Nat) : Int)
    have q2 := s1.set_la ((0 : Nat) : Int) ((M + 1 : Nat) : Int)
    have q3 := s1.set_h ((0 : Nat) : Int) ((M + 1 : Nat) : Int)
    have q4 := s1.set_c ((0 : Nat) : Int) ((M + 1 : Nat) : Int)
    have q5 := s1.set_comes ((0 : Nat) : Int) ((M + 1 : Nat) : Int)
    have q6 := o.ok.set ((0 : Nat) : Int) ((M + 1 : Nat) : Int)
    generalize s1.setE ((0 : Nat) : Int) = se at *
    generalize s1.set ((0 : Nat) : Int) ((M + 1 : Nat) : Int) = s2 at *
    have new : s2.rg = upd s1.rg 0 ((M + 1 : Nat) : Int) → s2.rg 0 = ((M + 1 : Nat) : Int) ∧ mayT (s2.tb P) (n + 1) = true ∧ (∀ b, b < n → thold s2 n P (M + 1) b = thold s n P M b) ∧ leftT (s2.tb P) ≤ leftT (s.tb P) := fun h => by
      have ht := tb_low P h
      exact ⟨by rw [h]; exact upd_same _ _ _, by rw [ht]; exact o.may, fun b hb => (hold_same ht q3 _).trans (next b hb), by rw [ht]; exact o.left⟩
    rcases hc with ⟨rfl, v1, v2⟩ | ⟨rfl, v0, v1, v2 | v2⟩
    · obtain ⟨g1, g2, g3, g4⟩ := new v2
      exact ⟨M + 1, ⟨q6, q1.trans o.n, q2.trans o.la, q5.trans o.comes, g2, g1, g3, .inl ⟨rfl, v1, rfl⟩, g4⟩, by dsimp only; omega⟩
    · obtain ⟨g1, g2, g3, g4⟩ := new v2
      exact ⟨M + 1, ⟨q6, q1.trans o.n, q2.trans o.la, q5.trans o.comes, g2, g1, g3, .inr (.inr ⟨rfl, o.comes ▸ v0, by omega, by omega⟩), g4⟩, by dsimp only; omega⟩
    · have ht := Nv.tb_congr v2 P
      exact ⟨M, ⟨q6, q1.trans o.n, q2.trans o.la, q5.trans o.comes, by rw [ht]; exact o.may, by rw [v2, r0]; exact H.rg, fun b hb => (hold_same ht q3 _).trans (keep b hb), .inr (.inr ⟨rfl, o.comes ▸ v0, by omega, by omega⟩), by rw [ht]; exact o.left⟩, by dsimp only; omega⟩
  · rw [if_neg (by decide)]
    exact ⟨M, ⟨o.ok, o.n, o.la, o.comes, o.may, r0.trans H.rg, keep, .inr (.inl ⟨rfl, d1, l1, rfl⟩), o.left⟩, by dsimp only; omega⟩
  · rw [if_neg (by decide)]
    exact ⟨M, ⟨o.ok, o.n, o.la, o.comes, o.may, r0.trans H.rg, keep, .inr (.inr ⟨rfl, c1, by omega, by omega⟩), o.left⟩, by dsimp only; omega⟩

/-- what a Put of line a leaves -/
structure TOut (s s' : Nv) (n P per p M M' a : Nat) (d : List Int) (e : Int) : Prop where
  ok : s'.Ok
  nn : s'.n = s.n
  la : s'.la = s.la
  comes : s'.comes = s.comes
  may : mayT (s'.tb P) (n + 1) = true
  rg : s'.rg 0 = (M' : Int)
  lo : M ≤ M'
  hi : M' ≤ M + td per p
  oth : ∀ b, b < n → b ≠ a → thold s' n P M' b = thold s n P M b
  own : (e = 0 ∧ s'.dark = false ∧ M' = M + td per p ∧ thold s' n P M' a = d) ∨ (e = 3 ∧ s'.dark = false ∧ leftT (s'.tb P) = 0 ∧ thold s' n P M' a = thold s n P M a) ∨ (e = 2 ∧ s.comes = true ∧ could (thold s n P M a) d (thold s' n P M' a) = true)
  left : leftT (s'.tb P) ≤ leftT (s.tb P)

theorem tput_one {s s' : Nv} {n P M a : Nat} {d : List Int} {e : Int} (H : TOk s n P M) (hn : 0 < n) (ha : a < n) (o : Out s s' (n + 1) P (slN n M a) d e) (r0 : s'.rg 0 = s.rg 0) :
    s'.rg 0 = (M : Int) ∧ (∀ b, b < n → b ≠ a → thold s' n P M b = thold s n P M b) ∧
      ((e = 0 ∧ s'.dark = false ∧ thold s' n P M a = d) ∨ (e = 3 ∧ s'.dark = false ∧ leftT (s'.tb P) = 0 ∧ thold s' n P M a = thold s n P M a) ∨ (e = 2 ∧ s.comes = true ∧ could (thold s n P M a) d (thold s' n P M a) = true)) := by
  refine ⟨r0.trans H.rg, fun b hb hne => o.oth _ (slN_lt hn M b) fun h => hne ?_, o.own⟩
  have := lnN_slN M hb
  rw [h, lnN_slN M ha] at this
  exact this.symm

theorem MOut.tok {s s' : Nv} {n P M M' : Nat} {e : Int} (o : MOut s s' n P M M' e) (H : TOk s n P M) (hd : s'.dark = false) (hm : M' < 4611686018427387904) : TOk s' n P M' :=
  ⟨⟨o.ok, o.nn.trans H.l.n, H.l.p, o.may, hd⟩, o.rg, hm⟩
theorem TOut.tok {s s' : Nv} {n P per p M M' a : Nat} {d : List Int} {e : Int} (o : TOut s s' n P per p M M' a d e) (H : TOk s n P M) (hd : s'.dark = false) (hm : M' < 4611686018427387904) : TOk s' n P M' :=
  ⟨⟨o.ok, o.nn.trans H.l.n, H.l.p, o.may, hd⟩, o.rg, hm⟩

theorem tput_out {s : Nv} {n P per p M a : Nat} {d : List Int} (H : TOk s n P M) (hn : 0 < n) (ha : a < n) (hd : d.length = 8) (hm : M + 1 < 4611686018427387904) :
    ∃ M', TOut s (tput n P per p M a d s).2 n P per p M M' a d (tput n P per p M a d s).1 ∧ (tput n P per p M a d s).2.c ≤ s.c + 81 := by
  unfold tput
  by_cases hp : per ≤ p + 1
  · rw [if_pos hp]
    have t1 : td per p = 1 := if_pos hp
    obtain ⟨M1, o, oc⟩ := tmove_out H hn
    generalize tmove n P M s = R at *
    rcases R with ⟨e, s1⟩
    dsimp only at *
    have old : ∀ b, b < n → could (thold s n P M b) d (thold s1 n P M1 b) = true := fun b hb => by
      rw [o.all b hb]; exact could_old _ _ ((H.l.ok.line _).trans hd.symm)
    rcases o.own with ⟨rfl, d1, rfl⟩ | ⟨rfl, d1, l1, rfl⟩ | ⟨rfl, c1, m1, m2⟩
    · rw [if_pos rfl]
      have H1 := o.tok H d1 (by omega)
      obtain ⟨u, uc⟩ := lput_out (a := slN n (M + 1) a) (d := d) H1.l hd (slN_lt hn _ _)
      have r0 := lput_rg (n + 1) P (slN n (M + 1) a : Nat) d s1 (k := 0) (by decide)
      obtain ⟨k1, k2, k3⟩ := tput_one H1 hn ha u r0
      have ea := o.all a ha
      refine ⟨M + 1, ⟨u.ok, u.n.trans o.nn, u.la.trans o.la, u.comes.trans o.comes, u.may, k1, by omega, by omega, fun b hb hne => (k2 b hb hne).trans (o.all b hb), ?_, Nat.le_trans u.left o.left⟩, by omega⟩
      rcases k3 with ⟨h1, h2, h3⟩ | ⟨h1, h2, h3, h4⟩ | ⟨h1, h2, h3⟩
      · exact .inl ⟨h1, h2, by omega, h3⟩
      · exact .inr (.inl ⟨h1, h2, h3, h4.trans ea⟩)
      · exact .inr (.inr ⟨h1, o.comes ▸ h2, ea ▸ h3⟩)
    · rw [if_neg (by decide)]
      exact ⟨M1, ⟨o.ok, o.nn, o.la, o.comes, o.may, o.rg, Nat.le_refl _, by omega, fun b hb _ => o.all b hb, .inr (.inl ⟨rfl, d1, l1, o.all a ha⟩), o.left⟩, by dsimp only; omega⟩
    · rw [if_neg (by decide)]
      exact ⟨M1, ⟨o.ok, o.nn, o.la, o.comes, o.may, o.rg, by omega, by omega, fun b hb _ => o.all b hb, .inr (.inr ⟨rfl, c1, old a ha⟩), o.left⟩, by dsimp only; omega⟩
  · rw [if_neg hp]
    have t1 : td per p = 0 := if_neg hp
    obtain ⟨u, uc⟩ := lput_out (a := slN n M a) (d := d) H.l hd (slN_lt hn _ _)
    have r0 := lput_rg (n + 1) P (slN n M a : Nat) d s (k := 0) (by decide)
    obtain ⟨k1, k2, k3⟩ := tput_one H hn ha u r0
    refine ⟨M, ⟨u.ok, u.n, u.la, u.comes, u.may, k1, by omega, by omega, k2, ?_, u.left⟩, by omega⟩
    rcases k3 with ⟨h1, h2, h3⟩ | ⟨h1, h2, h3, h4⟩ | ⟨h1, h2, h3⟩
    · exact .inl ⟨h1, h2, by omega, h3⟩
    · exact .inr (.inl ⟨h1, h2, h3, h4⟩)
    · exact .inr (.inr ⟨h1, h2, h3⟩)
theorem newNv_tok {n P : Nat} (h1 : 1 ≤ n) (hP : P ≤ 16) (h2 : n + 1 + P ≤ 200) (lim : List Int) : TOk (newNv (n + 1 + P) lim) n P 0 := ⟨newNv_lok (by omega) hP h2 lim, rfl, by decide⟩
end Go.Proofs.Ytjghhcbiaklomaa

/-
  Lines that go round on a memory that does not wear and has no spare lines: a Put always goes well; how often each slot is written.
-/
namespace Go.Proofs.Ytjghhcbiaklomaa
set_option maxRecDepth 100000
open Go.RowKit

/-- no cut will come, no line wears -/
structure Free (s : Nv) : Prop where
  calm : s.calm
  la : ∀ i, i < s.n → s.la i = -1
/-- slot k written -/
def Nv.wrt (s : Nv) (k : Nat) (d : List Int) : Nv := { s with c := s.c + 1, wr := upd s.wr k (s.wr k + 1), h := upd s.h k d }
theorem lput_free {s : Nv} {S k : Nat} {d : List Int} (H : LOk s S 0) (F : Free s) (hk : k < S) (hd : d.length = 8) : lput S 0 (k : Int) d s = (0, s.wrt k d) := by
  have hn : s.n = S := H.n
  have hp : placeT (s.tb 0) S (k : Int) = (k : Int) := by
    rcases place_of (t := s.tb 0) hk with ⟨e, _⟩ | ⟨j, hj, _⟩
    · exact e
    · rw [s.tb_length] at hj; omega
  have hw : s.worn k = false := by simp [Nv.worn, F.la k (by omega)]
  unfold lput
  rw [if_pos ⟨by omega, by omega⟩, H.live]
  simp only [Bool.false_eq_true, if_false]
  rw [hp, F.calm.putE (by omega), F.calm.put H.ok (by omega) hd, hw]
  rfl
theorem Free.wrt {s : Nv} (F : Free s) (k : Nat) (d : List Int) : Free (s.wrt k d) := ⟨F.calm, F.la⟩
theorem Free.set0 {s : Nv} (F : Free s) (v : Int) : Free { s with c := s.c + 1, rg := upd s.rg 0 v } := ⟨F.calm, F.la⟩

/-- how many of the two writes of a Put are at slot k -/
def wadd (n per p M a k : Nat) : Nat := (if per ≤ p + 1 ∧ k = gN n M then 1 else 0) + (if k = slN n (M + td per p) a then 1 else 0)

theorem tput_free {s : Nv} {n per p M a : Nat} {d : List Int} (H : TOk s n 0 M) (F : Free s) (hn : 0 < n) (ha : a < n) (hd : d.length = 8) (hm : M + 1 < 4611686018427387904) :
    ∃ s', tput n 0 per p M a d s = (0, s') ∧ TOk s' n 0 (M + td per p) ∧ Free s' ∧ (∀ b, b < n → thold s' n 0 (M + td per p) b = if b = a then d else thold s n 0 M b) ∧ s'.c ≤ s.c + 81 ∧ (∀ k, s'.wr k = s.wr k + (wadd n per p M a k : Nat)) := by
  obtain ⟨M', o, oc⟩ := tput_out (per := per) (p := p) (a := a) (d := d) H hn ha hd hm
  have key : ∃ s', tput n 0 per p M a d s = (0, s') ∧ Free s' ∧ (∀ k, s'.wr k = s.wr k + (wadd n per p M a k : Nat)) := by
    unfold tput wadd td
    by_cases hp : per ≤ p + 1
    · have h8 : (hold s (n + 1) 0 (frN n M)).length = 8 := H.l.ok.line _
      have e1 := lput_free H.l F (gN_lt M) h8
      have H1 := H.l
      have F1 := F.wrt (gN n M) (hold s (n + 1) 0 (frN n M))
      have e2 : tmove n 0 M s = (0, { s.wrt (gN n M) (hold s (n + 1) 0 (frN n M)) with c := (s.wrt (gN n M) (hold s (n + 1) 0 (frN n M))).c + 1, rg := upd (s.wrt (gN n M) (hold s (n + 1) 0 (frN n M))).rg 0 ((M + 1 : Nat) : Int) }) := by
        unfold tmove
        rw [e1]
        dsimp only
        rw [if_pos rfl, F1.calm.setE (by decide), F1.calm.set (by decide)]
      obtain ⟨M1, u, uc⟩ := tmove_out H hn
      rw [e2] at u
      have F2 := F1.set0 ((M + 1 : Nat) : Int)
      simp only [if_pos hp, e2]
      dsimp only at u
      have L2 : LOk { s.wrt (gN n M) (hold s (n + 1) 0 (frN n M)) with c := (s.wrt (gN n M) (hold s (n + 1) 0 (frN n M))).c + 1, rg := upd (s.wrt (gN n M) (hold s (n + 1) 0 (frN n M))).rg 0 ((M + 1 : Nat) : Int) } (n + 1) 0 := ⟨u.ok, H.l.n, H.l.p, u.may, H.l.live⟩
      rw [if_pos True.intro, lput_free L2 F2 (slN_lt hn _ _) hd]
      refine ⟨_, rfl, F2.wrt _ _, fun k => ?_⟩
      show upd (upd s.wr (gN n M) (s.wr (gN n M) + 1)) (slN n (M + 1) a) (upd s.wr (gN n M) (s.wr (gN n M) + 1) (slN n (M + 1) a) + 1) k = _
      unfold upd
      by_cases c1 : k = slN n (M + 1) a
      · subst c1
        rw [if_pos rfl, if_pos rfl]
        split
        · rename_i h; rw [if_pos ⟨hp, h⟩, h]; push_cast; omega
        · rename_i h; rw [if_neg (fun x => h x.2)]; push_cast; omega
      · rw [if_neg c1, if_neg c1]
        split
        · rename_i h; rw [if_pos ⟨hp, h⟩, h]; push_cast; omega
        · rename_i h; rw [if_neg (fun x => h x.2)]; push_cast; omega
    · simp only [if_neg hp]
      rw [lput_free H.l F (slN_lt hn _ _) hd]
      refine ⟨_, rfl, F.wrt _ _, fun k => ?_⟩
      show upd s.wr (slN n M a) (s.wr (slN n M a) + 1) k = _
      rw [if_neg (fun x => hp x.1)]
      unfold upd
      by_cases c1 : k = slN n M a
      · subst c1; rw [if_pos rfl, Nat.add_zero, if_pos rfl]; simp
      · rw [if_neg c1, Nat.add_zero, if_neg c1]; simp
  obtain ⟨s', e, F', hw⟩ := key
  rw [e] at o oc
  dsimp only at o oc
  rcases o.own with ⟨_, h1, h2, h3⟩ | ⟨h, _⟩ | ⟨h, _⟩
  · refine ⟨s', e, h2 ▸ o.tok H h1 (by have := o.hi; have : td per p ≤ 1 := by { unfold td; split <;> omega }; omega), F', fun b hb => ?_, oc, hw⟩
    rw [← h2]
    split
    · rename_i hba; rw [hba]; exact h3
    · rename_i hba; exact o.oth b hb hba
  · cases h
  · cases h
theorem newNv_free (n : Nat) : Free (newNv n []) := ⟨newNv_calm _ _, fun i hi => by
  have hi' : i < n := hi
  simp [newNv, hi']⟩
end Go.Proofs.Ytjghhcbiaklomaa

/-
  Lines that are written together, in plain words: Puts one behind the other, homes in the log, what each line of the heap reads as, a commit, a recover.
-/
namespace Go.Proofs.Ytjghhcbiaklomaa
set_option maxRecDepth 100000

/-- how often the gap has moved; how many homes are committed -/
def tm (s : Nv) : Nat := (s.rg 0).toNat
def lk (s : Nv) : Nat := (s.rg 1).toNat
/-- what a line holds -/
def th (s : Nv) (n P b : Nat) : List Int := thold s n P (tm s) b

/-- lines that go round, with power or without -/
structure GOk (s : Nv) (n P : Nat) : Prop where
  ok : s.Ok
  nn : s.n = n + 1 + P
  pp : P ≤ 16
  may : mayT (s.tb P) (n + 1) = true
  r0 : s.rg 0 = (tm s : Int)
  m : tm s < 4611686018427387904
theorem GOk.tok {s : Nv} {n P : Nat} (h : GOk s n P) (hd : s.dark = false) : TOk s n P (tm s) := ⟨⟨h.ok, h.nn, h.pp, h.may, hd⟩, h.r0, h.m⟩
theorem tm_of {s : Nv} {M : Nat} (h : s.rg 0 = (M : Int)) : tm s = M := by unfold tm; omega
theorem lk_of {s : Nv} {k : Nat} (h : s.rg 1 = (k : Int)) : lk s = k := by unfold lk; omega

/-- the registers that neither the table nor the gap has stay -/
theorem tmove_rg (n P M : Nat) (s : Nv) {k : Nat} (h0 : 0 < k) (hk : k < 3) : (tmove n P M s).2.rg k = s.rg k := by
  unfold tmove
  split
  · dsimp only; rw [Nv.set_rg _ _ _ (by omega), lput_rg _ _ _ _ _ hk]
  · exact lput_rg _ _ _ _ _ hk
theorem tput_rg (n P per p M a : Nat) (d : List Int) (s : Nv) {k : Nat} (h0 : 0 < k) (hk : k < 3) : (tput n P per p M a d s).2.rg k = s.rg k := by
  unfold tput
  split
  · split
    · rw [lput_rg _ _ _ _ _ hk, tmove_rg _ _ _ _ h0 hk]
    · exact tmove_rg _ _ _ _ h0 hk
  · exact lput_rg _ _ _ _ _ hk

/-- what one Put leaves -/
structure UOut (s s' : Nv) (n P a : Nat) (d : List Int) (e : Int) : Prop where
  g : GOk s' n P
  la : s'.la = s.la
  comes : s'.comes = s.comes
  lo : tm s ≤ tm s'
  hi : tm s' ≤ tm s + 1
  r1 : s'.rg 1 = s.rg 1
  r2 : s'.rg 2 = s.rg 2
  oth : ∀ b, b < n → b ≠ a → th s' n P b = th s n P b
  own : (e = 0 ∧ s'.dark = false ∧ th s' n P a = d) ∨ (e = 3 ∧ s'.dark = false ∧ th s' n P a = th s n P a) ∨ (e = 2 ∧ s.comes = true)
  c : s'.c ≤ s.c + 81
theorem td_le (per p : Nat) : td per p ≤ 1 := by unfold td; split <;> omega
theorem tp_le (per p : Nat) : tp per p ≤ p + 1 := by unfold tp; split <;> omega
theorem tput_u {s : Nv} {n P a : Nat} {d : List Int} (per p : Nat) (H : GOk s n P) (hl : s.dark = false) (hn : 0 < n) (ha : a < n) (hd : d.length = 8) (hm : tm s + 1 < 4611686018427387904) :
    UOut s (tput n P per p (tm s) a d s).2 n P a d (tput n P per p (tm s) a d s).1 := by
  obtain ⟨M', o, oc⟩ := tput_out (per := per) (p := p) (a := a) (d := d) (H.tok hl) hn ha hd hm
  have e1 := tput_rg n P per p (tm s) a d s (k := 1) (by decide) (by decide)
  have e2 := tput_rg n P per p (tm s) a d s (k := 2) (by decide) (by decide)
  generalize tput n P per p (tm s) a d s = R at *
  rcases R with ⟨e, s1⟩
  dsimp only at *
  have ht := tm_of o.rg
  have htd := td_le per p
  have hlo := o.lo
  have hhi := o.hi
  refine ⟨⟨o.ok, o.nn.trans H.nn, H.pp, o.may, by rw [ht]; exact o.rg, by omega⟩, o.la, o.comes, by omega, by omega, e1, e2, fun b hb hne => by unfold th; rw [ht]; exact o.oth b hb hne, ?_, oc⟩
  unfold th; rw [ht]
  rcases o.own with ⟨h1, h2, _, h4⟩ | ⟨h1, h2, _, h4⟩ | ⟨h1, h2, _⟩
  · exact .inl ⟨h1, h2, h4⟩
  · exact .inr (.inl ⟨h1, h2, h4⟩)
  · exact .inr (.inr ⟨h1, h2⟩)

/-- Puts, one behind the other, till one fails -/
def tputs (n P per : Nat) : Nat → List (Nat × List Int) → Nv → Int × Nat × Nv
  | p, [], s => (0, p, s)
  | p, x :: l, s =>
    if (tput n P per p (tm s) x.1 x.2 s).1 = 0 then tputs n P per (tp per p) l (tput n P per p (tm s) x.1 x.2 s).2
    else ((tput n P per p (tm s) x.1 x.2 s).1, tp per p, (tput n P per p (tm s) x.1 x.2 s).2)

structure SOut (s s' : Nv) (n P k : Nat) (l : List (Nat × List Int)) (e : Int) : Prop where
  g : GOk s' n P
  la : s'.la = s.la
  comes : s'.comes = s.comes
  lo : tm s ≤ tm s'
  hi : tm s' ≤ tm s + k
  r1 : s'.rg 1 = s.rg 1
  r2 : s'.rg 2 = s.rg 2
  oth : ∀ b, b < n → (∀ x ∈ l, x.1 ≠ b) → th s' n P b = th s n P b
  own : (e = 0 ∧ s'.dark = false ∧ ∀ x ∈ l, th s' n P x.1 = x.2) ∨ (e = 3 ∧ s'.dark = false) ∨ (e = 2 ∧ s.comes = true)
  c : s'.c ≤ s.c + 81 * k
/-- Puts that can be -/
structure Pairs (n : Nat) (l : List (Nat × List Int)) : Prop where
  lt : ∀ x ∈ l, x.1 < n ∧ x.2.length = 8
  nd : (l.map (·.1)).Nodup
theorem tputs_out {n P per : Nat} (hn : 0 < n) : ∀ (l : List (Nat × List Int)) (p : Nat) (s : Nv), Pairs n l → GOk s n P → s.dark = false → tm s + l.length < 4611686018427387904 →
    SOut s (tputs n P per p l s).2.2 n P l.length l (tputs n P per p l s).1 ∧ (tputs n P per p l s).2.1 ≤ p + l.length
  | [], p, s, _, H, hd, _ => ⟨⟨H, rfl, rfl, Nat.le_refl _, Nat.le_refl _, rfl, rfl, fun _ _ _ => rfl, .inl ⟨rfl, hd, fun x hx => by cases hx⟩, by simp [tputs]⟩, Nat.le_refl _⟩
  | x :: l, p, s, hp, H, hd, hm => by
    have hx := hp.lt x (List.mem_cons_self ..)
    rw [List.length_cons] at hm
    have u := tput_u per p H hd hn hx.1 hx.2 (by omega)
    have htp := tp_le per p
    rw [tputs]
    generalize tput n P per p (tm s) x.1 x.2 s = R at *
    rcases R with ⟨e, s1⟩
    dsimp only at *
    have nd := hp.nd
    rw [List.map_cons, List.nodup_cons] at nd
    have pl : Pairs n l := ⟨fun y hy => hp.lt y (List.mem_cons_of_mem _ hy), nd.2⟩
    have uh := u.hi
    have ul := u.lo
    have uc := u.c
    rw [List.length_cons]
    rcases u.own with ⟨rfl, d1, e1⟩ | ⟨rfl, d1, e1⟩ | ⟨rfl, c1⟩
    · rw [if_pos rfl]
      obtain ⟨o, op⟩ := tputs_out hn l (tp per p) s1 pl u.g d1 (by omega)
      have oh := o.hi
      have ol := o.lo
      have oc := o.c
      have hx1 : ∀ y ∈ l, y.1 ≠ x.1 := fun y hy e => nd.1 (List.mem_map.2 ⟨y, hy, e⟩)
      refine ⟨⟨o.g, o.la.trans u.la, o.comes.trans u.comes, by omega, by omega, o.r1.trans u.r1, o.r2.trans u.r2, fun b hb hne => (o.oth b hb fun y hy => hne y (List.mem_cons_of_mem _ hy)).trans (u.oth b hb fun e => hne x (List.mem_cons_self ..) e.symm), ?_, by omega⟩, by omega⟩
      rcases o.own with ⟨h1, h2, h3⟩ | h | ⟨h1, h2⟩
      · refine .inl ⟨h1, h2, fun y hy => ?_⟩
        rcases List.mem_cons.1 hy with rfl | hy
        · exact (o.oth _ hx.1 hx1).trans e1
        · exact h3 y hy
      · exact .inr (.inl h)
      · exact .inr (.inr ⟨h1, u.comes ▸ h2⟩)
    · rw [if_neg (by decide)]
      exact ⟨⟨u.g, u.la, u.comes, ul, by dsimp only; omega, u.r1, u.r2, fun b hb hne => u.oth b hb fun e => hne x (List.mem_cons_self ..) e.symm, .inr (.inl ⟨rfl, d1⟩), by dsimp only; omega⟩, by dsimp only; omega⟩
    · rw [if_neg (by decide)]
      exact ⟨⟨u.g, u.la, u.comes, ul, by dsimp only; omega, u.r1, u.r2, fun b hb hne => u.oth b hb fun e => hne x (List.mem_cons_self ..) e.symm, .inr (.inr ⟨rfl, c1⟩), by dsimp only; omega⟩, by dsimp only; omega⟩
end Go.Proofs.Ytjghhcbiaklomaa

/-
  Homes in the log, what each line of the heap reads as, a commit, a recover: in plain words.
-/
namespace Go.Proofs.Ytjghhcbiaklomaa
set_option maxRecDepth 100000

/-- a line that is to be written -/
structure Hm where
  i : Int
  l : List Int
instance : Inhabited Hm := ⟨⟨0, zeros⟩⟩

/-- homes that may be committed, on n lines -/
structure MayH (n : Int) (h : List Hm) : Prop where
  n16 : 16 ≤ n
  lo : 1 ≤ h.length
  hi : h.length ≤ 14
  at_ : ∀ x ∈ h, 16 ≤ x.i ∧ x.i < n
  nd : (h.map (·.i)).Nodup

def ixN (k : Nat) : Nat := (k + 7) / 8
/-- word i of the index, and all homes, as lines f have them -/
def ixW (f : Nat → List Int) (i : Nat) : Int := (f (i / 8)).getD (i % 8) 0
def logD (f : Nat → List Int) (k : Nat) : List Hm := (List.range k).map fun i => ⟨ixW f i, f (ixN k + i)⟩
theorem logD_length (f : Nat → List Int) (k : Nat) : (logD f k).length = k := by simp [logD]
theorem logD_congr {f f' : Nat → List Int} {k : Nat} (hk : k ≤ 14) (h : ∀ j, j < 16 → f j = f' j) : logD f k = logD f' k := by
  unfold logD ixW
  refine List.map_congr_left fun i hi => ?_
  have hi := List.mem_range.1 hi
  rw [h (i / 8) (by omega), h (ixN k + i) (by unfold ixN; omega)]

/-- lines of the index, data behind it -/
def idxL (h : List Hm) (j : Nat) : List Int := (List.range 8).map fun i => (h.getD (8 * j + i) default).i
theorem idxL_length (h : List Hm) (j : Nat) : (idxL h j).length = 8 := by simp [idxL]
def ixP (h : List Hm) : List (Nat × List Int) := (List.range (ixN h.length)).map fun j => (j, idxL h j)
def daP (h : List Hm) : List (Nat × List Int) := (List.range h.length).map fun i => (ixN h.length + i, (h.getD i default).l)
def lgP (h : List Hm) : List (Nat × List Int) := ixP h ++ daP h
def hmP (h : List Hm) : List (Nat × List Int) := h.map fun x => (x.i.toNat, x.l)
theorem lgP_length (h : List Hm) : (lgP h).length = ixN h.length + h.length := by simp [lgP, ixP, daP]
theorem hmP_length (h : List Hm) : (hmP h).length = h.length := by simp [hmP]
def Wide (h : List Hm) : Prop := ∀ x ∈ h, x.l.length = 8
theorem Wide.at_ {h : List Hm} (hw : Wide h) {i : Nat} (hi : i < h.length) : (h.getD i default).l.length = 8 := hw _ (by
  rw [List.getD_eq_getElem?_getD, List.getElem?_eq_getElem hi]; exact List.getElem_mem hi)
theorem lgP_low {h : List Hm} (hk : h.length ≤ 14) : ∀ x ∈ lgP h, x.1 < 16 := by
  intro x hx
  simp only [lgP, ixP, daP, List.mem_append, List.mem_map, List.mem_range] at hx
  rcases hx with ⟨j, hj, rfl⟩ | ⟨j, hj, rfl⟩ <;> simp only [ixN] at * <;> omega
theorem lgP_pairs {n : Nat} {h : List Hm} (hn : 16 ≤ n) (hk : h.length ≤ 14) (hw : Wide h) : Pairs n (lgP h) := by
  refine ⟨fun x hx => ⟨by have := lgP_low hk x hx; omega, ?_⟩, ?_⟩
  · simp only [lgP, ixP, daP, List.mem_append, List.mem_map, List.mem_range] at hx
    rcases hx with ⟨j, hj, rfl⟩ | ⟨j, hj, rfl⟩
    · exact idxL_length h j
    · exact hw.at_ hj
  · have e : (lgP h).map (·.1) = List.range (ixN h.length + h.length) := by
      simp only [lgP, ixP, daP, List.map_append, List.map_map, Function.comp_def, List.range_add]
      simp
    rw [e]; exact List.nodup_range
theorem hmP_pairs {n : Nat} {h : List Hm} (hm : MayH n h) (hw : Wide h) : Pairs n (hmP h) := by
  refine ⟨fun x hx => ?_, ?_⟩
  · obtain ⟨y, hy, rfl⟩ := List.mem_map.1 hx
    have := hm.at_ y hy
    exact ⟨by dsimp only; omega, hw y hy⟩
  · have e : (hmP h).map (·.1) = (h.map (·.i)).map Int.toNat := by simp [hmP]
    rw [e]
    have : ∀ l : List Int, (∀ x ∈ l, 0 ≤ x) → l.Nodup → (l.map Int.toNat).Nodup := by
      intro l
      induction l with
      | nil => intro _ _; exact List.nodup_nil
      | cons x l ih =>
        intro h0 hn
        rw [List.nodup_cons] at hn
        rw [List.map_cons, List.nodup_cons]
        refine ⟨fun hx => ?_, ih (fun y hy => h0 y (List.mem_cons_of_mem _ hy)) hn.2⟩
        obtain ⟨y, hy, e⟩ := List.mem_map.1 hx
        have a := h0 x (List.mem_cons_self ..)
        have b := h0 y (List.mem_cons_of_mem _ hy)
        have : x = y := by omega
        subst this
        exact hn.1 hy
    refine this _ (fun x hx => ?_) hm.nd
    obtain ⟨y, hy, rfl⟩ := List.mem_map.1 hx
    have := hm.at_ y hy
    omega
/-- what is Put in the log is read from it -/
theorem logD_of {f : Nat → List Int} {h : List Hm} (hf : ∀ x ∈ lgP h, f x.1 = x.2) : logD f h.length = h := by
  refine List.ext_getElem (by rw [logD_length]) fun i h1 h2 => ?_
  have ei : h.getD i default = h[i] := by rw [List.getD_eq_getElem?_getD, List.getElem?_eq_getElem h2]; rfl
  have a : f (i / 8) = idxL h (i / 8) := hf (i / 8, idxL h (i / 8)) (List.mem_append_left _ (List.mem_map.2 ⟨i / 8, List.mem_range.2 (by unfold ixN; omega), rfl⟩))
  have b : f (ixN h.length + i) = (h.getD i default).l := hf (ixN h.length + i, (h.getD i default).l) (List.mem_append_right _ (List.mem_map.2 ⟨i, List.mem_range.2 h2, rfl⟩))
  have c : ixW f i = (h.getD i default).i := by
    have e8 : 8 * (i / 8) + i % 8 = i := by omega
    have l8 : i % 8 < 8 := by omega
    unfold ixW; rw [a, idxL]
    simp [l8, e8]
  simp only [logD, List.getElem_map, List.getElem_range]
  rw [b, c, ei]

/-- what line b reads as: as homes C have it, else as lines f do -/
def hv (C : List Hm) (f : Nat → List Int) (b : Nat) : List Int :=
  match C.find? (fun x => x.i == (b : Int)) with
  | some x => x.l
  | none => f b
theorem hv_not {C : List Hm} {f : Nat → List Int} {b : Nat} (h : ∀ x ∈ C, x.i ≠ (b : Int)) : hv C f b = f b := by
  unfold hv
  rw [List.find?_eq_none.2 (fun x hx => by simpa using h x hx)]
theorem hv_mem {C : List Hm} {f : Nat → List Int} {b : Nat} {x : Hm} (hn : (C.map (·.i)).Nodup) (hx : x ∈ C) (e : x.i = (b : Int)) : hv C f b = x.l := by
  have key : C.find? (fun y => y.i == (b : Int)) = some x := by
    induction C with
    | nil => cases hx
    | cons y C ih =>
      rw [List.map_cons, List.nodup_cons] at hn
      rcases List.mem_cons.1 hx with rfl | hx'
      · rw [List.find?_cons]; simp [e]
      · have hne : y.i ≠ (b : Int) := fun h => hn.1 (by rw [h, ← e]; exact List.mem_map.2 ⟨x, hx', rfl⟩)
        have hb : (y.i == (b : Int)) = false := by simpa using hne
        rw [List.find?_cons, hb]
        exact ih hn.2 hx'
  unfold hv; rw [key]
theorem hv_cases (C : List Hm) (f : Nat → List Int) (b : Nat) : (∃ x ∈ C, x.i = (b : Int) ∧ hv C f b = x.l) ∨ ((∀ x ∈ C, x.i ≠ (b : Int)) ∧ hv C f b = f b) := by
  unfold hv
  cases e : C.find? (fun x => x.i == (b : Int)) with
  | some x => exact .inl ⟨x, List.mem_of_find?_eq_some e, by simpa using List.find?_some e, rfl⟩
  | none => exact .inr ⟨fun x hx => by simpa using List.find?_eq_none.1 e x hx, rfl⟩
theorem hv_congr {C : List Hm} {f f' : Nat → List Int} {b : Nat} (h : (∀ x ∈ C, x.i ≠ (b : Int)) → f b = f' b) : hv C f b = hv C f' b := by
  unfold hv
  cases e : C.find? (fun x => x.i == (b : Int)) with
  | some x => rfl
  | none => exact h fun x hx => by simpa using List.find?_eq_none.1 e x hx

/-- the homes that are committed; what line b reads as -/
def com (s : Nv) (n P : Nat) : List Hm := logD (th s n P) (lk s)
def view (s : Nv) (n P b : Nat) : List Int := hv (com s n P) (th s n P) b
theorem com_length (s : Nv) (n P : Nat) : (com s n P).length = lk s := logD_length _ _
theorem view_none {s : Nv} (h : lk s = 0) (n P b : Nat) : view s n P b = th s n P b := by unfold view com; rw [h]; rfl

/-- a log that can be, with power or without -/
structure LgOk (s : Nv) (n P : Nat) : Prop where
  g : GOk s n P
  n17 : 17 ≤ n
  r1 : s.rg 1 = (lk s : Int)
  fo : lk s = 0 ∨ MayH n (com s n P)
theorem th_wide {s : Nv} (h : s.Ok) (n P b : Nat) : (th s n P b).length = 8 := h.line _
theorem com_wide {s : Nv} (h : s.Ok) (n P : Nat) : Wide (com s n P) := by
  intro x hx
  simp only [com, logD, List.mem_map] at hx
  obtain ⟨i, _, rfl⟩ := hx
  exact th_wide h _ _ _

/-- all homes are Put, RCommit is Set to 0 -/
def lfin (n P per p : Nat) (C : List Hm) (s : Nv) : Int × Nat × Nv :=
  if (tputs n P per p (hmP C) s).1 = 0 then ((tputs n P per p (hmP C) s).2.2.setE ((1 : Nat) : Int), (tputs n P per p (hmP C) s).2.1, (tputs n P per p (hmP C) s).2.2.set ((1 : Nat) : Int) 0)
  else if (tputs n P per p (hmP C) s).1 = 3 then (0, (tputs n P per p (hmP C) s).2.1, (tputs n P per p (hmP C) s).2.2)
  else tputs n P per p (hmP C) s
/-- a commit, where nothing is pending -/
def lcom (n P per p : Nat) (h : List Hm) (s : Nv) : Int × Nat × Nv :=
  if (tputs n P per p (lgP h) s).1 = 0 then
    if (tputs n P per p (lgP h) s).2.2.setE ((1 : Nat) : Int) = 0 then lfin n P per (tputs n P per p (lgP h) s).2.1 h ((tputs n P per p (lgP h) s).2.2.set ((1 : Nat) : Int) (h.length : Int))
    else ((tputs n P per p (lgP h) s).2.2.setE ((1 : Nat) : Int), (tputs n P per p (lgP h) s).2.1, (tputs n P per p (lgP h) s).2.2.set ((1 : Nat) : Int) (h.length : Int))
  else tputs n P per p (lgP h) s
/-- a recover -/
def lrec (n P per p : Nat) (s : Nv) : Int × Nat × Nv := if lk s = 0 then (0, p, s) else lfin n P per p (com s n P) s

/-- what stays, and how far what grows can -/
structure Same (s s' : Nv) (n P k : Nat) : Prop where
  lg : LgOk s' n P
  la : s'.la = s.la
  comes : s'.comes = s.comes
  r2 : s'.rg 2 = s.rg 2
  hi : tm s' ≤ tm s + k
  c : s'.c ≤ s.c + 82 * k

/-- register 1 is Set, or not -/
theorem set1_same {s s' : Nv} {n P : Nat} {v : Int} (h : s'.rg = upd s.rg 1 v) (hh : s'.h = s.h) : tm s' = tm s ∧ (∀ b, th s' n P b = th s n P b) ∧ s'.tb P = s.tb P ∧ s'.rg 1 = v ∧ s'.rg 2 = s.rg 2 ∧ s'.rg 0 = s.rg 0 := by
  have e0 : s'.rg 0 = s.rg 0 := by rw [h]; rfl
  have et : tm s' = tm s := by unfold tm; rw [e0]
  have eb : s'.tb P = s.tb P := by
    refine list_ext (by simp [Nv.tb]) fun i hi => ?_
    rw [Nv.tb_length] at hi
    rw [Nv.tb_getD _ hi, Nv.tb_getD _ hi, h, upd_other _ _ (by omega)]
  exact ⟨et, fun b => by unfold th thold; rw [et]; exact hold_same eb hh _, eb, by rw [h]; rfl, by rw [h]; rfl, e0⟩
theorem GOk.like {s s' : Nv} {n P : Nat} (g : GOk s n P) (ok : s'.Ok) (hn : s'.n = s.n) (ht : s'.tb P = s.tb P) (h0 : s'.rg 0 = s.rg 0) : GOk s' n P := by
  have et : tm s' = tm s := by unfold tm; rw [h0]
  exact ⟨ok, hn.trans g.nn, g.pp, by rw [ht]; exact g.may, by rw [h0, et]; exact g.r0, by rw [et]; exact g.m⟩
end Go.Proofs.Ytjghhcbiaklomaa

/-
  Slices of any type of elements, in any program: how they read, how they came in, those of a call's own, append onto them, stores into them.
-/
namespace Go.Proofs.Ytjghhcbiaklomaa
set_option maxRecDepth 100000
open Go.ChangeShapes Go.WideShapes Go.ChangeAt Go.RowKit

/-- a type of slices in a program: its elements as cells -/
structure Elm (P : Program) (α : Type) [Inhabited α] where
  t : TypeId
  e : TypeId
  size : Nat
  bytes : Nat
  z : Value
  enc : α → List Value
  ok : α → Prop
  ht : P.underlying t = some (.slice e)
  hi : (P.info? e).map (fun i => (i.zero, i.size, i.bytes)) = some (some z, size, bytes)
  hzs : z.cells.size = size
  pos : 0 < size
  bpos : 0 < bytes
  len : ∀ a, ok a → (enc a).length = size
  one : ∀ a, ok a → ∀ u ∈ enc a, u.oneCell' = true

section
variable {P : Program} {α : Type} [Inhabited α]

def AllOk (E : Elm P α) (l : List α) : Prop := ∀ x ∈ l, E.ok x
theorem AllOk.at_ {E : Elm P α} {l : List α} (h : AllOk E l) {k : Nat} (hk : k < l.length) : E.ok (l.getD k default) := h _ (by
  rw [List.getD_eq_getElem?_getD, List.getElem?_eq_getElem hk]; exact List.getElem_mem hk)
theorem flat_length (E : Elm P α) : ∀ (l : List α), AllOk E l → (l.flatMap E.enc).length = l.length * E.size
  | [], _ => by simp
  | x :: l, h => by
    rw [List.flatMap_cons, List.length_append, flat_length E l (fun y hy => h y (List.mem_cons_of_mem _ hy)), E.len x (h x (List.mem_cons_self ..)), List.length_cons, Nat.add_mul, Nat.one_mul, Nat.add_comm]
theorem flat_get (E : Elm P α) : ∀ (l : List α), AllOk E l → ∀ (k j : Nat), k < l.length → j < E.size → (l.flatMap E.enc)[k * E.size + j]? = (E.enc (l.getD k default))[j]?
  | [], _, k, _, hk, _ => by simp at hk
  | x :: l, h, 0, j, _, hj => by
    rw [List.flatMap_cons, Nat.zero_mul, Nat.zero_add, List.getElem?_append_left (by rw [E.len x (h x (List.mem_cons_self ..))]; exact hj)]
    rfl
  | x :: l, h, k + 1, j, hk, hj => by
    have hx := E.len x (h x (List.mem_cons_self ..))
    rw [List.flatMap_cons, List.getElem?_append_right (by rw [hx, Nat.add_mul]; omega), hx]
    have e : (k + 1) * E.size + j - E.size = k * E.size + j := by rw [Nat.add_mul]; omega
    rw [e, flat_get E l (fun y hy => h y (List.mem_cons_of_mem _ hy)) k j (by simpa using hk) hj]
    rfl
theorem flat_one (E : Elm P α) {l : List α} (h : AllOk E l) : ∀ u ∈ l.flatMap E.enc, u.oneCell' = true := by
  intro u hu
  obtain ⟨x, hx, hu⟩ := List.mem_flatMap.1 hu
  exact E.one x (h x hx) u hu
theorem flat_ext (E : Elm P α) {l : List α} (h : AllOk E l) {ys : List Value} (hl : ys.length = l.length * E.size) (hy : ∀ k j, k < l.length → j < E.size → ys[k * E.size + j]? = (E.enc (l.getD k default))[j]?) : ys = l.flatMap E.enc := by
  refine List.ext_getElem? fun q => ?_
  have hp := E.pos
  by_cases hq : q < l.length * E.size
  · have hk : q / E.size < l.length := Nat.div_lt_of_lt_mul (by rw [Nat.mul_comm]; exact hq)
    have hj := Nat.mod_lt q hp
    have e : q / E.size * E.size + q % E.size = q := Nat.div_add_mod' q E.size
    rw [← e, hy _ _ hk hj, flat_get E l h _ _ hk hj]
  · rw [List.getElem?_eq_none (by omega), List.getElem?_eq_none (by rw [flat_length E l h]; omega)]

/-- a slice that can be read: it holds l -/
def RA (E : Elm P α) (w : World) (v : Value) (l : List α) : Prop :=
  ∃ p cap, v = .slice p l.length cap ∧ l.length ≤ cap ∧ cap ≤ maxLen ∧ AllOk E l ∧ (l = [] ∨ ∃ b off, p = some ⟨b, off, none⟩ ∧ b < w.heap.size ∧ w.rangeAt b off (l.flatMap E.enc))
theorem ra_below {E : Elm P α} {w w' : World} {v : Value} {l : List α} (h : RA E w v l) (hb : Below w.heap.size w w') : RA E w' v l := by
  obtain ⟨p, cap, rfl, h1, h2, h3, h | ⟨b, off, rfl, hlt, hc⟩⟩ := h
  · exact ⟨p, cap, rfl, h1, h2, h3, .inl h⟩
  · exact ⟨_, cap, rfl, h1, h2, h3, .inr ⟨b, off, rfl, Nat.lt_of_lt_of_le hlt hb.size, fun j u hj => (hb.cell (p := ⟨b, off + j, none⟩) hlt).trans (hc j u hj)⟩⟩
theorem ra_chg {E : Elm P α} {D : List Nat} {w w' : World} {v : Value} {l : List α} (h : RA E w v l) (hc : Chg D w w') (hD : ∀ g, v.ownBlock = some g → g ∉ D) : RA E w' v l := by
  obtain ⟨p, cap, rfl, h1, h2, h3, h | ⟨b, off, rfl, hlt, hr⟩⟩ := h
  · exact ⟨p, cap, rfl, h1, h2, h3, .inl h⟩
  · refine ⟨_, cap, rfl, h1, h2, h3, .inr ⟨b, off, rfl, Nat.lt_of_lt_of_le hlt hc.size, fun j u hj => ?_⟩⟩
    have e := hc.block b hlt (hD b rfl)
    rw [← hr j u hj]
    simp only [World.cell?, e]
theorem ra_shape {E : Elm P α} {w : World} {v : Value} {l : List α} (h : RA E w v l) : ∃ p cap, v = .slice p l.length cap ∧ l.length ≤ cap ∧ cap ≤ maxLen := by
  obtain ⟨p, cap, e, h1, h2, _⟩ := h
  exact ⟨p, cap, e, h1, h2⟩
theorem ra_ok {E : Elm P α} {w : World} {v : Value} {l : List α} (h : RA E w v l) : AllOk E l := by obtain ⟨_, _, _, _, _, h, _⟩ := h; exact h
theorem ra_nil (E : Elm P α) (w : World) : RA E w (.slice none 0 0) [] := ⟨none, 0, rfl, Nat.le_refl _, Nat.zero_le _, (fun _ h => by cases h), .inl rfl⟩
/-- its k-th element -/
theorem ra_at {E : Elm P α} {w : World} {p : Option Addr} {n cap : Nat} {l : List α} (h : RA E w (.slice p n cap) l) (h0 : 0 < l.length) :
    ∃ b off, p = some ⟨b, off, none⟩ ∧ b < w.heap.size ∧ ∀ k, k < l.length → w.rangeAt b (off + k * E.size) (E.enc (l.getD k default)) := by
  obtain ⟨q, c, e, _, _, hok, rfl | ⟨b, off, rfl, hb, hr⟩⟩ := h
  · simp at h0
  · cases e
    refine ⟨b, off, rfl, hb, fun k hk j u hj => ?_⟩
    have hj' : j < E.size := by rw [← E.len _ (hok.at_ hk)]; exact (List.getElem?_eq_some_iff.1 hj).1
    have := hr (k * E.size + j) u (by rw [flat_get E l hok k j hk hj']; exact hj)
    rwa [← Nat.add_assoc] at this
/-- its head, its tail: a slice of it -/
theorem ra_take {E : Elm P α} {w : World} {p : Option Addr} {n cap : Nat} {l : List α} (h : RA E w (.slice p n cap) l) (k : Nat) : RA E w (.slice p (min k l.length) cap) (l.take k) := by
  obtain ⟨q, c, e, h1, h2, hok, hr⟩ := h
  cases e
  refine ⟨_, _, by rw [List.length_take], by rw [List.length_take]; omega, h2, fun x hx => hok x (List.mem_of_mem_take hx), ?_⟩
  rcases hr with rfl | ⟨b, off, rfl, hb, hr⟩
  · exact .inl (by simp)
  · refine .inr ⟨b, off, rfl, hb, fun j u hj => hr j u ?_⟩
    rw [← List.take_append_drop k l, List.flatMap_append]
    rw [List.getElem?_append_left (List.getElem?_eq_some_iff.1 hj).1]; exact hj

/-- one that came in -/
theorem elems_in {H : Type} {enc : TypeId × Value → H} {W : World} {n0 : Nat} {sp : Nat → Bool} {held : Bool} {cs : List Value} {x : DataW H × List MemPlace} (E : Elm P α)
    (hf : DataW.trod enc P W 0 sp held n0 E.t cs = some x) (hin : ∀ (n : Nat) (c : List Value) y, DataW.trod enc P W 0 sp held n E.e c = some y → c.length = E.size → ∃ a, c = E.enc a ∧ E.ok a) :
    ∃ (v : Value) (l : List α), cs = [v] ∧ RA E W v l := by
  obtain ⟨i0, hi0, _, hs0, _⟩ := info_parts E.hi
  have hce : P.cellsOf E.e = E.size := by unfold Program.cellsOf; rw [hi0]; exact hs0
  rcases Go.Deep.open_slice E.ht hf with ⟨hcs, _⟩ | ⟨a, vl, vc, m, n, D, Pl, hcs, _, hl, hm, hmm, hdx, hx⟩
  · exact ⟨_, [], hcs, ra_nil E W⟩
  · have hle : vl ≤ m := by rw [hmm]; split <;> omega
    rw [hce] at hx
    have pick : ∀ i, ∃ c : α, i < vl → W.cells? 0 (a.add (i * E.size)) E.size = some (E.enc c) ∧ E.ok c := by
      intro i
      by_cases hi : i < vl
      · obtain ⟨cs', h1, h2⟩ := hx i (by omega)
        obtain ⟨c, rfl, hw⟩ := hin _ _ _ h2 (World.cells?_some h1).2.1
        exact ⟨c, fun _ => ⟨h1, hw⟩⟩
      · exact ⟨default, fun h => absurd h hi⟩
    obtain ⟨f, hfp⟩ := Classical.axiomOfChoice pick
    have hgd : ∀ k, k < vl → ((List.range vl).map f).getD k default = f k := fun k hk => by simp [hk]
    have hok : AllOk E ((List.range vl).map f) := fun y hy => by
      obtain ⟨i, hi, rfl⟩ := List.mem_map.1 hy
      exact (hfp i (List.mem_range.1 hi)).2
    by_cases h0 : vl = 0
    · subst h0
      exact ⟨_, [], hcs, some a, vc, rfl, Nat.zero_le _, hm, (fun _ h => by cases h), .inl rfl⟩
    · obtain ⟨b, off, spot⟩ := a
      have hpos := E.pos
      have e0 := (World.cells?_some (hfp 0 (by omega)).1).2.2 0 hpos
      rw [List.getElem?_eq_getElem (by rw [E.len _ (hfp 0 (by omega)).2]; exact hpos)] at e0
      have hspot : spot = none := by
        have := World.cell?_spot e0
        simpa [Addr.add] using this
      subst hspot
      refine ⟨_, (List.range vl).map f, hcs, _, vc, by simp, by simpa using hl, hm, hok, .inr ⟨b, off, rfl, ?_, fun q u hq => ?_⟩⟩
      · simpa [Addr.add] using World.block_lt_of_cell? W _ e0
      · have hql : q < vl * E.size := by
          have := (List.getElem?_eq_some_iff.1 hq).1
          rw [flat_length E _ hok] at this
          simpa using this
        have hk : q / E.size < vl := Nat.div_lt_of_lt_mul (by rw [Nat.mul_comm]; exact hql)
        have hj := Nat.mod_lt q hpos
        have e : q / E.size * E.size + q % E.size = q := Nat.div_add_mod' q E.size
        rw [← e, flat_get E _ hok _ _ (by simpa using hk) hj, hgd _ hk] at hq
        obtain ⟨_, _, hcell⟩ := World.cells?_some (hfp _ hk).1
        have := hcell _ hj
        rw [hq, add_plain, add_plain] at this
        rw [← e, ← Nat.add_assoc]; exact this

/-- of a call's own -/
def OwnA (E : Elm P α) (B : Nat) (w : World) (v : Value) (l : List α) : Prop := w.ownsRow B E.e E.size v l.length (l.flatMap E.enc) ∧ AllOk E l
theorem OwnA.ra {E : Elm P α} {B : Nat} {w : World} {v : Value} {l : List α} (h : OwnA E B w v l) : RA E w v l := by
  obtain ⟨h, hok⟩ := h
  have h' := h
  obtain ⟨_, ⟨rfl, h0⟩ | ⟨g, cap, cur, rfl, _, hg, h1, h2, _⟩⟩ := h
  · rw [List.eq_nil_of_length_eq_zero h0]; exact ra_nil E w
  · refine ⟨_, cap, rfl, h1, h2, hok, .inr ⟨g, 0, rfl, (Array.getElem?_eq_some_iff.1 hg).1, fun j u hj => ?_⟩⟩
    have := h'.cells (g := g) rfl j u hj
    have e : (⟨g, 0, none⟩ : Addr).add j = ⟨g, 0 + j, none⟩ := Go.WideShapes.add_plain ..
    rw [e] at this; exact this
theorem OwnA.shape {E : Elm P α} {B : Nat} {w : World} {v : Value} {l : List α} (h : OwnA E B w v l) : ∃ p c, v = .slice p l.length c ∧ l.length ≤ c ∧ c ≤ maxLen := ra_shape h.ra
theorem OwnA.block {E : Elm P α} {B : Nat} {w : World} {v : Value} {l : List α} (h : OwnA E B w v l) (h0 : 0 < l.length) : ∃ g c, v = .slice (some ⟨g, 0, none⟩) l.length c ∧ B ≤ g ∧ g < w.heap.size ∧ l.length ≤ c ∧ c ≤ maxLen := by
  obtain ⟨⟨_, ⟨rfl, h1⟩ | ⟨g, cap, cur, rfl, hb, hg, h1, h2, _⟩⟩, _⟩ := h
  · omega
  · exact ⟨g, cap, rfl, hb, (Array.getElem?_eq_some_iff.1 hg).1, h1, h2⟩
theorem OwnA.below {E : Elm P α} {B : Nat} {w w' : World} {v : Value} {l : List α} (h : OwnA E B w v l) (hb : Below w.heap.size w w') : OwnA E B w' v l := by
  refine ⟨⟨h.1.1, h.1.2.imp id ?_⟩, h.2⟩
  rintro ⟨g, cap, cur, hv, h1, hg, r⟩
  exact ⟨g, cap, cur, hv, h1, (hb.block g (Array.getElem?_eq_some_iff.1 hg).1).trans hg, r⟩
theorem OwnA.chg {E : Elm P α} {D : List Nat} {B : Nat} {w w' : World} {v : Value} {l : List α} (h : OwnA E B w v l) (hc : Chg D w w') (hD : ∀ g, v.ownBlock = some g → g ∉ D) : OwnA E B w' v l := by
  refine ⟨⟨h.1.1, h.1.2.imp id ?_⟩, h.2⟩
  rintro ⟨g, cap, cur, hv, h1, hg, r⟩
  subst hv
  exact ⟨g, cap, cur, rfl, h1, (hc.block g (Array.getElem?_eq_some_iff.1 hg).1 (hD g rfl)).trans hg, r⟩
theorem OwnA.mono {E : Elm P α} {B B' : Nat} {w : World} {v : Value} {l : List α} (h : OwnA E B w v l) (hb : B' ≤ B) : OwnA E B' w v l :=
  ⟨⟨h.1.1, h.1.2.imp id fun ⟨g, cap, cur, hv, hg, r⟩ => ⟨g, cap, cur, hv, Nat.le_trans hb hg, r⟩⟩, h.2⟩
theorem own_nil_a (E : Elm P α) (B : Nat) (w : World) : OwnA E B w (.slice none 0 0) [] := ⟨World.ownsRow_nil _ _ _ _, fun _ h => by cases h⟩
theorem own_lit_a (E : Elm P α) (w : World) {l : List α} (hok : AllOk E l) (hl : l.length ≤ maxLen) : OwnA E w.heap.size (w.alloc (.cells (l.flatMap E.enc).toArray E.e)) (.slice (some ⟨w.heap.size, 0, none⟩) l.length l.length) l := by
  have h := World.ownsRow_lit (e := E.e) (size := E.size) (base := w.heap.size) w (l.flatMap E.enc).toArray l.length (Nat.le_refl _) hl (by simpa using flat_length E l hok)
  exact ⟨by simpa using h, hok⟩
theorem made_flat (E : Elm P α) {n : Nat} {x : α} (hx : E.ok x) (hz : E.enc x = E.z.cells.toList) : (madeCells E.z.cells (n * E.size)).toList = (List.replicate n x).flatMap E.enc := by
  have hok : AllOk E (List.replicate n x) := fun y hy => by rw [(List.mem_replicate.1 hy).2]; exact hx
  refine flat_ext E hok (by simp [madeCells]) fun k j hk hj => ?_
  have hk' : k < n := by simpa using hk
  have hlt : k * E.size + j < n * E.size := by
    have : (k + 1) * E.size ≤ n * E.size := Nat.mul_le_mul_right _ hk'
    rw [Nat.add_mul] at this; omega
  have em : (k * E.size + j) % E.size = j := by rw [Nat.add_comm, Nat.add_mul_mod_self_right]; exact Nat.mod_eq_of_lt hj
  have hjz : j < E.z.cells.size := by rw [E.hzs]; exact hj
  have eg : (List.replicate n x).getD k default = x := by simp [hk']
  rw [eg, hz, Array.getElem?_toList, Array.getElem?_toList, madeCells]
  rw [Array.getElem?_map, Array.getElem?_range, if_pos hlt, Option.map_some, E.hzs, em]
  rw [getElem!_pos E.z.cells j hjz, Array.getElem?_eq_getElem hjz]
theorem own_made_a (E : Elm P α) (w : World) (n : Nat) (hn : n ≤ maxLen) {x : α} (hx : E.ok x) (hz : E.enc x = E.z.cells.toList) : OwnA E w.heap.size (w.alloc (.cells (madeCells E.z.cells (n * E.size)) E.e)) (.slice (some ⟨w.heap.size, 0, none⟩) n n) (List.replicate n x) := by
  have hok : AllOk E (List.replicate n x) := fun y hy => by rw [(List.mem_replicate.1 hy).2]; exact hx
  have e := made_flat E (n := n) hx hz
  refine ⟨⟨flat_length E _ hok, .inr ⟨w.heap.size, n, _, by simp, Nat.le_refl _, heap_alloc_new w _, by simp, hn, size_madeCells _ _, ?_⟩⟩, hok⟩
  rw [List.length_replicate, ← e, List.take_of_length_le (by rw [Array.length_toList, size_madeCells]; exact Nat.le_refl _)]

/-- a cell of an element stored -/
theorem OwnA.setCell {E : Elm P α} {B g n c : Nat} {w : World} {l : List α} (h : OwnA E B w (.slice (some ⟨g, 0, none⟩) n c) l) {k j : Nat} {x : α} {u : Value} (hk : k < l.length) (hj : j < E.size) (hx : E.ok x) (he : E.enc x = (E.enc (l.getD k default)).set j u) :
    OwnA E B (w.setCell ⟨g, k * E.size + j, none⟩ u) (.slice (some ⟨g, 0, none⟩) n c) (l.set k x) := by
  have hn : n = l.length := by
    obtain ⟨p, c', e, _⟩ := h.shape
    cases e; rfl
  subst hn
  have hs := (World.ownsRow.stored (g := g) (cap := c) h.1 (k * E.size + j) u).1
  have hok : AllOk E (l.set k x) := fun y hy => by
    rcases List.mem_or_eq_of_mem_set hy with hy | rfl
    · exact h.2 y hy
    · exact hx
  have e : (l.flatMap E.enc).set (k * E.size + j) u = (l.set k x).flatMap E.enc := by
    refine flat_ext E hok (by rw [List.length_set, List.length_set]; exact flat_length E l h.2) fun k' j' hk' hj' => ?_
    rw [List.length_set] at hk'
    rw [List.getElem?_set, flat_get E l h.2 _ _ hk' hj', flat_length E l h.2]
    have hlt : k * E.size + j < l.length * E.size := by
      have : (k + 1) * E.size ≤ l.length * E.size := Nat.mul_le_mul_right _ hk
      rw [Nat.add_mul] at this; omega
    by_cases hkk : k = k'
    · subst hkk
      have eg : (l.set k x).getD k default = x := by simp [hk]
      rw [eg, he, List.getElem?_set, E.len _ (h.2.at_ hk)]
      by_cases hjj : j = j'
      · subst hjj; rw [if_pos rfl, if_pos rfl, if_pos hlt, if_pos hj]
      · rw [if_neg (by omega), if_neg hjj]
    · have eg : (l.set k x).getD k' default = l.getD k' default := by simp [hkk]
      rw [eg, if_neg fun q => hkk ?_]
      have a := congrArg (· / E.size) q
      rw [Nat.mul_comm k, Nat.mul_comm k', Nat.mul_add_div E.pos, Nat.mul_add_div E.pos, Nat.div_eq_of_lt hj, Nat.div_eq_of_lt hj'] at a
      omega
  exact ⟨by rw [List.length_set, ← e]; exact hs, hok⟩
/-- a whole element stored -/
theorem OwnA.setElem {E : Elm P α} {B g n c : Nat} {w : World} {l : List α} (h : OwnA E B w (.slice (some ⟨g, 0, none⟩) n c) l) {k : Nat} {x : α} (hk : k < l.length) (hx : E.ok x) :
    OwnA E B (w.setCells g (k * E.size) (E.enc x)) (.slice (some ⟨g, 0, none⟩) n c) (l.set k x) := by
  have hok : AllOk E (l.set k x) := fun y hy => by
    rcases List.mem_or_eq_of_mem_set hy with hy | rfl
    · exact h.2 y hy
    · exact hx
  obtain ⟨⟨hl, h0 | ⟨g', cap, cur, e, hb, hg, hnc, hcm, hsz, htk⟩⟩, hal⟩ := h
  · cases h0.1
  cases e
  have hl2 := E.len x hx
  obtain ⟨cur', w1, w2, w3⟩ := Whole.setCells (E.enc x) (k * E.size) w cur (show Whole w g E.e cur from hg)
  have hlt : (k + 1) * E.size ≤ l.length * E.size := Nat.mul_le_mul_right _ hk
  have hcap : l.length * E.size ≤ c * E.size := Nat.mul_le_mul_right _ hnc
  have hcur : cur'.toList.length = c * E.size := by rw [Array.length_toList, w2, hsz]
  rw [Nat.add_mul] at hlt
  refine ⟨⟨by rw [flat_length E _ hok], .inr ⟨g, c, cur', by rw [List.length_set], hb, w1, by rw [List.length_set]; exact hnc, hcm, by rw [w2]; exact hsz, ?_⟩⟩, hok⟩
  rw [List.length_set]
  refine flat_ext E hok (by rw [List.length_take, hcur, List.length_set]; omega) fun k' j' hk' hj' => ?_
  rw [List.length_set] at hk'
  have hlt' : (k' + 1) * E.size ≤ l.length * E.size := Nat.mul_le_mul_right _ hk'
  rw [Nat.add_mul] at hlt'
  rw [List.getElem?_take, if_pos (by omega), Array.getElem?_toList, w3, hl2]
  by_cases hkk : k = k'
  · subst hkk
    rw [if_pos (by omega)]
    have eg : (l.set k x).getD k default = x := by simp [hk]
    rw [eg, show k * E.size + j' - k * E.size = j' by omega]
  · have eg : (l.set k x).getD k' default = l.getD k' default := by simp [hkk]
    have hap : ¬ (k * E.size ≤ k' * E.size + j' ∧ k' * E.size + j' < k * E.size + E.size ∧ k' * E.size + j' < cur.size) := by
      intro q
      rcases Nat.lt_or_gt_of_ne hkk with h1 | h1
      · have : (k + 1) * E.size ≤ k' * E.size := Nat.mul_le_mul_right _ h1
        rw [Nat.add_mul] at this; omega
      · have : (k' + 1) * E.size ≤ k * E.size := Nat.mul_le_mul_right _ h1
        rw [Nat.add_mul] at this; omega
    rw [if_neg hap, eg, ← flat_get E l hal _ _ hk' hj', ← htk, List.getElem?_take, if_pos (by omega), Array.getElem?_toList]
theorem OwnA.free {E : Elm P α} {B g n c : Nat} {w : World} {l : List α} (h : OwnA E B w (.slice (some ⟨g, 0, none⟩) n c) l) (j : Nat) : w.frozen? ⟨g, j, none⟩ = false := by
  have hn : n = l.length := by
    obtain ⟨p, c', e, _⟩ := h.shape
    cases e; rfl
  subst hn
  exact World.ownsRow.frozenAt (g := g) (cap := c) h.1 j

/-- append -/
theorem run_app_nil {P : Program} (w : World) (base : Nat) (t ty e : TypeId) (i : TypeInfo) (size : Nat) (ht : P.underlying t = some (.slice e)) (hi : P.info? e = some i)
    (v : Value) (n : Nat) (xs : List Value) (hown : w.ownsRow base e size v n xs) (c : Nat) : (Builtin.append_ #[t, t] ty #[v, .slice none 0 c]).run P w = .ok v w := by
  obtain ⟨_, ⟨rfl, rfl⟩ | ⟨g, cap, cur, rfl, _, _, hc, _⟩⟩ := hown <;> simp [Builtin.append_, run_underlying ht, sizeOf, typeInfo, Builtin.lenOf, Builtin.firstCells, storeCells, *]
theorem run_app (E : Elm P α) (B : Nat) (v : Value) (l : List α) (w : World) (hown : OwnA E B w v l) (u : Value) (r : List α) (hr : RA E w u r) (hlen : (l.length + r.length) * E.bytes ≤ 140737488355328) (hB : B ≤ w.heap.size) (ty : TypeId) :
    ∃ v' w', (Builtin.append_ #[E.t, E.t] ty #[v, u]).run P w = .ok v' w' ∧ OwnA E B w' v' (l ++ r) ∧ w.grownBy w' v.ownBlock ∧ (v'.ownBlock = v.ownBlock ∨ v'.ownBlock = some w.heap.size) := by
  obtain ⟨i0, hi, hz0, hz1, hz2⟩ := info_parts E.hi
  obtain ⟨A, c, rfl, h1, h2, hok, h3⟩ := hr
  have hok2 : AllOk E (l ++ r) := fun x hx => (List.mem_append.1 hx).elim (hown.2 x) (hok x)
  have fin : ∀ w' v', w'.ownsRow B E.e E.size v' (l.length + r.length) (l.flatMap E.enc ++ r.flatMap E.enc) → OwnA E B w' v' (l ++ r) := fun w' v' h =>
    ⟨by rw [List.length_append, List.flatMap_append]; exact h, hok2⟩
  cases A with
  | none =>
    have hr0 : r = [] := by
      rcases h3 with h3 | ⟨b, off, h, _⟩
      · exact h3
      · cases h
    subst hr0
    exact ⟨v, w, run_app_nil w B _ ty _ i0 E.size E.ht hi v _ _ hown.1 c, by simpa using hown, World.grownBy.refl w _, .inl rfl⟩
  | some ad =>
    have hc : ∀ j u, (r.flatMap E.enc)[j]? = some u → w.cell? (ad.add j) = some u := by
      intro j u hu
      rcases h3 with h3 | ⟨b, off, h, _, hc⟩
      · subst h3; simp at hu
      · cases h
        have e : (⟨b, off, none⟩ : Addr).add j = ⟨b, off + j, none⟩ := Go.WideShapes.add_plain ..
        rw [e]; exact hc j u hu
    have hbb : l.length + r.length ≤ (l.length + r.length) * E.bytes := Nat.le_mul_of_pos_right _ E.bpos
    obtain ⟨v', w', hrun, g1, g2, _, g4⟩ := run_append_own_at (P := P) w B E.t ty E.e i0 E.z E.size E.bytes E.ht hi hz0 hz1 hz2 E.hzs E.pos v l.length (l.flatMap E.enc) hown.1 ad r.length c (r.flatMap E.enc) (flat_length E r hok) hc (flat_one E hok) (by unfold maxLen; omega) hlen hB
    exact ⟨v', w', hrun, fin _ _ g1, g2, g4⟩
variable {ops : Array Oper} {rest : List Oper} {o : Oper} {a : Act} {w : World} {Q : Exit → Act → World → Prop} {K : Act → World → Prop}
theorem wp_app (E : Elm P α) (s x : Operand) (ho : o.op = .call { callee := .builtin .append, args := #[s, x], argTypes := #[E.t, E.t] }) (B : Nat) (v : Value) (l : List α) (hs : a.eval s = v) (hown : OwnA E B w v l)
    (u : Value) (r : List α) (hx : a.eval x = u) (hr : RA E w u r) (hlen : (l.length + r.length) * E.bytes ≤ 140737488355328) (hB : B ≤ w.heap.size)
    (h : ∀ v' w', OwnA E B w' v' (l ++ r) → w.grownBy w' v.ownBlock → (v'.ownBlock = v.ownBlock ∨ v'.ownBlock = some w.heap.size) → K (a.put o.dst v') w') : o.wp P a w K Q := by
  obtain ⟨v', w', hrun, h2, h3, h4⟩ := run_app E B v l w hown u r hr hlen hB o.type
  unfold Oper.wp execOp
  simp only [ho, resolve, invoke, builtin, Sem.run_bind, Sem.run_pure, Result.andThen_ok, List.map_toArray, List.map_cons, List.map_nil, hs, hx, hrun]
  exact h v' w' h2 h3 h4
theorem list_app (E : Elm P α) (hgd : o.guard = none) (s x : Operand) (ho : o.op = .call { callee := .builtin .append, args := #[s, x], argTypes := #[E.t, E.t] }) (B : Nat) (v : Value) (l : List α) (hs : a.eval s = v) (hown : OwnA E B w v l)
    (u : Value) (r : List α) (hx : a.eval x = u) (hr : RA E w u r) (hlen : (l.length + r.length) * E.bytes ≤ 140737488355328) (hB : B ≤ w.heap.size)
    (h : ∀ v' w', OwnA E B w' v' (l ++ r) → w.grownBy w' v.ownBlock → (v'.ownBlock = v.ownBlock ∨ v'.ownBlock = some w.heap.size) → wpList P ops Q rest (a.put o.dst v') w') : wpList P ops Q (o :: rest) a w :=
  wpList_plain hgd fun _ hK => wp_app E s x ho B v l hs hown u r hx hr hlen hB fun v' w' h2 h3 h4 => hK _ _ (h v' w' h2 h3 h4)
theorem step_app (E : Elm P α) {F : Prop} (hgd : o.guard = none) (s x : Operand) (ho : o.op = .call { callee := .builtin .append, args := #[s, x], argTypes := #[E.t, E.t] }) (B : Nat) (v : Value) (l : List α) (hs : a.eval s = v) (hown : OwnA E B w v l)
    (u : Value) (r : List α) (hx : a.eval x = u) (hr : RA E w u r) (hlen : (l.length + r.length) * E.bytes ≤ 140737488355328) (hB : B ≤ w.heap.size)
    (h : ∀ v' w', OwnA E B w' v' (l ++ r) → w.grownBy w' v.ownBlock → (v'.ownBlock = v.ownBlock ∨ v'.ownBlock = some w.heap.size) → K (a.put o.dst v') w') : if Region.wanted o (yielded ops a.tmps) = true then o.wp P a w K Q else F := by
  rw [if_pos (by simp [Region.wanted, hgd])]
  exact wp_app E s x ho B v l hs hown u r hx hr hlen hB h
theorem OwnA.kept {E : Elm P α} {B : Nat} {w w' : World} {v : Value} {l : List α} {row : Option Nat} (h : OwnA E B w v l) (hg : w.grownBy w' row) (hne : v.ownBlock = none ∨ v.ownBlock ≠ row) : OwnA E B w' v l := ⟨h.1.kept hg hne, h.2⟩
theorem OwnA.lt {E : Elm P α} {B : Nat} {w : World} {v : Value} {l : List α} (h : OwnA E B w v l) : ∀ k, v.ownBlock = some k → B ≤ k ∧ k < w.heap.size := World.ownsRow.lt h.1
theorem OwnA.drew {E : Elm P α} {B : Nat} {w : World} {v : Value} {l : List α} (h : OwnA E B w v l) : OwnA E B w.drew v l := h
theorem OwnA.alloc {E : Elm P α} {B : Nat} {w : World} {v : Value} {l : List α} (h : OwnA E B w v l) (o : Obj) : OwnA E B (w.alloc o) v l := ⟨h.1.alloc o, h.2⟩
theorem below_app {E : Elm P α} {B : Nat} {w w1 w2 : World} {v : Value} {l : List α} (h : Below B w w1) (hB : B ≤ w1.heap.size) (ho : OwnA E B w1 v l) (hg : w1.grownBy w2 v.ownBlock) : Below B w w2 := h.grown hg hB (fun k hk => (ho.lt k hk).1)

/-- slices in a slice -/
def RAs (E : Elm P α) (R : Elm P Value) (w : World) (v : Value) (l : List (List α)) : Prop := ∃ vs, RA R w v vs ∧ vs.length = l.length ∧ ∀ k, k < l.length → RA E w (vs.getD k default) (l.getD k [])
theorem ras_below {E : Elm P α} {R : Elm P Value} {w w' : World} {v : Value} {l : List (List α)} (h : RAs E R w v l) (hb : Below w.heap.size w w') : RAs E R w' v l := by
  obtain ⟨vs, h1, h2, h3⟩ := h
  exact ⟨vs, ra_below h1 hb, h2, fun k hk => ra_below (h3 k hk) hb⟩
theorem ras_shape {E : Elm P α} {R : Elm P Value} {w : World} {v : Value} {l : List (List α)} (h : RAs E R w v l) : ∃ p cap, v = .slice p l.length cap ∧ l.length ≤ cap ∧ cap ≤ maxLen := by
  obtain ⟨vs, h1, h2, _⟩ := h
  rw [← h2]; exact ra_shape h1
/-- its k-th -/
theorem ras_at {E : Elm P α} {R : Elm P Value} {w : World} {p : Option Addr} {n cap : Nat} {l : List (List α)} (hR : R.enc = fun v => [v]) (hs : R.size = 1) (h : RAs E R w (.slice p n cap) l) (h0 : 0 < l.length) :
    ∃ b off, p = some ⟨b, off, none⟩ ∧ b < w.heap.size ∧ ∀ k, k < l.length → ∃ u, w.cell? ⟨b, off + k, none⟩ = some u ∧ RA E w u (l.getD k []) := by
  obtain ⟨vs, h1, h2, h3⟩ := h
  obtain ⟨b, off, rfl, hb, hr⟩ := ra_at h1 (by omega)
  refine ⟨b, off, rfl, hb, fun k hk => ⟨_, ?_, h3 k hk⟩⟩
  have := hr k (by omega) 0 (vs.getD k default) (by rw [hR]; rfl)
  rw [hs, Nat.mul_one, Nat.add_zero] at this
  exact this
theorem rows_in {H : Type} {enc : TypeId × Value → H} {W : World} {n0 : Nat} {sp : Nat → Bool} {held : Bool} {cs : List Value} {x : DataW H × List MemPlace} (E : Elm P α) (R : Elm P Value) (hR : R.enc = fun v => [v]) (hs : R.size = 1) (hok : ∀ v, v.oneCell' = true → R.ok v) (he : R.e = E.t)
    (hf : DataW.trod enc P W 0 sp held n0 R.t cs = some x) (hin : ∀ (n : Nat) (c : List Value) y, DataW.trod enc P W 0 sp held n E.e c = some y → c.length = E.size → ∃ a, c = E.enc a ∧ E.ok a) :
    ∃ (v : Value) (l : List (List α)), cs = [v] ∧ RAs E R W v l := by
  let R' : Elm P (Value × List α) := { t := R.t, e := R.e, size := R.size, bytes := R.bytes, z := R.z, enc := fun x => [x.1], ok := fun x => x.1.oneCell' = true ∧ RA E W x.1 x.2, ht := R.ht, hi := R.hi, hzs := R.hzs, pos := R.pos, bpos := R.bpos, len := fun a _ => by rw [hs]; rfl, one := fun a h u hu => by rw [List.mem_singleton.1 hu]; exact h.1 }
  obtain ⟨v, ls, e, p, cap, ev, h1, h2, h3, h4⟩ := elems_in R' hf (fun n c y hy hl => by
    have hy' : DataW.trod enc P W 0 sp held n E.t c = some y := by rw [← he]; exact hy
    obtain ⟨u, l, e, hr⟩ := elems_in E hy' hin
    obtain ⟨q, k, eu, _⟩ := ra_shape hr
    exact ⟨(u, l), e, by rw [eu]; rfl, hr⟩)
  have hmem : ∀ k, k < ls.length → ls.getD k default ∈ ls := fun k hk => by
    rw [List.getD_eq_getElem?_getD, List.getElem?_eq_getElem hk]; exact List.getElem_mem hk
  refine ⟨v, ls.map (·.2), e, ls.map (·.1), ⟨p, cap, by rw [List.length_map]; exact ev, by rw [List.length_map]; exact h1, h2, fun y hy => ?_, ?_⟩, by simp, fun k hk => ?_⟩
  · obtain ⟨z, hz, rfl⟩ := List.mem_map.1 hy
    exact hok _ (h3 z hz).1
  · rcases h4 with rfl | ⟨b, off, rfl, hb, hr⟩
    · exact .inl rfl
    · refine .inr ⟨b, off, rfl, hb, ?_⟩
      have ef : (ls.map (·.1)).flatMap R.enc = ls.flatMap R'.enc := by rw [hR, List.flatMap_map]
      rw [ef]; exact hr
  · have hk' : k < ls.length := by simpa using hk
    have a := (h3 _ (hmem k hk')).2
    have e1 : (ls.map (·.1)).getD k default = (ls.getD k default).1 := by simp [hk']
    have e2 : (ls.map (·.2)).getD k [] = (ls.getD k default).2 := by simp [hk']
    rw [e1, e2]; exact a
/-- how long one that came in can be -/
theorem slice_sized {H : Type} {enc : TypeId × Value → H} {W : World} {sp : Nat → Bool} {held : Bool} {t e : TypeId} {q : Option Addr} {n cap : Nat} {d : DataW H} {p : List MemPlace} {ts : List TypeId} {ds : List (DataW H)} {j : Nat}
    (ht : P.underlying t = some (.slice e)) (h : DataW.Trod enc P W 0 sp held t (.slice q n cap) d p) (htj : ts[j]? = some t) (hd : ds[j]? = some d) (hsz : (DataW.weightsEach P ts ds).all (· ≤ reachBytes) = true) : n * P.bytesOf e ≤ reachBytes := by
  obtain ⟨fuel, hf⟩ := h
  rcases Go.Deep.open_slice ht hf with ⟨hcs, _⟩ | ⟨a, vl, vc, m, k, D, Pl, hcs, _, _, _, _, hdx, _⟩
  · simp [Value.cells] at hcs
    rw [hcs.2.1, Nat.zero_mul]; exact Nat.zero_le _
  · simp [Value.cells] at hcs
    obtain ⟨_, rfl, _⟩ := hcs
    have hdd := (Prod.mk.inj hdx).1
    subst hdd
    have := sized_slice hsz htj hd ht
    simp only [List.length_map, List.length_range] at this
    exact Nat.le_trans (Nat.mul_le_mul_right _ (Nat.le_add_right _ _)) this
end
end Go.Proofs.Ytjghhcbiaklomaa

/-
  A home (a line that is to be written), by value, in a variable, in a slice, in slices of slices: how it came in, how it reads.
-/
namespace Go.Proofs.Ytjghhcbiaklomaa
set_option maxRecDepth 100000
open Go.ChangeShapes Go.WideShapes Go.ChangeAt Go.RowKit

def Hm.cells (c : Hm) : List Value := .int .i64 c.i :: c.l.map uv
def hmc (c : Hm) : Array Value := c.cells.toArray
structure Hm.Wf (c : Hm) : Prop where
  len : c.l.length = 8
  wi : (Lit.int .i64 c.i).wf = true

theorem cells_home : Try.prog.cellsOf 41 = 9 := by kernel_rfl
theorem info_home : (Try.prog.info? 41).map (·.size) = some 9 := by kernel_rfl

theorem trod_two {H : Type} {enc : TypeId × Value → H} {P : Program} {w : World} {base : Nat} {spare : Nat → Bool} {held : Bool} {t : TypeId} {f0 f1 : Field} {fuel : Nat} {cs : List Value} {x : DataW H × List MemPlace}
    (ht : P.underlying t = some (.struct #[f0, f1])) (h : DataW.trod enc P w base spare held fuel t cs = some x) :
    ∃ y0 y1 n, cs.length = P.cellsOf t ∧ DataW.trod enc P w base spare held n f0.type ((cs.drop f0.offset).take (P.cellsOf f0.type)) = some y0 ∧
      DataW.trod enc P w base spare held n f1.type ((cs.drop f1.offset).take (P.cellsOf f1.type)) = some y1 := by
  obtain ⟨xs, n, _, rfl, hl, hlen, hf⟩ := DataW.trod_struct ht h
  match xs, hlen with
  | [y0, y1], _ => exact ⟨y0, y1, n, hl, by simpa using hf 0 f0 rfl, by simpa using hf 1 f1 rfl⟩

/-- its cells that read -/
theorem home_cells {H : Type} {enc : TypeId × Value → H} {W : World} {base n : Nat} {sp : Nat → Bool} {held : Bool} {cs : List Value} {y : DataW H × List MemPlace}
    (h : DataW.trod enc Try.prog W base sp held n 41 cs = some y) : ∃ c : Hm, cs = c.cells ∧ c.Wf := by
  obtain ⟨y0, y1, k, hl, g0, g1⟩ := trod_two Try.underlying41 h
  rw [cells_home] at hl
  dsimp only at g0 g1
  rw [cells_i64] at g0
  rw [cells_line] at g1
  obtain ⟨i, e0, _, w0⟩ := DataW.trod_int Try.underlying3 g0
  obtain ⟨l, e1, l1, _⟩ := line_cells g1 (by rw [List.length_take, List.length_drop]; omega)
  refine ⟨⟨i, l⟩, ?_, ⟨l1, w0⟩⟩
  match cs, hl with
  | [c0, c1, c2, c3, c4, c5, c6, c7, c8], _ =>
    simp at e0 e1
    simp [Hm.cells, e0, ← e1]

/-- one that came in -/
theorem home_in {H : Type} {enc : TypeId × Value → H} {W : World} {base : Nat} {v : Value} {d : DataW H} {p : List MemPlace}
    (hval : Value.okWide Try.prog W .any base 41 v) (h : DataW.Trod enc Try.prog W 0 (fun _ => true) true 41 v d p) : ∃ c : Hm, v = .agg (hmc c) ∧ c.Wf := by
  obtain ⟨cs, rfl, hsz, _⟩ : ∃ cs, v = .agg cs ∧ cs.size = Try.prog.cellsOf 41 ∧ Row.okWide Try.prog W .any base 41 cs := by
    simpa [Value.okWide, Try.underlying41] using hval
  obtain ⟨fuel, hf⟩ := h
  obtain ⟨c, hc, hw⟩ := home_cells hf
  refine ⟨c, ?_, hw⟩
  have : cs.toList = c.cells := by simpa [Value.cells] using hc
  rw [hmc, ← this]

theorem Hm.cells_length {c : Hm} (h : c.l.length = 8) : c.cells.length = 9 := by simp [Hm.cells, h]
theorem hmc_one (c : Hm) : (hmc c).all (·.oneCell') = true := by
  simp [hmc, Hm.cells, uv, Value.oneCell']
/-- slices of them; slices of those -/
def homeE : Elm Try.prog Hm where
  t := 33
  e := 41
  size := 9
  bytes := 72
  z := .agg #[.int .i64 0, .int .u64 0, .int .u64 0, .int .u64 0, .int .u64 0, .int .u64 0, .int .u64 0, .int .u64 0, .int .u64 0]
  enc := Hm.cells
  ok := Hm.Wf
  ht := Try.underlying33
  hi := by kernel_rfl
  hzs := rfl
  pos := by decide
  bpos := by decide
  len := fun _ h => Hm.cells_length h.len
  one := fun a _ u hu => by
    rcases List.mem_cons.1 hu with rfl | hu
    · rfl
    · obtain ⟨y, _, rfl⟩ := List.mem_map.1 hu; rfl
theorem homes_in {H : Type} {enc : TypeId × Value → H} {W : World} {base : Nat} {v : Value} {d : DataW H} {p : List MemPlace}
    (hval : Value.okWide Try.prog W .any base 33 v) (h : DataW.Trod enc Try.prog W 0 (fun _ => true) true 33 v d p) : ∃ l : List Hm, RA homeE W v l := by
  obtain ⟨va, vl, vc, rfl⟩ := okWide_slice Try.underlying33 hval
  obtain ⟨fuel, hf⟩ := h
  obtain ⟨u, l, e, hr⟩ := elems_in homeE hf (fun _ _ _ hy _ => home_cells hy)
  have e' : Value.slice va vl vc = u := by simpa [Value.cells] using e
  exact ⟨l, by rw [e']; exact hr⟩
def rowsE : Elm Try.prog Value where
  t := 23
  e := 33
  size := 1
  bytes := 24
  z := .slice none 0 0
  enc := fun v => [v]
  ok := fun v => v.oneCell' = true
  ht := Try.underlying23
  hi := by kernel_rfl
  hzs := rfl
  pos := by decide
  bpos := by decide
  len := fun _ _ => rfl
  one := fun a h u hu => by rw [List.mem_singleton.1 hu]; exact h
theorem homess_in {H : Type} {enc : TypeId × Value → H} {W : World} {base : Nat} {v : Value} {d : DataW H} {p : List MemPlace}
    (hval : Value.okWide Try.prog W .any base 23 v) (h : DataW.Trod enc Try.prog W 0 (fun _ => true) true 23 v d p) : ∃ l : List (List Hm), RAs homeE rowsE W v l := by
  obtain ⟨va, vl, vc, rfl⟩ := okWide_slice Try.underlying23 hval
  obtain ⟨fuel, hf⟩ := h
  obtain ⟨u, l, e, hr⟩ := rows_in homeE rowsE rfl rfl (fun _ h => h) rfl hf (fun _ _ _ hy _ => home_cells hy)
  have e' : Value.slice va vl vc = u := by simpa [Value.cells] using e
  exact ⟨l, by rw [e']; exact hr⟩

theorem Hm.cells_l {c : Hm} (h : c.l.length = 8) {j : Nat} (hj : j < 8) : c.cells[1 + j]? = some (.int .u64 (c.l.getD j 0)) := by
  rw [Nat.add_comm]
  simp [Hm.cells, uv, h, hj]
@[go_sem] theorem hmc_ne (c : Hm) : (hmc c = #[]) = False := by simp [hmc, Hm.cells]
theorem hmc_size {c : Hm} (h : c.l.length = 8) : (hmc c).size = 9 := by simp [hmc, Hm.cells_length h]

/-- block g holds it -/
def Hv (w : World) (g : Nat) (c : Hm) : Prop := Whole w g 41 (hmc c) ∧ c.l.length = 8
theorem Hv.lt {w : World} {g : Nat} {c : Hm} (h : Hv w g c) : g < w.heap.size := h.1.lt
theorem Hv.below {w w' : World} {g : Nat} {c : Hm} (h : Hv w g c) (hb : Below w.heap.size w w') : Hv w' g c := ⟨(hb.block g h.1.lt).trans h.1, h.2⟩
theorem Hv.chg {D : List Nat} {w w' : World} {g : Nat} {c : Hm} (h : Hv w g c) (hb : Chg D w w') (hg : g ∉ D) : Hv w' g c := ⟨hb.whole h.1 hg, h.2⟩
theorem Hv.new (w : World) {c : Hm} (h : c.l.length = 8) : Hv (w.alloc (.cells (hmc c) 41)) w.heap.size c := ⟨heap_alloc_last w _, h⟩
theorem Hv.alloc {w : World} {g : Nat} {c : Hm} (h : Hv w g c) (o : Obj) : Hv (w.alloc o) g c := ⟨h.1.alloc o, h.2⟩
theorem Hv.at_ {w : World} {g : Nat} {c : Hm} (h : Hv w g c) (k : Nat) : w.cell? ⟨g, k, none⟩ = c.cells[k]? := by
  rw [h.1.at_]; simp [hmc]
/-- its slot -/
theorem Hv.slot {w : World} {g : Nat} {c : Hm} (h : Hv w g c) : w.cell? ⟨g, 0, none⟩ = some (.int .i64 c.i) := by rw [h.at_]; rfl
theorem Hv.free {w : World} {g : Nat} {c : Hm} (h : Hv w g c) (k : Nat) : w.frozen? ⟨g, k, none⟩ = false := h.1.free k
/-- another slot -/
theorem Hv.set_ {w : World} {g : Nat} {c : Hm} (h : Hv w g c) (x : Int) : Hv (w.setCell ⟨g, 0, none⟩ (.int .i64 x)) g ⟨x, c.l⟩ := by
  refine ⟨?_, h.2⟩
  have := h.1.set_ 0 (.int .i64 x)
  simpa [hmc, Hm.cells] using this
/-- its line -/
theorem Hv.line {w : World} {g : Nat} {c : Hm} (h : Hv w g c) : (lineLoad (.pointer (some ⟨g, 1, none⟩))).run Try.prog w = .ok (.agg (lc c.l)) w := by
  unfold lineLoad
  exact run_loadAt_mid (P := Try.prog) w g 1 39 (c.l.map uv) _ (fun j v hv => by
    have hj : j < 8 := by
      have := (List.getElem?_eq_some_iff.1 hv).1
      simpa [h.2] using this
    rw [h.at_, Hm.cells_l h.2 hj, ← hv]
    simp [uv, h.2, hj]) Try.underlying39 rfl (by rw [info_line]; simp [h.2])

/-- a whole one loaded, stored -/
def homeLoad (p : Value) : Sem Value := Instr.loadAt 41 p
def homeStore (p v : Value) : Sem Unit := Instr.storeAt 41 p v
@[go_sem ↓] theorem loadAt_home (p : Value) : Instr.loadAt 41 p = homeLoad p := rfl
@[go_sem ↓] theorem storeAt_home (p v : Value) : Instr.storeAt 41 p v = homeStore p v := rfl
theorem run_homeLoad {w : World} {b o : Nat} {c : Hm} (h : w.rangeAt b o c.cells) (hl : c.l.length = 8) : (homeLoad (.pointer (some ⟨b, o, none⟩))).run Try.prog w = .ok (.agg (hmc c)) w :=
  run_loadAt_mid (P := Try.prog) w b o 41 c.cells _ h Try.underlying41 rfl (by rw [info_home, Hm.cells_length hl])
theorem run_homeStore (w : World) {z : Array Value} (hz : z.size = 9) {c : Hm} (hl : c.l.length = 8) :
    (homeStore (.pointer (some ⟨w.heap.size, 0, none⟩)) (.agg (hmc c))).run Try.prog (w.alloc (.cells z 41)) = .ok () (w.alloc (.cells (hmc c) 41)) := by
  unfold homeStore
  simp only [Instr.storeAt, Instr.sureAddr, Sem.run_bind, Sem.run_pure, Result.andThen]
  rw [run_storeVar_row _ _ 41 41 z (hmc c) (heap_alloc_last w _) (by rw [info_home, hmc_size hl]) (by rw [hz, hmc_size hl]) (hmc_one c), World.setRow_alloc_new]
@[go_sem] theorem home_store_new (w : World) (c : Hm) (hl : c.l.length = 8) :
    (homeStore (.pointer (some ⟨w.heap.size, 0, none⟩)) (.agg (hmc c))).run Try.prog (w.alloc (.cells #[.int .i64 0, .int .u64 0, .int .u64 0, .int .u64 0, .int .u64 0, .int .u64 0, .int .u64 0, .int .u64 0, .int .u64 0] 41)) = .ok () (w.alloc (.cells (hmc c) 41)) :=
  run_homeStore w rfl hl
/-- the k-th of a slice: loaded whole; its slot, its line -/
theorem home_at {w : World} {p : Option Addr} {n cap : Nat} {l : List Hm} (h : RA homeE w (.slice p n cap) l) (h0 : 0 < l.length) :
    ∃ b off, p = some ⟨b, off, none⟩ ∧ b < w.heap.size ∧ ∀ k, k < l.length → (homeLoad (.pointer (some ⟨b, off + k * 9, none⟩))).run Try.prog w = .ok (.agg (hmc (l.getD k default))) w ∧ w.cell? ⟨b, off + k * 9, none⟩ = some (.int .i64 (l.getD k default).i) ∧
      (lineLoad (.pointer (some ⟨b, off + k * 9 + 1, none⟩))).run Try.prog w = .ok (.agg (lc (l.getD k default).l)) w ∧ (l.getD k default).Wf := by
  obtain ⟨b, off, e, hb, hr⟩ := ra_at h h0
  refine ⟨b, off, e, hb, fun k hk => ?_⟩
  have hw : (l.getD k default).Wf := (ra_ok h).at_ hk
  have hk2 := hr k hk
  refine ⟨run_homeLoad hk2 hw.len, hk2 0 _ rfl, ?_, hw⟩
  unfold lineLoad
  exact run_loadAt_mid (P := Try.prog) w b (off + k * 9 + 1) 39 ((l.getD k default).l.map uv) _ (fun j v hv => by
    have := hk2 (1 + j) v (by rw [Nat.add_comm]; exact hv)
    rw [← Nat.add_assoc] at this; exact this) Try.underlying39 rfl (by rw [info_line, List.length_map, hw.len])

theorem bytes_home : Try.prog.bytesOf 41 = 72 := by kernel_rfl
theorem bytes_homes : Try.prog.bytesOf 33 = 24 := by kernel_rfl
theorem homes_in_sized {H : Type} {enc : TypeId × Value → H} {W : World} {base : Nat} {v : Value} {d : DataW H} {p : List MemPlace}
    (hval : Value.okWide Try.prog W .any base 33 v) (h : DataW.Trod enc Try.prog W 0 (fun _ => true) true 33 v d p) {ts : List TypeId} {ds : List (DataW H)} {j : Nat}
    (htj : ts[j]? = some 33) (hd : ds[j]? = some d) (hsz : (DataW.weightsEach Try.prog ts ds).all (· ≤ reachBytes) = true) : ∃ l : List Hm, RA homeE W v l ∧ l.length * 72 ≤ 140737488351232 := by
  obtain ⟨l, hl⟩ := homes_in hval h
  obtain ⟨q, c, rfl, _⟩ := ra_shape hl
  have := slice_sized Try.underlying33 h htj hd hsz
  rw [bytes_home] at this
  exact ⟨l, hl, Nat.le_trans this (by decide)⟩
theorem homess_in_sized {H : Type} {enc : TypeId × Value → H} {W : World} {base : Nat} {v : Value} {d : DataW H} {p : List MemPlace}
    (hval : Value.okWide Try.prog W .any base 23 v) (h : DataW.Trod enc Try.prog W 0 (fun _ => true) true 23 v d p) {ts : List TypeId} {ds : List (DataW H)} {j : Nat}
    (htj : ts[j]? = some 23) (hd : ds[j]? = some d) (hsz : (DataW.weightsEach Try.prog ts ds).all (· ≤ reachBytes) = true) : ∃ l : List (List Hm), RAs homeE rowsE W v l ∧ l.length * 24 ≤ 140737488351232 := by
  obtain ⟨l, hl⟩ := homess_in hval h
  obtain ⟨q, c, rfl, _⟩ := ras_shape hl
  have := slice_sized Try.underlying23 h htj hd hsz
  rw [bytes_homes] at this
  exact ⟨l, hl, Nat.le_trans this (by decide)⟩
end Go.Proofs.Ytjghhcbiaklomaa

/-
  Homes that may be committed: what the reference tells.
-/
namespace Go.Proofs.Ytjghhcbiaklomaa
set_option maxRecDepth 100000
open Go.RowKit

/-- the first k may be together -/
def GoodH (n : Int) (l : List Hm) (k : Nat) : Prop := ∀ i, i < k → (16 ≤ (l.getD i default).i ∧ (l.getD i default).i < n) ∧ ∀ j, j < i → (l.getD i default).i ≠ (l.getD j default).i
theorem getD_mem {α : Type} [Inhabited α] {l : List α} {k : Nat} (hk : k < l.length) : l.getD k default ∈ l := by
  rw [List.getD_eq_getElem?_getD, List.getElem?_eq_getElem hk]; exact List.getElem_mem hk
theorem mem_getD {α : Type} [Inhabited α] {l : List α} {x : α} (hx : x ∈ l) : ∃ k, k < l.length ∧ l.getD k default = x := by
  obtain ⟨k, hk, e⟩ := List.getElem_of_mem hx
  exact ⟨k, hk, by rw [List.getD_eq_getElem?_getD, List.getElem?_eq_getElem hk]; exact e⟩
theorem mayH_good {n : Int} {l : List Hm} : MayH n l ↔ 16 ≤ n ∧ 1 ≤ l.length ∧ l.length ≤ 14 ∧ GoodH n l l.length := by
  constructor
  · intro h
    refine ⟨h.n16, h.lo, h.hi, fun i hi => ⟨h.at_ _ (getD_mem hi), fun j hj e => ?_⟩⟩
    have nd := h.nd
    rw [List.nodup_iff_pairwise_ne, List.pairwise_iff_getElem] at nd
    have := nd j i (by simp; omega) (by simpa using hi) hj
    simp only [List.getElem_map] at this
    rw [List.getD_eq_getElem?_getD, List.getElem?_eq_getElem hi, List.getD_eq_getElem?_getD, List.getElem?_eq_getElem (by omega)] at e
    exact this e.symm
  · rintro ⟨h1, h2, h3, h4⟩
    refine ⟨h1, h2, h3, fun x hx => ?_, ?_⟩
    · obtain ⟨k, hk, rfl⟩ := mem_getD hx
      exact (h4 k hk).1
    · rw [List.nodup_iff_pairwise_ne, List.pairwise_iff_getElem]
      intro i j hi hj hij e
      simp only [List.getElem_map] at e
      simp only [List.length_map] at hi hj
      refine (h4 j hj).2 i hij ?_
      have ei : l.getD i default = l[i] := by rw [List.getD_eq_getElem?_getD, List.getElem?_eq_getElem hi]; rfl
      have ej : l.getD j default = l[j] := by rw [List.getD_eq_getElem?_getD, List.getElem?_eq_getElem hj]; rfl
      rw [ei, ej]; exact e.symm
theorem home_boxed (w : World) {c : Hm} (h : c.l.length = 8) : ∃ W, w.alloc (.cells (hmc c) 41) = W ∧ Hid (Hv W w.heap.size c ∧ Below w.heap.size w W) :=
  ⟨_, rfl, Lib.hid ⟨Hv.new w h, bal (Below.refl _ _)⟩⟩

set_option maxHeartbeats 1000000 in
theorem rmayh_some (n : Int) (l : List Hm) (v : Value) (r : Bool) (w : World) (hv : RA homeE w v l) (hr : r = true ↔ MayH n l) :
    Calls Try.prog 16 #[.int .i64 n, v] w fun e w' => e = .returned (.bool r) ∧ Below w.heap.size w w' := by
  have hr := hr.trans mayH_good
  obtain ⟨p, cap, rfl, hlc, hcm⟩ := ra_shape hv
  unfold maxLen at hcm
  by_cases h1 : n < 16
  · obtain rfl : r = false := by cases r; rfl; have := (hr.1 rfl).1; omega
    clear hr
    go_enter Try.func16, Try.ntmps16
    go_wp2_with fail
    go_ret
    exact ⟨rfl, Below.refl _ _⟩
  by_cases h2 : l.length < 1
  · obtain rfl : r = false := by cases r; rfl; have := (hr.1 rfl).2.1; omega
    clear hr
    have i1 : (l.length : Int) < 1 := by omega
    generalize l.length = L at *
    go_enter Try.func16, Try.ntmps16
    go_wp2_with fail
    go_ret
    exact ⟨rfl, Below.refl _ _⟩
  have i1 : ¬ (l.length : Int) < 1 := by omega
  by_cases h3 : 14 < l.length
  · obtain rfl : r = false := by cases r; rfl; have := (hr.1 rfl).2.2.1; omega
    have i2 : (l.length : Int) > 14 := by omega
    clear hr h2 h3
    generalize l.length = L at *
    go_enter Try.func16, Try.ntmps16
    go_wp2_with fail
    go_ret
    exact ⟨rfl, Below.refl _ _⟩
  have i2 : ¬ (l.length : Int) > 14 := by omega
  obtain ⟨b, off, rfl, hb, hx⟩ := home_at hv (by omega)
  have HR : Hid (r = true ↔ GoodH n l l.length) := Lib.hid ⟨fun h => (hr.1 h).2.2.2, fun h => hr.2 ⟨by omega, by omega, by omega, h⟩⟩
  have HX := Lib.hid hx
  have HC := Lib.hid hlc
  have HB := Lib.hid hb
  have HL : Hid (l.length ≤ 14) := Lib.hid (by omega)
  have HM := Lib.hid hcm
  have HV := Lib.hid hv
  clear hr hx hlc hcm hb hv h2 h3
  go_enter Try.func16, Try.ntmps16
  go_wp2
  go_loopw [23] (fun i wr => ∃ k : Nat, k ≤ l.length ∧ i = .int .i64 k ∧ Hid (GoodH n l k ∧ Below w.heap.size w wr)) (fun i _ => l.length - (intOf i).toNat)
  case atStart => exact ⟨0, Nat.zero_le _, rfl, Lib.hid ⟨fun i hi => by omega, Below.refl _ _⟩⟩
  case round =>
    obtain ⟨k, hk, rfl, H⟩ := hrel
    by_cases hlt : k < l.length
    · obtain ⟨b', off', e, _, hx⟩ := home_at (ra_below HV.out H.out.2) (by omega)
      cases e
      obtain ⟨hl, _, _, hwf⟩ := hx k hlt
      obtain ⟨x, hx0⟩ : ∃ x, l.getD k default = x := ⟨_, rfl⟩
      rw [hx0] at hl hwf
      obtain ⟨W, hW, HW⟩ := home_boxed wr hwf.len
      have c0 := HW.out.1.slot
      have hw8 := hwf.len
      have HBW := Lib.hid (below_more H.out.2 HW.out.2)
      have i0 : (0 : Int) ≤ (k : Int) := by omega
      have i3 : (k : Int) < (l.length : Int) := by omega
      have i4 : ¬ (k : Int) < 0 := by omega
      have KF : Hid (∀ i, l.getD k default = i → ((16 ≤ i.i ∧ i.i < n) ∧ ∀ j, j < k → i.i ≠ (l.getD j default).i) → GoodH n l (k + 1)) := Lib.hid (by
        rintro i rfl h j hj
        by_cases e : j = k
        · subst e; exact h
        · exact H.out.1 j (by omega))
      have KN : Hid (r = true → (16 ≤ x.i ∧ x.i < n) ∧ ∀ j, j < k → x.i ≠ (l.getD j default).i) := Lib.hid (by
        intro h; have := HR.out.1 h k hlt; rw [hx0] at this; exact this)
      have HX0 := Lib.hid hx0
      have HK := Lib.hid hlt
      clear hx hwf hx0 hk
      by_cases h16 : x.i < 16
      · obtain rfl : r = false := by cases r; rfl; have := (KN.out rfl).1; omega
        go_wp2
        go_ret
        exact ⟨rfl, HBW.out⟩
      by_cases hn : n ≤ x.i
      · obtain rfl : r = false := by cases r; rfl; have := (KN.out rfl).1; omega
        have hn' : x.i ≥ n := hn
        go_wp2
        go_ret
        exact ⟨rfl, HBW.out⟩
      have hn' : ¬ x.i ≥ n := hn
      have HXI : Hid (16 ≤ x.i ∧ x.i < n) := Lib.hid (by omega)
      have i5 : (k : Int) ≤ (cap : Int) := by have := HC.out; omega
      have i6 : ¬ (cap : Int) < (k : Int) := by omega
      obtain ⟨xi, hxi⟩ : ∃ z, x.i = z := ⟨_, rfl⟩
      rw [hxi] at c0 h16 hn hn'
      have HE := Lib.hid hxi
      have CX := Lib.hid fun (w' : World) (hb : Below W.heap.size W w') => (hb.cell (p := ⟨wr.heap.size, 0, none⟩) HW.out.1.lt).trans c0
      have LX : Hid (∀ w' : World, Below W.heap.size W w' → ∀ j, j < l.length → (homeLoad (.pointer (some ⟨b, off + j * 9, none⟩))).run Try.prog w' = .ok (.agg (hmc (l.getD j default))) w' ∧ (l.getD j default).Wf) := Lib.hid fun w' hb j hj => by
        obtain ⟨b', off', e, _, hx⟩ := home_at (ra_below (ra_below (ra_below HV.out H.out.2) HW.out.2) hb) (by omega)
        cases e
        exact ⟨(hx j hj).1, (hx j hj).2.2.2⟩
      have HG := H
      clear hxi H
      go_wp2
      go_loopw [41] (fun i wx => ∃ j : Nat, j ≤ k ∧ i = .int .i64 j ∧ Hid ((∀ q, q < j → xi ≠ (l.getD q default).i) ∧ Below W.heap.size W wx)) (fun i _ => k - (intOf i).toNat)
      case atStart => exact ⟨0, Nat.zero_le _, rfl, Lib.hid ⟨fun q hq => by omega, Below.refl _ _⟩⟩
      case round =>
        obtain ⟨j, hj, rfl, H2⟩ := hrel
        clear c0 hl hW
        have c0 := CX.out _ H2.out.2
        by_cases hjk : j < k
        · obtain ⟨hl, hwf⟩ := LX.out _ H2.out.2 j (by omega)
          obtain ⟨y, hy0⟩ : ∃ y, l.getD j default = y := ⟨_, rfl⟩
          rw [hy0] at hl hwf
          obtain ⟨Y, hY, HY⟩ := home_boxed wr hwf.len
          have hy8 := hwf.len
          have d0 := HY.out.1.slot
          have c1 := (HY.out.2.cell (p := ⟨_, 0, none⟩) (World.block_lt_of_cell? _ _ c0)).trans c0
          obtain ⟨yi, hyi⟩ : ∃ z, y.i = z := ⟨_, rfl⟩
          rw [hyi] at d0
          have m0 : (0 : Int) ≤ (j : Int) := by omega
          have m1 : (j : Int) < (k : Int) := by omega
          have m2 : ¬ (j : Int) < 0 := by omega
          have HBY := Lib.hid (below_more H2.out.2 HY.out.2)
          have EY : Hid ((l.getD j default).i = yi) := Lib.hid (by rw [hy0]; exact hyi)
          have BB := Lib.hid (below_more HBW.out HBY.out)
          have HJ := Lib.hid hjk
          have H3 := H2
          clear hwf hy0 hyi H2 hj
          by_cases hxy : xi = yi
          · obtain rfl : r = false := by cases r; rfl; exact absurd (hxy.trans EY.out.symm) (HE.out ▸ (KN.out rfl).2 j HJ.out)
            subst hxy
            go_wp2
            go_ret
            exact ⟨rfl, BB.out⟩
          · have hb0 : (xi == yi) = false := beq_eq_false_iff_ne.2 hxy
            have NX : Hid (∀ q, q < j + 1 → xi ≠ (l.getD q default).i) := Lib.hid (fun q hq => by
              by_cases e : q = j
              · subst e; rw [EY.out]; exact hxy
              · exact H3.out.1 q (by omega))
            go_wp2
            go_roundw
            case rel => exact ⟨j + 1, by have := HJ.out; omega, by go_num, Lib.hid ⟨NX.out, HBY.out⟩⟩
            case measure => have := HJ.out; simp [intOf]; omega
        · obtain rfl : j = k := by omega
          have GK : GoodH n l (j + 1) := KF.out x HX0.out ⟨HXI.out, fun q hq => by rw [HE.out]; exact H2.out.1 q hq⟩
          have HF : Hid (GoodH n l (j + 1) ∧ Below w.heap.size w wr) := Lib.hid ⟨GK, below_more HBW.out H2.out.2⟩
          clear GK
          go_wp2
          go_roundw
          case rel => exact ⟨j + 1, by have := HK.out; omega, by go_num, HF⟩
          case measure => have := HK.out; simp [intOf]; omega
    · obtain rfl : k = l.length := by omega
      obtain rfl : r = true := HR.out.2 H.out.1
      go_wp2
      go_ret
      exact ⟨rfl, H.out.2⟩
end Go.Proofs.Ytjghhcbiaklomaa

/-
  What a commit, a recover leave, whenever the power goes; what a power cut, the power leave; a memory that does not wear: in plain words.
-/
namespace Go.Proofs.Ytjghhcbiaklomaa
set_option maxRecDepth 100000

/-- where no register below the table has turned, and no line -/
theorem LgOk.like {s s' : Nv} {n P : Nat} (L : LgOk s n P) (ok : s'.Ok) (hn : s'.n = s.n) (hr : s'.rg = s.rg) (hh : s'.h = s.h) : LgOk s' n P ∧ lk s' = lk s ∧ tm s' = tm s ∧ (∀ b, th s' n P b = th s n P b) ∧ (∀ b, view s' n P b = view s n P b) := by
  have ht := Nv.tb_congr hr P
  have et : tm s' = tm s := by unfold tm; rw [hr]
  have ek : lk s' = lk s := by unfold lk; rw [hr]
  have eh : ∀ b, th s' n P b = th s n P b := fun b => by unfold th thold; rw [et]; exact hold_same ht hh _
  have ef : th s' n P = th s n P := funext eh
  have ec : com s' n P = com s n P := by unfold com; rw [ek, ef]
  refine ⟨⟨L.g.like ok hn ht (by rw [hr]), L.n17, by rw [hr, ek]; exact L.r1, by rw [ek, ec]; exact L.fo⟩, ek, et, eh, fun b => ?_⟩
  unfold view; rw [ec, ef]
theorem LgOk.power {s : Nv} {n P : Nat} (L : LgOk s n P) : LgOk s.power n P ∧ lk s.power = lk s ∧ tm s.power = tm s ∧ (∀ b, th s.power n P b = th s n P b) ∧ (∀ b, view s.power n P b = view s n P b) := L.like L.g.ok.power rfl rfl rfl
theorem LgOk.cutAt {s : Nv} {n P : Nat} (L : LgOk s n P) {k : Int} (hk : k ≤ 9223372036854775807) (m : Int) : LgOk (s.cutAt k m) n P ∧ lk (s.cutAt k m) = lk s ∧ tm (s.cutAt k m) = tm s ∧ (∀ b, th (s.cutAt k m) n P b = th s n P b) ∧ (∀ b, view (s.cutAt k m) n P b = view s n P b) := L.like (L.g.ok.cutAt hk m) rfl rfl rfl

/-- register 1 is Set -/
theorem set1 {s : Nv} {n P : Nat} (g : GOk s n P) (hd : s.dark = false) (v : Int) :
    GOk (s.set ((1 : Nat) : Int) v) n P ∧ (s.set ((1 : Nat) : Int) v).la = s.la ∧ (s.set ((1 : Nat) : Int) v).comes = s.comes ∧ tm (s.set ((1 : Nat) : Int) v) = tm s ∧ (∀ b, th (s.set ((1 : Nat) : Int) v) n P b = th s n P b) ∧ (s.set ((1 : Nat) : Int) v).rg 2 = s.rg 2 ∧ (s.set ((1 : Nat) : Int) v).c ≤ s.c + 1 ∧
    ((s.setE ((1 : Nat) : Int) = 0 ∧ (s.set ((1 : Nat) : Int) v).dark = false ∧ (s.set ((1 : Nat) : Int) v).rg 1 = v) ∨ (s.setE ((1 : Nat) : Int) = 2 ∧ s.comes = true ∧ ((s.set ((1 : Nat) : Int) v).rg 1 = v ∨ (s.set ((1 : Nat) : Int) v).rg 1 = s.rg 1))) := by
  have q1 := s.set_n ((1 : Nat) : Int) v
  have q2 := s.set_la ((1 : Nat) : Int) v
  have q3 := s.set_h ((1 : Nat) : Int) v
  have q4 := s.set_c ((1 : Nat) : Int) v
  have q5 := s.set_comes ((1 : Nat) : Int) v
  have q6 := g.ok.set ((1 : Nat) : Int) v
  have hc := set_cases hd (k := 1) (by decide) v
  generalize s.setE ((1 : Nat) : Int) = se at *
  generalize s.set ((1 : Nat) : Int) v = s2 at *
  have new : s2.rg = upd s.rg 1 v → GOk s2 n P ∧ tm s2 = tm s ∧ (∀ b, th s2 n P b = th s n P b) ∧ s2.rg 2 = s.rg 2 ∧ s2.rg 1 = v := fun h => by
    obtain ⟨a, b, c, d, e, f⟩ := set1_same (n := n) (P := P) h q3
    exact ⟨g.like q6 q1 c f, a, b, e, d⟩
  have old : s2.rg = s.rg → GOk s2 n P ∧ tm s2 = tm s ∧ (∀ b, th s2 n P b = th s n P b) ∧ s2.rg 2 = s.rg 2 ∧ s2.rg 1 = s.rg 1 := fun h => by
    have ht := Nv.tb_congr h P
    have et : tm s2 = tm s := by unfold tm; rw [h]
    exact ⟨g.like q6 q1 ht (by rw [h]), et, fun b => by unfold th thold; rw [et]; exact hold_same ht q3 _, by rw [h], by rw [h]⟩
  rcases hc with ⟨h1, h2, h3⟩ | ⟨h1, h2, _, h3 | h3⟩
  · obtain ⟨a, b, c, d, e⟩ := new h3
    exact ⟨a, q2, q5, b, c, d, q4, .inl ⟨h1, h2, e⟩⟩
  · obtain ⟨a, b, c, d, e⟩ := new h3
    exact ⟨a, q2, q5, b, c, d, q4, .inr ⟨h1, h2, .inl e⟩⟩
  · obtain ⟨a, b, c, d, e⟩ := old h3
    exact ⟨a, q2, q5, b, c, d, q4, .inr ⟨h1, h2, .inr e⟩⟩

/-- HOMES THAT ARE COMMITTED ARE PUT: nothing that is read changes -/
theorem lfin_out {s : Nv} {n P : Nat} (per p : Nat) (L : LgOk s n P) (hd : s.dark = false) (hk : lk s ≠ 0) (hm : tm s + 14 < 4611686018427387904) :
    Same s (lfin n P per p (com s n P) s).2.2 n P 15 ∧ (lfin n P per p (com s n P) s).2.1 ≤ p + 14 ∧ (∀ b, b < n → view (lfin n P per p (com s n P) s).2.2 n P b = view s n P b) ∧
    (((lfin n P per p (com s n P) s).1 = 0 ∧ (lfin n P per p (com s n P) s).2.2.dark = false) ∨ ((lfin n P per p (com s n P) s).1 = 2 ∧ s.comes = true)) := by
  have hM : MayH n (com s n P) := L.fo.resolve_left hk
  have hw := com_wide L.g.ok n P
  have hl := com_length s n P
  have hk14 : lk s ≤ 14 := by have := hM.hi; omega
  have n17 := L.n17
  unfold lfin
  obtain ⟨o, op⟩ := tputs_out (per := per) (by omega) (hmP (com s n P)) p s (hmP_pairs hM hw) L.g hd (by rw [hmP_length, hl]; omega)
  generalize tputs n P per p (hmP (com s n P)) s = R at *
  rcases R with ⟨e, p', s1⟩
  dsimp only at *
  rw [hmP_length, hl] at o op
  have ek : lk s1 = lk s := by unfold lk; rw [o.r1]
  have low : ∀ j, j < 16 → th s1 n P j = th s n P j := fun j hj => o.oth j (by omega) fun x hx => by
    obtain ⟨y, hy, rfl⟩ := List.mem_map.1 hx
    have := hM.at_ y hy
    dsimp only; omega
  have ec : com s1 n P = com s n P := by unfold com; rw [ek]; exact logD_congr hk14 low
  have ev : ∀ b, b < n → view s1 n P b = view s n P b := fun b hb => by
    unfold view; rw [ec]
    refine hv_congr fun h => o.oth b hb fun x hx => ?_
    obtain ⟨y, hy, rfl⟩ := List.mem_map.1 hx
    have h1 := hM.at_ y hy
    have h2 := h y hy
    dsimp only; omega
  have L1 : LgOk s1 n P := ⟨o.g, n17, by rw [o.r1, ek]; exact L.r1, by rw [ek, ec]; exact L.fo⟩
  have oh := o.hi
  have oc := o.c
  have S1 : Same s s1 n P 15 := ⟨L1, o.la, o.comes, o.r2, by omega, by omega⟩
  rcases o.own with ⟨rfl, d1, all⟩ | ⟨rfl, d1⟩ | ⟨rfl, c1⟩
  · rw [if_pos rfl]
    obtain ⟨a1, a2, a3, a4, a5, a6, a7, a8⟩ := set1 o.g d1 0
    generalize s1.setE ((1 : Nat) : Int) = se at *
    generalize s1.set ((1 : Nat) : Int) 0 = s2 at *
    dsimp only
    have done : s2.rg 1 = 0 → LgOk s2 n P ∧ ∀ b, b < n → view s2 n P b = view s n P b := fun h => by
      have k0 : lk s2 = 0 := by unfold lk; rw [h]; rfl
      refine ⟨⟨a1, n17, by rw [h, k0]; rfl, .inl k0⟩, fun b hb => ?_⟩
      rw [view_none k0, a5, ← ev b hb]
      rcases hv_cases (com s1 n P) (th s1 n P) b with ⟨x, hx, e1, e2⟩ | ⟨_, e2⟩
      · unfold view; rw [e2]
        have := all (x.i.toNat, x.l) (List.mem_map.2 ⟨x, by rw [← ec]; exact hx, rfl⟩)
        dsimp only at this
        rw [show x.i.toNat = b by omega] at this
        exact this
      · exact e2.symm
    have not : s2.rg 1 = s1.rg 1 → LgOk s2 n P ∧ ∀ b, b < n → view s2 n P b = view s n P b := fun h => by
      have k0 : lk s2 = lk s1 := by unfold lk; rw [h]
      have ef : th s2 n P = th s1 n P := funext a5
      have ec2 : com s2 n P = com s1 n P := by unfold com; rw [k0, ef]
      refine ⟨⟨a1, n17, by rw [h, k0]; exact L1.r1, by rw [k0, ec2]; exact L1.fo⟩, fun b hb => ?_⟩
      rw [← ev b hb]; unfold view; rw [ec2, ef]
    have fin : LgOk s2 n P → Same s s2 n P 15 := fun h => ⟨h, a2.trans o.la, a3.trans o.comes, a6.trans o.r2, by omega, by omega⟩
    rcases a8 with ⟨h1, h2, h3⟩ | ⟨h1, h2, h3 | h3⟩
    · exact ⟨fin (done h3).1, by omega, (done h3).2, .inl ⟨h1, h2⟩⟩
    · exact ⟨fin (done h3).1, by omega, (done h3).2, .inr ⟨h1, o.comes ▸ h2⟩⟩
    · exact ⟨fin (not h3).1, by omega, (not h3).2, .inr ⟨h1, o.comes ▸ h2⟩⟩
  · rw [if_neg (by decide), if_pos rfl]
    exact ⟨S1, by dsimp only; omega, ev, .inl ⟨rfl, d1⟩⟩
  · rw [if_neg (by decide), if_neg (by decide)]
    exact ⟨S1, by dsimp only; omega, ev, .inr ⟨rfl, c1⟩⟩

theorem lrec_out {s : Nv} {n P : Nat} (per p : Nat) (L : LgOk s n P) (hd : s.dark = false) (hm : tm s + 14 < 4611686018427387904) :
    Same s (lrec n P per p s).2.2 n P 15 ∧ (lrec n P per p s).2.1 ≤ p + 14 ∧ (∀ b, b < n → view (lrec n P per p s).2.2 n P b = view s n P b) ∧
    (((lrec n P per p s).1 = 0 ∧ (lrec n P per p s).2.2.dark = false) ∨ ((lrec n P per p s).1 = 2 ∧ s.comes = true)) := by
  unfold lrec
  split
  · exact ⟨⟨L, rfl, rfl, rfl, by dsimp only; omega, by dsimp only; omega⟩, by dsimp only; omega, fun _ _ => rfl, .inl ⟨rfl, hd⟩⟩
  · rename_i h; exact lfin_out per p L hd h hm

/-- A COMMIT: all its homes, or none -/
theorem lcom_out {s : Nv} {n P : Nat} {h : List Hm} (per p : Nat) (L : LgOk s n P) (hd : s.dark = false) (hk : lk s = 0) (hM : MayH n h) (hw : Wide h) (hm : tm s + 30 < 4611686018427387904) :
    Same s (lcom n P per p h s).2.2 n P 32 ∧ (lcom n P per p h s).2.1 ≤ p + 30 ∧
    (((lcom n P per p h s).1 = 0 ∧ (lcom n P per p h s).2.2.dark = false ∧ ∀ b, 16 ≤ b → b < n → view (lcom n P per p h s).2.2 n P b = hv h (view s n P) b) ∨
     ((lcom n P per p h s).1 = 3 ∧ (lcom n P per p h s).2.2.dark = false ∧ lk (lcom n P per p h s).2.2 = 0 ∧ ∀ b, 16 ≤ b → b < n → view (lcom n P per p h s).2.2 n P b = view s n P b) ∨
     ((lcom n P per p h s).1 = 2 ∧ s.comes = true ∧ ((∀ b, 16 ≤ b → b < n → view (lcom n P per p h s).2.2 n P b = view s n P b) ∨ ∀ b, 16 ≤ b → b < n → view (lcom n P per p h s).2.2 n P b = hv h (view s n P) b))) := by
  have n17 := L.n17
  have h14 := hM.hi
  have h1 := hM.lo
  unfold lcom
  obtain ⟨o, op⟩ := tputs_out (per := per) (by omega) (lgP h) p s (lgP_pairs (by omega) h14 hw) L.g hd (by rw [lgP_length]; unfold ixN; omega)
  generalize tputs n P per p (lgP h) s = R at *
  rcases R with ⟨e, p', s1⟩
  dsimp only at *
  have hl16 : (lgP h).length ≤ 16 := by rw [lgP_length]; unfold ixN; omega
  have ek : lk s1 = 0 := by unfold lk; rw [o.r1]; exact hk
  have et : ∀ b, 16 ≤ b → b < n → th s1 n P b = th s n P b := fun b h16 hb => o.oth b hb fun x hx => by have := lgP_low h14 x hx; omega
  have ev : ∀ b, 16 ≤ b → b < n → view s1 n P b = view s n P b := fun b h16 hb => by rw [view_none ek, view_none hk]; exact et b h16 hb
  have L1 : LgOk s1 n P := ⟨o.g, n17, by rw [o.r1, ek, L.r1, hk], .inl ek⟩
  have oh := o.hi
  have oc := o.c
  have S1 : Same s s1 n P 32 := ⟨L1, o.la, o.comes, o.r2, by omega, by omega⟩
  rcases o.own with ⟨rfl, d1, all⟩ | ⟨rfl, d1⟩ | ⟨rfl, c1⟩
  · rw [if_pos rfl]
    obtain ⟨a1, a2, a3, a4, a5, a6, a7, a8⟩ := set1 o.g d1 (h.length : Int)
    generalize s1.setE ((1 : Nat) : Int) = se at *
    generalize s1.set ((1 : Nat) : Int) (h.length : Int) = s2 at *
    have yes : s2.rg 1 = (h.length : Int) → lk s2 = h.length ∧ com s2 n P = h ∧ LgOk s2 n P ∧ ∀ b, 16 ≤ b → b < n → view s2 n P b = hv h (view s n P) b := fun hr => by
      have k2 : lk s2 = h.length := lk_of hr
      have ef : th s2 n P = th s1 n P := funext a5
      have ec : com s2 n P = h := by unfold com; rw [k2, ef]; exact logD_of all
      refine ⟨k2, ec, ⟨a1, n17, by rw [k2]; exact hr, .inr (by rw [ec]; exact hM)⟩, fun b h16 hb => ?_⟩
      unfold view
      rw [ec, ef]
      refine hv_congr fun _ => ?_
      rw [et b h16 hb]; exact (view_none hk n P b).symm
    have not : s2.rg 1 = s1.rg 1 → LgOk s2 n P ∧ ∀ b, 16 ≤ b → b < n → view s2 n P b = view s n P b := fun hr => by
      have k0 : lk s2 = 0 := by unfold lk at *; rw [hr]; exact ek
      refine ⟨⟨a1, n17, by rw [hr, k0, L1.r1, ek], .inl k0⟩, fun b h16 hb => ?_⟩
      rw [view_none k0, a5, ← view_none ek]; exact ev b h16 hb
    have fin : LgOk s2 n P → Same s s2 n P 17 := fun g => ⟨g, a2.trans o.la, a3.trans o.comes, a6.trans o.r2, by omega, by omega⟩
    have more : Same s s2 n P 17 → Same s s2 n P 32 := fun g => ⟨g.lg, g.la, g.comes, g.r2, by have := g.hi; omega, by have := g.c; omega⟩
    rcases a8 with ⟨q1, q2, q3⟩ | ⟨q1, q2, q3⟩
    · rw [if_pos q1]
      obtain ⟨k2, ec, L2, v2⟩ := yes q3
      have u := lfin_out per p' L2 q2 (by omega) (by omega)
      rw [ec] at u
      generalize lfin n P per p' h s2 = Q at *
      obtain ⟨u1, u2, u3, u4⟩ := u
      have f2 := fin L2
      have S3 : Same s Q.2.2 n P 32 := ⟨u1.lg, u1.la.trans f2.la, u1.comes.trans f2.comes, u1.r2.trans f2.r2, by have := u1.hi; have := f2.hi; omega, by have := u1.c; have := f2.c; omega⟩
      have v3 : ∀ b, 16 ≤ b → b < n → view Q.2.2 n P b = hv h (view s n P) b := fun b h16 hb => (u3 b hb).trans (v2 b h16 hb)
      rcases u4 with ⟨w1, w2⟩ | ⟨w1, w2⟩
      · exact ⟨S3, by omega, .inl ⟨w1, w2, v3⟩⟩
      · exact ⟨S3, by omega, .inr (.inr ⟨w1, by rw [← f2.comes]; exact w2, .inr v3⟩)⟩
    · rw [if_neg (by rw [q1]; decide)]
      rcases q3 with q3 | q3
      · obtain ⟨_, _, L2, v2⟩ := yes q3
        exact ⟨more (fin L2), by dsimp only; omega, .inr (.inr ⟨q1, o.comes ▸ q2, .inr v2⟩)⟩
      · obtain ⟨L2, v2⟩ := not q3
        exact ⟨more (fin L2), by dsimp only; omega, .inr (.inr ⟨q1, o.comes ▸ q2, .inl v2⟩)⟩
  · rw [if_neg (by decide)]
    exact ⟨S1, by dsimp only; omega, .inr (.inl ⟨rfl, d1, ek, ev⟩)⟩
  · rw [if_neg (by decide)]
    exact ⟨S1, by dsimp only; omega, .inr (.inr ⟨rfl, c1, .inl ev⟩)⟩
end Go.Proofs.Ytjghhcbiaklomaa

/-
  A memory that does not wear, whose power does not go: all Puts, all commits go well; a new memory: in plain words.
-/
namespace Go.Proofs.Ytjghhcbiaklomaa
set_option maxRecDepth 100000
open Go.RowKit

theorem Free.of {s s' : Nv} (F : Free s) (hc : s'.calm) (hl : s'.la = s.la) (hn : s'.n = s.n) : Free s' := ⟨hc, fun i hi => by rw [hl]; exact F.la i (by rw [← hn]; exact hi)⟩
theorem lput_go {s : Nv} {S P a : Nat} {d : List Int} (H : LOk s S P) (F : Free s) (ha : a < S) : (lput S P (a : Int) d s).1 = 0 ∧ Free (lput S P (a : Int) d s).2 := by
  obtain ⟨i, ei, hi⟩ := place_nat (t := s.tb P) ha
  rw [s.tb_length] at hi
  have hin : i < s.n := by rw [H.n]; exact hi
  have hw : s.worn i = false := by simp [Nv.worn, F.la i hin]
  unfold lput
  rw [if_pos ⟨by omega, by omega⟩, H.live]
  simp only [Bool.false_eq_true, if_false]
  rw [ei, F.calm.putE hin, hw]
  simp only [Bool.false_eq_true, if_false]
  rw [if_neg (by decide)]
  exact ⟨rfl, F.of (F.calm.put_ _ _) (s.put_la _ _) (s.put_n _ _)⟩
theorem set_go {s : Nv} (F : Free s) {k : Nat} (hk : k < 35) (v : Int) : s.setE (k : Int) = 0 ∧ Free (s.set (k : Int) v) := ⟨F.calm.setE hk, F.of (F.calm.set_ _ _) (s.set_la _ _) (s.set_n _ _)⟩
theorem tput_go {s : Nv} {n P M a : Nat} {d : List Int} (per p : Nat) (H : TOk s n P M) (F : Free s) (hn : 0 < n) : (tput n P per p M a d s).1 = 0 ∧ Free (tput n P per p M a d s).2 := by
  unfold tput
  split
  · have key : (tmove n P M s).1 = 0 ∧ Free (tmove n P M s).2 := by
      obtain ⟨a1, a2⟩ := lput_go (d := hold s (n + 1) P (frN n M)) H.l F (gN_lt (n := n) M)
      unfold tmove
      rw [if_pos a1]
      exact set_go a2 (k := 0) (by decide) _
    obtain ⟨M1, o, _⟩ := tmove_out H hn
    rw [if_pos key.1]
    have L : LOk (tmove n P M s).2 (n + 1) P := ⟨o.ok, o.nn.trans H.l.n, H.l.p, o.may, key.2.calm.1⟩
    exact lput_go L key.2 (slN_lt hn _ _)
  · exact lput_go H.l F (slN_lt hn _ _)
theorem tputs_go {n P per : Nat} (hn : 0 < n) : ∀ (l : List (Nat × List Int)) (p : Nat) (s : Nv), Pairs n l → GOk s n P → Free s → tm s + l.length < 4611686018427387904 →
    (tputs n P per p l s).1 = 0 ∧ Free (tputs n P per p l s).2.2
  | [], p, s, _, _, F, _ => ⟨rfl, F⟩
  | x :: l, p, s, hp, H, F, hm => by
    have hx := hp.lt x (List.mem_cons_self ..)
    rw [List.length_cons] at hm
    have nd := hp.nd
    rw [List.map_cons, List.nodup_cons] at nd
    have pl : Pairs n l := ⟨fun y hy => hp.lt y (List.mem_cons_of_mem _ hy), nd.2⟩
    have u := tput_u per p H F.calm.1 hn hx.1 hx.2 (by omega)
    obtain ⟨g1, g2⟩ := tput_go (a := x.1) per p (H.tok F.calm.1) F hn
    have uh := u.hi
    rw [tputs, if_pos g1]
    exact tputs_go hn l _ _ pl u.g g2 (by omega)
theorem lfin_go {s : Nv} {n P : Nat} {C : List Hm} (per p : Nat) (g : GOk s n P) (hM : MayH n C) (hw : Wide C) (hn : 17 ≤ n) (F : Free s) (hm : tm s + 14 < 4611686018427387904) :
    (lfin n P per p C s).1 = 0 ∧ Free (lfin n P per p C s).2.2 ∧ lk (lfin n P per p C s).2.2 = 0 := by
  have h14 := hM.hi
  obtain ⟨a, b⟩ := tputs_go (per := per) (by omega) (hmP C) p s (hmP_pairs hM hw) g F (by rw [hmP_length]; omega)
  unfold lfin
  rw [if_pos a]
  obtain ⟨c, d⟩ := set_go b (k := 1) (by decide) 0
  refine ⟨c, d, ?_⟩
  dsimp only
  rw [b.calm.set (by decide)]
  rfl
theorem lcom_go {s : Nv} {n P : Nat} {h : List Hm} (per p : Nat) (L : LgOk s n P) (hM : MayH n h) (hw : Wide h) (F : Free s) (hm : tm s + 30 < 4611686018427387904) :
    (lcom n P per p h s).1 = 0 ∧ Free (lcom n P per p h s).2.2 ∧ lk (lcom n P per p h s).2.2 = 0 := by
  have n17 := L.n17
  have h14 := hM.hi
  have hl16 : (lgP h).length ≤ 16 := by rw [lgP_length]; unfold ixN; omega
  obtain ⟨o, _⟩ := tputs_out (per := per) (by omega) (lgP h) p s (lgP_pairs (by omega) h14 hw) L.g F.calm.1 (by omega)
  obtain ⟨a, b⟩ := tputs_go (per := per) (by omega) (lgP h) p s (lgP_pairs (by omega) h14 hw) L.g F (by omega)
  obtain ⟨c, d⟩ := set_go b (k := 1) (by decide) (h.length : Int)
  obtain ⟨a1, _, _, a4, _⟩ := set1 o.g b.calm.1 (h.length : Int)
  have oh := o.hi
  unfold lcom
  rw [if_pos a, if_pos c]
  exact lfin_go per _ a1 hM hw n17 d (by omega)

/-- a new one -/
theorem newNv_lg {n P : Nat} (h1 : 17 ≤ n) (hP : P ≤ 16) (h2 : n + 1 + P ≤ 200) (lim : List Int) : LgOk (newNv (n + 1 + P) lim) n P ∧ lk (newNv (n + 1 + P) lim) = 0 ∧ tm (newNv (n + 1 + P) lim) = 0 ∧ (∀ b, th (newNv (n + 1 + P) lim) n P b = zeros) ∧ ∀ b, view (newNv (n + 1 + P) lim) n P b = zeros := by
  have H := newNv_tok (n := n) (P := P) (by omega) hP h2 lim
  have e0 : tm (newNv (n + 1 + P) lim) = 0 := rfl
  have e1 : lk (newNv (n + 1 + P) lim) = 0 := rfl
  have et : ∀ b, th (newNv (n + 1 + P) lim) n P b = zeros := fun b => rfl
  exact ⟨⟨⟨H.l.ok, H.l.n, H.l.p, H.l.may, rfl, by rw [e0]; decide⟩, h1, rfl, .inl e1⟩, e1, e0, et, fun b => (view_none e1 n P b).trans (et b)⟩
end Go.Proofs.Ytjghhcbiaklomaa

/-
  Contracts of package gap and of the reference's Gap, Slot, LineOf, Move.
-/
namespace Go.Proofs.Ytjghhcbiaklomaa
set_option maxRecDepth 100000
open Go.RowKit


theorem may_yes (n m : Nat) (w : World) (h : 1 ≤ n) (h2 : n ≤ 100000) : Calls Try.prog 62 #[.int .i64 n, .int .i64 m] w fun e w' => e = .returned (.bool true) ∧ w = w' := by
  have c1 : (1 : Int) ≤ (n : Int) := by omega
  have c2 : (n : Int) ≤ 100000 := by omega
  have c3 : (0 : Int) ≤ (m : Int) := by omega
  go_enter Try.func62, Try.ntmps62
  go_wp2_with fail
  go_ret
  exact ⟨rfl, rfl⟩
theorem may_no (n m : Int) (w : World) (h : n < 1 ∨ 100000 < n ∨ m < 0) : Calls Try.prog 62 #[.int .i64 n, .int .i64 m] w fun e w' => e = .returned (.bool false) ∧ w = w' := by
  by_cases c1 : n < 1
  · have d1 : ¬ 1 ≤ n := by omega
    clear h
    go_enter Try.func62, Try.ntmps62
    go_wp2_with fail
    go_ret
    exact ⟨rfl, rfl⟩
  · have d1 : 1 ≤ n := by omega
    by_cases c2 : 100000 < n
    · have d2 : ¬ n ≤ 100000 := by omega
      clear h
      go_enter Try.func62, Try.ntmps62
      go_wp2_with fail
      go_ret
      exact ⟨rfl, rfl⟩
    · have d2 : n ≤ 100000 := by omega
      have d3 : ¬ 0 ≤ m := by omega
      clear h
      go_enter Try.func62, Try.ntmps62
      go_wp2_with fail
      go_ret
      exact ⟨rfl, rfl⟩

theorem gp_yes (n m : Nat) (w : World) (h : 1 ≤ n) (h2 : n ≤ 100000) : Calls Try.prog 64 #[.int .i64 n, .int .i64 m] w fun e w' => e = .returned (.int .i64 (gN n m)) ∧ w = w' := by
  obtain ⟨N, hN⟩ : ∃ N, N = n + 1 := ⟨_, rfl⟩
  obtain ⟨r, hr⟩ : ∃ r, r = m % N := ⟨_, rfl⟩
  obtain ⟨g, hg⟩ : ∃ g, g = gN n m := ⟨_, rfl⟩
  have hg2 : g = n - r := by rw [hg, hr, hN]; rfl
  have hrN : r < N := by rw [hr]; exact Nat.mod_lt _ (by omega)
  have k1 : IntKind.i64.wrap ((n : Int) + 1) = (N : Int) := by rw [show (n : Int) + 1 = (N : Int) by omega]; exact i64_nat _ (by omega)
  have k2 : (m : Int).tmod (N : Int) = (r : Int) := by rw [hr]; exact tmod_nat m N
  have k3 : IntKind.i64.wrap (r : Int) = (r : Int) := i64_nat _ (by omega)
  have k4 : IntKind.i64.wrap ((n : Int) - (r : Int)) = (g : Int) := by rw [show (n : Int) - (r : Int) = (g : Int) by omega]; exact i64_nat _ (by omega)
  have k5 : ¬ N = 0 := by omega
  have k6 : ¬ (N : Int) = 0 := by omega
  rw [← hg]
  clear hg hg2 hr hrN hN
  go_enter Try.func64, Try.ntmps64
  go_wp2_with fail
  go_ret
  exact ⟨rfl, rfl⟩

theorem shift_yes (n m : Nat) (w : World) (h : 1 ≤ n) (h2 : n ≤ 100000) (hm : m < 9223372036854775808) : Calls Try.prog 63 #[.int .i64 n, .int .i64 m] w fun e w' => e = .returned (.int .i64 (sN n m)) ∧ w = w' := by
  obtain ⟨N, hN⟩ : ∃ N, N = n + 1 := ⟨_, rfl⟩
  obtain ⟨q, hq⟩ : ∃ q, q = m / N := ⟨_, rfl⟩
  obtain ⟨s, hs⟩ : ∃ s, s = sN n m := ⟨_, rfl⟩
  have hs2 : s = q % n := by rw [hs, hq, hN]; rfl
  have hqm : q ≤ m := by rw [hq]; exact Nat.div_le_self _ _
  have hsn : s < n := by rw [hs]; exact sN_lt (by omega) m
  have k1 : IntKind.i64.wrap ((n : Int) + 1) = (N : Int) := by rw [show (n : Int) + 1 = (N : Int) by omega]; exact i64_nat _ (by omega)
  have k2 : (m : Int).tdiv (N : Int) = (q : Int) := by rw [hq]; exact tdiv_nat m N
  have k3 : IntKind.i64.wrap (q : Int) = (q : Int) := i64_nat _ (by omega)
  have k4 : (q : Int).tmod (n : Int) = (s : Int) := by rw [hs2]; exact tmod_nat q n
  have k5 : IntKind.i64.wrap (s : Int) = (s : Int) := i64_nat _ (by omega)
  have k6 : ¬ N = 0 := by omega
  have k7 : ¬ (N : Int) = 0 := by omega
  have k8 : ¬ n = 0 := by omega
  have k9 : ¬ (n : Int) = 0 := by omega
  rw [← hs]
  clear hs hs2 hq hqm hN
  go_enter Try.func63, Try.ntmps63
  go_wp2_with fail
  go_ret
  exact ⟨rfl, rfl⟩


theorem move_yes (n m : Nat) (w : World) (h : 1 ≤ n) (h2 : n ≤ 100000) : Calls Try.prog 67 #[.int .i64 n, .int .i64 m] w fun e w' => e = .returned (.tuple #[.int .i64 (frN n m), .int .i64 (gN n m)]) ∧ w = w' := by
  have C1 := Lib.hid fun w => may_yes n m w h h2
  have C2 := Lib.hid fun w => gp_yes n m w h h2
  have hgn := gN_le n m
  by_cases h0 : gN n m = 0
  · have e : frN n m = n := if_pos h0
    rw [h0] at C2
    rw [e, h0]
    clear e hgn
    go_enter Try.func67, Try.ntmps67
    go_wp2_with fail
    refine (C1.out _).mono ?_; rintro e w' ⟨rfl, rfl⟩
    go_wp2_with fail
    refine (C2.out _).mono ?_; rintro e w' ⟨rfl, rfl⟩
    go_wp2_with fail
    go_ret2
    exact ⟨rfl, rfl⟩
  · obtain ⟨f, hf⟩ : ∃ f, frN n m = f := ⟨_, rfl⟩
    have e : f = gN n m - 1 := by rw [← hf]; exact if_neg h0
    rw [hf]
    generalize gN n m = g at *
    have k1 : IntKind.i64.wrap ((g : Int) - 1) = (f : Int) := by rw [show (g : Int) - 1 = (f : Int) by omega]; exact i64_nat _ (by omega)
    clear e hf hgn
    go_enter Try.func67, Try.ntmps67
    go_wp2_with fail
    refine (C1.out _).mono ?_; rintro e w' ⟨rfl, rfl⟩
    go_wp2_with fail
    refine (C2.out _).mono ?_; rintro e w' ⟨rfl, rfl⟩
    go_wp2_with fail
    go_ret2
    exact ⟨rfl, rfl⟩
theorem move_no (n m : Int) (w : World) (h : n < 1 ∨ 100000 < n ∨ m < 0) : Calls Try.prog 67 #[.int .i64 n, .int .i64 m] w fun e w' => e = .returned (.tuple #[.int .i64 (-1), .int .i64 (-1)]) ∧ w = w' := by
  have C1 := Lib.hid fun w => may_no n m w h
  clear h
  go_enter Try.func67, Try.ntmps67
  go_wp2_with fail
  refine (C1.out _).mono ?_; rintro e w' ⟨rfl, rfl⟩
  go_wp2_with fail
  go_ret2
  exact ⟨rfl, rfl⟩

theorem slot_yes (n m l : Nat) (w : World) (h2 : n ≤ 100000) (hm : m < 9223372036854775808) (hl : l < n) : Calls Try.prog 51 #[.int .i64 n, .int .i64 m, .int .i64 l] w fun e w' => e = .returned (.int .i64 (slN n m l)) ∧ w = w' := by
  have C1 := Lib.hid fun w => may_yes n m w (by omega) h2
  have C2 := Lib.hid fun w => shift_yes n m w (by omega) h2 hm
  have C3 := Lib.hid fun w => gp_yes n m w (by omega) h2
  have hs := sN_lt (n := n) (by omega) m
  obtain ⟨p, hp⟩ : ∃ p, p = (l + sN n m) % n := ⟨_, rfl⟩
  have hpn : p < n := by rw [hp]; exact Nat.mod_lt _ (by omega)
  have e : slN n m l = if p < gN n m then p else p + 1 := by rw [hp]; rfl
  obtain ⟨t, ht⟩ : ∃ t, t = l + sN n m := ⟨_, rfl⟩
  rw [← ht] at hp
  generalize sN n m = s at *
  generalize gN n m = g at *
  obtain ⟨r, hr⟩ : ∃ r, slN n m l = r := ⟨_, rfl⟩
  rw [hr] at e
  rw [hr]
  clear hr
  have k0 : ¬ (l : Int) < 0 := by omega
  have k1 : ¬ (n : Int) ≤ (l : Int) := by omega
  have k2 : IntKind.i64.wrap ((l : Int) + (s : Int)) = (t : Int) := by rw [show (l : Int) + (s : Int) = (t : Int) by omega]; exact i64_nat _ (by omega)
  have k3 : (t : Int).tmod (n : Int) = (p : Int) := by rw [hp]; exact tmod_nat t n
  have k4 : IntKind.i64.wrap (p : Int) = (p : Int) := i64_nat _ (by omega)
  have k5 : ¬ n = 0 := by omega
  have k6 : ¬ (n : Int) = 0 := by omega
  by_cases c : p < g
  · rw [if_pos c] at e
    have k7 : (p : Int) < (g : Int) := by omega
    subst e
    clear hp ht hs
    go_enter Try.func51, Try.ntmps51
    go_wp2_with fail
    refine (C1.out _).mono ?_; rintro e w' ⟨rfl, rfl⟩
    go_wp2_with fail
    refine (C2.out _).mono ?_; rintro e w' ⟨rfl, rfl⟩
    go_wp2_with fail
    refine (C3.out _).mono ?_; rintro e w' ⟨rfl, rfl⟩
    go_wp2_with fail
    go_ret
    exact ⟨rfl, rfl⟩
  · rw [if_neg c] at e
    have k7 : ¬ (p : Int) < (g : Int) := by omega
    have k8 : IntKind.i64.wrap ((p : Int) + 1) = (r : Int) := by rw [show (p : Int) + 1 = (r : Int) by omega]; exact i64_nat _ (by omega)
    clear hp ht hs e
    go_enter Try.func51, Try.ntmps51
    go_wp2_with fail
    refine (C1.out _).mono ?_; rintro e w' ⟨rfl, rfl⟩
    go_wp2_with fail
    refine (C2.out _).mono ?_; rintro e w' ⟨rfl, rfl⟩
    go_wp2_with fail
    refine (C3.out _).mono ?_; rintro e w' ⟨rfl, rfl⟩
    go_wp2_with fail
    go_ret
    exact ⟨rfl, rfl⟩


/-- lines or slots that there aren't -/
theorem slot_no (n m l : Int) (w : World) (h : n < 1 ∨ 100000 < n ∨ m < 0) : Calls Try.prog 51 #[.int .i64 n, .int .i64 m, .int .i64 l] w fun e w' => e = .returned (.int .i64 (-1)) ∧ w = w' := by
  have C1 := Lib.hid fun w => may_no n m w h
  clear h
  go_enter Try.func51, Try.ntmps51
  go_wp2_with fail
  refine (C1.out _).mono ?_; rintro e w' ⟨rfl, rfl⟩
  go_wp2_with fail
  go_ret
  exact ⟨rfl, rfl⟩
theorem slot_out (n m : Nat) (l : Int) (w : World) (h : 1 ≤ n) (h2 : n ≤ 100000) (hl : l < 0 ∨ (n : Int) ≤ l) : Calls Try.prog 51 #[.int .i64 n, .int .i64 m, .int .i64 l] w fun e w' => e = .returned (.int .i64 (-1)) ∧ w = w' := by
  have C1 := Lib.hid fun w => may_yes n m w h h2
  by_cases c : l < 0
  · clear hl h h2
    go_enter Try.func51, Try.ntmps51
    go_wp2_with fail
    refine (C1.out _).mono ?_; rintro e w' ⟨rfl, rfl⟩
    go_wp2_with fail
    go_ret
    exact ⟨rfl, rfl⟩
  · have d : (n : Int) ≤ l := by omega
    clear hl h h2
    go_enter Try.func51, Try.ntmps51
    go_wp2_with fail
    refine (C1.out _).mono ?_; rintro e w' ⟨rfl, rfl⟩
    go_wp2_with fail
    go_ret
    exact ⟨rfl, rfl⟩




end Go.Proofs.Ytjghhcbiaklomaa

/-
  Contracts of package turn: moves, ready, due, Lines, Moves, Left.
-/
namespace Go.Proofs.Ytjghhcbiaklomaa
set_option maxRecDepth 100000
open Go.RowKit

/-- block x holds lines that go round: those of block q, on the memory of block g -/
def Tq (w : World) (x g q n per p : Nat) : Prop := Whole w x 79 #[.pointer (some ⟨g, 0, none⟩), .pointer (some ⟨q, 0, none⟩), .int .i64 (n : Int), .int .i64 (per : Int), .int .i64 (p : Int)]
theorem Tq.lt {w : World} {x g q n per p : Nat} (h : Tq w x g q n per p) : x < w.heap.size := Whole.lt h
theorem Tq.below {w w' : World} {x g q n per p : Nat} (h : Tq w x g q n per p) (hb : Below w.heap.size w w') : Tq w' x g q n per p := (hb.block x h.lt).trans h
theorem Tq.chg {D : List Nat} {w w' : World} {x g q n per p : Nat} (h : Tq w x g q n per p) (hc : Chg D w w') (hq : x ∉ D) : Tq w' x g q n per p := hc.whole h hq
theorem Tq.alloc {w : World} {x g q n per p : Nat} (h : Tq w x g q n per p) (o : Obj) : Tq (w.alloc o) x g q n per p := Whole.alloc h o
theorem Tq.c0 {w : World} {x g q n per p : Nat} (h : Tq w x g q n per p) : w.cell? ⟨x, 0, none⟩ = some (.pointer (some ⟨g, 0, none⟩)) := by rw [Whole.at_ h]; rfl
theorem Tq.c1 {w : World} {x g q n per p : Nat} (h : Tq w x g q n per p) : w.cell? ⟨x, 1, none⟩ = some (.pointer (some ⟨q, 0, none⟩)) := by rw [Whole.at_ h]; rfl
theorem Tq.c2 {w : World} {x g q n per p : Nat} (h : Tq w x g q n per p) : w.cell? ⟨x, 2, none⟩ = some (.int .i64 (n : Int)) := by rw [Whole.at_ h]; rfl
theorem Tq.c3 {w : World} {x g q n per p : Nat} (h : Tq w x g q n per p) : w.cell? ⟨x, 3, none⟩ = some (.int .i64 (per : Int)) := by rw [Whole.at_ h]; rfl
theorem Tq.c4 {w : World} {x g q n per p : Nat} (h : Tq w x g q n per p) : w.cell? ⟨x, 4, none⟩ = some (.int .i64 (p : Int)) := by rw [Whole.at_ h]; rfl
theorem Tq.free {w : World} {x g q n per p : Nat} (h : Tq w x g q n per p) (k : Nat) : w.frozen? ⟨x, k, none⟩ = false := Whole.free h k
/-- its Puts counted -/
theorem Tq.count {w : World} {x g q n per p : Nat} (h : Tq w x g q n per p) (p' : Nat) : Tq (w.setCell ⟨x, 4, none⟩ (.int .i64 (p' : Int))) x g q n per p' := Whole.set_ h 4 _

/-- the moves, as the register tells them -/
theorem tmoves_is {x g M : Nat} {s : Nv} {w : World} (h0 : w.cell? ⟨x, 0, none⟩ = some (.pointer (some ⟨g, 0, none⟩))) (hN : Nm w g s) (hd : s.dark = false) (hr : s.rg 0 = (M : Int)) (hm : M < 4611686018427387904) :
    Calls Try.prog 40 #[.pointer (some ⟨x, 0, none⟩)] w fun e w' => e = .returned (.tuple #[.int .i64 (M : Int), .int .i64 0]) ∧ w = w' := by
  have C := Lib.hid (reg_yes g s 0 w hN (by simp [Nv.rdy, hasR, hd]))
  rw [hr] at C
  have k1 : IntKind.i64.wrap (M : Int) = (M : Int) := i64_nat _ (by omega)
  have k2 : min (M : Int) 9223372036854775807 = (M : Int) := by omega
  have k3 : (M : Int) < 9223372036854775807 := by omega
  have k4 : (M : Int) ≤ 9223372036854775807 := by omega
  clear hN hr hm
  go_enter Try.func40, Try.ntmps40
  go_wp2_with fail
  refine (C.out).mono ?_; rintro e w' ⟨rfl, rfl⟩
  go_wp2
  go_ret2
  exact ⟨rfl, rfl⟩
theorem tlines_is {x g q n per p : Nat} {w : World} (h : Tq w x g q n per p) : Calls Try.prog 37 #[.pointer (some ⟨x, 0, none⟩)] w fun e w' => e = .returned (.int .i64 (n : Int)) ∧ w = w' := by
  have c := h.c2
  clear h
  go_enter Try.func37, Try.ntmps37
  go_wp2_with fail
  go_ret
  exact ⟨rfl, rfl⟩
theorem tlines_nil (w : World) : Calls Try.prog 37 #[.pointer none] w fun e w' => e = .returned (.int .i64 0) ∧ w = w' := by
  go_enter Try.func37, Try.ntmps37
  go_wp2_with fail
  go_ret
  exact ⟨rfl, rfl⟩
theorem tready_nil (a : Int) (w : World) : Calls Try.prog 49 #[.pointer none, .int .i64 a] w fun e w' => e = .returned (.tuple #[.int .i64 0, .int .i64 1]) ∧ w = w' := by
  by_cases h : a < 0
  · go_enter Try.func49, Try.ntmps49
    go_wp2
    go_ret2
    exact ⟨rfl, rfl⟩
  · have h2 : a ≥ 0 := by omega
    go_enter Try.func49, Try.ntmps49
    go_wp2_with fail
    refine (tlines_nil w).mono ?_; rintro e w' ⟨rfl, rfl⟩
    go_wp2
    go_ret2
    exact ⟨rfl, rfl⟩
theorem tready_out {x g q n per p : Nat} {a : Int} {w : World} (h : Tq w x g q n per p) (ha : ¬ (0 ≤ a ∧ a < n)) :
    Calls Try.prog 49 #[.pointer (some ⟨x, 0, none⟩), .int .i64 a] w fun e w' => e = .returned (.tuple #[.int .i64 0, .int .i64 1]) ∧ w = w' := by
  have C := Lib.hid (tlines_is h)
  clear h
  by_cases h : a < 0
  · clear ha
    go_enter Try.func49, Try.ntmps49
    go_wp2
    go_ret2
    exact ⟨rfl, rfl⟩
  · have h2 : a ≥ (n : Int) := by omega
    clear ha
    go_enter Try.func49, Try.ntmps49
    go_wp2_with fail
    refine (C.out).mono ?_; rintro e w' ⟨rfl, rfl⟩
    go_wp2
    go_ret2
    exact ⟨rfl, rfl⟩
theorem tready_is {x g q n P per p M a : Nat} {s : Nv} {w : World} (H : TOk s n P M) (h : Tq w x g q n per p) (hN : Nm w g s) (ha : a < n) :
    Calls Try.prog 49 #[.pointer (some ⟨x, 0, none⟩), .int .i64 (a : Int)] w fun e w' => e = .returned (.tuple #[.int .i64 (M : Int), .int .i64 0]) ∧ w = w' := by
  have C := Lib.hid (tlines_is h)
  have D := Lib.hid (tmoves_is h.c0 hN H.l.live H.rg H.m)
  have i1 : ¬ (a : Int) < 0 := by omega
  have i2 : ¬ (a : Int) ≥ (n : Int) := by omega
  clear h hN H ha
  go_enter Try.func49, Try.ntmps49
  go_wp2_with fail
  refine (C.out).mono ?_; rintro e w' ⟨rfl, rfl⟩
  go_wp2_with fail
  refine (D.out).mono ?_; rintro e w' ⟨rfl, rfl⟩
  go_wp2
  go_ret2
  exact ⟨rfl, rfl⟩
theorem due_is {x g q n per p : Nat} {w : World} (h : Tq w x g q n per p) (hp : p < 4611686018427387904) :
    Calls Try.prog 56 #[.pointer (some ⟨x, 0, none⟩)] w fun e w' => e = .returned (.bool (decide (per ≤ p + 1))) ∧ Tq w' x g q n per (tp per p) ∧ Chg [x] w w' := by
  have c4 := h.c4
  have f4 := h.free 4
  have k1 : IntKind.i64.wrap ((p : Int) + 1) = ((p + 1 : Nat) : Int) := by rw [show (p : Int) + 1 = ((p + 1 : Nat) : Int) by omega]; exact i64_nat _ (by omega)
  have T1 := h.count (p + 1)
  have C1 := (Chg.refl [x] w).setCell (p := ⟨x, 4, none⟩) (.inl (by simp)) (.int .i64 ((p + 1 : Nat) : Int))
  generalize hP : p + 1 = P1 at *
  obtain ⟨W1, hW1⟩ : ∃ W1, w.setCell ⟨x, 4, none⟩ (.int .i64 (P1 : Int)) = W1 := ⟨_, rfl⟩
  rw [hW1] at T1 C1
  have d4 := T1.c4
  have d3 := T1.c3
  have g4 := T1.free 4
  by_cases hd : per ≤ P1
  · have ht : tp per p = 0 := if_pos (hP ▸ hd)
    have hdd : decide (per ≤ P1) = true := decide_eq_true hd
    have i1 : ¬ (P1 : Int) < (per : Int) := by omega
    rw [ht, hdd]
    have T2 := T1.count 0
    have TT := Lib.hid T2
    have CC := Lib.hid C1
    clear h T1 C1 T2 hd ht hdd hP hp
    go_enter Try.func56, Try.ntmps56
    go_wp2_with fail
    go_quiet (fail)
    go_wp2
    go_ret
    exact ⟨rfl, TT.out, (CC.out.drewN _).setCell (.inl (List.mem_singleton.2 rfl)) _⟩
  · have ht : tp per p = P1 := (if_neg (hP ▸ hd)).trans hP
    have hdd : decide (per ≤ P1) = false := decide_eq_false hd
    have i1 : (P1 : Int) < (per : Int) := by omega
    rw [ht, hdd]
    have TT := Lib.hid T1
    have CC := Lib.hid C1
    clear h T1 C1 hd ht hdd hP hp
    go_enter Try.func56, Try.ntmps56
    go_wp2_with fail
    go_quiet (fail)
    go_wp2
    go_ret
    exact ⟨rfl, TT.out, CC.out.drewN _⟩
end Go.Proofs.Ytjghhcbiaklomaa

/-
  Contracts of package turn: Get, move, Put.
-/
namespace Go.Proofs.Ytjghhcbiaklomaa
set_option maxRecDepth 100000
open Go.RowKit

theorem tget_nil (a : Int) (w : World) : Calls Try.prog 34 #[.pointer none, .int .i64 a] w fun e w' => e = .returned (.tuple #[.agg (lc zeros), .int .i64 1]) ∧ Below w.heap.size w w' :=
  by
  have HB := Lib.hid (bal (o := .cells (lc zeros) 39) (Below.refl w.heap.size w))
  have HN := Lib.hid (Ln.new w (l := zeros) rfl)
  have hz8 : zeros.length = 8 := rfl
  go_enter Try.func34, Try.ntmps34
  go_wp2_with fail
  refine (tready_nil a _).mono ?_; rintro e w' ⟨rfl, rfl⟩
  go_wp2
  exact bodyPost_ret (v := .tuple #[.agg (lc zeros), .int .i64 1]) (results_cell_tmp rfl _ _ _ _ _ _ _ _ rfl rfl HN.out.1 Try.underlying39 rfl (by rw [info_line]; rfl)) rfl ⟨rfl, HB.out⟩

set_option maxHeartbeats 1000000 in
/-- what a line holds is told -/
theorem tget_is {x g q n P per p M a : Nat} {y : List Int} {s : Nv} {w : World} (hy : thold s n P M a = y) (H : TOk s n P M) (hn2 : n ≤ 1000) (ha : a < n) (h : Tq w x g q n per p) (hQ : Lq w q g (n + 1) P) (hN : Nm w g s) :
    Calls Try.prog 34 #[.pointer (some ⟨x, 0, none⟩), .int .i64 (a : Int)] w fun e w' => e = .returned (.tuple #[.agg (lc y), .int .i64 0]) ∧ Below w.heap.size w w' := by
  have h8 : y.length = 8 := by rw [← hy]; exact H.l.ok.line _
  have hs1 := slN_lt (n := n) (by omega) M a
  obtain ⟨W, hW, H0⟩ := boxed1 w (a := [0, 0, 0, 0, 0, 0, 0, 0]) rfl
  have T1 := Lib.hid (h.below (H0.out.2.mono (Nat.le_refl _)))
  have L1 := Lib.hid (hQ.below (H0.out.2.mono (Nat.le_refl _)))
  have N1 := Lib.hid (hN.below (H0.out.2.mono (Nat.le_refl _)))
  have C := Lib.hid (tready_is H T1.out N1.out ha)
  have GC := Lib.hid (fun (w' : World) (hq : Lq w' q g (n + 1) P) (hn : Nm w' g s) => lget_is (x := y) hy H.l hs1 hq hn)
  have SC := Lib.hid (slot_yes n M a W.drew (by omega) (by have := H.m; omega) ha)
  have x0 : Hid (x ≠ w.heap.size) := Lib.hid (Nat.ne_of_lt h.lt)
  have c1 : ∀ w', Chg [w.heap.size] W w' → w'.cell? ⟨x, 1, none⟩ = some (.pointer (some ⟨q, 0, none⟩)) := fun w' hc => (T1.out.chg hc (by simpa using x0.out)).c1
  have c2 : ∀ w', Chg [w.heap.size] W w' → w'.cell? ⟨x, 2, none⟩ = some (.int .i64 (n : Int)) := fun w' hc => (T1.out.chg hc (by simpa using x0.out)).c2
  generalize slN n M a = sl at *
  clear h hQ hN H hy hs1 ha
  go_enter Try.func34, Try.ntmps34
  go_wp2_with fail
  refine (C.out).mono ?_; rintro e w' ⟨rfl, rfl⟩
  have hbd : Below W.heap.size W W.drew := (Below.refl _ _).drew
  go_wp2
  go_region_held3 (fun w' => Chg [w.heap.size] W w')
    (first | assumption | exact (Chg.refl _ _).drew | exact Chg.setRow (by assumption) (.inl (by simp)) _)
    (first
      | (go_at_call 51; refine (SC.out).mono ?_; rintro e wz ⟨rfl, rfl⟩)
      | (go_at_call 50; refine (GC.out _ (L1.out.below hbd) (N1.out.below hbd)).mono ?_; rintro e wy ⟨rfl, hby⟩
         have GY := (H0.out.1.below (hbd.mono (Nat.le_refl _))).below hby
         have hst := GY.store h8
         have FY := Lib.hid (GY.put h8)
         have CY := Lib.hid ((Chg.of_below hbd [w.heap.size]).trans (Chg.of_below hby [w.heap.size]))
         clear hby GY))
  have BF := Lib.hid ((CY.out.setRow (g := w.heap.size) (.inl (by simp)) (lc y)).below H0.out.2 H0.out.2.size (fun k hk => by rw [List.mem_singleton.1 hk]; exact Nat.le_refl _))
  go_wp2
  exact bodyPost_ret (v := .tuple #[.agg (lc y), .int .i64 0]) (results_cell_tmp rfl _ _ _ _ _ _ _ _ rfl rfl FY.out.1 Try.underlying39 rfl (by rw [info_line, lc_size, h8])) rfl ⟨rfl, BF.out⟩
/-- the moves that a move tells -/
def mvV (M : Nat) (e : Int) : Int := if e = 0 then ((M + 1 : Nat) : Int) else 0
theorem u64_same {a : Int} (h0 : 0 ≤ a) (h1 : a < 18446744073709551616) : IntKind.u64.wrap a = a := by simp [IntKind.wrap, IntKind.signed, IntKind.bits]; omega

set_option maxHeartbeats 1000000 in
theorem tmove_is {x g q n P per p M : Nat} {R : Int × Nv} {s : Nv} {w : World} (hR : tmove n P M s = R) (H : TOk s n P M) (hn : 0 < n) (hn2 : n ≤ 1000) (hm : M + 1 < 4611686018427387904) (hqg : q ≠ g) (hxg : x ≠ g) (hc : s.c + 500 < 4611686018427387904)
    (h : Tq w x g q n per p) (hQ : Lq w q g (n + 1) P) (hN : Nm w g s) :
    Calls Try.prog 57 #[.pointer (some ⟨x, 0, none⟩), .int .i64 (M : Int)] w fun e w' => e = .returned (.tuple #[.int .i64 (mvV M R.1), .int .i64 R.1]) ∧ Nm w' g R.2 ∧ Chg [g] w w' := by
  unfold tmove at hR
  obtain ⟨y, hy⟩ : ∃ y, hold s (n + 1) P (frN n M) = y := ⟨_, rfl⟩
  have h8 : y.length = 8 := by rw [← hy]; exact H.l.ok.line _
  have hfr : frN n M < n + 1 := Nat.lt_succ_of_le (frN_le n M)
  obtain ⟨o, oc⟩ := lput_out (a := gN n M) (d := y) H.l h8 (gN_lt M)
  have r0 := lput_rg (n + 1) P (gN n M : Nat) y s (k := 0) (by decide)
  rw [hy] at hR
  have MC := Lib.hid (move_yes n M w hn (by omega))
  have hgp := gN_lt (n := n) M
  have GC := Lib.hid (lget_is hy H.l hfr hQ hN)
  generalize frN n M = fr at *
  generalize gN n M = gp at *
  obtain ⟨Q, hQe⟩ : ∃ Q, lput (n + 1) P (gp : Int) y s = Q := ⟨_, rfl⟩
  rw [hQe] at hR o oc r0
  rcases Q with ⟨e1, s1⟩
  dsimp only at hR o oc r0
  have c0 := h.c0
  have c1 := h.c1
  have c2 := h.c2
  have KK : Hid (q ≠ g ∧ x ≠ g) := Lib.hid ⟨hqg, hxg⟩
  have PC := Lib.hid (fun (w' : World) (hl : Lq w' q g (n + 1) P) (hn : Nm w' g s) => lput_is hQe H.l h8 hqg (by omega) hl hn)
  have N0 := Lib.hid hN
  have L0 := Lib.hid hQ
  have T0 := Lib.hid h
  have OO := Lib.hid o
  have RR := Lib.hid (r0.trans H.rg)
  have HC : Hid (s1.c < 4611686018427387904) := Lib.hid (by omega)
  have own := o.own
  clear h hN hQ hQe H hy hfr hgp o r0 oc hqg hxg hc
  go_enter Try.func57, Try.ntmps57
  go_wp2_with fail
  refine (MC.out).mono ?_; rintro e w' ⟨rfl, rfl⟩
  go_wp2_with fail
  refine (GC.out).mono ?_; rintro e w1 ⟨rfl, hb⟩
  obtain ⟨W, hW, H1⟩ := boxed1 w1 h8
  have HB := Lib.hid (below_more hb (H1.out.2.mono (Nat.le_refl _)))
  have N1 := Lib.hid (N0.out.below HB.out)
  have L1 := Lib.hid (L0.out.below HB.out)
  have T1 := Lib.hid (T0.out.below HB.out)
  have hbg : Hid (w1.heap.size ∉ [g]) := Lib.hid (by have := N0.out.lt; have := hb.size; simp; omega)
  have l0 : ∀ w', Chg [g] W w' → (lineLoad (.pointer (some ⟨w1.heap.size, 0, none⟩))).run Try.prog w' = .ok (.agg (lc y)) w' := fun w' hc => (hc.ln H1.out.1 hbg.out).load
  have d1 : ∀ w', Chg [g] W w' → w'.cell? ⟨x, 1, none⟩ = some (.pointer (some ⟨q, 0, none⟩)) := fun w' hc => (T1.out.chg hc (by simpa using KK.out.2)).c1
  have hbd : Below W.heap.size W W.drew := (Below.refl _ _).drew
  clear hb c0 c1 c2
  go_wp2
  go_region_held3 (fun w' => Chg [g] W w')
    (first | assumption | exact (Chg.refl _ _).drew)
    (first
      | (go_at_call 58; refine (PC.out _ (L1.out.below hbd) (N1.out.below hbd)).mono ?_; rintro e wy ⟨rfl, hNy, hCy⟩
         have NY := Lib.hid hNy
         have CY := Lib.hid ((Chg.of_below hbd [g]).trans hCy)
         clear hNy hCy))
  have CW := Lib.hid ((Chg.of_below HB.out [g]).trans CY.out)
  have c0 := (T1.out.chg CY.out (by simpa using KK.out.2)).c0
  have TY := Lib.hid (T1.out.chg CY.out (by simpa using KK.out.2))
  clear l0 d1 hbd
  rcases own with ⟨rfl, q1, _⟩ | ⟨rfl, _⟩ | ⟨rfl, _⟩
  · rw [if_pos rfl] at hR
    have k1 : IntKind.u64.wrap (M : Int) = (M : Int) := u64_same (by omega) (by omega)
    have k2 : IntKind.u64.wrap ((M : Int) + 1) = ((M + 1 : Nat) : Int) := by rw [show (M : Int) + 1 = ((M + 1 : Nat) : Int) by omega]; exact u64_same (by omega) (by omega)
    have hc2 := set_cases q1 (k := 0) (by decide) ((M + 1 : Nat) : Int)
    obtain ⟨se, hse⟩ : ∃ se, s1.setE ((0 : Nat) : Int) = se := ⟨_, rfl⟩
    obtain ⟨s2, hs2⟩ : ∃ s2, s1.set ((0 : Nat) : Int) ((M + 1 : Nat) : Int) = s2 := ⟨_, rfl⟩
    have SC := set_is hse hs2 NY.out OO.out.ok HC.out
    rw [show ((0 : Nat) : Int) = 0 from rfl] at SC
    have SC := Lib.hid SC
    rw [hse, hs2] at hR hc2
    have ER := Lib.hid hR
    have hms : Hid (M + 1 < 4611686018427387904) := Lib.hid hm
    clear hR hse hs2 q1 hm
    generalize hM1 : M + 1 = M1 at *
    have EM := Lib.hid hM1
    clear hM1
    go_wp2_with fail
    refine (SC.out).mono ?_; rintro e wf ⟨rfl, hNf, _, hCf⟩
    have NF := Lib.hid hNf
    have CF := Lib.hid (CW.out.trans hCf)
    have TF := Lib.hid (TY.out.chg hCf (by simpa using KK.out.2))
    clear hNf hCf c0
    rcases hc2 with ⟨rfl, v1, v2⟩ | ⟨rfl, _⟩
    · have MV := Lib.hid (tmoves_is (M := M1) TF.out.c0 NF.out v1 (by rw [v2]; exact upd_same _ _ _) hms.out)
      clear v1 v2
      go_wp2_with fail
      refine (MV.out).mono ?_; rintro e w' ⟨rfl, rfl⟩
      go_wp2
      go_ret2
      exact ⟨by rw [← ER.out]; dsimp only; rw [mvV, if_pos rfl, EM.out]; rfl, by rw [← ER.out]; exact NF.out, CF.out⟩
    · go_wp2
      go_ret2
      exact ⟨by rw [← ER.out]; rfl, by rw [← ER.out]; exact NF.out, CF.out⟩
  · rw [if_neg (by decide)] at hR
    have ER := Lib.hid hR
    clear hR
    go_wp2
    go_ret2
    exact ⟨by rw [← ER.out]; rfl, by rw [← ER.out]; exact NY.out, CW.out⟩
  · rw [if_neg (by decide)] at hR
    have ER := Lib.hid hR
    clear hR
    go_wp2
    go_ret2
    exact ⟨by rw [← ER.out]; rfl, by rw [← ER.out]; exact NY.out, CW.out⟩
theorem tput_nil (a : Int) (d : List Int) (w : World) : Calls Try.prog 46 #[.pointer none, .int .i64 a, .agg (lc d)] w fun e w' => e = .returned (.int .i64 1) ∧ Below w.heap.size w w' := by
  have HB := Lib.hid (bal (o := .cells (lc d) 39) (Below.refl w.heap.size w))
  go_enter Try.func46, Try.ntmps46
  go_wp2_with fail
  refine (tready_nil a _).mono ?_; rintro e w' ⟨rfl, rfl⟩
  go_wp2_with fail
  go_ret
  exact ⟨rfl, HB.out⟩
theorem tput_no {x g q n per p : Nat} {a : Int} {d : List Int} {w : World} (h : Tq w x g q n per p) (ha : ¬ (0 ≤ a ∧ a < n)) :
    Calls Try.prog 46 #[.pointer (some ⟨x, 0, none⟩), .int .i64 a, .agg (lc d)] w fun e w' => e = .returned (.int .i64 1) ∧ Below w.heap.size w w' := by
  have HB := Lib.hid (bal (o := .cells (lc d) 39) (Below.refl w.heap.size w))
  have C := Lib.hid (tready_out (h.alloc (.cells (lc d) 39)) ha)
  clear h ha
  go_enter Try.func46, Try.ntmps46
  go_wp2_with fail
  refine (C.out).mono ?_; rintro e w' ⟨rfl, rfl⟩
  go_wp2_with fail
  go_ret
  exact ⟨rfl, HB.out⟩

set_option maxHeartbeats 2000000 in
theorem tput_is {x g q n P per p M a : Nat} {d : List Int} {R : Int × Nv} {s : Nv} {w : World} (hR : tput n P per p M a d s = R) (H : TOk s n P M) (hn2 : n ≤ 1000) (ha : a < n) (hd8 : d.length = 8) (hm : M + 1 < 4611686018427387904) (hp : p < 4611686018427387904)
    (hqg : q ≠ g) (hxg : x ≠ g) (hxq : x ≠ q) (hc : s.c + 500 < 4611686018427387904) (h : Tq w x g q n per p) (hQ : Lq w q g (n + 1) P) (hN : Nm w g s) :
    Calls Try.prog 46 #[.pointer (some ⟨x, 0, none⟩), .int .i64 (a : Int), .agg (lc d)] w fun e w' => e = .returned (.int .i64 R.1) ∧ Nm w' g R.2 ∧ Tq w' x g q n per (tp per p) ∧ Lq w' q g (n + 1) P ∧ Chg [g, x] w w' := by
  have hn : 0 < n := by omega
  obtain ⟨W, hW, H0⟩ := boxed1 w hd8
  have T0 := Lib.hid (h.below (H0.out.2.mono (Nat.le_refl _)))
  have L0 := Lib.hid (hQ.below (H0.out.2.mono (Nat.le_refl _)))
  have N0 := Lib.hid (hN.below (H0.out.2.mono (Nat.le_refl _)))
  have KK : Hid (q ≠ g ∧ x ≠ g ∧ q ≠ x ∧ w.heap.size ≠ g ∧ w.heap.size ≠ x) := Lib.hid ⟨hqg, hxg, fun e => hxq e.symm, by have := hN.lt; omega, by have := h.lt; omega⟩
  have C := Lib.hid (tready_is H T0.out N0.out ha)
  have DC := Lib.hid (due_is T0.out hp)
  have B0 := Lib.hid (Chg.of_below H0.out.2 [g, x])
  have HT := Lib.hid H
  have HK : Hid (a < n ∧ n ≤ 1000 ∧ M + 1 < 4611686018427387904 ∧ s.c + 500 < 4611686018427387904) := Lib.hid ⟨ha, hn2, hm, hc⟩
  clear h hQ hN hp hqg hxg hxq
  unfold tput at hR
  by_cases hpp : per ≤ p + 1
  · rw [if_pos hpp] at hR
    rw [decide_eq_true hpp] at DC
    obtain ⟨Q, hQe⟩ : ∃ Q, tmove n P M s = Q := ⟨_, rfl⟩
    obtain ⟨M', o, oc⟩ := tmove_out H hn
    rw [hQe] at hR o oc
    rcases Q with ⟨e1, s1⟩
    dsimp only at hR o oc
    have QE := Lib.hid hQe
    have OO := Lib.hid o
    have OC : Hid (s1.c ≤ s.c + 41) := Lib.hid oc
    have HR := Lib.hid hR
    clear hpp hQe o oc hR H ha hn2 hm hc
    go_enter Try.func46, Try.ntmps46
    go_wp2_with fail
    refine (C.out).mono ?_; rintro e w' ⟨rfl, rfl⟩
    go_wp2_with fail
    refine (DC.out).mono ?_; rintro e w1 ⟨rfl, hT, hC⟩
    have N1 := Lib.hid (N0.out.chg hC (by simpa using fun e => KK.out.2.1 e.symm))
    have L1 := Lib.hid (L0.out.chg hC (by simpa using KK.out.2.2.1))
    have T1 := Lib.hid hT
    have C1 := Lib.hid (B0.out.trans (hC.mono (by simp)))
    have G1 := Lib.hid (hC.ln H0.out.1 (by simpa using KK.out.2.2.2.2))
    clear hT hC
    have MC := Lib.hid (tmove_is QE.out HT.out hn HK.out.2.1 HK.out.2.2.1 KK.out.1 KK.out.2.1 HK.out.2.2.2 T1.out L1.out N1.out)
    go_wp2_with fail
    refine (MC.out).mono ?_; rintro e w2 ⟨rfl, hNm, hC⟩
    have N2 := Lib.hid hNm
    have L2 := Lib.hid (L1.out.chg hC (by simpa using KK.out.1))
    have T2 := Lib.hid (T1.out.chg hC (by simpa using KK.out.2.1))
    have C2 := Lib.hid (C1.out.trans (hC.mono (by simp)))
    have G2 := Lib.hid (hC.ln G1.out (by simpa using KK.out.2.2.2.1))
    clear hNm hC
    by_cases he : e1 = 0
    · subst he
      have hR := HR.out
      rw [if_pos rfl] at hR
      have hmv : mvV M 0 = ((M + 1 : Nat) : Int) := by rw [mvV, if_pos rfl]
      dsimp only
      rw [hmv]
      obtain ⟨d1, hM⟩ : s1.dark = false ∧ M' = M + 1 := by rcases OO.out.own with ⟨_, h1, h2⟩ | ⟨h, _⟩ | ⟨h, _⟩ <;> first | exact ⟨h1, h2⟩ | cases h
      subst hM
      have H1 := OO.out.tok HT.out d1 HK.out.2.2.1
      have hs1 := slN_lt (n := n) hn (M + 1) a
      have SC := Lib.hid (slot_yes n (M + 1) a w2.drew (by have := HK.out.2.1; omega) (by have := HK.out.2.2.1; omega) HK.out.1)
      have PC := Lib.hid (fun (w' : World) (hl : Lq w' q g (n + 1) P) (hn : Nm w' g s1) => lput_is hR H1.l hd8 KK.out.1 (by have := OC.out; have := HK.out.2.2.2; omega) hl hn)
      generalize slN n (M + 1) a = sl at *
      generalize M + 1 = M1 at *
      have l0 : ∀ w', Chg [g] w2 w' → (lineLoad (.pointer (some ⟨w.heap.size, 0, none⟩))).run Try.prog w' = .ok (.agg (lc d)) w' := fun w' hc => (hc.ln G2.out (by simpa using KK.out.2.2.2.1)).load
      have d1 : ∀ w', Chg [g] w2 w' → w'.cell? ⟨x, 1, none⟩ = some (.pointer (some ⟨q, 0, none⟩)) := fun w' hc => (T2.out.chg hc (by simpa using KK.out.2.1)).c1
      have d2 : ∀ w', Chg [g] w2 w' → w'.cell? ⟨x, 2, none⟩ = some (.int .i64 (n : Int)) := fun w' hc => (T2.out.chg hc (by simpa using KK.out.2.1)).c2
      have hbd : Below w2.heap.size w2 w2.drew := (Below.refl _ _).drew
      clear hR hmv H1 hs1
      go_wp2
      go_region_held3 (fun w' => Chg [g] w2 w')
        (first | assumption | exact (Chg.refl _ _).drew)
        (first
          | (go_at_call 51; refine (SC.out).mono ?_; rintro e wz ⟨rfl, rfl⟩)
          | (go_at_call 58; refine (PC.out _ (L2.out.below hbd) (N2.out.below hbd)).mono ?_; rintro e wy ⟨rfl, hNy, hCy⟩
             have NY := Lib.hid hNy
             have CY := Lib.hid ((Chg.of_below hbd [g]).trans hCy)
             clear hNy hCy))
      have TY := Lib.hid (T2.out.chg CY.out (by simpa using KK.out.2.1))
      have LY := Lib.hid (L2.out.chg CY.out (by simpa using KK.out.1))
      have CW := Lib.hid (C2.out.trans (CY.out.mono (by simp)))
      clear l0 d1 d2
      go_wp2
      go_ret
      exact ⟨rfl, NY.out, TY.out, LY.out, CW.out⟩
    · have hR := HR.out
      rw [if_neg he] at hR
      have ER := Lib.hid hR
      have t0 : (e1 == 0) = false := by simpa using he
      clear hR he
      go_wp2
      go_ret
      exact ⟨by rw [← ER.out]; rfl, by rw [← ER.out]; exact N2.out, T2.out, L2.out, C2.out⟩
  · rw [if_neg hpp] at hR
    rw [decide_eq_false hpp] at DC
    have hs1 := slN_lt (n := n) hn M a
    have SC := Lib.hid (fun w' => slot_yes n M a w' (by have := HK.out.2.1; omega) (by have := HK.out.2.2.1; omega) HK.out.1)
    have PC := Lib.hid (fun (w' : World) (hl : Lq w' q g (n + 1) P) (hn : Nm w' g s) => lput_is hR H.l hd8 KK.out.1 (by have := HK.out.2.2.2; omega) hl hn)
    generalize slN n M a = sl at *
    clear hpp hR H ha hn2 hm hc hs1
    go_enter Try.func46, Try.ntmps46
    go_wp2_with fail
    refine (C.out).mono ?_; rintro e w' ⟨rfl, rfl⟩
    go_wp2_with fail
    refine (DC.out).mono ?_; rintro e w2 ⟨rfl, hT, hC⟩
    have N2 := Lib.hid (N0.out.chg hC (by simpa using fun e => KK.out.2.1 e.symm))
    have L2 := Lib.hid (L0.out.chg hC (by simpa using KK.out.2.2.1))
    have T2 := Lib.hid hT
    have C2 := Lib.hid (B0.out.trans (hC.mono (by simp)))
    have G2 := Lib.hid (hC.ln H0.out.1 (by simpa using KK.out.2.2.2.2))
    clear hT hC
    have l0 : ∀ w', Chg [g] w2 w' → (lineLoad (.pointer (some ⟨w.heap.size, 0, none⟩))).run Try.prog w' = .ok (.agg (lc d)) w' := fun w' hc => (hc.ln G2.out (by simpa using KK.out.2.2.2.1)).load
    have d1 : ∀ w', Chg [g] w2 w' → w'.cell? ⟨x, 1, none⟩ = some (.pointer (some ⟨q, 0, none⟩)) := fun w' hc => (T2.out.chg hc (by simpa using KK.out.2.1)).c1
    have d2 : ∀ w', Chg [g] w2 w' → w'.cell? ⟨x, 2, none⟩ = some (.int .i64 (n : Int)) := fun w' hc => (T2.out.chg hc (by simpa using KK.out.2.1)).c2
    have hbd : Below w2.heap.size w2 w2.drew := (Below.refl _ _).drew
    go_wp2
    go_region_held3 (fun w' => Chg [g] w2 w')
      (first | assumption | exact (Chg.refl _ _).drew)
      (first
        | (go_at_call 51; refine (SC.out _).mono ?_; rintro e wz ⟨rfl, rfl⟩)
        | (go_at_call 58; refine (PC.out _ (L2.out.below hbd) (N2.out.below hbd)).mono ?_; rintro e wy ⟨rfl, hNy, hCy⟩
           have NY := Lib.hid hNy
           have CY := Lib.hid ((Chg.of_below hbd [g]).trans hCy)
           clear hNy hCy))
    have TY := Lib.hid (T2.out.chg CY.out (by simpa using KK.out.2.1))
    have LY := Lib.hid (L2.out.chg CY.out (by simpa using KK.out.1))
    have CW := Lib.hid (C2.out.trans (CY.out.mono (by simp)))
    clear l0 d1 d2
    go_wp2
    go_ret
    exact ⟨rfl, NY.out, TY.out, LY.out, CW.out⟩
end Go.Proofs.Ytjghhcbiaklomaa

/-
  Contracts of package turn's New; 'awake' of layer 9's statements.
-/
namespace Go.Proofs.Ytjghhcbiaklomaa
set_option maxRecDepth 100000
open Go.RowKit

theorem tnew_null (n : Nat) (P per : Int) (w : World) (h1 : 1 ≤ n) : Calls Try.prog 25 #[.pointer none, .int .i64 (n : Int), .int .i64 P, .int .i64 per] w fun e w' => e = .returned (.pointer none) ∧ w = w' := by
  have i1 : ¬ (n : Int) < 1 := by omega
  have i2 : (n : Int) ≥ 0 := by omega
  clear h1
  go_enter Try.func25, Try.ntmps25
  go_wp2_with fail
  refine (lines_nil w).mono ?_; rintro e w' ⟨rfl, rfl⟩
  go_wp2_with fail
  go_ret
  exact ⟨rfl, rfl⟩
theorem tnew_few (g : Nat) (s : Nv) (n : Nat) (P per : Int) (w : World) (hN : Nm w g s) (h1 : 1 ≤ n) (hb : s.n ≤ n) : Calls Try.prog 25 #[.pointer (some ⟨g, 0, none⟩), .int .i64 (n : Int), .int .i64 P, .int .i64 per] w fun e w' => e = .returned (.pointer none) ∧ w = w' := by
  have C := Lib.hid (lines_any g s w hN)
  have i1 : ¬ (n : Int) < 1 := by omega
  have i2 : (n : Int) ≥ (s.n : Int) := by omega
  generalize s.n = N at *
  clear h1 hN hb
  go_enter Try.func25, Try.ntmps25
  go_wp2_with fail
  refine (C.out).mono ?_; rintro e w' ⟨rfl, rfl⟩
  go_wp2_with fail
  go_ret
  exact ⟨rfl, rfl⟩
theorem tnew_period (g : Nat) (s : Nv) (n : Nat) (P per : Int) (w : World) (hN : Nm w g s) (h1 : 1 ≤ n) (hb : n < s.n) (hp : per < 1 ∨ 1000 < per) : Calls Try.prog 25 #[.pointer (some ⟨g, 0, none⟩), .int .i64 (n : Int), .int .i64 P, .int .i64 per] w fun e w' => e = .returned (.pointer none) ∧ w = w' := by
  have C := Lib.hid (lines_any g s w hN)
  have i1 : ¬ (n : Int) < 1 := by omega
  have i2 : ¬ (n : Int) ≥ (s.n : Int) := by omega
  generalize s.n = N at *
  clear h1 hN hb
  by_cases h : per < 1
  · clear hp
    go_enter Try.func25, Try.ntmps25
    go_wp2_with fail
    refine (C.out).mono ?_; rintro e w' ⟨rfl, rfl⟩
    go_wp2_with fail
    go_ret
    exact ⟨rfl, rfl⟩
  · have h2 : per > 1000 := by omega
    clear hp
    go_enter Try.func25, Try.ntmps25
    go_wp2_with fail
    refine (C.out).mono ?_; rintro e w' ⟨rfl, rfl⟩
    go_wp2_with fail
    go_ret
    exact ⟨rfl, rfl⟩

theorem Tq.new (w : World) (g q n per : Nat) : Tq (w.alloc (.cells #[.pointer (some ⟨g, 0, none⟩), .pointer (some ⟨q, 0, none⟩), .int .i64 (n : Int), .int .i64 (per : Int), .int .i64 0] 79)) w.heap.size g q n per 0 := heap_alloc_last w _
/-- made on a memory of m moves: there, or not, if there were too many -/
def Made (v : Value) (w w' : World) (g n P per M : Nat) : Prop :=
  if M ≤ 1099511627776 then ∃ x q, v = .pointer (some ⟨x, 0, none⟩) ∧ w.heap.size ≤ x ∧ w.heap.size ≤ q ∧ x ≠ q ∧ Lq w' q g (n + 1) P ∧ Tq w' x g q n per 0 else v = .pointer none
theorem tnew_any {g n P per M : Nat} {s : Nv} {w : World} (H : TOk s n P M) (h1 : 1 ≤ n) (hn2 : n ≤ 1000) (hp1 : 1 ≤ per) (hp2 : per ≤ 1000) (hN : Nm w g s) :
    Calls Try.prog 25 #[.pointer (some ⟨g, 0, none⟩), .int .i64 (n : Int), .int .i64 (P : Int), .int .i64 (per : Int)] w fun e w' => (∃ v, e = .returned v ∧ Made v w w' g n P per M) ∧ Below w.heap.size w w' := by
  have C := Lib.hid (lines_any g s w hN)
  have LC := lnew_yes H.l hN
  have hnn := H.l.n
  have i1 : ¬ (n : Int) < 1 := by omega
  have i2 : ¬ (n : Int) ≥ (s.n : Int) := by omega
  have i3 : ¬ (per : Int) < 1 := by omega
  have i4 : ¬ (per : Int) > 1000 := by omega
  obtain ⟨n1, hn1⟩ : ∃ n1 : Nat, n1 = n + 1 := ⟨_, rfl⟩
  have k1 : IntKind.i64.wrap ((n : Int) + 1) = (n1 : Int) := by rw [show (n : Int) + 1 = (n1 : Int) by omega]; exact i64_nat _ (by omega)
  rw [← hn1] at LC
  have LC := Lib.hid LC
  have HN := Lib.hid hN
  have HT := Lib.hid H
  have E1 := Lib.hid hn1
  clear hN H h1 hn2 hp1 hp2 hnn hn1
  generalize s.n = N at *
  go_enter Try.func25, Try.ntmps25
  go_wp2_with fail
  refine (C.out).mono ?_; rintro e w' ⟨rfl, rfl⟩
  go_wp2_with fail
  refine (LC.out).mono ?_; rintro e w2 ⟨q, rfl, hq, hQ, hb⟩
  have N2 := HN.out.below hb
  obtain ⟨W, hW⟩ : ∃ W, w2.alloc (.cells #[.pointer (some ⟨g, 0, none⟩), .pointer (some ⟨q, 0, none⟩), .int .i64 (n : Int), .int .i64 (per : Int), .int .i64 0] 79) = W := ⟨_, rfl⟩
  have T3 := Tq.new w2 g q n per
  have Q3 := hQ.alloc (.cells #[.pointer (some ⟨g, 0, none⟩), .pointer (some ⟨q, 0, none⟩), .int .i64 (n : Int), .int .i64 (per : Int), .int .i64 0] 79)
  have N3 := N2.alloc (.cells #[.pointer (some ⟨g, 0, none⟩), .pointer (some ⟨q, 0, none⟩), .int .i64 (n : Int), .int .i64 (per : Int), .int .i64 0] 79)
  have B3 := bal (o := .cells #[.pointer (some ⟨g, 0, none⟩), .pointer (some ⟨q, 0, none⟩), .int .i64 (n : Int), .int .i64 (per : Int), .int .i64 0] 79) hb
  rw [hW] at T3 Q3 N3 B3
  have KK : Hid (w.heap.size ≤ w2.heap.size ∧ w.heap.size ≤ q ∧ w2.heap.size ≠ q) := Lib.hid ⟨hb.size, hq, by have := hQ.lt; omega⟩
  have c1 := T3.c1
  have MC := Lib.hid (tmoves_is T3.c0 N3 HT.out.l.live HT.out.rg HT.out.m)
  have TT := Lib.hid T3
  have QQ := Lib.hid Q3
  have BB := Lib.hid B3
  clear hb hq hQ N2 T3 Q3 N3 B3
  go_wp2_with fail
  refine (MC.out).mono ?_; rintro e w' ⟨rfl, rfl⟩
  by_cases hM : M ≤ 1099511627776
  · have i5 : ¬ (M : Int) > 1099511627776 := by omega
    have HM : Hid (M ≤ 1099511627776) := Lib.hid hM
    clear hM
    go_wp2
    go_ret
    exact ⟨⟨_, rfl, by rw [Made, if_pos HM.out]; exact ⟨_, q, rfl, KK.out.1, KK.out.2.1, KK.out.2.2, by rw [← E1.out]; exact QQ.out, TT.out⟩⟩, BB.out⟩
  · have i5 : (M : Int) > 1099511627776 := by omega
    have HM : Hid (¬ M ≤ 1099511627776) := Lib.hid hM
    clear hM
    go_wp2
    go_ret
    exact ⟨⟨_, rfl, by rw [Made, if_neg HM.out]; rfl⟩, BB.out⟩
theorem tnew_yes {g n P per M : Nat} {s : Nv} {w : World} (H : TOk s n P M) (h1 : 1 ≤ n) (hn2 : n ≤ 1000) (hp1 : 1 ≤ per) (hp2 : per ≤ 1000) (hM : M ≤ 1099511627776) (hN : Nm w g s) :
    Calls Try.prog 25 #[.pointer (some ⟨g, 0, none⟩), .int .i64 (n : Int), .int .i64 (P : Int), .int .i64 (per : Int)] w fun e w' =>
      ∃ x q, e = .returned (.pointer (some ⟨x, 0, none⟩)) ∧ w.heap.size ≤ x ∧ w.heap.size ≤ q ∧ x ≠ q ∧ Lq w' q g (n + 1) P ∧ Tq w' x g q n per 0 ∧ Below w.heap.size w w' := by
  refine (tnew_any H h1 hn2 hp1 hp2 hN).mono ?_
  rintro e w' ⟨⟨v, rfl, hv⟩, hb⟩
  rw [Made, if_pos hM] at hv
  obtain ⟨x, q, rfl, a1, a2, a3, a4, a5⟩ := hv
  exact ⟨x, q, rfl, a1, a2, a3, a4, a5, hb⟩
theorem tnew_over {g n P per M : Nat} {s : Nv} {w : World} (H : TOk s n P M) (h1 : 1 ≤ n) (hn2 : n ≤ 1000) (hp1 : 1 ≤ per) (hp2 : per ≤ 1000) (hM : ¬ M ≤ 1099511627776) (hN : Nm w g s) :
    Calls Try.prog 25 #[.pointer (some ⟨g, 0, none⟩), .int .i64 (n : Int), .int .i64 (P : Int), .int .i64 (per : Int)] w fun e w' => e = .returned (.pointer none) ∧ Below w.heap.size w w' := by
  refine (tnew_any H h1 hn2 hp1 hp2 hN).mono ?_
  rintro e w' ⟨⟨v, rfl, hv⟩, hb⟩
  rw [Made, if_neg hM] at hv
  exact ⟨by rw [hv], hb⟩

theorem awake_plain9 : ∃ s1, tput 3 0 1 0 0 1 [5, 0, 0, 0, 0, 0, 0, 0] (newNv 4 []) = (0, s1) ∧ TOk (newNv 4 []) 3 0 0 ∧ TOk s1 3 0 1 ∧ thold s1 3 0 1 1 = [5, 0, 0, 0, 0, 0, 0, 0] := by
  have H := newNv_tok (n := 3) (P := 0) (by decide) (by decide) (by decide) []
  obtain ⟨M', o, _⟩ := tput_out (per := 1) (p := 0) (a := 1) (d := [5, 0, 0, 0, 0, 0, 0, 0]) H (by decide) (by decide) rfl (by decide)
  have e0 : (tput 3 0 1 0 0 1 [5, 0, 0, 0, 0, 0, 0, 0] (newNv (3 + 1 + 0) [])).1 = 0 := by decide
  refine ⟨_, Prod.ext e0 rfl, H, ?_⟩
  rcases o.own with ⟨_, h1, h2, h3⟩ | ⟨h, _⟩ | ⟨h, _⟩
  · obtain rfl : M' = 1 := h2
    exact ⟨o.tok H h1 (by decide), h3⟩
  · rw [e0] at h; cases h
  · rw [e0] at h; cases h

end Go.Proofs.Ytjghhcbiaklomaa

/-
  Blocks given by a function of the place.
-/
namespace Go.Proofs.Ytjghhcbiaklomaa
set_option maxRecDepth 100000
open Go.ChangeShapes Go.WideShapes Go.ChangeAt Go.RowKit

def tab (n : Nat) (f : Nat → Value) : Array Value := ((List.range n).map f).toArray
theorem tab_size (n : Nat) (f : Nat → Value) : (tab n f).size = n := by rw [tab, List.size_toArray, List.length_map, List.length_range]
theorem tab_at (n : Nat) (f : Nat → Value) (k : Nat) : (tab n f)[k]? = if k < n then some (f k) else none := by
  rw [tab, List.getElem?_toArray, List.getElem?_map]
  by_cases hk : k < n
  · rw [List.getElem?_range hk, if_pos hk]; rfl
  · rw [List.getElem?_eq_none (by rw [List.length_range]; omega), if_neg hk]; rfl
theorem tab_ext {n : Nat} {cs : Array Value} {f : Nat → Value} (h : ∀ j, cs[j]? = if j < n then some (f j) else none) : cs = tab n f := by
  apply Array.ext_getElem?
  intro j
  rw [h j, tab_at]
theorem Whole.tab1 {w : World} {g n : Nat} {t : TypeId} {f f' : Nat → Value} (h : Whole w g t (tab n f)) (k : Nat) (v : Value) (hk : k < n) (he : ∀ j, j < n → f' j = if j = k then v else f j) : Whole (w.setCell ⟨g, k, none⟩ v) g t (tab n f') := by
  have := h.set_ k v
  have e : (tab n f).setIfInBounds k v = tab n f' := tab_ext fun j => by
    rw [Array.getElem?_setIfInBounds, tab_at, tab_size]
    by_cases hj : j < n
    · rw [if_pos hj, if_pos hj, he j hj]
      by_cases e : k = j
      · subst e; simp [hk]
      · rw [if_neg e, if_neg (fun h => e h.symm)]
    · rw [if_neg hj, if_neg hj]
      by_cases e : k = j
      · rw [if_pos e, if_neg (fun hx => hj (e ▸ hx))]
      · rw [if_neg e]
  rw [e] at this
  exact this
theorem Whole.tabN {w : World} {g n : Nat} {t : TypeId} {f f' : Nat → Value} (h : Whole w g t (tab n f)) (o : Nat) (vs : List Value) (he : ∀ j, j < n → some (f' j) = if o ≤ j ∧ j < o + vs.length then vs[j - o]? else some (f j)) : Whole (w.setCells g o vs) g t (tab n f') := by
  obtain ⟨cs', h1, h2, h3⟩ := Whole.setCells vs o w (tab n f) h
  have e : cs' = tab n f' := tab_ext fun j => by
    rw [h3 j, tab_at, tab_size]
    by_cases hj : j < n
    · rw [if_pos hj, if_pos hj, he j hj]
      by_cases hin : o ≤ j ∧ j < o + vs.length
      · rw [if_pos hin, if_pos ⟨hin.1, hin.2, hj⟩]
      · rw [if_neg hin, if_neg (fun hx => hin ⟨hx.1, hx.2.1⟩)]
    · rw [if_neg (fun hx => hj hx.2.2), if_neg hj, if_neg hj]
  rw [e] at h1
  exact h1
theorem Whole.cellAt {w : World} {g n : Nat} {t : TypeId} {f : Nat → Value} (h : Whole w g t (tab n f)) {k : Nat} (hk : k < n) : w.cell? ⟨g, k, none⟩ = some (f k) := by
  rw [h.at_, tab_at, if_pos hk]
theorem Whole.tabEq {w : World} {g n : Nat} {t : TypeId} {f f' : Nat → Value} (h : Whole w g t (tab n f)) (he : ∀ j, j < n → f' j = f j) : Whole w g t (tab n f') := by
  have e : tab n f = tab n f' := tab_ext fun j => by
    rw [tab_at]
    by_cases hj : j < n
    · rw [if_pos hj, if_pos hj, he j hj]
    · rw [if_neg hj, if_neg hj]
  rw [← e]; exact h

theorem whole_setCells_other {g g' : Nat} {t : TypeId} {cs : Array Value} (hne : g ≠ g') : ∀ (vs : List Value) (o : Nat) (w : World), Whole w g t cs → Whole (w.setCells g' o vs) g t cs
  | [], _, _, h => h
  | v :: vr, o, w, h => by
    rw [World.setCells]
    exact whole_setCells_other hne vr (o + 1) _ (h.other (p := ⟨g', o, none⟩) hne v)
theorem made_tab (z : Array Value) (m : Nat) (f : Nat → Value) (h : ∀ j, j < m → z[j % z.size]! = f j) : madeCells z m = tab m f := tab_ext fun j => by
  unfold madeCells
  rw [Array.getElem?_map, Array.getElem?_range]
  by_cases hj : j < m
  · rw [if_pos hj, if_pos hj]; simp only [Option.map_some, h j hj]
  · rw [if_neg hj, if_neg hj]; rfl
end Go.Proofs.Ytjghhcbiaklomaa

/-
  Lines' cells.
-/
namespace Go.Proofs.Ytjghhcbiaklomaa
set_option maxRecDepth 100000
open Go.ChangeShapes Go.WideShapes Go.ChangeAt Go.RowKit

theorem info_line3 : (Try.prog.info? 39).map (fun i => (i.zero, i.size, i.bytes)) = some (some (.agg (lc zeros)), 8, 64) := by kernel_rfl
end Go.Proofs.Ytjghhcbiaklomaa

/-
  A slice of lines that a statement makes: what each holds.
-/
namespace Go.Proofs.Ytjghhcbiaklomaa
set_option maxRecDepth 100000
open Go.ChangeShapes Go.WideShapes Go.ChangeAt Go.RowKit

def wl (f : Nat → List Int) (k : Nat) : Value := .int .u64 ((f (k / 8)).getD (k % 8) 0)
/-- block g holds n lines -/
def Wt (w : World) (g n : Nat) (f : Nat → List Int) : Prop := Whole w g 39 (tab (n * 8) (wl f)) ∧ ∀ i, i < n → (f i).length = 8
theorem Wt.lt {w : World} {g n : Nat} {f : Nat → List Int} (h : Wt w g n f) : g < w.heap.size := h.1.lt
theorem Wt.below {w w' : World} {g n : Nat} {f : Nat → List Int} (h : Wt w g n f) (hb : Below w.heap.size w w') : Wt w' g n f := ⟨(hb.block g h.lt).trans h.1, h.2⟩
theorem Wt.chg {D : List Nat} {w w' : World} {g n : Nat} {f : Nat → List Int} (h : Wt w g n f) (hc : Chg D w w') (hg : g ∉ D) : Wt w' g n f := ⟨hc.whole h.1 hg, h.2⟩
theorem Wt.drew {w : World} {g n : Nat} {f : Nat → List Int} (h : Wt w g n f) : Wt w.drew g n f := h
theorem Wt.as {w : World} {g n : Nat} {f f' : Nat → List Int} (h : Wt w g n f) (he : ∀ i, i < n → f' i = f i) : Wt w g n f' := by
  refine ⟨h.1.tabEq fun j hj => ?_, fun i hi => by rw [he i hi]; exact h.2 i hi⟩
  unfold wl; rw [he _ (by omega)]
theorem Wt.load {w : World} {g n : Nat} {f : Nat → List Int} (h : Wt w g n f) {k : Nat} (hk : k < n) : (lineLoad (.pointer (some ⟨g, k * 8, none⟩))).run Try.prog w = .ok (.agg (lc (f k))) w := by
  have hl := h.2 k hk
  unfold lineLoad
  exact run_loadAt_mid (P := Try.prog) w g (k * 8) 39 ((f k).map uv) _ (fun j v hv => by
    have hj : j < 8 := by
      have := (List.getElem?_eq_some_iff.1 hv).1
      simpa [hl] using this
    have e1 : (k * 8 + j) / 8 = k := by omega
    have e2 : (k * 8 + j) % 8 = j := by omega
    rw [h.1.cellAt (k := k * 8 + j) (by omega), wl, e1, e2, ← hv]
    simp [uv, hl, hj]) Try.underlying39 rfl (by rw [info_line]; simp [hl])
theorem Wt.store {w : World} {g n : Nat} {f : Nat → List Int} (h : Wt w g n f) {k : Nat} (hk : k < n) {l : List Int} (hl : l.length = 8) : (lineStore (.pointer (some ⟨g, k * 8, none⟩)) (.agg (lc l))).run Try.prog w = .ok () (w.setCells g (k * 8) (l.map uv)) := by
  unfold lineStore
  exact run_storeAt_mid (P := Try.prog) w g (k * 8) 39 (lc l) (fun j hj => by
    rw [lc_size, hl] at hj
    exact ⟨by rw [h.1.cellAt (k := k * 8 + j) (by omega)]; rfl, h.1.free _⟩) (by rw [info_line, lc_size, hl]) (lc_one l)
theorem Wt.set_ {w : World} {g n : Nat} {f : Nat → List Int} (h : Wt w g n f) (k : Nat) {l : List Int} (hl : l.length = 8) : Wt (w.setCells g (k * 8) (l.map uv)) g n (upd f k l) := by
  refine ⟨h.1.tabN (k * 8) _ fun j hj => ?_, fun i hi => ?_⟩
  · rw [List.length_map, hl]
    by_cases hin : k * 8 ≤ j ∧ j < k * 8 + 8
    · rw [if_pos hin]
      obtain ⟨i, rfl⟩ : ∃ i, j = k * 8 + i := ⟨j - k * 8, by omega⟩
      have hi : i < 8 := by omega
      have e1 : (k * 8 + i) / 8 = k := by omega
      have e2 : (k * 8 + i) % 8 = i := by omega
      rw [wl, e1, e2, Nat.add_sub_cancel_left]
      simp [upd, uv, hl, hi]
    · rw [if_neg hin]
      have e : j / 8 ≠ k := by omega
      simp [wl, upd, e]
  · unfold upd; split
    · exact hl
    · exact h.2 i hi
theorem run_make_want (n : Nat) (hn : n ≤ 200) (w : World) :
    (Instr.makeSlice 32 (.int .i64 (n : Int)) (.int .i64 (n : Int))).run Try.prog w = .ok (.slice (some ⟨w.heap.size, 0, none⟩) n n) (w.alloc (.cells (tab (n * 8) (wl fun _ => zeros)) 39)) := by
  obtain ⟨i, hi, hzz⟩ := Option.map_eq_some_iff.1 info_line3
  simp only [Prod.mk.injEq] at hzz
  obtain ⟨hz, hs, hb⟩ := hzz
  have := run_make (P := Try.prog) w 32 39 i _ Try.underlying32 hi hz .i64 .i64 n n (by omega) (by omega) (by rw [hb]; omega) (by omega)
  rw [Int.toNat_natCast, hs] at this
  rw [this, made_tab _ _ (wl fun _ => zeros)]
  intro j _
  have h8 : (Value.agg (lc zeros)).cells.size = 8 := rfl
  rw [h8]
  have hlt : j % 8 < 8 := Nat.mod_lt _ (by decide)
  have key : ∀ q : Fin 8, (Value.agg (lc zeros)).cells[q.val]! = .int .u64 (zeros.getD q.val 0) := by
    intro q
    rcases q with ⟨q, hq⟩
    rcases (by omega : q = 0 ∨ q = 1 ∨ q = 2 ∨ q = 3 ∨ q = 4 ∨ q = 5 ∨ q = 6 ∨ q = 7) with h | h | h | h | h | h | h | h <;> subst h <;> rfl
  exact key ⟨j % 8, hlt⟩
theorem Wt.new (w : World) (n : Nat) : Wt (w.alloc (.cells (tab (n * 8) (wl fun _ => zeros)) 39)) w.heap.size n (fun _ => zeros) := ⟨heap_alloc_last w _, fun _ _ => rfl⟩
end Go.Proofs.Ytjghhcbiaklomaa

/-
  Slices of lines.
-/
namespace Go.Proofs.Ytjghhcbiaklomaa
set_option maxRecDepth 100000
open Go.ChangeShapes Go.WideShapes Go.ChangeAt Go.RowKit

def lineE : Elm Try.prog (List Int) where
  t := 32
  e := 39
  size := 8
  bytes := 64
  z := .agg #[.int .u64 0, .int .u64 0, .int .u64 0, .int .u64 0, .int .u64 0, .int .u64 0, .int .u64 0, .int .u64 0]
  enc := fun l => l.map uv
  ok := fun l => l.length = 8
  ht := Try.underlying32
  hi := by kernel_rfl
  hzs := rfl
  pos := by decide
  bpos := by decide
  len := fun _ h => by simpa using h
  one := fun a _ u hu => by obtain ⟨y, _, rfl⟩ := List.mem_map.1 hu; rfl
/-- a line of a slice: loaded -/
theorem line_at {w : World} {p : Option Addr} {n cap : Nat} {l : List (List Int)} (h : RA lineE w (.slice p n cap) l) (h0 : 0 < l.length) :
    ∃ b off, p = some ⟨b, off, none⟩ ∧ b < w.heap.size ∧ ∀ k, k < l.length → (lineLoad (.pointer (some ⟨b, off + k * 8, none⟩))).run Try.prog w = .ok (.agg (lc (l.getD k default))) w ∧ (l.getD k default).length = 8 := by
  obtain ⟨b, off, e, hb, hr⟩ := ra_at h h0
  refine ⟨b, off, e, hb, fun k hk => ?_⟩
  have hw : (l.getD k default).length = 8 := (ra_ok h).at_ hk
  refine ⟨?_, hw⟩
  unfold lineLoad
  exact run_loadAt_mid (P := Try.prog) w b (off + k * 8) 39 ((l.getD k default).map uv) _ (hr k hk) Try.underlying39 rfl (by rw [info_line, List.length_map, hw])
/-- stored, in one of a call's own -/
theorem line_store {B g n c : Nat} {w : World} {l : List (List Int)} (h : OwnA lineE B w (.slice (some ⟨g, 0, none⟩) n c) l) {k : Nat} (hk : k < l.length) {x : List Int} (hx : x.length = 8) :
    (lineStore (.pointer (some ⟨g, k * 8, none⟩)) (.agg (lc x))).run Try.prog w = .ok () (w.setCells g (k * 8) (x.map uv)) ∧ OwnA lineE B (w.setCells g (k * 8) (x.map uv)) (.slice (some ⟨g, 0, none⟩) n c) (l.set k x) := by
  refine ⟨?_, h.setElem hk hx⟩
  have hr := h.ra
  obtain ⟨b, off, e, _, hc⟩ := ra_at hr (by omega)
  cases e
  have hw : (l.getD k default).length = 8 := (ra_ok hr).at_ hk
  unfold lineStore
  rw [run_storeAt_mid (P := Try.prog) w g (k * 8) 39 (lc x) (fun j hj => ?_) (by rw [info_line, lc_size, hx]) (lc_one x)]
  · simp [lc]
  · rw [lc_size, hx] at hj
    refine ⟨?_, h.free _⟩
    have hck := hc k hk
    generalize l.getD k default = y at *
    have := hck j (uv (y.getD j 0)) (by simp [lineE, hw, hj])
    rw [show lineE.size = 8 from rfl, Nat.zero_add] at this
    rw [this]; rfl

/-- n lines of a call's own, by a function -/
def Ol (B : Nat) (w : World) (g n c : Nat) (f : Nat → List Int) : Prop := OwnA lineE B w (.slice (some ⟨g, 0, none⟩) n c) ((List.range n).map f)
theorem ol_getD {n k : Nat} {f : Nat → List Int} (hk : k < n) : ((List.range n).map f).getD k default = f k := by simp [hk]
theorem Ol.wide {B : Nat} {w : World} {g n c : Nat} {f : Nat → List Int} (h : Ol B w g n c f) {k : Nat} (hk : k < n) : (f k).length = 8 := by
  have := h.2.at_ (k := k) (by simpa using hk)
  rw [ol_getD hk] at this; exact this
theorem Ol.load {B : Nat} {w : World} {g n c : Nat} {f : Nat → List Int} (h : Ol B w g n c f) {k : Nat} (hk : k < n) : (lineLoad (.pointer (some ⟨g, k * 8, none⟩))).run Try.prog w = .ok (.agg (lc (f k))) w := by
  obtain ⟨b, off, e, _, hx⟩ := line_at h.ra (by simp; omega)
  cases e
  have := (hx k (by simpa using hk)).1
  rw [ol_getD hk, Nat.zero_add] at this; exact this
theorem Ol.as {B : Nat} {w : World} {g n c : Nat} {f f' : Nat → List Int} (h : Ol B w g n c f) (he : ∀ i, i < n → f' i = f i) : Ol B w g n c f' := by
  have e : (List.range n).map f' = (List.range n).map f := List.map_congr_left fun i hi => he i (List.mem_range.1 hi)
  unfold Ol; rw [e]; exact h
theorem Ol.store {B : Nat} {w : World} {g n c : Nat} {f : Nat → List Int} (h : Ol B w g n c f) {k : Nat} (hk : k < n) {x : List Int} (hx : x.length = 8) :
    (lineStore (.pointer (some ⟨g, k * 8, none⟩)) (.agg (lc x))).run Try.prog w = .ok () (w.setCells g (k * 8) (x.map uv)) ∧ Ol B (w.setCells g (k * 8) (x.map uv)) g n c (upd f k x) := by
  obtain ⟨a, b⟩ := line_store h (k := k) (by simpa using hk) hx
  refine ⟨a, ?_⟩
  have e : ((List.range n).map f).set k x = (List.range n).map (upd f k x) := by
    refine List.ext_getElem (by simp) fun i h1 h2 => ?_
    rw [List.getElem_set]
    simp only [List.getElem_map, List.getElem_range, upd]
    split
    · rename_i e; rw [if_pos e.symm]
    · rename_i e; rw [if_neg fun q => e q.symm]
  rw [e] at b; exact b
theorem Ol.below {B : Nat} {w w' : World} {g n c : Nat} {f : Nat → List Int} (h : Ol B w g n c f) (hb : Below w.heap.size w w') : Ol B w' g n c f := OwnA.below h hb
theorem Ol.chg {B : Nat} {D : List Nat} {w w' : World} {g n c : Nat} {f : Nat → List Int} (h : Ol B w g n c f) (hc : Chg D w w') (hD : g ∉ D) : Ol B w' g n c f := OwnA.chg h hc fun k hk => by cases hk; exact hD
theorem Ol.alloc {B : Nat} {w : World} {g n c : Nat} {f : Nat → List Int} (h : Ol B w g n c f) (o : Obj) : Ol B (w.alloc o) g n c f := OwnA.alloc h o
theorem Ol.of_wt {B : Nat} {w : World} {g n : Nat} {f : Nat → List Int} (h : Wt w g n f) (hB : B ≤ g) (hn : n ≤ maxLen) : Ol B w g n n f := by
  have hok : AllOk lineE ((List.range n).map f) := fun x hx => by
    obtain ⟨i, hi, rfl⟩ := List.mem_map.1 hx
    exact h.2 i (List.mem_range.1 hi)
  have hl := flat_length lineE _ hok
  refine ⟨⟨by simpa using hl, .inr ⟨g, n, tab (n * 8) (wl f), by simp, hB, h.1, by simp, hn, by simp [tab]; rfl, ?_⟩⟩, hok⟩
  refine flat_ext lineE hok (by simp [tab]; rfl) fun k j hk hj => ?_
  have hk' : k < n := by simpa using hk
  have hj' : j < 8 := hj
  rw [show lineE.size = 8 from rfl]
  have e1 : (k * 8 + j) / 8 = k := by omega
  have e2 : (k * 8 + j) % 8 = j := by omega
  have h8 := h.2 k hk'
  rw [ol_getD hk']
  have hlt : k * 8 + j < n * 8 := by omega
  simp [tab, wl, lineE, uv, hlt, e1, e2, h8, hj']
end Go.Proofs.Ytjghhcbiaklomaa
