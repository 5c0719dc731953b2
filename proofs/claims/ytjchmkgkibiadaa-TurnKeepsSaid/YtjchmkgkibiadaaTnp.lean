/-
  Lines that go round, in plain words: what a move and a Put leave.
-/
import Derived.Test.YtjchmkgkibiadaaLnw
import Derived.Test.YtjchmkgkibiadaaGpl
namespace Go.Proofs.Ytjchmkgkibiadaa

/-- registers that are none of the table's stay -/
theorem repl_rg (S : Nat) (a : Int) (d : List Int) {k : Nat} (hk : k < 3) : ∀ (n : Nat) (t : List Int) (s : Nv), (repl S a d n t s).2.rg k = s.rg k
  | 0, _, _ => rfl
  | n + 1, t, s => by
    have r : ∀ (z : Nv) (v : Int), (z.set (3 + (zeroT t : Int)) v).rg k = z.rg k := fun z v => z.set_rg _ v (by omega)
    have p : ∀ (i : Int), (s.put i d).rg k = s.rg k := fun i => by rw [Nv.put_rg]
    rw [repl]
    split
    · split
      · dsimp only; rw [r, p]
      · split
        · split
          · rw [repl_rg S a d hk n, r, p]
          · dsimp only; rw [r, p]
        · dsimp only; rw [p]
    · rfl
theorem lput_rg (S P : Nat) (a : Int) (d : List Int) (s : Nv) {k : Nat} (hk : k < 3) : (lput S P a d s).2.rg k = s.rg k := by
  unfold lput
  split
  · split
    · rfl
    · split
      · rw [repl_rg S a d hk, Nv.put_rg]
      · dsimp only; rw [Nv.put_rg]
  · rfl
theorem tb_low {s s' : Nv} {x : Int} (P : Nat) (h : s'.rg = upd s.rg 0 x) : s'.tb P = s.tb P := by
  refine list_ext (by simp [Nv.tb]) fun i hi => ?_
  rw [Nv.tb_length] at hi
  rw [Nv.tb_getD _ hi, Nv.tb_getD _ hi, h, upd_other _ _ (by omega)]
theorem hold_same {s s' : Nv} {S P : Nat} (ht : s'.tb P = s.tb P) (hh : s'.h = s.h) (b : Nat) : hold s' S P b = hold s S P b := by
  unfold hold; rw [ht, hh]

/-- lines that go round, and have power: n of them, M moves -/
structure TOk (s : Nv) (n P M : Nat) : Prop where
  l : LOk s (n + 1) P
  rg : s.rg 0 = (M : Int)
  m : M < 4611686018427387904

/-- what a line holds -/
def thold (s : Nv) (n P M b : Nat) : List Int := hold s (n + 1) P (slN n M b)

/-- the gap moves -/
def tmove (n P M : Nat) (s : Nv) : Int × Nv :=
  if (lput (n + 1) P (gN n M : Nat) (hold s (n + 1) P (frN n M)) s).1 = 0 then
    ((lput (n + 1) P (gN n M : Nat) (hold s (n + 1) P (frN n M)) s).2.setE ((0 : Nat) : Int), (lput (n + 1) P (gN n M : Nat) (hold s (n + 1) P (frN n M)) s).2.set ((0 : Nat) : Int) ((M + 1 : Nat) : Int))
  else lput (n + 1) P (gN n M : Nat) (hold s (n + 1) P (frN n M)) s
/-- a Put, where p came since the gap's turn -/
def tput (n P per p M a : Nat) (d : List Int) (s : Nv) : Int × Nv :=
  if per ≤ p + 1 then
    if (tmove n P M s).1 = 0 then lput (n + 1) P (slN n (M + 1) a : Nat) d (tmove n P M s).2 else tmove n P M s
  else lput (n + 1) P (slN n M a : Nat) d s
def tp (per p : Nat) : Nat := if per ≤ p + 1 then 0 else p + 1
def td (per p : Nat) : Nat := if per ≤ p + 1 then 1 else 0

/-- what a move leaves: M' moves -/
structure MOut (s s' : Nv) (n P M M' : Nat) (e : Int) : Prop where
  ok : s'.Ok
  nn : s'.n = s.n
  la : s'.la = s.la
  comes : s'.comes = s.comes
  may : mayT (s'.tb P) (n + 1) = true
  rg : s'.rg 0 = (M' : Int)
  all : ∀ b, b < n → thold s' n P M' b = thold s n P M b
  own : (e = 0 ∧ s'.dark = false ∧ M' = M + 1) ∨ (e = 3 ∧ s'.dark = false ∧ leftT (s'.tb P) = 0 ∧ M' = M) ∨ (e = 2 ∧ s.comes = true ∧ M ≤ M' ∧ M' ≤ M + 1)
  left : leftT (s'.tb P) ≤ leftT (s.tb P)

theorem gN_lt {n : Nat} (M : Nat) : gN n M < n + 1 := Nat.lt_succ_of_le (gN_le n M)
theorem slN_lt {n : Nat} (h : 0 < n) (M b : Nat) : slN n M b < n + 1 := Nat.lt_succ_of_le (slN_le h M b)

theorem tmove_out {s : Nv} {n P M : Nat} (H : TOk s n P M) (hn : 0 < n) : ∃ M', MOut s (tmove n P M s).2 n P M M' (tmove n P M s).1 ∧ (tmove n P M s).2.c ≤ s.c + 41 := by
  unfold tmove
  have h8 : (hold s (n + 1) P (frN n M)).length = 8 := H.l.ok.line _
  obtain ⟨o, oc⟩ := lput_out (a := gN n M) (d := hold s (n + 1) P (frN n M)) H.l h8 (gN_lt M)
  have r0 := lput_rg (n + 1) P (gN n M : Nat) (hold s (n + 1) P (frN n M)) s (k := 0) (by decide)
  generalize lput (n + 1) P (gN n M : Nat) (hold s (n + 1) P (frN n M)) s = R at *
  rcases R with ⟨e, s1⟩
  dsimp only at *
  have keep : ∀ b, b < n → thold s1 n P M b = thold s n P M b := fun b hb => o.oth _ (slN_lt hn M b) (slN_ne n M b)
  rcases o.own with ⟨rfl, d1, e1⟩ | ⟨rfl, d1, l1, _⟩ | ⟨rfl, c1, _⟩
  · rw [if_pos rfl]
    have next : ∀ b, b < n → thold s1 n P (M + 1) b = thold s n P M b := fun b hb => by
      unfold thold
      rw [slN_next hb M]
      split
      · rename_i h; rw [e1, h]
      · exact keep b hb
    have hc := set_cases d1 (k := 0) (by decide) ((M + 1 : Nat) : Int)
    have q1 := s1.set_n ((0 : Nat) : Int) ((M + 1 : Nat) : Int)
    have q2 := s1.set_la ((0 : Nat) : Int) ((M + 1 : Nat) : Int)
    have q3 := s1.set_h ((0 : Nat) : Int) ((M + 1 : Nat) : Int)
    have q4 := s1.set_c ((0 : Nat) : Int) ((M + 1 : Nat) : Int)
    have q5 := s1.set_comes ((0 : Nat) : Int) ((M + 1 : Nat) : Int)
    have q6 := o.ok.set ((0 : Nat) : Int) ((M + 1 : Nat) : Int)
    generalize s1.setE ((0 : Nat) : Int) = se at *
    generalize s1.set ((0 : Nat) : Int) ((M + 1 : Nat) : Int) = s2 at *
    have new : s2.rg = upd s1.rg 0 ((M + 1 : Nat) : Int) → s2.rg 0 = ((M + 1 : Nat) : Int) ∧ mayT (s2.tb P) (n + 1) = true ∧ (∀ b, b < n → thold s2 n P (M + 1) b = thold s n P M b) ∧ leftT (s2.tb P) ≤ leftT (s.tb P) := fun h => by
      have ht := tb_low P h
      exact ⟨by rw [h]; exact upd_same _ _ _, by rw [ht]; exact o.may, fun b hb => (hold_same ht q3 _).trans (next b hb), by rw [ht]; exact o.left⟩
    rcases hc with ⟨rfl, v1, v2⟩ | ⟨rfl, v0, v1, v2 | v2⟩
    · obtain ⟨g1, g2, g3, g4⟩ := new v2
      exact ⟨M + 1, ⟨q6, q1.trans o.n, q2.trans o.la, q5.trans o.comes, g2, g1, g3, .inl ⟨rfl, v1, rfl⟩, g4⟩, by dsimp only; omega⟩
    · obtain ⟨g1, g2, g3, g4⟩ := new v2
      exact ⟨M + 1, ⟨q6, q1.trans o.n, q2.trans o.la, q5.trans o.comes, g2, g1, g3, .inr (.inr ⟨rfl, o.comes ▸ v0, by omega, by omega⟩), g4⟩, by dsimp only; omega⟩
    · have ht := Nv.tb_congr v2 P
      exact ⟨M, ⟨q6, q1.trans o.n, q2.trans o.la, q5.trans o.comes, by rw [ht]; exact o.may, by rw [v2, r0]; exact H.rg, fun b hb => (hold_same ht q3 _).trans (keep b hb), .inr (.inr ⟨rfl, o.comes ▸ v0, by omega, by omega⟩), by rw [ht]; exact o.left⟩, by dsimp only; omega⟩
  · rw [if_neg (by decide)]
    exact ⟨M, ⟨o.ok, o.n, o.la, o.comes, o.may, r0.trans H.rg, keep, .inr (.inl ⟨rfl, d1, l1, rfl⟩), o.left⟩, by dsimp only; omega⟩
  · rw [if_neg (by decide)]
    exact ⟨M, ⟨o.ok, o.n, o.la, o.comes, o.may, r0.trans H.rg, keep, .inr (.inr ⟨rfl, c1, by omega, by omega⟩), o.left⟩, by dsimp only; omega⟩

/-- what a Put of line a leaves -/
structure TOut (s s' : Nv) (n P per p M M' a : Nat) (d : List Int) (e : Int) : Prop where
  ok : s'.Ok
  nn : s'.n = s.n
  la : s'.la = s.la
  comes : s'.comes = s.comes
  may : mayT (s'.tb P) (n + 1) = true
  rg : s'.rg 0 = (M' : Int)
  lo : M ≤ M'
  hi : M' ≤ M + td per p
  oth : ∀ b, b < n → b ≠ a → thold s' n P M' b = thold s n P M b
  own : (e = 0 ∧ s'.dark = false ∧ M' = M + td per p ∧ thold s' n P M' a = d) ∨ (e = 3 ∧ s'.dark = false ∧ leftT (s'.tb P) = 0 ∧ thold s' n P M' a = thold s n P M a) ∨ (e = 2 ∧ s.comes = true ∧ could (thold s n P M a) d (thold s' n P M' a) = true)
  left : leftT (s'.tb P) ≤ leftT (s.tb P)

theorem tput_one {s s' : Nv} {n P M a : Nat} {d : List Int} {e : Int} (H : TOk s n P M) (hn : 0 < n) (ha : a < n) (o : Out s s' (n + 1) P (slN n M a) d e) (r0 : s'.rg 0 = s.rg 0) :
    s'.rg 0 = (M : Int) ∧ (∀ b, b < n → b ≠ a → thold s' n P M b = thold s n P M b) ∧
      ((e = 0 ∧ s'.dark = false ∧ thold s' n P M a = d) ∨ (e = 3 ∧ s'.dark = false ∧ leftT (s'.tb P) = 0 ∧ thold s' n P M a = thold s n P M a) ∨ (e = 2 ∧ s.comes = true ∧ could (thold s n P M a) d (thold s' n P M a) = true)) := by
  refine ⟨r0.trans H.rg, fun b hb hne => o.oth _ (slN_lt hn M b) fun h => hne ?_, o.own⟩
  have := lnN_slN M hb
  rw [h, lnN_slN M ha] at this
  exact this.symm

theorem MOut.tok {s s' : Nv} {n P M M' : Nat} {e : Int} (o : MOut s s' n P M M' e) (H : TOk s n P M) (hd : s'.dark = false) (hm : M' < 4611686018427387904) : TOk s' n P M' :=
  ⟨⟨o.ok, o.nn.trans H.l.n, H.l.p, o.may, hd⟩, o.rg, hm⟩
theorem TOut.tok {s s' : Nv} {n P per p M M' a : Nat} {d : List Int} {e : Int} (o : TOut s s' n P per p M M' a d e) (H : TOk s n P M) (hd : s'.dark = false) (hm : M' < 4611686018427387904) : TOk s' n P M' :=
  ⟨⟨o.ok, o.nn.trans H.l.n, H.l.p, o.may, hd⟩, o.rg, hm⟩

theorem tput_out {s : Nv} {n P per p M a : Nat} {d : List Int} (H : TOk s n P M) (hn : 0 < n) (ha : a < n) (hd : d.length = 8) (hm : M + 1 < 4611686018427387904) :
    ∃ M', TOut s (tput n P per p M a d s).2 n P per p M M' a d (tput n P per p M a d s).1 ∧ (tput n P per p M a d s).2.c ≤ s.c + 81 := by
  unfold tput
  by_cases hp : per ≤ p + 1
  · rw [if_pos hp]
    have t1 : td per p = 1 := if_pos hp
    obtain ⟨M1, o, oc⟩ := tmove_out H hn
    generalize tmove n P M s = R at *
    rcases R with ⟨e, s1⟩
    dsimp only at *
    have old : ∀ b, b < n → could (thold s n P M b) d (thold s1 n P M1 b) = true := fun b hb => by
      rw [o.all b hb]; exact could_old _ _ ((H.l.ok.line _).trans hd.symm)
    rcases o.own with ⟨rfl, d1, rfl⟩ | ⟨rfl, d1, l1, rfl⟩ | ⟨rfl, c1, m1, m2⟩
    · rw [if_pos rfl]
      have H1 := o.tok H d1 (by omega)
      obtain ⟨u, uc⟩ := lput_out (a := slN n (M + 1) a) (d := d) H1.l hd (slN_lt hn _ _)
      have r0 := lput_rg (n + 1) P (slN n (M + 1) a : Nat) d s1 (k := 0) (by decide)
      obtain ⟨k1, k2, k3⟩ := tput_one H1 hn ha u r0
      have ea := o.all a ha
      refine ⟨M + 1, ⟨u.ok, u.n.trans o.nn, u.la.trans o.la, u.comes.trans o.comes, u.may, k1, by omega, by omega, fun b hb hne => (k2 b hb hne).trans (o.all b hb), ?_, Nat.le_trans u.left o.left⟩, by omega⟩
      rcases k3 with ⟨h1, h2, h3⟩ | ⟨h1, h2, h3, h4⟩ | ⟨h1, h2, h3⟩
      · exact .inl ⟨h1, h2, by omega, h3⟩
      · exact .inr (.inl ⟨h1, h2, h3, h4.trans ea⟩)
      · exact .inr (.inr ⟨h1, o.comes ▸ h2, ea ▸ h3⟩)
    · rw [if_neg (by decide)]
      exact ⟨M1, ⟨o.ok, o.nn, o.la, o.comes, o.may, o.rg, Nat.le_refl _, by omega, fun b hb _ => o.all b hb, .inr (.inl ⟨rfl, d1, l1, o.all a ha⟩), o.left⟩, by dsimp only; omega⟩
    · rw [if_neg (by decide)]
      exact ⟨M1, ⟨o.ok, o.nn, o.la, o.comes, o.may, o.rg, by omega, by omega, fun b hb _ => o.all b hb, .inr (.inr ⟨rfl, c1, old a ha⟩), o.left⟩, by dsimp only; omega⟩
  · rw [if_neg hp]
    have t1 : td per p = 0 := if_neg hp
    obtain ⟨u, uc⟩ := lput_out (a := slN n M a) (d := d) H.l hd (slN_lt hn _ _)
    have r0 := lput_rg (n + 1) P (slN n M a : Nat) d s (k := 0) (by decide)
    obtain ⟨k1, k2, k3⟩ := tput_one H hn ha u r0
    refine ⟨M, ⟨u.ok, u.n, u.la, u.comes, u.may, k1, by omega, by omega, k2, ?_, u.left⟩, by omega⟩
    rcases k3 with ⟨h1, h2, h3⟩ | ⟨h1, h2, h3, h4⟩ | ⟨h1, h2, h3⟩
    · exact .inl ⟨h1, h2, by omega, h3⟩
    · exact .inr (.inl ⟨h1, h2, h3, h4⟩)
    · exact .inr (.inr ⟨h1, h2, h3⟩)
theorem newNv_tok {n P : Nat} (h1 : 1 ≤ n) (hP : P ≤ 16) (h2 : n + 1 + P ≤ 200) (lim : List Int) : TOk (newNv (n + 1 + P) lim) n P 0 := ⟨newNv_lok (by omega) hP h2 lim, rfl, by decide⟩
end Go.Proofs.Ytjchmkgkibiadaa
