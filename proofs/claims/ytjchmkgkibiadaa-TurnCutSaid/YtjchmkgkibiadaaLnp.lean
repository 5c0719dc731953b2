/-
  Lines that don't fail, in plain words: the table in the registers, the line that stands for a slot, a Put and what it leaves.
-/
import Derived.Test.YtjchmkgkibiadaaNvp
import Derived.Test.YtjchmkgkibiadaaSps
namespace Go.Proofs.Ytjchmkgkibiadaa

/-- the table, as it stands in the registers -/
def Nv.tb (s : Nv) (P : Nat) : List Int := (List.range P).map fun i => s.rg (3 + i)
theorem Nv.tb_length (s : Nv) (P : Nat) : (s.tb P).length = P := by simp [Nv.tb]
theorem Nv.tb_getD (s : Nv) {P k : Nat} (h : k < P) : (s.tb P).getD k 0 = s.rg (3 + k) := by simp [Nv.tb, h]
theorem Nv.tb_congr {s s' : Nv} (h : s'.rg = s.rg) (P : Nat) : s'.tb P = s.tb P := by simp [Nv.tb, h]
theorem Nv.tb_set {s s' : Nv} {P k : Nat} {x : Int} (hk : k < P) (h : s'.rg = upd s.rg (3 + k) x) : s'.tb P = (s.tb P).set k x := by
  refine list_ext (by simp [Nv.tb_length]) fun i hi => ?_
  rw [Nv.tb_length] at hi
  rw [Nv.tb_getD _ hi, getD_setT (by rw [Nv.tb_length]; exact hk), h, upd]
  by_cases e : i = k
  · subst e; rw [if_pos rfl, if_pos rfl]
  · rw [if_neg e, if_neg (by omega), Nv.tb_getD _ hi]

/-- what slot b holds -/
def hold (s : Nv) (S P b : Nat) : List Int := s.h (placeT (s.tb P) S b).toNat
/-- what Get, Left, Put tell and leave -/
def lgetE (s : Nv) (S : Nat) (a : Int) : Int := if 0 ≤ a ∧ a < S then (if s.dark then 2 else 0) else 1
def lleft (s : Nv) (P : Nat) : Nat := if s.dark then 0 else leftT (s.tb P)
def repl (S : Nat) (a : Int) (d : List Int) : Nat → List Int → Nv → Int × Nv
  | 0, _, s => (3, s)
  | n + 1, t, s =>
    if zeroT t < t.length then
      if s.putE ((S : Int) + (zeroT t : Int)) = 0 then
        ((s.put ((S : Int) + (zeroT t : Int)) d).setE (3 + (zeroT t : Int)), (s.put ((S : Int) + (zeroT t : Int)) d).set (3 + (zeroT t : Int)) (a + 1))
      else if s.putE ((S : Int) + (zeroT t : Int)) = 3 then
        if (s.put ((S : Int) + (zeroT t : Int)) d).setE (3 + (zeroT t : Int)) = 0 then
          repl S a d n (t.set (zeroT t) ((S : Int) + 1)) ((s.put ((S : Int) + (zeroT t : Int)) d).set (3 + (zeroT t : Int)) ((S : Int) + 1))
        else ((s.put ((S : Int) + (zeroT t : Int)) d).setE (3 + (zeroT t : Int)), (s.put ((S : Int) + (zeroT t : Int)) d).set (3 + (zeroT t : Int)) ((S : Int) + 1))
      else (s.putE ((S : Int) + (zeroT t : Int)), s.put ((S : Int) + (zeroT t : Int)) d)
    else (3, s)
def lput (S P : Nat) (a : Int) (d : List Int) (s : Nv) : Int × Nv :=
  if 0 ≤ a ∧ a < S then
    if s.dark then (2, s)
    else if s.putE (placeT (s.tb P) S a) = 3 then repl S a d (P + 1) (s.tb P) (s.put (placeT (s.tb P) S a) d)
    else (s.putE (placeT (s.tb P) S a), s.put (placeT (s.tb P) S a) d)
  else (1, s)

theorem could_old : ∀ (a b : List Int), a.length = b.length → could a b a = true
  | [], [], _ => rfl
  | x :: xs, y :: ys, h => by simp [could, could_old xs ys (by simpa using h)]
  | [], _ :: _, h => by simp at h
  | _ :: _, [], h => by simp at h
theorem could_new : ∀ (a b : List Int), a.length = b.length → could a b b = true
  | [], [], _ => rfl
  | x :: xs, y :: ys, h => by simp [could, could_new xs ys (by simpa using h)]
  | [], _ :: _, h => by simp at h
  | _ :: _, [], h => by simp at h
theorem upd_self {α : Type} (f : Nat → α) (i : Nat) : upd f i (f i) = f := by
  funext j; unfold upd; split
  · rename_i h; rw [h]
  · rfl

/-- what a Put leaves of a memory that has power -/
theorem put_cases {s : Nv} (ho : s.Ok) (hd : s.dark = false) {i : Nat} (hi : i < s.n) {d : List Int} (hl : d.length = 8) :
    (s.putE i = 0 ∧ (s.put i d).dark = false ∧ (s.put i d).h = upd s.h i d) ∨ (s.putE i = 3 ∧ (s.put i d).dark = false ∧ (s.put i d).h = s.h ∧ s.worn i = true) ∨
    (s.putE i = 2 ∧ s.comes = true ∧ (s.put i d).dark = true ∧ ∃ x, could (s.h i) d x = true ∧ (s.put i d).h = upd s.h i x) := by
  have hr : s.rdy (s.has i) = 0 := by simp [Nv.rdy, Nv.has_of hi, hd]
  have hL := ho.line i
  cases hg : s.goes
  · have hb : s.by_ = 255 := by simp [Nv.by_, hg]
    cases hw : s.worn i
    · left
      refine ⟨by simp [Nv.putE, hr, hw, Nv.told, hg], by simp [Nv.put, hr, hw, Nv.lay, Nv.tick, hd, hg], ?_⟩
      simp [Nv.put, hr, hw, Nv.lay, Nv.tick, hb, mix_whole _ _ hL hl]
    · right; left
      exact ⟨by simp [Nv.putE, hr, hw, hg], by simp [Nv.put, hr, hw, Nv.tick, hd, hg], by simp [Nv.put, hr, hw, Nv.tick], rfl⟩
  · have hc : s.comes = true := by simp only [Nv.goes, Bool.and_eq_true] at hg; exact hg.1
    right; right
    cases hw : s.worn i
    · refine ⟨by simp [Nv.putE, hr, hw, Nv.told, hg], hc, by simp [Nv.put, hr, hw, Nv.lay, Nv.tick, hg], _, could_mix _ _ s.by_ (hL.trans hl.symm), ?_⟩
      simp [Nv.put, hr, hw, Nv.lay, Nv.tick]
    · refine ⟨by simp [Nv.putE, hr, hw, Nv.told, hg], hc, by simp [Nv.put, hr, hw, Nv.tick, hg], _, could_old _ _ (hL.trans hl.symm), ?_⟩
      rw [upd_self]; simp [Nv.put, hr, hw, Nv.tick]
/-- and a Set -/
theorem set_cases {s : Nv} (hd : s.dark = false) {k : Nat} (hk : k < 35) (v : Int) :
    (s.setE k = 0 ∧ (s.set k v).dark = false ∧ (s.set k v).rg = upd s.rg k v) ∨
    (s.setE k = 2 ∧ s.comes = true ∧ (s.set k v).dark = true ∧ ((s.set k v).rg = upd s.rg k v ∨ (s.set k v).rg = s.rg)) := by
  have hb : hasR (k : Int) = true := by simp [hasR]; omega
  have hr : s.rdy (hasR (k : Int)) = 0 := by simp [Nv.rdy, hb, hd]
  cases hg : s.goes
  · have hy : s.by_ = 255 := by simp [Nv.by_, hg]
    left
    exact ⟨by simp [Nv.setE, hr, Nv.told, hg], by simp [Nv.set, hr, hy, Nv.tick, Nv.reg, hd, hg], by simp [Nv.set, hr, hy, Nv.tick, Nv.reg]⟩
  · have hc : s.comes = true := by simp only [Nv.goes, Bool.and_eq_true] at hg; exact hg.1
    right
    refine ⟨by simp [Nv.setE, hr, Nv.told, hg], hc, ?_, ?_⟩
    · simp only [Nv.set, hr, if_true]; split <;> simp [Nv.tick, Nv.reg, hg]
    · simp only [Nv.set, hr, if_true]; split
      · left; simp [Nv.tick, Nv.reg]
      · right; simp [Nv.tick]

/-- lines that may be, and have power -/
structure LOk (s : Nv) (S P : Nat) : Prop where
  ok : s.Ok
  n : s.n = S + P
  p : P ≤ 16
  may : mayT (s.tb P) S = true
  live : s.dark = false
theorem LOk.s1 {s : Nv} {S P : Nat} (h : LOk s S P) : 1 ≤ S := by have := (mayT_iff.1 h.may).1; omega

/-- the line that stands for a slot -/
theorem place_of {t : List Int} {S b : Nat} (hb : b < S) : (placeT t S b = (b : Int) ∧ ∀ k, k < t.length → ¬ t.getD k 0 = (b : Int) + 1) ∨ ∃ k : Nat, k < t.length ∧ placeT t S b = ((S + k : Nat) : Int) ∧ t.getD k 0 = (b : Int) + 1 := by
  unfold placeT
  rw [if_pos ⟨by omega, by omega⟩]
  rcases plT_is t S b t.length with h | ⟨k, hk, e, g⟩
  · exact .inl h
  · exact .inr ⟨k, hk, by rw [e]; omega, g⟩
theorem place_nat {t : List Int} {S b : Nat} (hb : b < S) : ∃ i : Nat, placeT t S b = (i : Int) ∧ i < S + t.length := by
  rcases place_of (t := t) hb with ⟨e, _⟩ | ⟨k, hk, e, _⟩
  · exact ⟨b, e, by omega⟩
  · exact ⟨S + k, e, by omega⟩
/-- no two have one -/
theorem place_apart {t : List Int} {S a b : Nat} (ha : a < S) (hb : b < S) (hne : b ≠ a) : (placeT t S b).toNat ≠ (placeT t S a).toNat := by
  rcases place_of (t := t) ha with ⟨e, _⟩ | ⟨k, hk, e, g⟩ <;> rcases place_of (t := t) hb with ⟨e2, _⟩ | ⟨k2, hk2, e2, g2⟩ <;> rw [e, e2] <;> intro h
  · omega
  · omega
  · omega
  · have : k = k2 := by omega
    subst this
    omega
/-- none stands on a line that is nobody's -/
theorem place_free {t : List Int} {S b k : Nat} (hb : b < S) (h0 : t.getD k 0 = 0) : (placeT t S b).toNat ≠ S + k := by
  rcases place_of (t := t) hb with ⟨e, _⟩ | ⟨j, hj, e, g⟩ <;> rw [e] <;> intro h
  · omega
  · have : j = k := by omega
    subst this
    omega

/-- what a Put of slot a leaves -/
structure Out (s s' : Nv) (S P a : Nat) (d : List Int) (e : Int) : Prop where
  ok : s'.Ok
  n : s'.n = s.n
  la : s'.la = s.la
  comes : s'.comes = s.comes
  may : mayT (s'.tb P) S = true
  oth : ∀ b, b < S → b ≠ a → hold s' S P b = hold s S P b
  own : (e = 0 ∧ s'.dark = false ∧ hold s' S P a = d) ∨ (e = 3 ∧ s'.dark = false ∧ leftT (s'.tb P) = 0 ∧ hold s' S P a = hold s S P a) ∨ (e = 2 ∧ s.comes = true ∧ could (hold s S P a) d (hold s' S P a) = true)
  left : leftT (s'.tb P) ≤ leftT (s.tb P)
theorem Out.trans {s s1 s' : Nv} {S P a : Nat} {d : List Int} {e : Int} (h : Out s1 s' S P a d e) (hn : s1.n = s.n) (hla : s1.la = s.la) (hc : s1.comes = s.comes) (hh : ∀ b, b < S → hold s1 S P b = hold s S P b) (ha : a < S) (hl : leftT (s1.tb P) ≤ leftT (s.tb P)) : Out s s' S P a d e := by
  refine ⟨h.ok, h.n.trans hn, h.la.trans hla, h.comes.trans hc, h.may, fun b hb hne => (h.oth b hb hne).trans (hh b hb), ?_, Nat.le_trans h.left hl⟩
  rw [← hh a ha, ← hc]; exact h.own

theorem set_nz {t : List Int} {k : Nat} {x : Int} (hk : k < t.length) (h0 : t.getD k 0 = 0) (hx : ¬ x = 0) : leftT (t.set k x) ≤ leftT t := by
  have := leftT_set hk h0 hx; omega
theorem zeroT_set {t : List Int} {x : Int} (hk : zeroT t < t.length) (hx : ¬ x = 0) : zeroT t < zeroT (t.set (zeroT t) x) := by
  rcases Nat.lt_or_ge (zeroT t) (zeroT (t.set (zeroT t) x)) with h | h
  · exact h
  · have h1 := zeroT_at (l := t.set (zeroT t) x) (by rw [List.length_set]; omega)
    rw [getD_setT hk] at h1
    split at h1
    · exact absurd h1 hx
    · exact absurd h1 (zeroT_before (by omega))

theorem repl_out (S P a : Nat) (d : List Int) (hd : d.length = 8) (ha : a < S) : ∀ (n : Nat) (s : Nv), LOk s S P → P < n + zeroT (s.tb P) →
    Out s (repl S a d n (s.tb P) s).2 S P a d (repl S a d n (s.tb P) s).1 ∧ (repl S a d n (s.tb P) s).2.c ≤ s.c + 2 * n
  | 0, s, _, h => by have := zeroT_le (s.tb P); rw [s.tb_length] at this; omega
  | n + 1, s, H, h => by
    have hM := mayT_iff.1 H.may
    have hT := s.tb_length P
    rw [repl]
    by_cases hz : zeroT (s.tb P) < (s.tb P).length
    · rw [if_pos hz]
      have z0 := zeroT_at hz
      have zb : ∀ j, j < zeroT (s.tb P) → ¬ (s.tb P).getD j 0 = 0 := fun j hj => zeroT_before hj
      have zs := fun x => zeroT_set (x := x) hz
      generalize zeroT (s.tb P) = k at *
      have hkP : k < P := by omega
      have e1 : (S : Int) + (k : Int) = ((S + k : Nat) : Int) := by omega
      have e2 : (3 : Int) + (k : Int) = ((3 + k : Nat) : Int) := by omega
      rw [e1, e2]
      have hi : S + k < s.n := by rw [H.n]; omega
      have hc := put_cases H.ok H.live hi hd
      have p1 := s.put_n ((S + k : Nat) : Int) d
      have p2 := s.put_la ((S + k : Nat) : Int) d
      have p3 := s.put_rg ((S + k : Nat) : Int) d
      have p4 := s.put_c ((S + k : Nat) : Int) d
      have p5 := s.put_comes ((S + k : Nat) : Int) d
      have p6 := H.ok.put hd ((S + k : Nat) : Int)
      generalize s.putE ((S + k : Nat) : Int) = pe at *
      generalize s.put ((S + k : Nat) : Int) d = s1 at *
      have t1 := Nv.tb_congr p3 P
      -- all slots' lines are others'
      have hh : ∀ x, s1.h = upd s.h (S + k) x → ∀ b, b < S → hold s1 S P b = hold s S P b := fun x hx b hb => by
        unfold hold; rw [t1, hx]; exact upd_other _ _ (place_free hb z0)
      have hh0 : s1.h = s.h → ∀ b, b < S → hold s1 S P b = hold s S P b := fun hx b hb => by unfold hold; rw [t1, hx]
      -- a register set
      have r1 := fun v => s1.set_n ((3 + k : Nat) : Int) v
      have r2 := fun v => s1.set_la ((3 + k : Nat) : Int) v
      have r3 := fun v => s1.set_h ((3 + k : Nat) : Int) v
      have r4 := fun v => s1.set_c ((3 + k : Nat) : Int) v
      have r5 := fun v => s1.set_comes ((3 + k : Nat) : Int) v
      have r6 := fun v => p6.set ((3 + k : Nat) : Int) v
      rcases hc with ⟨rfl, q1, q2⟩ | ⟨rfl, q1, q2, _⟩ | ⟨rfl, q0, q1, x, qx, q2⟩
      · rw [if_pos rfl]
        have hc2 := set_cases q1 (k := 3 + k) (by have := H.p; omega) ((a : Int) + 1)
        have hk0 := hh d q2
        generalize hse : s1.setE ((3 + k : Nat) : Int) = se at *
        replace r1 := r1 ((a : Int) + 1)
        replace r2 := r2 ((a : Int) + 1)
        replace r3 := r3 ((a : Int) + 1)
        replace r4 := r4 ((a : Int) + 1)
        replace r5 := r5 ((a : Int) + 1)
        replace r6 := r6 ((a : Int) + 1)
        generalize s1.set ((3 + k : Nat) : Int) ((a : Int) + 1) = s2 at *
        have hnew : s2.rg = upd s1.rg (3 + k) ((a : Int) + 1) → mayT (s2.tb P) S = true ∧ (∀ b, b < S → b ≠ a → hold s2 S P b = hold s S P b) ∧ hold s2 S P a = d ∧ leftT (s2.tb P) ≤ leftT (s.tb P) := fun hr => by
          have t2 := Nv.tb_set hkP hr
          rw [t1] at t2
          rw [t2]
          refine ⟨mayT_set hM (by omega) z0 zb (by omega), fun b hb hne => ?_, ?_, set_nz (by omega) z0 (by omega)⟩
          · rw [← hk0 b hb]
            unfold hold
            rw [t2, t1, placeT_set_other (by omega) z0 (by omega) (by omega), r3]
          · unfold hold
            rw [t2, placeT_set_own hM (by omega) z0 (by omega) (by omega), r3, q2]
            have : ((S : Int) + (k : Int)).toNat = S + k := by omega
            rw [this]; exact upd_same _ _ _
        have hold_ : s2.rg = s1.rg → mayT (s2.tb P) S = true ∧ (∀ b, b < S → hold s2 S P b = hold s S P b) ∧ leftT (s2.tb P) ≤ leftT (s.tb P) := fun hr => by
          have t2 := (Nv.tb_congr hr P).trans t1
          rw [t2]
          refine ⟨H.may, fun b hb => ?_, Nat.le_refl _⟩
          rw [← hk0 b hb]
          unfold hold; rw [t2, t1, r3]
        rcases hc2 with ⟨rfl, v1, v2⟩ | ⟨rfl, v0, v1, v2 | v2⟩
        · obtain ⟨g1, g2, g3, g4⟩ := hnew v2
          exact ⟨⟨r6, r1.trans p1, r2.trans p2, r5.trans p5, g1, g2, .inl ⟨rfl, v1, g3⟩, g4⟩, by dsimp only; omega⟩
        · obtain ⟨g1, g2, g3, g4⟩ := hnew v2
          refine ⟨⟨r6, r1.trans p1, r2.trans p2, r5.trans p5, g1, g2, .inr (.inr ⟨rfl, p5 ▸ v0, ?_⟩), g4⟩, by dsimp only; omega⟩
          dsimp only
          rw [g3]
          exact could_new _ _ ((H.ok.line _).trans hd.symm)
        · obtain ⟨g1, g2, g4⟩ := hold_ v2
          refine ⟨⟨r6, r1.trans p1, r2.trans p2, r5.trans p5, g1, fun b hb _ => g2 b hb, .inr (.inr ⟨rfl, p5 ▸ v0, ?_⟩), g4⟩, by dsimp only; omega⟩
          dsimp only
          rw [g2 a ha]
          exact could_old _ _ ((H.ok.line _).trans hd.symm)
      · rw [if_neg (by decide), if_pos rfl]
        have hc2 := set_cases q1 (k := 3 + k) (by have := H.p; omega) ((S : Int) + 1)
        have hk0 := hh0 q2
        generalize hse : s1.setE ((3 + k : Nat) : Int) = se at *
        replace r1 := r1 ((S : Int) + 1)
        replace r2 := r2 ((S : Int) + 1)
        replace r3 := r3 ((S : Int) + 1)
        replace r4 := r4 ((S : Int) + 1)
        replace r5 := r5 ((S : Int) + 1)
        replace r6 := r6 ((S : Int) + 1)
        generalize s1.set ((3 + k : Nat) : Int) ((S : Int) + 1) = s2 at *
        have hnew : s2.rg = upd s1.rg (3 + k) ((S : Int) + 1) → s2.tb P = (s.tb P).set k ((S : Int) + 1) ∧ mayT (s2.tb P) S = true ∧ (∀ b, b < S → hold s2 S P b = hold s S P b) ∧ leftT (s2.tb P) ≤ leftT (s.tb P) := fun hr => by
          have t2 := Nv.tb_set hkP hr
          rw [t1] at t2
          rw [t2]
          refine ⟨rfl, mayT_set hM (by omega) z0 zb (by omega), fun b hb => ?_, set_nz (by omega) z0 (by omega)⟩
          rw [← hk0 b hb]
          unfold hold
          rw [t2, t1, placeT_set_other (by omega) z0 (by omega) (by omega), r3]
        rcases hc2 with ⟨rfl, v1, v2⟩ | ⟨rfl, v0, v1, v2⟩
        · rw [if_pos rfl]
          obtain ⟨t2, g1, g2, g4⟩ := hnew v2
          rw [← t2]
          have L2 : LOk s2 S P := ⟨r6, by rw [r1, p1, H.n], H.p, g1, v1⟩
          have zs2 := zs ((S : Int) + 1) (by omega)
          rw [← t2] at zs2
          obtain ⟨o1, o2⟩ := repl_out S P a d hd ha n s2 L2 (by omega)
          exact ⟨o1.trans (r1.trans p1) (r2.trans p2) (r5.trans p5) g2 ha g4, by omega⟩
        · rw [if_neg (by decide)]
          have hall : mayT (s2.tb P) S = true ∧ (∀ b, b < S → hold s2 S P b = hold s S P b) ∧ leftT (s2.tb P) ≤ leftT (s.tb P) := by
            rcases v2 with v2 | v2
            · exact (hnew v2).2
            · have t2 := (Nv.tb_congr v2 P).trans t1
              rw [t2]
              refine ⟨H.may, fun b hb => ?_, Nat.le_refl _⟩
              rw [← hk0 b hb]
              unfold hold; rw [t2, t1, r3]
          obtain ⟨g1, g2, g4⟩ := hall
          refine ⟨⟨r6, r1.trans p1, r2.trans p2, r5.trans p5, g1, fun b hb _ => g2 b hb, .inr (.inr ⟨rfl, p5 ▸ v0, ?_⟩), g4⟩, by dsimp only; omega⟩
          dsimp only
          rw [g2 a ha]
          exact could_old _ _ ((H.ok.line _).trans hd.symm)
      · rw [if_neg (by decide), if_neg (by decide)]
        have hk0 := hh x q2
        refine ⟨⟨p6, p1, p2, p5, by rw [t1]; exact H.may, fun b hb _ => hk0 b hb, .inr (.inr ⟨rfl, q0, ?_⟩), by rw [t1]; exact Nat.le_refl _⟩, by dsimp only; omega⟩
        dsimp only
        rw [hk0 a ha]
        exact could_old _ _ ((H.ok.line _).trans hd.symm)
    · rw [if_neg hz]
      have hl0 : leftT (s.tb P) = 0 := leftT_zero fun j hj => zeroT_before (by omega)
      exact ⟨⟨H.ok, rfl, rfl, rfl, H.may, fun _ _ _ => rfl, .inr (.inl ⟨rfl, H.live, hl0, rfl⟩), Nat.le_refl _⟩, by dsimp only; omega⟩

theorem lput_out {S P a : Nat} {d : List Int} {s : Nv} (H : LOk s S P) (hd : d.length = 8) (ha : a < S) : Out s (lput S P a d s).2 S P a d (lput S P a d s).1 ∧ (lput S P a d s).2.c ≤ s.c + 40 := by
  unfold lput
  rw [if_pos ⟨by omega, by omega⟩, H.live]
  simp only [Bool.false_eq_true, if_false]
  have hT := s.tb_length P
  have hH := H.ok.line (placeT (s.tb P) S a).toNat
  obtain ⟨i, ei, hi⟩ := place_nat (t := s.tb P) ha
  have hap : ∀ b, b < S → b ≠ a → (placeT (s.tb P) S b).toNat ≠ i := fun b hb hne => by
    have := place_apart (t := s.tb P) ha hb hne
    rw [ei] at this; simpa using this
  have hoa : hold s S P a = s.h i := by unfold hold; rw [ei]; rfl
  rw [ei]
  have hin : i < s.n := by rw [H.n]; omega
  have hc := put_cases H.ok H.live hin hd
  have p1 := s.put_n (i : Int) d
  have p2 := s.put_la (i : Int) d
  have p3 := s.put_rg (i : Int) d
  have p4 := s.put_c (i : Int) d
  have p5 := s.put_comes (i : Int) d
  have p6 := H.ok.put hd (i : Int)
  generalize s.putE (i : Int) = pe at *
  generalize s.put (i : Int) d = s1 at *
  have t1 := Nv.tb_congr p3 P
  have ha1 : hold s1 S P a = s1.h i := by unfold hold; rw [t1, ei]; rfl
  have hoth : ∀ x, s1.h = upd s.h i x → ∀ b, b < S → b ≠ a → hold s1 S P b = hold s S P b := fun x hx b hb hne => by
    unfold hold; rw [t1, hx]; exact upd_other _ _ (hap b hb hne)
  rcases hc with ⟨rfl, q1, q2⟩ | ⟨rfl, q1, q2, _⟩ | ⟨rfl, q0, q1, x, qx, q2⟩
  · rw [if_neg (by decide)]
    exact ⟨⟨p6, p1, p2, p5, by rw [t1]; exact H.may, hoth d q2, .inl ⟨rfl, q1, by rw [ha1, q2]; exact upd_same _ _ _⟩, by rw [t1]; exact Nat.le_refl _⟩, by dsimp only; omega⟩
  · rw [if_pos rfl, ← t1]
    have L1 : LOk s1 S P := ⟨p6, p1.trans H.n, H.p, by rw [t1]; exact H.may, q1⟩
    obtain ⟨o1, o2⟩ := repl_out S P a d hd ha (P + 1) s1 L1 (by omega)
    have := H.p
    exact ⟨o1.trans p1 p2 p5 (fun b hb => by unfold hold; rw [t1, q2]) ha (by rw [t1]; exact Nat.le_refl _), by omega⟩
  · rw [if_neg (by decide)]
    refine ⟨⟨p6, p1, p2, p5, by rw [t1]; exact H.may, hoth x q2, .inr (.inr ⟨rfl, q0, ?_⟩), by rw [t1]; exact Nat.le_refl _⟩, by dsimp only; omega⟩
    dsimp only
    rw [ha1, hoa, q2, upd_same]; exact qx
end Go.Proofs.Ytjchmkgkibiadaa
