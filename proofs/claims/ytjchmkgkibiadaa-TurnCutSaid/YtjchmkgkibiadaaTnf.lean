/-
  Lines that go round on a memory that does not wear and has no spare lines: a Put always goes well; how often each slot is written.
-/
import Derived.Test.YtjchmkgkibiadaaTnp
namespace Go.Proofs.Ytjchmkgkibiadaa
open Go.RowKit

/-- no cut will come, no line wears -/
structure Free (s : Nv) : Prop where
  calm : s.calm
  la : ∀ i, i < s.n → s.la i = -1
/-- slot k written -/
def Nv.wrt (s : Nv) (k : Nat) (d : List Int) : Nv := { s with c := s.c + 1, wr := upd s.wr k (s.wr k + 1), h := upd s.h k d }
theorem lput_free {s : Nv} {S k : Nat} {d : List Int} (H : LOk s S 0) (F : Free s) (hk : k < S) (hd : d.length = 8) : lput S 0 (k : Int) d s = (0, s.wrt k d) := by
  have hn : s.n = S := H.n
  have hp : placeT (s.tb 0) S (k : Int) = (k : Int) := by
    rcases place_of (t := s.tb 0) hk with ⟨e, _⟩ | ⟨j, hj, _⟩
    · exact e
    · rw [s.tb_length] at hj; omega
  have hw : s.worn k = false := by simp [Nv.worn, F.la k (by omega)]
  unfold lput
  rw [if_pos ⟨by omega, by omega⟩, H.live]
  simp only [Bool.false_eq_true, if_false]
  rw [hp, F.calm.putE (by omega), F.calm.put H.ok (by omega) hd, hw]
  rfl
theorem Free.wrt {s : Nv} (F : Free s) (k : Nat) (d : List Int) : Free (s.wrt k d) := ⟨F.calm, F.la⟩
theorem Free.set0 {s : Nv} (F : Free s) (v : Int) : Free { s with c := s.c + 1, rg := upd s.rg 0 v } := ⟨F.calm, F.la⟩

/-- how many of the two writes of a Put are at slot k -/
def wadd (n per p M a k : Nat) : Nat := (if per ≤ p + 1 ∧ k = gN n M then 1 else 0) + (if k = slN n (M + td per p) a then 1 else 0)

theorem tput_free {s : Nv} {n per p M a : Nat} {d : List Int} (H : TOk s n 0 M) (F : Free s) (hn : 0 < n) (ha : a < n) (hd : d.length = 8) (hm : M + 1 < 4611686018427387904) :
    ∃ s', tput n 0 per p M a d s = (0, s') ∧ TOk s' n 0 (M + td per p) ∧ Free s' ∧ (∀ b, b < n → thold s' n 0 (M + td per p) b = if b = a then d else thold s n 0 M b) ∧ s'.c ≤ s.c + 81 ∧ (∀ k, s'.wr k = s.wr k + (wadd n per p M a k : Nat)) := by
  obtain ⟨M', o, oc⟩ := tput_out (per := per) (p := p) (a := a) (d := d) H hn ha hd hm
  have key : ∃ s', tput n 0 per p M a d s = (0, s') ∧ Free s' ∧ (∀ k, s'.wr k = s.wr k + (wadd n per p M a k : Nat)) := by
    unfold tput wadd td
    by_cases hp : per ≤ p + 1
    · have h8 : (hold s (n + 1) 0 (frN n M)).length = 8 := H.l.ok.line _
      have e1 := lput_free H.l F (gN_lt M) h8
      have H1 := H.l
      have F1 := F.wrt (gN n M) (hold s (n + 1) 0 (frN n M))
      have e2 : tmove n 0 M s = (0, { s.wrt (gN n M) (hold s (n + 1) 0 (frN n M)) with c := (s.wrt (gN n M) (hold s (n + 1) 0 (frN n M))).c + 1, rg := upd (s.wrt (gN n M) (hold s (n + 1) 0 (frN n M))).rg 0 ((M + 1 : Nat) : Int) }) := by
        unfold tmove
        rw [e1]
        dsimp only
        rw [if_pos rfl, F1.calm.setE (by decide), F1.calm.set (by decide)]
      obtain ⟨M1, u, uc⟩ := tmove_out H hn
      rw [e2] at u
      have F2 := F1.set0 ((M + 1 : Nat) : Int)
      simp only [if_pos hp, e2]
      dsimp only at u
      have L2 : LOk { s.wrt (gN n M) (hold s (n + 1) 0 (frN n M)) with c := (s.wrt (gN n M) (hold s (n + 1) 0 (frN n M))).c + 1, rg := upd (s.wrt (gN n M) (hold s (n + 1) 0 (frN n M))).rg 0 ((M + 1 : Nat) : Int) } (n + 1) 0 := ⟨u.ok, H.l.n, H.l.p, u.may, H.l.live⟩
      rw [if_pos True.intro, lput_free L2 F2 (slN_lt hn _ _) hd]
      refine ⟨_, rfl, F2.wrt _ _, fun k => ?_⟩
      show upd (upd s.wr (gN n M) (s.wr (gN n M) + 1)) (slN n (M + 1) a) (upd s.wr (gN n M) (s.wr (gN n M) + 1) (slN n (M + 1) a) + 1) k = _
      unfold upd
      by_cases c1 : k = slN n (M + 1) a
      · subst c1
        rw [if_pos rfl, if_pos rfl]
        split
        · rename_i h; rw [if_pos ⟨hp, h⟩, h]; push_cast; omega
        · rename_i h; rw [if_neg (fun x => h x.2)]; push_cast; omega
      · rw [if_neg c1, if_neg c1]
        split
        · rename_i h; rw [if_pos ⟨hp, h⟩, h]; push_cast; omega
        · rename_i h; rw [if_neg (fun x => h x.2)]; push_cast; omega
    · simp only [if_neg hp]
      rw [lput_free H.l F (slN_lt hn _ _) hd]
      refine ⟨_, rfl, F.wrt _ _, fun k => ?_⟩
      show upd s.wr (slN n M a) (s.wr (slN n M a) + 1) k = _
      rw [if_neg (fun x => hp x.1)]
      unfold upd
      by_cases c1 : k = slN n M a
      · subst c1; rw [if_pos rfl, Nat.add_zero, if_pos rfl]; simp
      · rw [if_neg c1, Nat.add_zero, if_neg c1]; simp
  obtain ⟨s', e, F', hw⟩ := key
  rw [e] at o oc
  dsimp only at o oc
  rcases o.own with ⟨_, h1, h2, h3⟩ | ⟨h, _⟩ | ⟨h, _⟩
  · refine ⟨s', e, h2 ▸ o.tok H h1 (by have := o.hi; have : td per p ≤ 1 := by { unfold td; split <;> omega }; omega), F', fun b hb => ?_, oc, hw⟩
    rw [← h2]
    split
    · rename_i hba; rw [hba]; exact h3
    · rename_i hba; exact o.oth b hb hba
  · cases h
  · cases h
theorem newNv_free (n : Nat) : Free (newNv n []) := ⟨newNv_calm _ _, fun i hi => by
  have hi' : i < n := hi
  simp [newNv, hi']⟩
end Go.Proofs.Ytjchmkgkibiadaa
