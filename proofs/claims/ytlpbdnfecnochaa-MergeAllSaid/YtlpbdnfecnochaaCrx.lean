/-
  What the statements on a block that is taken start from: a place, a number of words; what can be taken there.
-/
import Derived.Test.YtlpbdnfecnochaaCrw
import Derived.Test.YtlpbdnfecnochaaBkd
namespace Go.Proofs.Ytlpbdnfecnochaa
set_option maxRecDepth 100000
open Go.RowKit

theorem bAt_nat (l : List Bk) (k : Nat) : bAt l (k : Int) = l.getD k default := by rw [bAt, Int.toNat_natCast]
theorem can_at {n : Int} {l : List Bk} (h : mayL n l = true) {k : Nat} (hk : k < l.length) {N : Int} (hN : 2 ≤ N) : canC l k N = (!(l.getD k default).u && decide (N ≤ (l.getD k default).s)) := by
  have hm := mayL_mayS h
  have hb := bAt_nat l k
  cases hu : (l.getD k default).u
  · by_cases c : N ≤ (l.getD k default).s
    · rw [decide_eq_true c]
      exact canC_yes.2 ⟨hm, by omega, by omega, by rw [hb]; exact hu, by rw [hb]; exact fun e => takN_zero.1 e ⟨hN, c⟩⟩
    · rw [decide_eq_false c]
      cases e : canC l k N
      · rfl
      · obtain ⟨_, _, _, _, ht⟩ := canC_yes.1 e
        rw [hb] at ht
        exact absurd (takN_zero.2 (by omega)) ht
  · cases e : canC l k N
    · rfl
    · obtain ⟨_, _, _, hu', _⟩ := canC_yes.1 e
      rw [hb, hu] at hu'
      cases hu'
theorem at_in {n : Int} {l : List Bk} (h : mayL n l = true) {k : Nat} (hk : k < l.length) : MayB (l.getD k default).s ∧ 0 ≤ (l.getD k default).a ∧ (l.getD k default).a + (l.getD k default).s ≤ n :=
  mayF_sizes (mayL_yes.1 h).2 _ (by rw [List.getD_eq_getElem?_getD, List.getElem?_eq_getElem hk]; exact List.getElem_mem hk)
/-- the numbers that the statements make of any -/
theorem place_of (x : Int) (L : Nat) (hL : 0 < L) (h2 : L ≤ 300) : ∃ u k : Nat, IntKind.u64.wrap x = (u : Int) ∧ IntKind.u64.wrap (L : Int) = (L : Int) ∧ (u : Int).tmod (L : Int) = (k : Int) ∧ IntKind.i64.wrap (k : Int) = (k : Int) ∧ k < L := by
  obtain ⟨u, hu, _⟩ := u64_nat x
  have hk : u % L < L := Nat.mod_lt _ hL
  exact ⟨u, u % L, hu, by rw [IntKind.wrap_u64]; omega, tmod_nat u L, i64_nat _ (by omega), hk⟩
theorem need_of (x : Int) : ∃ u q N : Nat, IntKind.u64.wrap x = (u : Int) ∧ (u : Int).tmod 60 = (q : Int) ∧ IntKind.i64.wrap (q : Int) = (q : Int) ∧ IntKind.i64.wrap (2 + (q : Int)) = (N : Int) ∧ 2 ≤ N ∧ N ≤ 62 := by
  obtain ⟨u, hu, _⟩ := u64_nat x
  have hk : u % 60 < 60 := Nat.mod_lt _ (by omega)
  exact ⟨u, u % 60, 2 + u % 60, hu, tmod_nat u 60, i64_nat _ (by omega), by rw [show (2 : Int) + ((u % 60 : Nat) : Int) = ((2 + u % 60 : Nat) : Int) by omega]; exact i64_nat _ (by omega), by omega, by omega⟩
theorem frS_in {n : Int} : ∀ {l : List Bk} {a : Int} {f : Bool}, mayF n a f l = true → 0 ≤ frS l ∧ frS l ≤ szs l
  | [], _, _, _ => by simp [frS, szs]
  | b :: r, a, f, h => by
    obtain ⟨_, ⟨h1, _⟩, _, h⟩ := mayF_cons.1 h
    have := frS_in h
    rw [frS, szs]
    split <;> omega
theorem frL_in {n : Int} {l : List Bk} (h : mayL n l = true) : frL l = frS l ∧ 0 ≤ frS l ∧ frS l ≤ 512 := by
  have hf := (mayL_yes.1 h).2
  have h1 := frS_in hf
  have h2 := (mayF_end hf).1
  obtain ⟨_, h3, _⟩ := (mayL_yes.1 h).1
  exact ⟨frL_yes (mayL_okL h), h1.1, by omega⟩
end Go.Proofs.Ytlpbdnfecnochaa
