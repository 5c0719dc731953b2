/-
  Torn lines, plainly: mixes by a mask, where two are alike, how many masks make one.
-/
import Derived.Test.YthcecfenjbdgmaaLin
import Derived.Laws.BitsLemmas
import Derived.Laws.BitsAllLaws
import Derived.Laws.Bits128
namespace Go.Proofs.Ythcecfenjbdgmaa
set_option maxRecDepth 100000
open Go.RowKit

theorem and_low (n c : Int) (j : Nat) (hj : j < 63) (hc : (BitVec.ofInt 64 c).toNat = 2 ^ j - 1) : bits .and .i64 n c = n % 2 ^ j := by
  have key : (BitVec.ofInt 64 n &&& BitVec.ofInt 64 c).toNat = (n % ((2 ^ 64 : Nat) : Int)).toNat % 2 ^ j := by
    rw [BitVec.toNat_and, BitVec.toNat_ofInt, hc, Nat.and_two_pow_sub_one_eq_mod]
  have hp : (2 : Int) ^ 64 = 2 ^ j * 2 ^ (64 - j) := by rw [← Int.pow_add]; congr 1; omega
  have hpos : (0 : Int) < 2 ^ j := Int.pow_pos (by omega)
  have hle : (2 : Int) ^ j ≤ 4611686018427387904 := by
    have : 2 ^ j ≤ 2 ^ 62 := Nat.pow_le_pow_right (by omega) (by omega)
    have h2 : ((2 ^ j : Nat) : Int) ≤ ((2 ^ 62 : Nat) : Int) := Int.ofNat_le.2 this
    simpa using h2
  show IntKind.i64.wrap ((BitVec.ofInt 64 n &&& BitVec.ofInt 64 c).toNat : Nat) = n % 2 ^ j
  rw [key]
  have e : (((n % ((2 ^ 64 : Nat) : Int)).toNat % 2 ^ j : Nat) : Int) = n % 2 ^ j := by
    rw [Int.natCast_emod, Int.toNat_of_nonneg (Int.emod_nonneg _ (by decide))]
    have : ((2 ^ 64 : Nat) : Int) = (2 : Int) ^ 64 := by simp
    rw [this, hp]
    have d : ((2 ^ j : Nat) : Int) = (2 : Int) ^ j := by simp
    rw [d]
    exact Int.emod_emod_of_dvd _ ⟨_, rfl⟩
  rw [e, IntKind.wrap_i64]
  have h1 := Int.emod_nonneg n (by omega : (2 : Int) ^ j ≠ 0)
  have h2 := Int.emod_lt_of_pos n hpos
  omega
@[go_sem] theorem and_one (n : Int) : bits .and .i64 n 1 = n % 2 := and_low n 1 1 (by omega) (by decide)
@[go_sem] theorem and_255 (n : Int) : bits .and .i64 n 255 = n % 256 := and_low n 255 8 (by omega) (by decide)

/-- a mix: the now's words at the mask's bits -/
def mix : List Int → List Int → Int → List Int
  | o :: os, n :: ns, m => (if m % 2 = 1 then n else o) :: mix os ns (m / 2)
  | _, _, _ => []
theorem mix_length : ∀ (a b : List Int) (m : Int), a.length = b.length → (mix a b m).length = a.length
  | [], [], _, _ => rfl
  | o :: os, n :: ns, m, h => by simp only [mix, List.length_cons]; rw [mix_length os ns (m / 2) (by simpa using h)]
  | [], _ :: _, _, h => by simp at h
  | _ :: _, [], _, h => by simp at h
theorem mix_at : ∀ (a b : List Int) (m : Int) (i : Nat), a.length = b.length → i < a.length → (mix a b m).getD i 0 = if m / 2 ^ i % 2 = 1 then b.getD i 0 else a.getD i 0
  | [], [], _, _, _, h => by simp at h
  | o :: os, n :: ns, m, 0, _, _ => by simp [mix]
  | o :: os, n :: ns, m, i + 1, h, hi => by
    simp only [mix, List.getD_cons_succ]
    rw [mix_at os ns (m / 2) i (by simpa using h) (by simpa using hi), Int.ediv_ediv_of_nonneg (by omega), Int.pow_succ, Int.mul_comm]
  | [], _ :: _, _, _, h, _ => by simp at h
  | _ :: _, [], _, _, h, _ => by simp at h
theorem list_ext {a b : List Int} (h : a.length = b.length) (hi : ∀ i, i < a.length → a.getD i 0 = b.getD i 0) : a = b := by
  apply List.ext_getElem h
  intro i h1 h2
  simpa [h1, h2] using hi i h1

/-- the first k words of x, the others of a -/
def upTo (x a : List Int) (k : Nat) : List Int := x.take k ++ a.drop k
theorem upTo_zero (x a : List Int) : upTo x a 0 = a := by simp [upTo]
theorem upTo_all {x a : List Int} {k : Nat} (hx : x.length = k) (ha : a.length = k) : upTo x a k = x := by
  rw [upTo, List.take_of_length_le (by omega), List.drop_eq_nil_of_le (by omega), List.append_nil]
theorem upTo_length {x a : List Int} {k : Nat} (h : x.length = a.length) : (upTo x a k).length = a.length := by
  simp [upTo]; omega
theorem upTo_at {x a : List Int} {k i : Nat} (h : x.length = a.length) : (upTo x a k).getD i 0 = if i < k then x.getD i 0 else a.getD i 0 := by
  simp only [upTo, List.getD_eq_getElem?_getD, List.getElem?_append, List.getElem?_take, List.getElem?_drop, List.length_take]
  by_cases hi : i < k
  · by_cases hx : i < x.length
    · rw [if_pos (show i < min k x.length by omega)]; simp [hi]
    · rw [if_neg (show ¬ i < min k x.length by omega), List.getElem?_eq_none (by omega), List.getElem?_eq_none (show x.length ≤ i by omega)]; simp [hi]
  · rw [if_neg (show ¬ i < min k x.length by omega), if_neg hi]
    by_cases hx : k ≤ x.length
    · congr 2; omega
    · rw [List.getElem?_eq_none (by omega), List.getElem?_eq_none (show a.length ≤ i by omega)]
theorem getD_set (l : List Int) (k i : Nat) (x : Int) : (l.set k x).getD i 0 = if i = k ∧ k < l.length then x else l.getD i 0 := by
  simp only [List.getD_eq_getElem?_getD, List.getElem?_set]
  by_cases h : k = i
  · subst h
    by_cases h2 : k < l.length
    · simp [h2]
    · simp [h2]
  · rw [if_neg h, if_neg (by omega)]
theorem upTo_set {x a : List Int} {k : Nat} (h : x.length = a.length) (hk : k < a.length) : (upTo x a k).set k (x.getD k 0) = upTo x a (k + 1) := by
  apply list_ext
  · rw [List.length_set, upTo_length h, upTo_length h]
  · intro i _
    rw [getD_set, upTo_at h, upTo_at h, upTo_length h]
    by_cases hi : i = k
    · subst hi; rw [if_pos ⟨rfl, hk⟩, if_pos (by omega)]
    · rw [if_neg (by omega)]
      by_cases h2 : i < k
      · rw [if_pos h2, if_pos (by omega)]
      · rw [if_neg h2, if_neg (by omega)]
theorem upTo_keep {x a : List Int} {k : Nat} (h : x.length = a.length) (hk : x.getD k 0 = a.getD k 0) : upTo x a (k + 1) = upTo x a k := by
  apply list_ext
  · rw [upTo_length h, upTo_length h]
  · intro i _
    rw [upTo_at h, upTo_at h]
    by_cases hi : i = k
    · subst hi; rw [if_pos (by omega), if_neg (by omega), hk]
    · by_cases h2 : i < k
      · rw [if_pos h2, if_pos (by omega)]
      · rw [if_neg h2, if_neg (by omega)]

/-- where two are alike: a bit a word; how many words -/
def al : List Int → List Int → Nat
  | x :: xs, y :: ys => (if x = y then 1 else 0) + 2 * al xs ys
  | _, _ => 0
def same : List Int → List Int → Nat
  | x :: xs, y :: ys => (if x = y then 1 else 0) + same xs ys
  | _, _ => 0
theorem al_take : ∀ (a b : List Int) (k : Nat), a.length = b.length → k < a.length → al (a.take (k + 1)) (b.take (k + 1)) = al (a.take k) (b.take k) + (if a.getD k 0 = b.getD k 0 then 2 ^ k else 0)
  | [], _, _, _, h => by simp at h
  | _ :: _, [], _, h, _ => by simp at h
  | x :: xs, y :: ys, 0, _, _ => by simp [al]
  | x :: xs, y :: ys, k + 1, h, hk => by
    have := al_take xs ys k (by simpa using h) (by simpa using hk)
    simp only [List.take_succ_cons, al, List.getD_cons_succ] at this ⊢
    rw [this, Nat.pow_succ]
    by_cases h2 : xs.getD k 0 = ys.getD k 0
    · rw [if_pos h2, if_pos h2]; omega
    · rw [if_neg h2, if_neg h2]; omega
theorem al_lt : ∀ (a b : List Int), al a b < 2 ^ a.length
  | [], _ => by simp [al]
  | _ :: _, [] => Nat.pow_pos (by omega)
  | x :: xs, y :: ys => by
    have := al_lt xs ys
    simp only [al, List.length_cons, Nat.pow_succ]
    split <;> omega

theorem same_le : ∀ (a b : List Int), same a b ≤ a.length
  | [], _ => by simp [same]
  | _ :: _, [] => by simp [same]
  | x :: xs, y :: ys => by
    have := same_le xs ys
    simp only [same, List.length_cons]
    split <;> omega

/-- is c a mix of a and b? by how many masks? -/
def could : List Int → List Int → List Int → Bool
  | o :: os, n :: ns, c :: cs => (o == c || n == c) && could os ns cs
  | _, _, _ => true
def cntT : List Int → List Int → List Int → Nat
  | o :: os, n :: ns, c :: cs => ((if o = c then 1 else 0) + (if n = c then 1 else 0)) * cntT os ns cs
  | _, _, _ => 1
theorem cnt_is : ∀ (a b c : List Int), a.length = b.length → b.length = c.length → cntT a b c = if could a b c then 2 ^ same a b else 0
  | [], [], [], _, _ => by simp [cntT, could, same]
  | o :: os, n :: ns, c :: cs, h, h' => by
    have key : ∀ (B : Bool) (S : Nat), ((if o = c then 1 else 0) + (if n = c then 1 else 0)) * (if B = true then 2 ^ S else 0) = if ((o == c || n == c) && B) = true then 2 ^ ((if o = n then 1 else 0) + S) else 0 := by
      intro B S
      by_cases h1 : o = c
      · subst h1
        by_cases h2 : n = o
        · subst h2
          cases B <;> simp [Nat.pow_add]
        · have h3 : ¬ o = n := fun e => h2 e.symm
          cases B <;> simp [h2, h3]
      · by_cases h2 : n = c
        · subst h2
          cases B <;> simp [h1]
        · cases B <;> simp [h1, h2]
    have ih := cnt_is os ns cs (by simpa using h) (by simpa using h')
    show _ * cntT os ns cs = _
    rw [ih]
    exact key _ _
  | [], _ :: _, _, h, _ => by simp at h
  | _ :: _, [], _, h, _ => by simp at h
  | [], [], _ :: _, _, h => by simp at h
  | _ :: _, _ :: _, [], _, h => by simp at h

/-- how many masks below M make c -/
def cntTo (a b c : List Int) : Nat → Nat
  | 0 => 0
  | M + 1 => cntTo a b c M + (if mix a b M = c then 1 else 0)
theorem cntTo_two (o n x : Int) (a b c : List Int) (M : Nat) : cntTo (o :: a) (n :: b) (x :: c) (2 * M) = ((if o = x then 1 else 0) + (if n = x then 1 else 0)) * cntTo a b c M := by
  induction M with
  | zero => simp [cntTo]
  | succ M ih =>
    rw [show 2 * (M + 1) = 2 * M + 1 + 1 by omega]
    simp only [cntTo]
    rw [ih]
    have e0 : (((2 * M : Nat) : Int)) % 2 = 0 := by omega
    have e1 : (((2 * M + 1 : Nat) : Int)) % 2 = 1 := by omega
    have d0 : (((2 * M : Nat) : Int)) / 2 = M := by omega
    have d1 : (((2 * M + 1 : Nat) : Int)) / 2 = M := by omega
    simp only [mix, e0, e1, d0, d1, List.cons.injEq, if_true]
    rw [if_neg (by decide : ¬ (0 : Int) = 1)]
    generalize cntTo a b c M = z
    by_cases h1 : o = x <;> by_cases h2 : n = x <;> by_cases h3 : mix a b M = c <;> simp [h1, h2, h3] <;> omega
theorem cntTo_all : ∀ (a b c : List Int), a.length = b.length → b.length = c.length → cntTo a b c (2 ^ a.length) = cntT a b c
  | [], [], [], _, _ => by simp [cntT, cntTo, mix]
  | o :: os, n :: ns, c :: cs, h, h' => by
    rw [List.length_cons, Nat.pow_succ, Nat.mul_comm, cntTo_two, cntTo_all os ns cs (by simpa using h) (by simpa using h')]; rfl
  | [], _ :: _, _, h, _ => by simp at h
  | _ :: _, [], _, h, _ => by simp at h
  | [], [], _ :: _, _, h => by simp at h
  | _ :: _, _ :: _, [], _, h => by simp at h
theorem could_mix : ∀ (a b : List Int) (m : Int), a.length = b.length → could a b (mix a b m) = true
  | [], [], _, _ => rfl
  | o :: os, n :: ns, m, h => by
    simp only [mix, could]
    rw [could_mix os ns (m / 2) (by simpa using h)]
    by_cases h1 : m % 2 = 1 <;> simp [h1]
  | [], _ :: _, _, h => by simp at h
  | _ :: _, [], _, h => by simp at h
end Go.Proofs.Ythcecfenjbdgmaa
