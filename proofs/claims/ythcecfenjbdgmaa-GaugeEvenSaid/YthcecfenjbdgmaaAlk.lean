/-
  Contracts of package torn's alike and Could; lines laid in new variables.
-/
import Derived.Test.YthcecfenjbdgmaaMix
import Derived.Lib.Tables
import Derived.Deep.RegionHeld3
namespace Go.Proofs.Ythcecfenjbdgmaa
set_option maxRecDepth 100000
open Go.RowKit

theorem or_bit (s k : Nat) (hk : k < 8) (hs : s < 2 ^ k) : bits .or .u8 (s : Int) ((2 : Int) ^ k % 256) = ((s + 2 ^ k : Nat) : Int) := by
  have h8 : 2 ^ k ≤ 2 ^ 7 := Nat.pow_le_pow_right (by omega) (by omega)
  have e : ((2 : Int) ^ k) = ((2 ^ k : Nat) : Int) := by simp
  rw [e, Int.emod_eq_of_lt (by omega) (by omega), u8_or_nat _ _ (by omega) (by omega), Nat.or_comm, nat_join k _ _ (by simp) hs, Nat.add_comm]


/-- three lines laid in new variables -/
theorem boxed3 (w : World) {a b c : List Int} (ha : a.length = 8) (hb : b.length = 8) (hc : c.length = 8) :
    ∃ W, ((w.alloc (.cells (lc a) 36)).alloc (.cells (lc b) 36)).alloc (.cells (lc c) 36) = W ∧ Hid (Ln W w.heap.size a ∧ Ln W (w.heap.size + 1) b ∧ Ln W (w.heap.size + 1 + 1) c ∧ Below w.heap.size w W) := by
  have L1 := Ln.new (w.alloc (.cells (lc a) 36)) hb
  have L2 := Ln.new ((w.alloc (.cells (lc a) 36)).alloc (.cells (lc b) 36)) hc
  rw [size_alloc] at L1 L2
  rw [size_alloc] at L2
  exact ⟨_, rfl, Lib.hid ⟨((Ln.new w ha).alloc _).alloc _, L1.alloc _, L2, bal (bal (bal (Below.refl w.heap.size w)))⟩⟩
theorem boxed2 (w : World) {a b : List Int} (ha : a.length = 8) (hb : b.length = 8) :
    ∃ W, (w.alloc (.cells (lc a) 36)).alloc (.cells (lc b) 36) = W ∧ Hid (Ln W w.heap.size a ∧ Ln W (w.heap.size + 1) b ∧ Below w.heap.size w W) := by
  have L1 := Ln.new (w.alloc (.cells (lc a) 36)) hb
  rw [size_alloc] at L1
  exact ⟨_, rfl, Lib.hid ⟨(Ln.new w ha).alloc _, L1, bal (bal (Below.refl w.heap.size w))⟩⟩
theorem boxed1 (w : World) {a : List Int} (ha : a.length = 8) : ∃ W, w.alloc (.cells (lc a) 36) = W ∧ Hid (Ln W w.heap.size a ∧ Below w.heap.size w W) :=
  ⟨_, rfl, Lib.hid ⟨Ln.new w ha, bal (Below.refl w.heap.size w)⟩⟩
theorem mix_is {a b x : List Int} {m : Int} (h : mix a b m = x) (w : World) (ha : a.length = 8) (hb : b.length = 8) :
    Calls Try.prog 35 #[.agg (lc a), .agg (lc b), .int .i64 m] w fun e w' => e = .returned (.agg (lc x)) ∧ Below w.heap.size w w' := by rw [← h]; exact mix_any a b m w ha hb
/-- a line's variable, read in every later world -/
theorem Ln.later {w : World} {g : Nat} {l : List Int} (h : Ln w g l) : ∀ w' : World, Below w.heap.size w w' → (lineLoad (.pointer (some ⟨g, 0, none⟩))).run Try.prog w' = .ok (.agg (lc l)) w' := fun _ hb => (h.below hb).load

theorem or_all : ∀ (a b c : List Int), a.length = b.length → b.length = c.length → (al a c ||| al b c = 2 ^ a.length - 1 ↔ could a b c = true)
  | [], [], [], _, _ => by simp [al, could]
  | o :: os, n :: ns, c :: cs, h, h' => by
    have ih := or_all os ns cs (by simpa using h) (by simpa using h')
    have hd : (al (o :: os) (c :: cs) ||| al (n :: ns) (c :: cs)) / 2 = al os cs ||| al ns cs := by
      rw [Nat.or_div_two]
      simp only [al]
      congr 1 <;> split <;> omega
    have hm : (al (o :: os) (c :: cs) ||| al (n :: ns) (c :: cs)) % 2 = 1 ↔ (o = c ∨ n = c) := by
      rw [Nat.or_mod_two_eq_one]
      simp only [al]
      by_cases h1 : o = c <;> by_cases h2 : n = c <;> simp [h1, h2]
    have hp : 1 ≤ 2 ^ os.length := Nat.pow_pos (by omega)
    have e : could (o :: os) (n :: ns) (c :: cs) = true ↔ (o = c ∨ n = c) ∧ could os ns cs = true := by simp [could]
    rw [e, ← ih, ← hm, List.length_cons, Nat.pow_succ]
    generalize (al (o :: os) (c :: cs) ||| al (n :: ns) (c :: cs)) = z at *
    rw [← hd]
    omega
  | [], _ :: _, _, h, _ => by simp at h
  | _ :: _, [], _, h, _ => by simp at h
  | [], [], _ :: _, _, h => by simp at h
  | _ :: _, _ :: _, [], _, h => by simp at h
theorem or_could (a b c : List Int) (ha : a.length = 8) (hb : b.length = 8) (hc : c.length = 8) : (bits .or .u8 ((al a c : Nat) : Int) ((al b c : Nat) : Int) == 255) = could a b c := by
  have h1 := al_lt a c
  have h2 := al_lt b c
  rw [ha] at h1; rw [hb] at h2
  rw [u8_or_nat _ _ (by omega) (by omega), Bool.eq_iff_iff, ← or_all a b c (by omega) (by omega), ha]
  simp only [beq_iff_eq]
  omega


end Go.Proofs.Ythcecfenjbdgmaa
