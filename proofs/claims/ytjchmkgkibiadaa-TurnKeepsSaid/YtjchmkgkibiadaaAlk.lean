/-
  Contracts of package torn's alike and Could; lines laid in new variables.
-/
import Derived.Test.YtjchmkgkibiadaaMix
import Derived.Lib.Tables
import Derived.Deep.RegionHeld3
namespace Go.Proofs.Ytjchmkgkibiadaa
open Go.RowKit

theorem or_bit (s k : Nat) (hk : k < 8) (hs : s < 2 ^ k) : bits .or .u8 (s : Int) ((2 : Int) ^ k % 256) = ((s + 2 ^ k : Nat) : Int) := by
  have h8 : 2 ^ k ≤ 2 ^ 7 := Nat.pow_le_pow_right (by omega) (by omega)
  have e : ((2 : Int) ^ k) = ((2 ^ k : Nat) : Int) := by simp
  rw [e, Int.emod_eq_of_lt (by omega) (by omega), u8_or_nat _ _ (by omega) (by omega), Nat.or_comm, nat_join k _ _ (by simp) hs, Nat.add_comm]

theorem alike_any (a b : List Int) (w : World) (ha : a.length = 8) (hb : b.length = 8) :
    Calls Try.prog 32 #[.agg (lc a), .agg (lc b)] w fun e w' => e = .returned (.int .u8 ((al a b : Nat) : Int)) ∧ Below w.heap.size w w' := by
  have AT := Lib.hid (al_take a b)
  have LT := Lib.hid (fun k => al_lt (a.take k) (b.take k))
  have L0 := Lib.hid (Ln.new w ha)
  have L1 := Lib.hid (Ln.new (w.alloc (.cells (lc a) 33)) hb)
  have HB := Lib.hid (bal (o := .cells (lc b) 33) (bal (o := .cells (lc a) 33) (Below.refl w.heap.size w)))
  go_enter Try.func32, Try.ntmps32
  go_wp2
  go_loopw [5, 7] (fun s i wr => ∃ k : Nat, k ≤ 8 ∧ i = .int .i64 k ∧ s = .int .u8 ((al (a.take k) (b.take k) : Nat) : Int) ∧ Hid (Ln wr w.heap.size a ∧ Ln wr (w.heap.size + 1) b ∧ Below w.heap.size w wr)) (fun _ i _ => 8 - (intOf i).toNat)
  case atStart =>
    refine ⟨0, by omega, rfl, rfl, Lib.hid ⟨L0.out.alloc _, ?_, HB.out⟩⟩
    have := L1.out; rw [size_alloc] at this; exact this
  case round =>
    obtain ⟨k, hk, rfl, rfl, H⟩ := hrel
    by_cases hlt : k < 8
    · obtain ⟨c0, f0⟩ := H.out.1.cell hlt
      obtain ⟨c1, _⟩ := H.out.2.1.cell hlt
      have E := Lib.hid (AT.out k (ha.trans hb.symm) (by omega))
      have hs := LT.out k
      rw [List.length_take, ha, Nat.min_eq_left hk] at hs
      have OR := or_bit _ k hlt hs
      clear hs
      generalize al (a.take k) (b.take k) = s at *
      generalize a.getD k 0 = x at *
      generalize b.getD k 0 = y at *
      go_wp2
      go_quiet (fail)
      go_wp2
      · rename_i ht
        refine ⟨⟨k + 1, by omega, by go_num, ?_, Lib.hid ⟨H.out.1, H.out.2.1, below_drewN H.out.2.2 nq⟩⟩, by simp [intOf]; omega⟩
        rw [E.out, if_pos (by simpa using ht)]; simp
      · rename_i ht
        refine ⟨⟨k + 1, by omega, by go_num, ?_, Lib.hid ⟨H.out.1, H.out.2.1, below_drewN H.out.2.2 nq⟩⟩, by simp [intOf]; omega⟩
        rw [E.out, if_neg (by simpa using ht)]; rfl
    · obtain rfl : k = 8 := by omega
      rw [List.take_of_length_le (by omega), List.take_of_length_le (by omega)]
      go_wp2
      go_ret
      exact ⟨rfl, H.out.2.2⟩

/-- three lines laid in new variables -/
theorem boxed3 (w : World) {a b c : List Int} (ha : a.length = 8) (hb : b.length = 8) (hc : c.length = 8) :
    ∃ W, ((w.alloc (.cells (lc a) 33)).alloc (.cells (lc b) 33)).alloc (.cells (lc c) 33) = W ∧ Hid (Ln W w.heap.size a ∧ Ln W (w.heap.size + 1) b ∧ Ln W (w.heap.size + 1 + 1) c ∧ Below w.heap.size w W) := by
  have L1 := Ln.new (w.alloc (.cells (lc a) 33)) hb
  have L2 := Ln.new ((w.alloc (.cells (lc a) 33)).alloc (.cells (lc b) 33)) hc
  rw [size_alloc] at L1 L2
  rw [size_alloc] at L2
  exact ⟨_, rfl, Lib.hid ⟨((Ln.new w ha).alloc _).alloc _, L1.alloc _, L2, bal (bal (bal (Below.refl w.heap.size w)))⟩⟩
theorem boxed2 (w : World) {a b : List Int} (ha : a.length = 8) (hb : b.length = 8) :
    ∃ W, (w.alloc (.cells (lc a) 33)).alloc (.cells (lc b) 33) = W ∧ Hid (Ln W w.heap.size a ∧ Ln W (w.heap.size + 1) b ∧ Below w.heap.size w W) := by
  have L1 := Ln.new (w.alloc (.cells (lc a) 33)) hb
  rw [size_alloc] at L1
  exact ⟨_, rfl, Lib.hid ⟨(Ln.new w ha).alloc _, L1, bal (bal (Below.refl w.heap.size w))⟩⟩
theorem boxed1 (w : World) {a : List Int} (ha : a.length = 8) : ∃ W, w.alloc (.cells (lc a) 33) = W ∧ Hid (Ln W w.heap.size a ∧ Below w.heap.size w W) :=
  ⟨_, rfl, Lib.hid ⟨Ln.new w ha, bal (Below.refl w.heap.size w)⟩⟩
theorem mix_is {a b x : List Int} {m : Int} (h : mix a b m = x) (w : World) (ha : a.length = 8) (hb : b.length = 8) :
    Calls Try.prog 54 #[.agg (lc a), .agg (lc b), .int .i64 m] w fun e w' => e = .returned (.agg (lc x)) ∧ Below w.heap.size w w' := by rw [← h]; exact mix_any a b m w ha hb
/-- a line's variable, read in every later world -/
theorem Ln.later {w : World} {g : Nat} {l : List Int} (h : Ln w g l) : ∀ w' : World, Below w.heap.size w w' → (lineLoad (.pointer (some ⟨g, 0, none⟩))).run Try.prog w' = .ok (.agg (lc l)) w' := fun _ hb => (h.below hb).load

theorem or_all : ∀ (a b c : List Int), a.length = b.length → b.length = c.length → (al a c ||| al b c = 2 ^ a.length - 1 ↔ could a b c = true)
  | [], [], [], _, _ => by simp [al, could]
  | o :: os, n :: ns, c :: cs, h, h' => by
    have ih := or_all os ns cs (by simpa using h) (by simpa using h')
    have hd : (al (o :: os) (c :: cs) ||| al (n :: ns) (c :: cs)) / 2 = al os cs ||| al ns cs := by
      rw [Nat.or_div_two]
      simp only [al]
      congr 1 <;> split <;> omega
    have hm : (al (o :: os) (c :: cs) ||| al (n :: ns) (c :: cs)) % 2 = 1 ↔ (o = c ∨ n = c) := by
      rw [Nat.or_mod_two_eq_one]
      simp only [al]
      by_cases h1 : o = c <;> by_cases h2 : n = c <;> simp [h1, h2]
    have hp : 1 ≤ 2 ^ os.length := Nat.pow_pos (by omega)
    have e : could (o :: os) (n :: ns) (c :: cs) = true ↔ (o = c ∨ n = c) ∧ could os ns cs = true := by simp [could]
    rw [e, ← ih, ← hm, List.length_cons, Nat.pow_succ]
    generalize (al (o :: os) (c :: cs) ||| al (n :: ns) (c :: cs)) = z at *
    rw [← hd]
    omega
  | [], _ :: _, _, h, _ => by simp at h
  | _ :: _, [], _, h, _ => by simp at h
  | [], [], _ :: _, _, h => by simp at h
  | _ :: _, _ :: _, [], _, h => by simp at h
theorem or_could (a b c : List Int) (ha : a.length = 8) (hb : b.length = 8) (hc : c.length = 8) : (bits .or .u8 ((al a c : Nat) : Int) ((al b c : Nat) : Int) == 255) = could a b c := by
  have h1 := al_lt a c
  have h2 := al_lt b c
  rw [ha] at h1; rw [hb] at h2
  rw [u8_or_nat _ _ (by omega) (by omega), Bool.eq_iff_iff, ← or_all a b c (by omega) (by omega), ha]
  simp only [beq_iff_eq]
  omega

theorem could_go (a b c : List Int) (w : World) (ha : a.length = 8) (hb : b.length = 8) (hc : c.length = 8) :
    Calls Try.prog 19 #[.agg (lc a), .agg (lc b), .agg (lc c)] w fun e w' => e = .returned (.bool (could a b c)) ∧ Below w.heap.size w w' := by
  obtain ⟨W, hW, H⟩ := boxed3 w ha hb hc
  have E := or_could a b c ha hb hc
  have l0 := H.out.1.later
  have l1 := H.out.2.1.later
  have l2 := H.out.2.2.1.later
  go_enter Try.func19, Try.ntmps19
  go_wp2
  go_region_held3 (fun w' => Below W.heap.size W w')
    (first | exact (Below.refl _ _).drew | exact below_more ‹Below W.heap.size W _› hb1)
    ((go_at_call 32; refine (alike_any _ _ _ (by assumption) (by assumption)).mono ?_; rintro e w1 ⟨rfl, hb1⟩))
  have HB := Lib.hid (below_base H.out.2.2.2 H.out.2.2.2.size ‹Below W.heap.size W w1›)
  go_wp2
  go_ret
  exact ⟨rfl, HB.out⟩

theorem could_is {a b c : List Int} {B : Bool} (h : could a b c = B) (w : World) (ha : a.length = 8) (hb : b.length = 8) (hc : c.length = 8) :
    Calls Try.prog 19 #[.agg (lc a), .agg (lc b), .agg (lc c)] w fun e w' => e = .returned (.bool B) ∧ Below w.heap.size w w' := by rw [← h]; exact could_go a b c w ha hb hc
end Go.Proofs.Ytjchmkgkibiadaa
