/-
  Contracts of package torn's alike, Could and Masks, and of bits.OnesCount8.
-/
import Derived.Test.YtipibpkfpmlalaaMix
import Derived.Lib.Tables
import Derived.Deep.RegionHeld3
namespace Go.Proofs.Ytipibpkfpmlalaa
open Go.RowKit

theorem or_bit (s k : Nat) (hk : k < 8) (hs : s < 2 ^ k) : bits .or .u8 (s : Int) ((2 : Int) ^ k % 256) = ((s + 2 ^ k : Nat) : Int) := by
  have h8 : 2 ^ k ≤ 2 ^ 7 := Nat.pow_le_pow_right (by omega) (by omega)
  have e : ((2 : Int) ^ k) = ((2 ^ k : Nat) : Int) := by simp
  rw [e, Int.emod_eq_of_lt (by omega) (by omega), u8_or_nat _ _ (by omega) (by omega), Nat.or_comm, nat_join k _ _ (by simp) hs, Nat.add_comm]

theorem alike_any (a b : List Int) (w : World) (ha : a.length = 8) (hb : b.length = 8) :
    Calls Try.prog 13 #[.agg (lc a), .agg (lc b)] w fun e w' => e = .returned (.int .u8 ((al a b : Nat) : Int)) ∧ Below w.heap.size w w' := by
  have AT := Lib.hid (al_take a b)
  have LT := Lib.hid (fun k => al_lt (a.take k) (b.take k))
  have L0 := Lib.hid (Ln.new w ha)
  have L1 := Lib.hid (Ln.new (w.alloc (.cells (lc a) 24)) hb)
  have HB := Lib.hid (bal (o := .cells (lc b) 24) (bal (o := .cells (lc a) 24) (Below.refl w.heap.size w)))
  go_enter Try.func13, Try.ntmps13
  go_wp2
  go_loopw [5, 7] (fun s i wr => ∃ k : Nat, k ≤ 8 ∧ i = .int .i64 k ∧ s = .int .u8 ((al (a.take k) (b.take k) : Nat) : Int) ∧ Hid (Ln wr w.heap.size a ∧ Ln wr (w.heap.size + 1) b ∧ Below w.heap.size w wr)) (fun _ i _ => 8 - (intOf i).toNat)
  case atStart =>
    refine ⟨0, by omega, rfl, rfl, Lib.hid ⟨L0.out.alloc _, ?_, HB.out⟩⟩
    have := L1.out; rw [size_alloc] at this; exact this
  case round =>
    obtain ⟨k, hk, rfl, rfl, H⟩ := hrel
    by_cases hlt : k < 8
    · obtain ⟨c0, f0⟩ := H.out.1.cell hlt
      obtain ⟨c1, _⟩ := H.out.2.1.cell hlt
      have E := Lib.hid (AT.out k (ha.trans hb.symm) (by omega))
      have hs := LT.out k
      rw [List.length_take, ha, Nat.min_eq_left hk] at hs
      have OR := or_bit _ k hlt hs
      clear hs
      generalize al (a.take k) (b.take k) = s at *
      generalize a.getD k 0 = x at *
      generalize b.getD k 0 = y at *
      go_wp2
      go_quiet (fail)
      go_wp2
      · rename_i ht
        refine ⟨⟨k + 1, by omega, by go_num, ?_, Lib.hid ⟨H.out.1, H.out.2.1, below_drewN H.out.2.2 nq⟩⟩, by simp [intOf]; omega⟩
        rw [E.out, if_pos (by simpa using ht)]; simp
      · rename_i ht
        refine ⟨⟨k + 1, by omega, by go_num, ?_, Lib.hid ⟨H.out.1, H.out.2.1, below_drewN H.out.2.2 nq⟩⟩, by simp [intOf]; omega⟩
        rw [E.out, if_neg (by simpa using ht)]; rfl
    · obtain rfl : k = 8 := by omega
      rw [List.take_of_length_le (by omega), List.take_of_length_le (by omega)]
      go_wp2
      go_ret
      exact ⟨rfl, H.out.2.2⟩

/-- the ones among the lowest k bits -/
def pop : Nat → Nat → Nat
  | 0, _ => 0
  | k + 1, n => n % 2 + pop k (n / 2)
theorem pop_al : ∀ (a b : List Int), a.length = b.length → pop a.length (al a b) = same a b
  | [], [], _ => rfl
  | x :: xs, y :: ys, h => by
    have := pop_al xs ys (by simpa using h)
    simp only [List.length_cons, pop, al, same]
    have e1 : ((if x = y then 1 else 0) + 2 * al xs ys) % 2 = if x = y then 1 else 0 := by split <;> omega
    have e2 : ((if x = y then 1 else 0) + 2 * al xs ys) / 2 = al xs ys := by split <;> omega
    rw [e1, e2, this]
  | [], _ :: _, h => by simp at h
  | _ :: _, [], h => by simp at h

theorem pop_tab : ∀ n : Fin 256, Lib.pop8 (n.val : Int) = (pop 8 n.val : Int) := by decide +kernel
theorem ones_any (n : Nat) (w : World) (hn : n < 256) : Calls Try.prog 14 #[.int .u8 (n : Int)] w fun e w' => e = .returned (.int .i64 ((pop 8 n : Nat) : Int)) ∧ w = w' := by
  have P := Lib.hid (pop_tab ⟨n, hn⟩)
  have P8 : pop 8 n ≤ 8 := by simp only [pop]; omega
  have h0 : (0 : Int) ≤ (n : Int) := by omega
  have h1 : (n : Int) ≤ 255 := by omega
  go_enter Try.func14, Try.ntmps14
  go_wp2
  go_ret
  refine ⟨ret_i64 ?_, rfl⟩
  rw [P.out]
  unfold wrap64
  omega

/-- three lines laid in new variables -/
theorem boxed3 (w : World) {a b c : List Int} (ha : a.length = 8) (hb : b.length = 8) (hc : c.length = 8) :
    ∃ W, ((w.alloc (.cells (lc a) 24)).alloc (.cells (lc b) 24)).alloc (.cells (lc c) 24) = W ∧ Hid (Ln W w.heap.size a ∧ Ln W (w.heap.size + 1) b ∧ Ln W (w.heap.size + 1 + 1) c ∧ Below w.heap.size w W) := by
  have L1 := Ln.new (w.alloc (.cells (lc a) 24)) hb
  have L2 := Ln.new ((w.alloc (.cells (lc a) 24)).alloc (.cells (lc b) 24)) hc
  rw [size_alloc] at L1 L2
  rw [size_alloc] at L2
  exact ⟨_, rfl, Lib.hid ⟨((Ln.new w ha).alloc _).alloc _, L1.alloc _, L2, bal (bal (bal (Below.refl w.heap.size w)))⟩⟩
theorem boxed2 (w : World) {a b : List Int} (ha : a.length = 8) (hb : b.length = 8) :
    ∃ W, (w.alloc (.cells (lc a) 24)).alloc (.cells (lc b) 24) = W ∧ Hid (Ln W w.heap.size a ∧ Ln W (w.heap.size + 1) b ∧ Below w.heap.size w W) := by
  have L1 := Ln.new (w.alloc (.cells (lc a) 24)) hb
  rw [size_alloc] at L1
  exact ⟨_, rfl, Lib.hid ⟨(Ln.new w ha).alloc _, L1, bal (bal (Below.refl w.heap.size w))⟩⟩
theorem boxed1 (w : World) {a : List Int} (ha : a.length = 8) : ∃ W, w.alloc (.cells (lc a) 24) = W ∧ Hid (Ln W w.heap.size a ∧ Below w.heap.size w W) :=
  ⟨_, rfl, Lib.hid ⟨Ln.new w ha, bal (Below.refl w.heap.size w)⟩⟩
theorem mix_is {a b x : List Int} {m : Int} (h : mix a b m = x) (w : World) (ha : a.length = 8) (hb : b.length = 8) :
    Calls Try.prog 8 #[.agg (lc a), .agg (lc b), .int .i64 m] w fun e w' => e = .returned (.agg (lc x)) ∧ Below w.heap.size w w' := by rw [← h]; exact mix_any a b m w ha hb
theorem rmix_is {a b x : List Int} {m : Int} (h : mix a b m = x) (w : World) (ha : a.length = 8) (hb : b.length = 8) :
    Calls Try.prog 9 #[.agg (lc a), .agg (lc b), .int .i64 m] w fun e w' => e = .returned (.agg (lc x)) ∧ Below w.heap.size w w' := by rw [← h]; exact rmix_any a b m w ha hb
/-- a line's variable, read in every later world -/
theorem Ln.later {w : World} {g : Nat} {l : List Int} (h : Ln w g l) : ∀ w' : World, Below w.heap.size w w' → (lineLoad (.pointer (some ⟨g, 0, none⟩))).run Try.prog w' = .ok (.agg (lc l)) w' := fun _ hb => (h.below hb).load

theorem or_all : ∀ (a b c : List Int), a.length = b.length → b.length = c.length → (al a c ||| al b c = 2 ^ a.length - 1 ↔ could a b c = true)
  | [], [], [], _, _ => by simp [al, could]
  | o :: os, n :: ns, c :: cs, h, h' => by
    have ih := or_all os ns cs (by simpa using h) (by simpa using h')
    have hd : (al (o :: os) (c :: cs) ||| al (n :: ns) (c :: cs)) / 2 = al os cs ||| al ns cs := by
      rw [Nat.or_div_two]
      simp only [al]
      congr 1 <;> split <;> omega
    have hm : (al (o :: os) (c :: cs) ||| al (n :: ns) (c :: cs)) % 2 = 1 ↔ (o = c ∨ n = c) := by
      rw [Nat.or_mod_two_eq_one]
      simp only [al]
      by_cases h1 : o = c <;> by_cases h2 : n = c <;> simp [h1, h2]
    have hp : 1 ≤ 2 ^ os.length := Nat.pow_pos (by omega)
    have e : could (o :: os) (n :: ns) (c :: cs) = true ↔ (o = c ∨ n = c) ∧ could os ns cs = true := by simp [could]
    rw [e, ← ih, ← hm, List.length_cons, Nat.pow_succ]
    generalize (al (o :: os) (c :: cs) ||| al (n :: ns) (c :: cs)) = z at *
    rw [← hd]
    omega
  | [], _ :: _, _, h, _ => by simp at h
  | _ :: _, [], _, h, _ => by simp at h
  | [], [], _ :: _, _, h => by simp at h
  | _ :: _, _ :: _, [], _, h => by simp at h
theorem or_could (a b c : List Int) (ha : a.length = 8) (hb : b.length = 8) (hc : c.length = 8) : (bits .or .u8 ((al a c : Nat) : Int) ((al b c : Nat) : Int) == 255) = could a b c := by
  have h1 := al_lt a c
  have h2 := al_lt b c
  rw [ha] at h1; rw [hb] at h2
  rw [u8_or_nat _ _ (by omega) (by omega), Bool.eq_iff_iff, ← or_all a b c (by omega) (by omega), ha]
  simp only [beq_iff_eq]
  omega

theorem could_go (a b c : List Int) (w : World) (ha : a.length = 8) (hb : b.length = 8) (hc : c.length = 8) :
    Calls Try.prog 10 #[.agg (lc a), .agg (lc b), .agg (lc c)] w fun e w' => e = .returned (.bool (could a b c)) ∧ Below w.heap.size w w' := by
  obtain ⟨W, hW, H⟩ := boxed3 w ha hb hc
  have E := or_could a b c ha hb hc
  have l0 := H.out.1.later
  have l1 := H.out.2.1.later
  have l2 := H.out.2.2.1.later
  go_enter Try.func10, Try.ntmps10
  go_wp2
  go_region_held3 (fun w' => Below W.heap.size W w')
    (first | exact (Below.refl _ _).drew | exact below_more ‹Below W.heap.size W _› hb1)
    ((go_at_call 13; refine (alike_any _ _ _ (by assumption) (by assumption)).mono ?_; rintro e w1 ⟨rfl, hb1⟩))
  have HB := Lib.hid (below_base H.out.2.2.2 H.out.2.2.2.size ‹Below W.heap.size W w1›)
  go_wp2
  go_ret
  exact ⟨rfl, HB.out⟩

theorem masks_go (a b c : List Int) (w : World) (ha : a.length = 8) (hb : b.length = 8) (hc : c.length = 8) :
    Calls Try.prog 11 #[.agg (lc a), .agg (lc b), .agg (lc c)] w fun e w' => e = .returned (.int .i64 ((cnt a b c : Nat) : Int)) ∧ Below w.heap.size w w' := by
  obtain ⟨W, hW, H⟩ := boxed3 w ha hb hc
  have l0 := H.out.1.load
  have l1 := H.out.2.1.load
  have l2 := H.out.2.2.1.load
  have CN := Lib.hid (cnt_is a b c (by omega) (by omega))
  have AL := al_lt a b
  have PO := Lib.hid (pop_al a b (by omega))
  rw [ha] at AL PO
  go_enter Try.func11, Try.ntmps11
  go_wp2_with fail
  refine (could_go a b c W ha hb hc).mono ?_; rintro e w1 ⟨rfl, hb1⟩
  have l0 := (H.out.1.below hb1).load
  have l1 := (H.out.2.1.below hb1).load
  have HB1 := Lib.hid (below_more H.out.2.2.2 hb1)
  clear hb1
  cases hcd : could a b c
  · go_wp2_with fail
    go_ret
    refine ⟨ret_i64 ?_, HB1.out⟩
    rw [CN.out, hcd]; rfl
  · go_wp2_with fail
    refine (alike_any a b w1 ha hb).mono ?_; rintro e w2 ⟨rfl, hb2⟩
    have HB2 := Lib.hid (below_more HB1.out hb2)
    clear hb2
    go_wp2_with fail
    refine (ones_any (al a b) w2 AL).mono ?_; rintro e w' ⟨rfl, rfl⟩
    go_wp2_with fail
    go_ret
    refine ⟨ret_i64 ?_, HB2.out⟩
    have h8 := same_le a b
    rw [CN.out, hcd, PO.out, Nat.min_eq_left (by omega), if_pos rfl, IntWalk.wrap64_in]
    · simp
    · have h1 : (0 : Int) < 2 ^ same a b := Int.pow_pos (by omega)
      have h2 : 2 ^ same a b ≤ 2 ^ 8 := Nat.pow_le_pow_right (by omega) (by omega)
      have h3 : ((2 ^ same a b : Nat) : Int) ≤ ((2 ^ 8 : Nat) : Int) := Int.ofNat_le.2 h2
      simp at h3
      omega

theorem could_is {a b c : List Int} {B : Bool} (h : could a b c = B) (w : World) (ha : a.length = 8) (hb : b.length = 8) (hc : c.length = 8) :
    Calls Try.prog 10 #[.agg (lc a), .agg (lc b), .agg (lc c)] w fun e w' => e = .returned (.bool B) ∧ Below w.heap.size w w' := by rw [← h]; exact could_go a b c w ha hb hc
theorem masks_is {a b c : List Int} {n : Nat} (h : cnt a b c = n) (w : World) (ha : a.length = 8) (hb : b.length = 8) (hc : c.length = 8) :
    Calls Try.prog 11 #[.agg (lc a), .agg (lc b), .agg (lc c)] w fun e w' => e = .returned (.int .i64 (n : Int)) ∧ Below w.heap.size w w' := by rw [← h]; exact masks_go a b c w ha hb hc
end Go.Proofs.Ytipibpkfpmlalaa
