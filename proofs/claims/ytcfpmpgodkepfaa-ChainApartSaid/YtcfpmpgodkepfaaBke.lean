/-
  Contracts of package chain, and of the reference's of the same: the place of a word, what is free.
-/
import Derived.Test.YtcfpmpgodkepfaaBkc
namespace Go.Proofs.Ytcfpmpgodkepfaa
set_option maxRecDepth 100000
open Go.RowKit

/-- a distance without a sign -/
theorem far_u64 {x a s : Int} (hx : (Lit.int .i64 x).wf = true) (ha : (Lit.int .i64 a).wf = true) (hs : (Lit.int .i64 s).wf = true) (h1 : 0 < s) (h2 : a ≤ x) :
    ∃ X A d, IntKind.u64.wrap x = X ∧ IntKind.u64.wrap a = A ∧ IntKind.u64.wrap (X - A) = d ∧ d = x - a ∧ IntKind.u64.wrap s = s := by
  obtain ⟨x1, x2⟩ := i64_wf hx
  obtain ⟨a1, a2⟩ := i64_wf ha
  obtain ⟨s1, s2⟩ := i64_wf hs
  refine ⟨_, _, x - a, rfl, rfl, ?_, rfl, ?_⟩
  · simp only [IntKind.wrap_u64]; omega
  · simp only [IntKind.wrap_u64]; omega

theorem within_is (b : Bk) (x : Int) (hx : (Lit.int .i64 x).wf = true) (hb : b.Wf) (w : World) :
    Calls Try.prog 34 #[.agg (bc b), .int .i64 x] w fun e w' => e = .returned (.bool (inB b x)) ∧ Below w.heap.size w w' := by
  obtain ⟨W, hW, HW⟩ := blk_boxed w b
  have HT : Hid ((0 < b.s ∧ b.a ≤ x ∧ x - b.a < b.s) → inB b x = true) := Lib.hid fun h => decide_eq_true h
  have HN : Hid (¬ (0 < b.s ∧ b.a ≤ x ∧ x - b.a < b.s) → inB b x = false) := Lib.hid fun h => decide_eq_false h
  obtain ⟨a, s, u⟩ := b
  have c0 : W.cell? ⟨w.heap.size, 0, none⟩ = some (.int .i64 a) := HW.out.1.c0
  have c1 : W.cell? ⟨w.heap.size, 1, none⟩ = some (.int .i64 s) := HW.out.1.c1
  by_cases h1 : s > 0
  · by_cases h2 : x ≥ a
    · obtain ⟨X, A, d, e1, e2, e3, hd, e4⟩ := far_u64 hx hb.wa hb.ws h1 h2
      simp only at e1 e2 e3 hd e4
      by_cases h3 : d < s
      · rw [HT.out (by simp only; omega)]
        clear hd hx hb
        go_enter Try.func34, Try.ntmps34
        go_wp2_with fail
        go_ret
        exact ⟨rfl, HW.out.2⟩
      · rw [HN.out (by simp only; omega)]
        clear hd hx hb
        go_enter Try.func34, Try.ntmps34
        go_wp2_with fail
        go_ret
        exact ⟨rfl, HW.out.2⟩
    · rw [HN.out (by simp only; omega)]
      clear hx hb
      go_enter Try.func34, Try.ntmps34
      go_wp2_with fail
      go_ret
      exact ⟨rfl, HW.out.2⟩
  · rw [HN.out (by simp only; omega)]
    clear hx hb
    go_enter Try.func34, Try.ntmps34
    go_wp2_with fail
    go_ret
    exact ⟨rfl, HW.out.2⟩

set_option maxHeartbeats 1000000 in
theorem at_is (x : Int) (l : List Bk) (v : Value) (r : Int) (w : World) (hv : RA blkE w v l) (hx : (Lit.int .i64 x).wf = true) (hr : atS x 0 l = r) :
    Calls Try.prog 21 #[v, .int .i64 x] w fun e w' => e = .returned (.int .i64 r) ∧ Below w.heap.size w w' := by
  obtain ⟨p, cap, rfl, hlc, hcm⟩ := ra_shape hv
  unfold maxLen at hcm
  have HL : Hid (l.length ≤ 9223372036854775807) := Lib.hid (by omega)
  have HV := Lib.hid hv
  have HR := Lib.hid hr
  have HX := Lib.hid hx
  clear hr hcm hlc hv hx
  go_enter Try.func21, Try.ntmps21
  go_wp2
  go_loopw [9] (fun i wr => ∃ k : Nat, k ≤ l.length ∧ i = .int .i64 k ∧ Hid (atS x k (l.drop k) = r ∧ Below w.heap.size w wr)) (fun i _ => l.length - (intOf i).toNat)
  case atStart => exact ⟨0, Nat.zero_le _, rfl, Lib.hid ⟨HR.out, Below.refl _ _⟩⟩
  case round =>
    obtain ⟨k, hk, rfl, H⟩ := hrel
    by_cases hlt : k < l.length
    · obtain ⟨b, off, rfl, hb, hx⟩ := blk_at (ra_below HV.out H.out.2) (by omega)
      obtain ⟨hld, _, _, _, hwf⟩ := hx k hlt
      have hF := H.out.1
      rw [getD_cut hlt, atS] at hF
      generalize l.getD k default = y at *
      obtain ⟨W, hW, HW⟩ := blk_boxed wr y
      have l0 := HW.out.1.load
      have C := Lib.hid (within_is y x HX.out hwf W)
      have HB := Lib.hid (below_more H.out.2 HW.out.2)
      have i0 : (0 : Int) ≤ (k : Int) := by omega
      have i1 : (k : Int) < (l.length : Int) := by omega
      have i2 : ¬ (k : Int) < 0 := by omega
      have i3 : IntKind.i64.wrap ((k : Int) + 1) = ((k + 1 : Nat) : Int) := by rw [show (k : Int) + 1 = ((k + 1 : Nat) : Int) by omega]; exact i64_nat _ (by have := HL.out; omega)
      have HK := Lib.hid hlt
      clear hx hk hb hwf
      cases hi : inB y x
      · rw [hi] at C
        rw [if_neg (by rw [hi]; exact Bool.false_ne_true)] at hF
        have HF := Lib.hid hF
        clear hi hF
        go_wp2_with fail
        refine (C.out).mono ?_; rintro e w' ⟨rfl, hb⟩
        have HB2 := Lib.hid (below_more HB.out hb)
        clear hb
        go_wp2
        go_roundw
        case rel => exact ⟨k + 1, by have := HK.out; omega, by go_num, Lib.hid ⟨HF.out, HB2.out⟩⟩
        case measure => have := HK.out; simp [intOf]; omega
      · rw [hi] at C
        rw [if_pos hi] at hF
        subst hF
        clear hi i3
        go_wp2_with fail
        refine (C.out).mono ?_; rintro e w' ⟨rfl, hb⟩
        have HB2 := Lib.hid (below_more HB.out hb)
        clear hb
        go_wp2
        go_ret
        exact ⟨rfl, HB2.out⟩
    · obtain rfl : k = l.length := by omega
      have hF := H.out.1
      rw [List.drop_length, atS] at hF
      subst hF
      go_wp2
      go_ret
      exact ⟨rfl, H.out.2⟩

set_option maxHeartbeats 1000000 in
theorem rat_is_b (x : Int) (l : List Bk) (v : Value) (r : Int) (w : World) (hv : RA blkE w v l) (hx : (Lit.int .i64 x).wf = true) (hr : atS x 0 l = r) :
    Calls Try.prog 22 #[v, .int .i64 x] w fun e w' => e = .returned (.int .i64 r) ∧ Below w.heap.size w w' := by
  obtain ⟨p, cap, rfl, hlc, hcm⟩ := ra_shape hv
  unfold maxLen at hcm
  have HL : Hid (l.length ≤ 9223372036854775807) := Lib.hid (by omega)
  have HV := Lib.hid hv
  have HR := Lib.hid hr
  have HX := Lib.hid hx
  clear hr hcm hlc hv hx
  go_enter Try.func22, Try.ntmps22
  go_wp2
  go_loopw [9] (fun i wr => ∃ k : Nat, k ≤ l.length ∧ i = .int .i64 k ∧ Hid (atS x k (l.drop k) = r ∧ Below w.heap.size w wr)) (fun i _ => l.length - (intOf i).toNat)
  case atStart => exact ⟨0, Nat.zero_le _, rfl, Lib.hid ⟨HR.out, Below.refl _ _⟩⟩
  case round =>
    obtain ⟨k, hk, rfl, H⟩ := hrel
    by_cases hlt : k < l.length
    · obtain ⟨b, off, rfl, hb, hx⟩ := blk_at (ra_below HV.out H.out.2) (by omega)
      obtain ⟨hld, _, _, _, hwf⟩ := hx k hlt
      have hF := H.out.1
      rw [getD_cut hlt, atS] at hF
      generalize l.getD k default = y at *
      obtain ⟨a, s, u⟩ := y
      obtain ⟨W, hW, HW⟩ := blk_boxed wr ⟨a, s, u⟩
      have c0 : W.cell? ⟨wr.heap.size, 0, none⟩ = some (.int .i64 a) := HW.out.1.c0
      have c1 : W.cell? ⟨wr.heap.size, 1, none⟩ = some (.int .i64 s) := HW.out.1.c1
      have HB := Lib.hid (below_more H.out.2 HW.out.2)
      have i0 : (0 : Int) ≤ (k : Int) := by omega
      have i1 : (k : Int) < (l.length : Int) := by omega
      have i2 : ¬ (k : Int) < 0 := by omega
      have i3 : IntKind.i64.wrap ((k : Int) + 1) = ((k + 1 : Nat) : Int) := by rw [show (k : Int) + 1 = ((k + 1 : Nat) : Int) by omega]; exact i64_nat _ (by have := HL.out; omega)
      have HK := Lib.hid hlt
      have HF := Lib.hid hF
      have HT : Hid ((0 < s ∧ a ≤ x ∧ x - a < s) → (k : Int) = r) := Lib.hid fun h => by
        have := HF.out
        rw [if_pos (by unfold inB; exact decide_eq_true h)] at this; exact this
      have HN : Hid (¬ (0 < s ∧ a ≤ x ∧ x - a < s) → atS x (k + 1) (l.drop (k + 1)) = r) := Lib.hid fun h => by
        have := HF.out
        rw [if_neg (by rw [inB, decide_eq_true_eq]; exact h)] at this; exact this
      have HW2 := Lib.hid hwf
      clear hx hk hb hwf hF HF
      by_cases h2 : x ≥ a
      · by_cases h1 : s > 0
        · obtain ⟨X, A, d, e1, e2, e3, hd, e4⟩ := far_u64 HX.out HW2.out.wa HW2.out.ws h1 h2
          simp only at e1 e2 e3 hd e4
          have HD := Lib.hid hd
          clear hd
          by_cases h3 : d < s
          · have HE : (k : Int) = r := HT.out (by have := HD.out; omega)
            subst HE
            clear i3
            go_wp2
            go_ret
            exact ⟨rfl, HB.out⟩
          · have HE := Lib.hid (HN.out (by have := HD.out; omega))
            go_wp2
            go_roundw
            case rel => exact ⟨k + 1, by have := HK.out; omega, by go_num, Lib.hid ⟨HE.out, HB.out⟩⟩
            case measure => have := HK.out; simp [intOf]; omega
        · have HE := Lib.hid (HN.out (by omega))
          go_wp2
          go_roundw
          case rel => exact ⟨k + 1, by have := HK.out; omega, by go_num, Lib.hid ⟨HE.out, HB.out⟩⟩
          case measure => have := HK.out; simp [intOf]; omega
      · have HE := Lib.hid (HN.out (by omega))
        go_wp2
        go_roundw
        case rel => exact ⟨k + 1, by have := HK.out; omega, by go_num, Lib.hid ⟨HE.out, HB.out⟩⟩
        case measure => have := HK.out; simp [intOf]; omega
    · obtain rfl : k = l.length := by omega
      have hF := H.out.1
      rw [List.drop_length, atS] at hF
      subst hF
      go_wp2
      go_ret
      exact ⟨rfl, H.out.2⟩
end Go.Proofs.Ytcfpmpgodkepfaa
