/-
  Contracts of package chain, and of the reference's of the same: which blocks may be.
-/
import Derived.Test.YtlpbdnfecnochaaBka
namespace Go.Proofs.Ytlpbdnfecnochaa
set_option maxRecDepth 100000
open Go.RowKit

theorem mayw_is (n : Int) (w : World) : Calls Try.prog 28 #[.int .i64 n] w fun e w' => e = .returned (.bool (decide (Mw n))) ∧ w = w' := by
  by_cases h1 : n ≥ 8
  · by_cases h2 : n ≤ 512
    · have h3 : n.tmod 8 = n % 8 := Int.tmod_eq_emod_of_nonneg (by omega)
      by_cases h4 : n % 8 = 0
      · rw [h4] at h3
        rw [decide_eq_true (show Mw n from ⟨h1, h2, h4⟩)]
        clear h4
        go_enter Try.func28, Try.ntmps28
        go_wp2_with fail
        go_ret
        exact ⟨rfl, rfl⟩
      · have h6 : (n % 8 == 0) = false := beq_eq_false_iff_ne.2 h4
        rw [decide_eq_false (show ¬ Mw n from fun h => h4 h.2.2)]
        go_enter Try.func28, Try.ntmps28
        go_wp2_with fail
        go_ret
        exact ⟨rfl, rfl⟩
    · rw [decide_eq_false (show ¬ Mw n from fun h => h2 h.2.1)]
      go_enter Try.func28, Try.ntmps28
      go_wp2_with fail
      go_ret
      exact ⟨rfl, rfl⟩
  · rw [decide_eq_false (show ¬ Mw n from fun h => h1 h.1)]
    go_enter Try.func28, Try.ntmps28
    go_wp2_with fail
    go_ret
    exact ⟨rfl, rfl⟩
theorem rmayw_is (n : Int) (w : World) : Calls Try.prog 26 #[.int .i64 n] w fun e w' => e = .returned (.bool (decide (Mw n))) ∧ w = w' := by
  by_cases h1 : n ≥ 8
  · by_cases h2 : n ≤ 512
    · have h3 : n.tmod 8 = n % 8 := Int.tmod_eq_emod_of_nonneg (by omega)
      by_cases h4 : n % 8 = 0
      · rw [h4] at h3
        rw [decide_eq_true (show Mw n from ⟨h1, h2, h4⟩)]
        clear h4
        go_enter Try.func26, Try.ntmps26
        go_wp2_with fail
        go_ret
        exact ⟨rfl, rfl⟩
      · have h6 : (n % 8 == 0) = false := beq_eq_false_iff_ne.2 h4
        rw [decide_eq_false (show ¬ Mw n from fun h => h4 h.2.2)]
        go_enter Try.func26, Try.ntmps26
        go_wp2_with fail
        go_ret
        exact ⟨rfl, rfl⟩
    · rw [decide_eq_false (show ¬ Mw n from fun h => h2 h.2.1)]
      go_enter Try.func26, Try.ntmps26
      go_wp2_with fail
      go_ret
      exact ⟨rfl, rfl⟩
  · rw [decide_eq_false (show ¬ Mw n from fun h => h1 h.1)]
    go_enter Try.func26, Try.ntmps26
    go_wp2_with fail
    go_ret
    exact ⟨rfl, rfl⟩

set_option maxHeartbeats 1000000 in
theorem may_is (n : Int) (l : List Bk) (v : Value) (r : Bool) (w : World) (hv : RA blkE w v l) (hl : l.length ≤ 1000) (hr : mayL n l = r) :
    Calls Try.prog 18 #[v, .int .i64 n] w fun e w' => e = .returned (.bool r) ∧ Below w.heap.size w w' := by
  obtain ⟨p, cap, rfl, hlc, hcm⟩ := ra_shape hv
  unfold maxLen at hcm
  have C := Lib.hid (mayw_is n w)
  by_cases hm : Mw n
  · rw [decide_eq_true hm] at C
    have HR : Hid (mayF n 0 false l = r) := Lib.hid (by rw [← hr, mayL, decide_eq_true hm, Bool.true_and])
    have HL := Lib.hid hl
    have HM := Lib.hid hcm
    have HC := Lib.hid hlc
    have HV := Lib.hid hv
    clear hr hm hl hcm hlc hv
    go_enter Try.func18, Try.ntmps18
    go_wp2_with fail
    refine (C.out).mono ?_; rintro e w' ⟨rfl, rfl⟩
    go_wp2
    go_loopw [5, 6, 14] (fun a f i wr => ∃ (k z : Nat) (g : Bool), k ≤ l.length ∧ i = .int .i64 k ∧ a = .int .i64 z ∧ f = .bool g ∧ z ≤ 512 * k ∧ Hid (mayF n z g (l.drop k) = r ∧ Below w.heap.size w wr)) (fun _ _ i _ => l.length - (intOf i).toNat)
    case atStart => exact ⟨0, 0, false, Nat.zero_le _, rfl, rfl, rfl, Nat.zero_le _, Lib.hid ⟨HR.out, Below.refl _ _⟩⟩
    case round =>
      obtain ⟨k, z, g, hk, rfl, rfl, rfl, hz, H⟩ := hrel
      by_cases hlt : k < l.length
      · obtain ⟨b, off, rfl, hb, hx⟩ := blk_at (ra_below HV.out H.out.2) (by omega)
        obtain ⟨hld, _, _, _, _⟩ := hx k hlt
        have hF := H.out.1
        rw [getD_cut hlt] at hF
        generalize l.getD k default = x at *
        obtain ⟨xa, xs, xu⟩ := x
        obtain ⟨W, hW, HW⟩ := blk_boxed wr ⟨xa, xs, xu⟩
        have c0 : W.cell? ⟨wr.heap.size, 0, none⟩ = some (.int .i64 xa) := HW.out.1.c0
        have c1 : W.cell? ⟨wr.heap.size, 1, none⟩ = some (.int .i64 xs) := HW.out.1.c1
        have c2 : W.cell? ⟨wr.heap.size, 2, none⟩ = some (.bool xu) := HW.out.1.c2
        have HB := Lib.hid (below_more H.out.2 HW.out.2)
        have i0 : (0 : Int) ≤ (k : Int) := by omega
        have i1 : (k : Int) < (l.length : Int) := by omega
        have i2 : ¬ (k : Int) < 0 := by omega
        have i3 : IntKind.i64.wrap ((k : Int) + 1) = ((k + 1 : Nat) : Int) := by rw [show (k : Int) + 1 = ((k + 1 : Nat) : Int) by omega]; exact i64_nat _ (by have := HL.out; omega)
        have HF := Lib.hid hF
        have HK := Lib.hid hlt
        have HL2 := Lib.hid hz
        clear hx hF hk hb hz
        by_cases ha : xa = (z : Int)
        · subst ha
          by_cases hs : MayB xs
          · have M := Lib.hid (mayb_yes xs hs W)
            obtain ⟨xn, rfl⟩ : ∃ m : Nat, xs = m := ⟨xs.toNat, by obtain ⟨h, _⟩ := hs; omega⟩
            have HS : Hid (xn ≤ 512) := Lib.hid (by obtain ⟨_, h⟩ := hs; omega)
            have j0 : IntKind.i64.wrap ((z : Int) + (xn : Int)) = ((z + xn : Nat) : Int) := by rw [show (z : Int) + (xn : Int) = ((z + xn : Nat) : Int) by omega]; exact i64_nat _ (by have := HL2.out; have := HS.out; have := HL.out; have := HK.out; omega)
            by_cases hg : g = true ∧ xu = false
            · obtain ⟨rfl, rfl⟩ := hg
              obtain rfl : r = false := by cases r; rfl; exact absurd ⟨rfl, rfl⟩ (mayF_cons.1 HF.out).2.2.1
              clear j0
              go_wp2_with fail
              refine (M.out).mono ?_; rintro e w' ⟨rfl, rfl⟩
              go_wp2
              go_ret
              exact ⟨rfl, HB.out⟩
            · have HN : Hid (mayF n ((z + xn : Nat) : Int) (!xu) (l.drop (k + 1)) = r) := Lib.hid (by
                have := HF.out
                rw [mayF, decide_eq_true (show (Bk.mk (z : Int) (xn : Int) xu).a = (z : Int) from rfl), decide_eq_true (show MayB (Bk.mk (z : Int) (xn : Int) xu).s from hs)] at this
                have e : (g && !xu) = false := by cases g <;> cases xu <;> simp_all
                rw [show (g && !(Bk.mk (z : Int) (xn : Int) xu).u) = false from e] at this
                rw [← this]
                simp)
              clear hs
              cases xu with
              | true =>
                clear hg
                cases g <;>
                · go_wp2_with fail
                  refine (M.out).mono ?_; rintro e w' ⟨rfl, rfl⟩
                  go_wp2
                  go_roundw
                  case rel => exact ⟨k + 1, z + xn, false, by have := HK.out; omega, by go_num, rfl, rfl, by have := HL2.out; have := HS.out; omega, Lib.hid ⟨HN.out, HB.out⟩⟩
                  case measure => have := HK.out; simp [intOf]; omega
              | false =>
                obtain rfl : g = false := by cases g; rfl; exact absurd ⟨rfl, rfl⟩ hg
                clear hg
                go_wp2_with fail
                refine (M.out).mono ?_; rintro e w' ⟨rfl, rfl⟩
                go_wp2
                go_roundw
                case rel => exact ⟨k + 1, z + xn, true, by have := HK.out; omega, by go_num, rfl, rfl, by have := HL2.out; have := HS.out; omega, Lib.hid ⟨HN.out, HB.out⟩⟩
                case measure => have := HK.out; simp [intOf]; omega
          · have M := Lib.hid (mayb_no xs hs W)
            obtain rfl : r = false := by cases r; rfl; exact absurd (mayF_cons.1 HF.out).2.1 hs
            clear hs
            go_wp2_with fail
            refine (M.out).mono ?_; rintro e w' ⟨rfl, rfl⟩
            go_wp2
            go_ret
            exact ⟨rfl, HB.out⟩
        · obtain rfl : r = false := by cases r; rfl; exact absurd (mayF_cons.1 HF.out).1 ha
          have hb0 : (xa == (z : Int)) = false := beq_eq_false_iff_ne.2 ha
          go_wp2
          go_ret
          exact ⟨rfl, HB.out⟩
      · obtain rfl : k = l.length := by omega
        have hF := H.out.1
        rw [List.drop_length, mayF] at hF
        by_cases hn : (z : Int) = n
        · rw [decide_eq_true hn] at hF
          subst hF
          subst hn
          go_wp2
          go_ret
          exact ⟨rfl, H.out.2⟩
        · rw [decide_eq_false hn] at hF
          subst hF
          have hb0 : ((z : Int) == n) = false := beq_eq_false_iff_ne.2 hn
          go_wp2
          go_ret
          exact ⟨rfl, H.out.2⟩
  · rw [decide_eq_false hm] at C
    obtain rfl : r = false := by rw [← hr, mayL, decide_eq_false hm, Bool.false_and]
    clear hr hm
    go_enter Try.func18, Try.ntmps18
    go_wp2_with fail
    refine (C.out).mono ?_; rintro e w' ⟨rfl, rfl⟩
    go_wp2_with fail
    go_ret
    exact ⟨rfl, Below.refl _ _⟩
end Go.Proofs.Ytlpbdnfecnochaa
