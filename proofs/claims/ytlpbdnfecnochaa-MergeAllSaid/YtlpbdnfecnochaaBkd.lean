/-
  Contracts of the reference: which blocks may be.
-/
import Derived.Test.YtlpbdnfecnochaaBkc
namespace Go.Proofs.Ytlpbdnfecnochaa
set_option maxRecDepth 100000
open Go.RowKit

/-- whether the one ahead of the k-th is free -/
def gAt (l : List Bk) : Nat → Bool
  | 0 => false
  | m + 1 => !(l.getD m default).u

set_option maxHeartbeats 1000000 in
theorem rmay_is (n : Int) (l : List Bk) (v : Value) (r : Bool) (w : World) (hv : RA blkE w v l) (hl : l.length ≤ 1000) (hr : mayL n l = r) :
    Calls Try.prog 13 #[v, .int .i64 n] w fun e w' => e = .returned (.bool r) ∧ Below w.heap.size w w' := by
  obtain ⟨p, cap, rfl, hlc, hcm⟩ := ra_shape hv
  unfold maxLen at hcm
  have C := Lib.hid (rmayw_is n w)
  by_cases hm : Mw n
  · rw [decide_eq_true hm] at C
    have HR : Hid (mayF n 0 false l = r) := Lib.hid (by rw [← hr, mayL, decide_eq_true hm, Bool.true_and])
    have HL := Lib.hid hl
    have HM := Lib.hid hcm
    have HC := Lib.hid hlc
    have HV := Lib.hid hv
    have HW0 := Lib.hid hm
    clear hr hm hl hcm hlc hv
    go_enter Try.func13, Try.ntmps13
    go_wp2_with fail
    refine (C.out).mono ?_; rintro e w' ⟨rfl, rfl⟩
    go_wp2
    go_loopw [5, 13] (fun a i wr => ∃ (k z : Nat), k ≤ l.length ∧ i = .int .i64 k ∧ a = .int .i64 z ∧ z ≤ 512 * k ∧ Hid (mayF n z (gAt l k) (l.drop k) = r ∧ Below w.heap.size w wr)) (fun _ i _ => l.length - (intOf i).toNat)
    case atStart => exact ⟨0, 0, Nat.zero_le _, rfl, rfl, Nat.zero_le _, Lib.hid ⟨HR.out, Below.refl _ _⟩⟩
    case round =>
      obtain ⟨k, z, hk, rfl, rfl, hz, H⟩ := hrel
      by_cases hlt : k < l.length
      · obtain ⟨b, off, rfl, hb, hx⟩ := blk_at (ra_below HV.out H.out.2) (by omega)
        obtain ⟨hld, _, _, _, _⟩ := hx k hlt
        have HX : Hid (∀ m, k = m + 1 → wr.cell? ⟨b, off + m * 3 + 2, none⟩ = some (.bool !(gAt l k))) := Lib.hid fun m e => by
          subst e
          obtain ⟨_, _, _, h, _⟩ := hx m (by omega)
          rw [h, gAt, Bool.not_not]
        have hF := H.out.1
        rw [getD_cut hlt] at hF
        have HG : Hid (gAt l (k + 1) = !(l.getD k default).u) := Lib.hid rfl
        generalize hgg : gAt l k = g at hF HX
        generalize l.getD k default = x at *
        obtain ⟨xa, xs, xu⟩ := x
        obtain ⟨W, hW, HW⟩ := blk_boxed wr ⟨xa, xs, xu⟩
        have c0 : W.cell? ⟨wr.heap.size, 0, none⟩ = some (.int .i64 xa) := HW.out.1.c0
        have c1 : W.cell? ⟨wr.heap.size, 1, none⟩ = some (.int .i64 xs) := HW.out.1.c1
        have c2 : W.cell? ⟨wr.heap.size, 2, none⟩ = some (.bool xu) := HW.out.1.c2
        have HY : Hid (∀ m, k = m + 1 → W.cell? ⟨b, off + m * 3 + 2, none⟩ = some (.bool !g)) := Lib.hid fun m e => (HW.out.2.cell (p := ⟨b, _, none⟩) hb).trans (HX.out m e)
        have HB := Lib.hid (below_more H.out.2 HW.out.2)
        have i0 : (0 : Int) ≤ (k : Int) := by omega
        have i1 : (k : Int) < (l.length : Int) := by omega
        have i2 : ¬ (k : Int) < 0 := by omega
        have i3 : IntKind.i64.wrap ((k : Int) + 1) = ((k + 1 : Nat) : Int) := by rw [show (k : Int) + 1 = ((k + 1 : Nat) : Int) by omega]; exact i64_nat _ (by have := HL.out; omega)
        have HF := Lib.hid hF
        have HK := Lib.hid hlt
        have HL2 := Lib.hid hz
        have HN0 : Hid (k = 0 → g = false) := Lib.hid fun e => by subst e; exact hgg.symm
        clear hx hF hk hb hz HX hgg
        by_cases ha : xa = (z : Int)
        · subst ha
          by_cases hs : MayB xs
          · have M := Lib.hid (rmayb_yes xs hs W)
            obtain ⟨xn, rfl⟩ : ∃ m : Nat, xs = m := ⟨xs.toNat, by obtain ⟨h, _⟩ := hs; omega⟩
            have HS : Hid (xn ≤ 512) := Lib.hid (by obtain ⟨_, h⟩ := hs; omega)
            have j0 : IntKind.i64.wrap ((z : Int) + (xn : Int)) = ((z + xn : Nat) : Int) := by rw [show (z : Int) + (xn : Int) = ((z + xn : Nat) : Int) by omega]; exact i64_nat _ (by have := HL2.out; have := HS.out; have := HL.out; have := HK.out; omega)
            obtain ⟨q, hq⟩ : ∃ q : Int, n - (z : Int) = q := ⟨_, rfl⟩
            have j1 : IntKind.i64.wrap (n - (z : Int)) = q := by rw [hq]; exact IntWalk.i64_in _ (by have := HL2.out; have := HL.out; have := HK.out; obtain ⟨_, _, _⟩ := HW0.out; omega)
            have HMS := Lib.hid hs
            have HQ := Lib.hid hq
            clear hs hq
            by_cases hgt : (xn : Int) > q
            · obtain rfl : r = false := by
                cases r
                · rfl
                · have e := mayF_end (mayF_cons.1 HF.out).2.2.2
                  have e2 := HQ.out
                  simp only at e
                  omega
              clear j0
              go_wp2_with fail
              refine (M.out).mono ?_; rintro e w' ⟨rfl, rfl⟩
              go_wp2
              go_ret
              exact ⟨rfl, HB.out⟩
            have HN : Hid (¬ (g = true ∧ xu = false) → mayF n ((z + xn : Nat) : Int) (!xu) (l.drop (k + 1)) = r) := Lib.hid (fun hg => by
              have := HF.out
              rw [mayF, decide_eq_true (show (Bk.mk (z : Int) (xn : Int) xu).a = (z : Int) from rfl), decide_eq_true (show MayB (Bk.mk (z : Int) (xn : Int) xu).s from HMS.out)] at this
              have e : (g && !xu) = false := by cases g <;> cases xu <;> simp_all
              rw [show (g && !(Bk.mk (z : Int) (xn : Int) xu).u) = false from e] at this
              rw [← this]
              simp)
            have HE : Hid ((n : Int) = n) := Lib.hid rfl
            by_cases hk0 : k = 0
            · obtain rfl := HN0.out hk0
              have i4 : ¬ (k : Int) > 0 := by omega
              have HN2 := Lib.hid (HN.out (by simp))
              clear HN HY hk0
              go_wp2_with fail
              refine (M.out).mono ?_; rintro e w' ⟨rfl, rfl⟩
              go_wp2
              go_roundw
              case rel => exact ⟨k + 1, z + xn, by have := HK.out; omega, by go_num, rfl, by have := HL2.out; have := HS.out; omega, Lib.hid ⟨by rw [HG.out]; exact HN2.out, HB.out⟩⟩
              case measure => have := HK.out; simp [intOf]; omega
            · obtain ⟨m, hm⟩ : ∃ m, k = m + 1 := ⟨k - 1, by omega⟩
              have y2 := HY.out m hm
              have i4 : (k : Int) > 0 := by omega
              have i5 : IntKind.i64.wrap ((k : Int) - 1) = (m : Int) := by rw [show (k : Int) - 1 = (m : Int) by omega]; exact i64_nat _ (by have := HL.out; have := HK.out; omega)
              have i6 : (0 : Int) ≤ (m : Int) := by omega
              have i7 : (m : Int) < (l.length : Int) := by have := HK.out; omega
              have i8 : ¬ (m : Int) < 0 := by omega
              clear hm hk0
              clear HY
              cases xu with
              | true =>
                have HN2 := Lib.hid (HN.out (by simp))
                clear HN y2
                go_wp2_with fail
                refine (M.out).mono ?_; rintro e w' ⟨rfl, rfl⟩
                go_wp2
                go_roundw
                case rel => exact ⟨k + 1, z + xn, by have := HK.out; omega, by go_num, rfl, by have := HL2.out; have := HS.out; omega, Lib.hid ⟨by rw [HG.out]; exact HN2.out, HB.out⟩⟩
                case measure => have := HK.out; simp [intOf]; omega
              | false =>
                cases g with
                | false =>
                  have HN2 := Lib.hid (HN.out (by simp))
                  clear HN
                  go_wp2_with fail
                  refine (M.out).mono ?_; rintro e w' ⟨rfl, rfl⟩
                  go_wp2
                  go_roundw
                  case rel => exact ⟨k + 1, z + xn, by have := HK.out; omega, by go_num, rfl, by have := HL2.out; have := HS.out; omega, Lib.hid ⟨by rw [HG.out]; exact HN2.out, HB.out⟩⟩
                  case measure => have := HK.out; simp [intOf]; omega
                | true =>
                  obtain rfl : r = false := by cases r; rfl; exact absurd ⟨rfl, rfl⟩ (mayF_cons.1 HF.out).2.2.1
                  clear HN j0
                  go_wp2_with fail
                  refine (M.out).mono ?_; rintro e w' ⟨rfl, rfl⟩
                  go_wp2
                  go_ret
                  exact ⟨rfl, HB.out⟩
          · have M := Lib.hid (rmayb_no xs hs W)
            obtain rfl : r = false := by cases r; rfl; exact absurd (mayF_cons.1 HF.out).2.1 hs
            clear hs
            go_wp2_with fail
            refine (M.out).mono ?_; rintro e w' ⟨rfl, rfl⟩
            go_wp2
            go_ret
            exact ⟨rfl, HB.out⟩
        · obtain rfl : r = false := by cases r; rfl; exact absurd (mayF_cons.1 HF.out).1 ha
          have hb0 : (xa == (z : Int)) = false := beq_eq_false_iff_ne.2 ha
          go_wp2
          go_ret
          exact ⟨rfl, HB.out⟩
      · obtain rfl : k = l.length := by omega
        have hF := H.out.1
        rw [List.drop_length, mayF] at hF
        by_cases hn : (z : Int) = n
        · rw [decide_eq_true hn] at hF
          subst hF
          subst hn
          go_wp2
          go_ret
          exact ⟨rfl, H.out.2⟩
        · rw [decide_eq_false hn] at hF
          subst hF
          have hb0 : ((z : Int) == n) = false := beq_eq_false_iff_ne.2 hn
          go_wp2
          go_ret
          exact ⟨rfl, H.out.2⟩
  · rw [decide_eq_false hm] at C
    obtain rfl : r = false := by rw [← hr, mayL, decide_eq_false hm, Bool.false_and]
    clear hr hm
    go_enter Try.func13, Try.ntmps13
    go_wp2_with fail
    refine (C.out).mono ?_; rintro e w' ⟨rfl, rfl⟩
    go_wp2_with fail
    go_ret
    exact ⟨rfl, Below.refl _ _⟩
end Go.Proofs.Ytlpbdnfecnochaa
