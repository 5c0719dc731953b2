/-
  Contracts of package carve, and of the reference's of the same: the sum of sizes, what is taken, what stands for a block that is taken, where bytes begin.
-/
import Derived.Test.YtlpbdnfecnochaaCrp
import Derived.Test.YtlpbdnfecnochaaBkf
import Derived.Test.YtlpbdnfecnochaaFtc
namespace Go.Proofs.Ytlpbdnfecnochaa
set_option maxRecDepth 100000
open Go.RowKit

theorem mayS_all {l : List Bk} (h : mayS l = true) : allB l = true := by
  have := mayF_sizes (mayL_yes.1 h).2
  exact List.all_eq_true.2 fun b hb => decide_eq_true (this b hb).1
/-- sums of sizes: 0 where one may not be -/
def szW (l : List Bk) : Int := if allB l = true then szs l else 0
def allR (l : List Bk) : Bool := l.all fun b => decide (0 ≤ b.s ∧ b.s ≤ 1000)
def szR (l : List Bk) : Int := if allR l = true then szs l else 0
theorem may_szW (l : List Bk) : mayL (szW l) l = mayS l := mayL_sum fun h => by rw [szW, if_pos (mayS_all h)]
theorem allB_allR {l : List Bk} (h : allB l = true) : allR l = true := List.all_eq_true.2 fun b hb => by
  have := of_decide_eq_true (List.all_eq_true.1 h b hb)
  obtain ⟨h1, h2⟩ := this
  exact decide_eq_true (by omega)
theorem may_szR (l : List Bk) : mayL (szR l) l = mayS l := mayL_sum fun h => by rw [szR, if_pos (allB_allR (mayS_all h))]
theorem allR_cons (b : Bk) (r : List Bk) : allR (b :: r) = (decide (0 ≤ b.s ∧ b.s ≤ 1000) && allR r) := rfl

set_option maxHeartbeats 1000000 in
theorem words_is (l : List Bk) (v : Value) (w : World) (hv : RA blkE w v l) (hl : l.length ≤ 1000) :
    Calls Try.prog 34 #[v] w fun e w' => e = .returned (.int .i64 (szW l)) ∧ Below w.heap.size w w' := by
  obtain ⟨p, cap, rfl, hlc, hcm⟩ := ra_shape hv
  obtain ⟨r, hr⟩ : ∃ r, szW l = r := ⟨_, rfl⟩
  rw [hr]
  have HL := Lib.hid hl
  have HV := Lib.hid hv
  have HR : Hid ((if allB l = true then szs l else 0) = r) := Lib.hid hr
  clear hr hcm hlc hv hl
  go_enter Try.func34, Try.ntmps34
  go_wp2
  go_loopw [3, 5, 8] (fun z x i wr => ∃ k z' : Nat, k ≤ l.length ∧ i = .int .i64 k ∧ z = .int .i64 z' ∧ z' ≤ 512 * k ∧ Hid ((if allB (l.drop k) = true then (z' : Int) + szs (l.drop k) else 0) = r ∧ Below w.heap.size w wr)) (fun _ _ i _ => l.length - (intOf i).toNat)
  case atStart => exact ⟨0, 0, Nat.zero_le _, rfl, rfl, Nat.zero_le _, Lib.hid ⟨by rw [List.drop_zero]; simpa using HR.out, Below.refl _ _⟩⟩
  case round =>
    obtain ⟨k, z, hk, rfl, rfl, hz, H⟩ := hrel
    by_cases hlt : k < l.length
    · obtain ⟨b, off, rfl, hb, hx⟩ := blk_at (ra_below HV.out H.out.2) (by omega)
      obtain ⟨hld, _, _, _, hwf⟩ := hx k hlt
      have hF := H.out.1
      rw [getD_cut hlt, allB_cons, szs] at hF
      generalize l.getD k default = y at *
      obtain ⟨a, s, u⟩ := y
      obtain ⟨W, hW, HW⟩ := blk_boxed wr ⟨a, s, u⟩
      have c1 : W.cell? ⟨wr.heap.size, 1, none⟩ = some (.int .i64 s) := HW.out.1.c1
      have C := Lib.hid (mayb_is s W)
      have HB := Lib.hid (below_more H.out.2 HW.out.2)
      have i0 : (0 : Int) ≤ (k : Int) := by omega
      have i1 : (k : Int) < (l.length : Int) := by omega
      have i2 : ¬ (k : Int) < 0 := by omega
      have i3 : IntKind.i64.wrap ((k : Int) + 1) = ((k + 1 : Nat) : Int) := by rw [show (k : Int) + 1 = ((k + 1 : Nat) : Int) by omega]; exact i64_nat _ (by have := HL.out; omega)
      have HK := Lib.hid hlt
      have HZ := Lib.hid hz
      simp only at hF
      by_cases hs : MayB s
      · rw [decide_eq_true hs] at C hF
        rw [Bool.true_and] at hF
        obtain ⟨sn, rfl⟩ : ∃ m : Nat, s = m := ⟨s.toNat, by obtain ⟨h, _⟩ := hs; omega⟩
        have HS : Hid (sn ≤ 512) := Lib.hid (by obtain ⟨_, h⟩ := hs; omega)
        have i4 : IntKind.i64.wrap ((z : Int) + (sn : Int)) = ((z + sn : Nat) : Int) := by rw [show (z : Int) + (sn : Int) = ((z + sn : Nat) : Int) by omega]; exact i64_nat _ (by have := HL.out; have := HS.out; omega)
        have HF : Hid ((if allB (l.drop (k + 1)) = true then ((z + sn : Nat) : Int) + szs (l.drop (k + 1)) else 0) = r) := Lib.hid (by rw [← hF]; push_cast; rw [Int.add_assoc])
        clear hx hk hb hwf hz hs hF
        go_wp2_with fail
        refine (C.out).mono ?_; rintro e w' ⟨rfl, rfl⟩
        go_wp2
        go_roundw
        case rel => exact ⟨k + 1, z + sn, by have := HK.out; omega, by go_num, rfl, by have := HZ.out; have := HS.out; omega, Lib.hid ⟨HF.out, HB.out⟩⟩
        case measure => have := HK.out; simp [intOf]; omega
      · rw [decide_eq_false hs] at C hF
        rw [Bool.false_and, if_neg Bool.false_ne_true] at hF
        subst hF
        clear hx hk hb hwf hz hs
        go_wp2_with fail
        refine (C.out).mono ?_; rintro e w' ⟨rfl, rfl⟩
        go_wp2
        go_ret
        exact ⟨rfl, HB.out⟩
    · obtain rfl : k = l.length := by omega
      have hF := H.out.1
      rw [List.drop_length, szs, Int.add_zero, if_pos (show allB [] = true from rfl)] at hF
      subst hF
      go_wp2
      go_ret
      exact ⟨rfl, H.out.2⟩
set_option maxHeartbeats 1000000 in
theorem mwords_is (l : List Bk) (v : Value) (w : World) (hv : RA blkE w v l) (hl : l.length ≤ 1000) :
    Calls Try.prog 32 #[v] w fun e w' => e = .returned (.int .i64 (szW l)) ∧ Below w.heap.size w w' := by
  obtain ⟨p, cap, rfl, hlc, hcm⟩ := ra_shape hv
  obtain ⟨r, hr⟩ : ∃ r, szW l = r := ⟨_, rfl⟩
  rw [hr]
  have HL := Lib.hid hl
  have HV := Lib.hid hv
  have HR : Hid ((if allB l = true then szs l else 0) = r) := Lib.hid hr
  clear hr hcm hlc hv hl
  go_enter Try.func32, Try.ntmps32
  go_wp2
  go_loopw [3, 5, 8] (fun z x i wr => ∃ k z' : Nat, k ≤ l.length ∧ i = .int .i64 k ∧ z = .int .i64 z' ∧ z' ≤ 512 * k ∧ Hid ((if allB (l.drop k) = true then (z' : Int) + szs (l.drop k) else 0) = r ∧ Below w.heap.size w wr)) (fun _ _ i _ => l.length - (intOf i).toNat)
  case atStart => exact ⟨0, 0, Nat.zero_le _, rfl, rfl, Nat.zero_le _, Lib.hid ⟨by rw [List.drop_zero]; simpa using HR.out, Below.refl _ _⟩⟩
  case round =>
    obtain ⟨k, z, hk, rfl, rfl, hz, H⟩ := hrel
    by_cases hlt : k < l.length
    · obtain ⟨b, off, rfl, hb, hx⟩ := blk_at (ra_below HV.out H.out.2) (by omega)
      obtain ⟨hld, _, _, _, hwf⟩ := hx k hlt
      have hF := H.out.1
      rw [getD_cut hlt, allB_cons, szs] at hF
      generalize l.getD k default = y at *
      obtain ⟨a, s, u⟩ := y
      obtain ⟨W, hW, HW⟩ := blk_boxed wr ⟨a, s, u⟩
      have c1 : W.cell? ⟨wr.heap.size, 1, none⟩ = some (.int .i64 s) := HW.out.1.c1
      have C := Lib.hid (mayb_is s W)
      have HB := Lib.hid (below_more H.out.2 HW.out.2)
      have i0 : (0 : Int) ≤ (k : Int) := by omega
      have i1 : (k : Int) < (l.length : Int) := by omega
      have i2 : ¬ (k : Int) < 0 := by omega
      have i3 : IntKind.i64.wrap ((k : Int) + 1) = ((k + 1 : Nat) : Int) := by rw [show (k : Int) + 1 = ((k + 1 : Nat) : Int) by omega]; exact i64_nat _ (by have := HL.out; omega)
      have HK := Lib.hid hlt
      have HZ := Lib.hid hz
      simp only at hF
      by_cases hs : MayB s
      · rw [decide_eq_true hs] at C hF
        rw [Bool.true_and] at hF
        obtain ⟨sn, rfl⟩ : ∃ m : Nat, s = m := ⟨s.toNat, by obtain ⟨h, _⟩ := hs; omega⟩
        have HS : Hid (sn ≤ 512) := Lib.hid (by obtain ⟨_, h⟩ := hs; omega)
        have i4 : IntKind.i64.wrap ((z : Int) + (sn : Int)) = ((z + sn : Nat) : Int) := by rw [show (z : Int) + (sn : Int) = ((z + sn : Nat) : Int) by omega]; exact i64_nat _ (by have := HL.out; have := HS.out; omega)
        have HF : Hid ((if allB (l.drop (k + 1)) = true then ((z + sn : Nat) : Int) + szs (l.drop (k + 1)) else 0) = r) := Lib.hid (by rw [← hF]; push_cast; rw [Int.add_assoc])
        clear hx hk hb hwf hz hs hF
        go_wp2_with fail
        refine (C.out).mono ?_; rintro e w' ⟨rfl, rfl⟩
        go_wp2
        go_roundw
        case rel => exact ⟨k + 1, z + sn, by have := HK.out; omega, by go_num, rfl, by have := HZ.out; have := HS.out; omega, Lib.hid ⟨HF.out, HB.out⟩⟩
        case measure => have := HK.out; simp [intOf]; omega
      · rw [decide_eq_false hs] at C hF
        rw [Bool.false_and, if_neg Bool.false_ne_true] at hF
        subst hF
        clear hx hk hb hwf hz hs
        go_wp2_with fail
        refine (C.out).mono ?_; rintro e w' ⟨rfl, rfl⟩
        go_wp2
        go_ret
        exact ⟨rfl, HB.out⟩
    · obtain rfl : k = l.length := by omega
      have hF := H.out.1
      rw [List.drop_length, szs, Int.add_zero, if_pos (show allB [] = true from rfl)] at hF
      subst hF
      go_wp2
      go_ret
      exact ⟨rfl, H.out.2⟩

set_option maxHeartbeats 1000000 in
theorem rsizes_is (l : List Bk) (v : Value) (w : World) (hv : RA blkE w v l) (hl : l.length ≤ 1000) :
    Calls Try.prog 23 #[v] w fun e w' => e = .returned (.int .i64 (szR l)) ∧ Below w.heap.size w w' := by
  obtain ⟨p, cap, rfl, hlc, hcm⟩ := ra_shape hv
  obtain ⟨r, hr⟩ : ∃ r, szR l = r := ⟨_, rfl⟩
  rw [hr]
  have HL := Lib.hid hl
  have HV := Lib.hid hv
  have HR : Hid ((if allR l = true then szs l else 0) = r) := Lib.hid hr
  clear hr hcm hlc hv hl
  go_enter Try.func23, Try.ntmps23
  go_wp2
  go_loopw [3, 5, 8] (fun z x i wr => ∃ k z' : Nat, k ≤ l.length ∧ i = .int .i64 k ∧ z = .int .i64 z' ∧ z' ≤ 1000 * k ∧ Hid ((if allR (l.drop k) = true then (z' : Int) + szs (l.drop k) else 0) = r ∧ Below w.heap.size w wr)) (fun _ _ i _ => l.length - (intOf i).toNat)
  case atStart => exact ⟨0, 0, Nat.zero_le _, rfl, rfl, Nat.zero_le _, Lib.hid ⟨by rw [List.drop_zero]; simpa using HR.out, Below.refl _ _⟩⟩
  case round =>
    obtain ⟨k, z, hk, rfl, rfl, hz, H⟩ := hrel
    by_cases hlt : k < l.length
    · obtain ⟨b, off, rfl, hb, hx⟩ := blk_at (ra_below HV.out H.out.2) (by omega)
      obtain ⟨hld, _, _, _, hwf⟩ := hx k hlt
      have hF := H.out.1
      rw [getD_cut hlt, allR_cons, szs] at hF
      generalize l.getD k default = y at *
      obtain ⟨a, s, u⟩ := y
      obtain ⟨W, hW, HW⟩ := blk_boxed wr ⟨a, s, u⟩
      have c1 : W.cell? ⟨wr.heap.size, 1, none⟩ = some (.int .i64 s) := HW.out.1.c1
      have HB := Lib.hid (below_more H.out.2 HW.out.2)
      have i0 : (0 : Int) ≤ (k : Int) := by omega
      have i1 : (k : Int) < (l.length : Int) := by omega
      have i2 : ¬ (k : Int) < 0 := by omega
      have i3 : IntKind.i64.wrap ((k : Int) + 1) = ((k + 1 : Nat) : Int) := by rw [show (k : Int) + 1 = ((k + 1 : Nat) : Int) by omega]; exact i64_nat _ (by have := HL.out; omega)
      have HK := Lib.hid hlt
      have HZ := Lib.hid hz
      simp only at hF
      by_cases hs : 0 ≤ s ∧ s ≤ 1000
      · rw [decide_eq_true hs, Bool.true_and] at hF
        obtain ⟨sn, rfl⟩ : ∃ m : Nat, s = m := ⟨s.toNat, by obtain ⟨h, _⟩ := hs; omega⟩
        have HS : Hid (sn ≤ 1000) := Lib.hid (by obtain ⟨_, h⟩ := hs; omega)
        have i4 : IntKind.i64.wrap ((z : Int) + (sn : Int)) = ((z + sn : Nat) : Int) := by rw [show (z : Int) + (sn : Int) = ((z + sn : Nat) : Int) by omega]; exact i64_nat _ (by have := HL.out; have := HS.out; omega)
        have HF : Hid ((if allR (l.drop (k + 1)) = true then ((z + sn : Nat) : Int) + szs (l.drop (k + 1)) else 0) = r) := Lib.hid (by rw [← hF]; push_cast; rw [Int.add_assoc])
        have i5 : ¬ (sn : Int) < 0 := by omega
        have i6 : ¬ (sn : Int) > 1000 := by omega
        clear hx hk hb hwf hz hs hF
        go_wp2
        go_roundw
        case rel => exact ⟨k + 1, z + sn, by have := HK.out; omega, by go_num, rfl, by have := HZ.out; have := HS.out; omega, Lib.hid ⟨HF.out, HB.out⟩⟩
        case measure => have := HK.out; simp [intOf]; omega
      · rw [decide_eq_false hs, Bool.false_and, if_neg Bool.false_ne_true] at hF
        subst hF
        clear hx hk hb hwf hz
        by_cases h0 : s < 0
        · clear hs
          go_wp2
          go_ret
          exact ⟨rfl, HB.out⟩
        · have h1 : s > 1000 := by omega
          clear hs
          go_wp2
          go_ret
          exact ⟨rfl, HB.out⟩
    · obtain rfl : k = l.length := by omega
      have hF := H.out.1
      rw [List.drop_length, szs, Int.add_zero, if_pos (show allR [] = true from rfl)] at hF
      subst hF
      go_wp2
      go_ret
      exact ⟨rfl, H.out.2⟩


end Go.Proofs.Ytlpbdnfecnochaa
