/-
  Contracts of package chain, and of the reference's of the same: how much is free.
-/
import Derived.Test.YtlpbdnfecnochaaBkc
namespace Go.Proofs.Ytlpbdnfecnochaa
set_option maxRecDepth 100000
open Go.RowKit

def allB (l : List Bk) : Bool := l.all fun b => decide (MayB b.s)
theorem okL_is (l : List Bk) : okL l = (decide (l.length ≤ 512) && allB l) := rfl
theorem allB_cons (b : Bk) (r : List Bk) : allB (b :: r) = (decide (MayB b.s) && allB r) := rfl
theorem allB_at {l : List Bk} (h : allB l = true) {k : Nat} (hk : k < l.length) : MayB (l.getD k default).s := by
  have := List.all_eq_true.1 h (l.getD k default) (by rw [List.getD_eq_getElem?_getD, List.getElem?_eq_getElem hk]; exact List.getElem_mem hk)
  exact of_decide_eq_true this

set_option maxHeartbeats 1000000 in
theorem sumb_is (l : List Bk) (v : Value) (r : Bool) (w : World) (hv : RA blkE w v l) (hr : okL l = r) :
    Calls Try.prog 31 #[v] w fun e w' => e = .returned (.bool r) ∧ Below w.heap.size w w' := by
  obtain ⟨p, cap, rfl, hlc, hcm⟩ := ra_shape hv
  rw [okL_is] at hr
  by_cases hl : l.length ≤ 512
  · rw [decide_eq_true hl, Bool.true_and] at hr
    have i9 : ¬ (l.length : Int) > 512 := by omega
    have HL := Lib.hid hl
    have HV := Lib.hid hv
    have HR := Lib.hid hr
    clear hr hcm hlc hv hl
    go_enter Try.func31, Try.ntmps31
    go_wp2
    go_loopw [10] (fun i wr => ∃ k : Nat, k ≤ l.length ∧ i = .int .i64 k ∧ Hid (allB (l.drop k) = r ∧ Below w.heap.size w wr)) (fun i _ => l.length - (intOf i).toNat)
    case atStart => exact ⟨0, Nat.zero_le _, rfl, Lib.hid ⟨HR.out, Below.refl _ _⟩⟩
    case round =>
      obtain ⟨k, hk, rfl, H⟩ := hrel
      by_cases hlt : k < l.length
      · obtain ⟨b, off, rfl, hb, hx⟩ := blk_at (ra_below HV.out H.out.2) (by omega)
        obtain ⟨hld, _, _, _, hwf⟩ := hx k hlt
        have hF := H.out.1
        rw [getD_cut hlt, allB_cons] at hF
        generalize l.getD k default = y at *
        obtain ⟨a, s, u⟩ := y
        obtain ⟨W, hW, HW⟩ := blk_boxed wr ⟨a, s, u⟩
        have c1 : W.cell? ⟨wr.heap.size, 1, none⟩ = some (.int .i64 s) := HW.out.1.c1
        have C := Lib.hid (mayb_is s W)
        have HB := Lib.hid (below_more H.out.2 HW.out.2)
        have i0 : (0 : Int) ≤ (k : Int) := by omega
        have i1 : (k : Int) < (l.length : Int) := by omega
        have i2 : ¬ (k : Int) < 0 := by omega
        have i3 : IntKind.i64.wrap ((k : Int) + 1) = ((k + 1 : Nat) : Int) := by rw [show (k : Int) + 1 = ((k + 1 : Nat) : Int) by omega]; exact i64_nat _ (by have := HL.out; omega)
        have HK := Lib.hid hlt
        simp only at hF
        generalize decide (MayB s) = d at *
        clear hx hk hb hwf
        cases d
        · rw [Bool.false_and] at hF
          subst hF
          clear i3
          go_wp2_with fail
          refine (C.out).mono ?_; rintro e w' ⟨rfl, rfl⟩
          go_wp2
          go_ret
          exact ⟨rfl, HB.out⟩
        · rw [Bool.true_and] at hF
          have HF := Lib.hid hF
          clear hF
          go_wp2_with fail
          refine (C.out).mono ?_; rintro e w' ⟨rfl, rfl⟩
          go_wp2
          go_roundw
          case rel => exact ⟨k + 1, by have := HK.out; omega, by go_num, Lib.hid ⟨HF.out, HB.out⟩⟩
          case measure => have := HK.out; simp [intOf]; omega
      · obtain rfl : k = l.length := by omega
        have hF := H.out.1
        rw [List.drop_length] at hF
        obtain rfl : r = true := hF.symm
        go_wp2
        go_ret
        exact ⟨rfl, H.out.2⟩
  · rw [decide_eq_false hl, Bool.false_and] at hr
    subst hr
    have i9 : (l.length : Int) > 512 := by omega
    clear hcm hlc hv hl
    generalize l.length = L at *
    go_enter Try.func31, Try.ntmps31
    go_wp2_with fail
    go_ret
    exact ⟨rfl, Below.refl _ _⟩


theorem frL_no {l : List Bk} (h : okL l = false) : frL l = 0 := by rw [frL, h]; rfl
theorem frL_yes {l : List Bk} (h : okL l = true) : frL l = frS l := if_pos h
theorem moL_no {l : List Bk} (h : okL l = false) : moL l = 0 := by rw [moL, h]; rfl
theorem moL_yes {l : List Bk} (h : okL l = true) : moL l = moS 0 l := if_pos h

set_option maxHeartbeats 1000000 in
theorem free_is (l : List Bk) (v : Value) (r : Int) (w : World) (hv : RA blkE w v l) (hr : frL l = r) :
    Calls Try.prog 19 #[v] w fun e w' => e = .returned (.int .i64 r) ∧ Below w.heap.size w w' := by
  have C := Lib.hid (sumb_is l v (okL l) w hv rfl)
  obtain ⟨p, cap, rfl, hlc, hcm⟩ := ra_shape hv
  cases ho : okL l with
  | false =>
    rw [ho] at C
    rw [frL_no ho] at hr
    subst hr
    clear ho hcm hlc hv
    go_enter Try.func19, Try.ntmps19
    go_wp2_with fail
    refine (C.out).mono ?_; rintro e w' ⟨rfl, hb⟩
    go_wp2_with fail
    go_ret
    exact ⟨rfl, hb⟩
  | true =>
    rw [ho] at C
    rw [frL_yes ho] at hr
    rw [okL_is, Bool.and_eq_true, decide_eq_true_eq] at ho
    have HL := Lib.hid ho.1
    have HA := Lib.hid ho.2
    have HV := Lib.hid hv
    have HR := Lib.hid hr
    clear hr hcm hlc hv ho
    go_enter Try.func19, Try.ntmps19
    go_wp2_with fail
    refine (C.out).mono ?_; rintro e w1 ⟨rfl, hb⟩
    have HB1 := Lib.hid hb
    clear hb
    go_wp2
    go_loopw [3, 11] (fun z i wr => ∃ k z' : Nat, k ≤ l.length ∧ i = .int .i64 k ∧ z = .int .i64 z' ∧ z' ≤ 512 * k ∧ Hid ((z' : Int) + frS (l.drop k) = r ∧ Below w.heap.size w wr)) (fun _ i _ => l.length - (intOf i).toNat)
    case atStart => exact ⟨0, 0, Nat.zero_le _, rfl, rfl, Nat.zero_le _, Lib.hid ⟨by rw [List.drop_zero, HR.out]; omega, HB1.out⟩⟩
    case round =>
      obtain ⟨k, z, hk, rfl, rfl, hz, H⟩ := hrel
      by_cases hlt : k < l.length
      · obtain ⟨b, off, rfl, hb, hx⟩ := blk_at (ra_below HV.out H.out.2) (by omega)
        obtain ⟨hld, _, _, _, hwf⟩ := hx k hlt
        have hF := H.out.1
        rw [getD_cut hlt, frS] at hF
        have hs := allB_at HA.out hlt
        generalize l.getD k default = y at *
        obtain ⟨a, s, u⟩ := y
        obtain ⟨W, hW, HW⟩ := blk_boxed wr ⟨a, s, u⟩
        have c1 : W.cell? ⟨wr.heap.size, 1, none⟩ = some (.int .i64 s) := HW.out.1.c1
        have c2 : W.cell? ⟨wr.heap.size, 2, none⟩ = some (.bool u) := HW.out.1.c2
        have HB := Lib.hid (below_more H.out.2 HW.out.2)
        have i0 : (0 : Int) ≤ (k : Int) := by omega
        have i1 : (k : Int) < (l.length : Int) := by omega
        have i2 : ¬ (k : Int) < 0 := by omega
        have i3 : IntKind.i64.wrap ((k : Int) + 1) = ((k + 1 : Nat) : Int) := by rw [show (k : Int) + 1 = ((k + 1 : Nat) : Int) by omega]; exact i64_nat _ (by have := HL.out; omega)
        have HK := Lib.hid hlt
        have HZ := Lib.hid hz
        simp only at hF hs
        obtain ⟨sn, rfl⟩ : ∃ m : Nat, s = m := ⟨s.toNat, by obtain ⟨h, _⟩ := hs; omega⟩
        have HS : Hid (sn ≤ 512) := Lib.hid (by obtain ⟨_, h⟩ := hs; omega)
        have i4 : IntKind.i64.wrap ((z : Int) + (sn : Int)) = ((z + sn : Nat) : Int) := by rw [show (z : Int) + (sn : Int) = ((z + sn : Nat) : Int) by omega]; exact i64_nat _ (by have := HL.out; have := HS.out; omega)
        clear hx hk hb hwf hz hs
        cases u
        · rw [if_neg Bool.false_ne_true] at hF
          have HF := Lib.hid hF
          clear hF
          go_wp2
          go_roundw
          case rel => exact ⟨k + 1, z + sn, by have := HK.out; omega, by go_num, rfl, by have := HZ.out; have := HS.out; omega, Lib.hid ⟨by have := HF.out; omega, HB.out⟩⟩
          case measure => have := HK.out; simp [intOf]; omega
        · rw [if_pos rfl] at hF
          have HF := Lib.hid hF
          clear hF
          go_wp2
          go_roundw
          case rel => exact ⟨k + 1, z, by have := HK.out; omega, by go_num, rfl, by have := HZ.out; omega, Lib.hid ⟨by have := HF.out; omega, HB.out⟩⟩
          case measure => have := HK.out; simp [intOf]; omega
      · obtain rfl : k = l.length := by omega
        have hF := H.out.1
        rw [List.drop_length, frS, Int.add_zero] at hF
        subst hF
        go_wp2
        go_ret
        exact ⟨rfl, H.out.2⟩

end Go.Proofs.Ytlpbdnfecnochaa
