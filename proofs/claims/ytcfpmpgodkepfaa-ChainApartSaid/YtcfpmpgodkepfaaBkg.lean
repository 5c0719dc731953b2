/-
  Blocks that are the same, words that are the same; words of one free block.
-/
import Derived.Test.YtcfpmpgodkepfaaBkc
import Derived.Test.YtcfpmpgodkepfaaRu
import Derived.BigQuiet
namespace Go.Proofs.Ytcfpmpgodkepfaa
set_option maxRecDepth 100000
open Go.RowKit

theorem words_same {v u : Value} {l : List Int} {w : World} (hv : RU w v l) (hu : RU w u l) : Calls Try.prog 12 #[v, u] w fun e w' => e = .returned (.bool true) ∧ ∃ n, w' = w.drewN n := by
  obtain ⟨p, c, rfl, h1, h2, h3⟩ := hv
  obtain ⟨q, d, rfl, g1, g2, g3⟩ := hu
  have HS : Hid (∀ j, j < l.length → ∃ b off b' off', p = some ⟨b, off, none⟩ ∧ q = some ⟨b', off', none⟩ ∧ w.cell? ⟨b, off + j, none⟩ = some (.int .u64 (l.getD j 0)) ∧ w.cell? ⟨b', off' + j, none⟩ = some (.int .u64 (l.getD j 0))) := Lib.hid fun j hj => by
    rcases h3 with h3 | ⟨b, off, rfl, hc⟩
    · subst h3; simp at hj
    · rcases g3 with g3 | ⟨b', off', rfl, gc⟩
      · subst g3; simp at hj
      · exact ⟨b, off, b', off', rfl, rfl, hc j hj, gc j hj⟩
  unfold maxLen at h2
  have HL : Hid (l.length ≤ 9223372036854775807) := Lib.hid (by omega)
  clear h3 g3 g1 g2 h1 h2
  go_enter Try.func12, Try.ntmps12
  go_wp2
  go_loopw [13] (fun i wr => ∃ k : Nat, k ≤ l.length ∧ i = .int .i64 k ∧ Hid (∃ n, wr = w.drewN n)) (fun i _ => l.length - (intOf i).toNat)
  case atStart => exact ⟨0, Nat.zero_le _, rfl, Lib.hid ⟨0, rfl⟩⟩
  case round =>
    obtain ⟨k, hk, rfl, HD⟩ := hrel
    by_cases hlt : k < l.length
    · obtain ⟨b, off, b', off', rfl, rfl, c1, c2⟩ := HS.out k hlt
      have j0 : IntKind.i64.wrap ((k : Int) + 1) = ((k + 1 : Nat) : Int) := by rw [show (k : Int) + 1 = ((k + 1 : Nat) : Int) by omega]; exact i64_nat _ (by have := HL.out; omega)
      have i0 : (0 : Int) ≤ (k : Int) := by omega
      have i1 : (k : Int) < (l.length : Int) := by omega
      have i2 : ¬ (k : Int) < 0 := by omega
      obtain ⟨n, rfl⟩ := HD.out
      have d1 : ∀ m, ((w.drewN n).drewN m).cell? ⟨b, off + k, none⟩ = some (.int .u64 (l.getD k 0)) := fun m => c1
      have d2 : ∀ m, ((w.drewN n).drewN m).cell? ⟨b', off' + k, none⟩ = some (.int .u64 (l.getD k 0)) := fun m => c2
      clear HD HS
      generalize l.getD k 0 = y at *
      generalize l.length = L at *
      go_wp2_with fail
      go_quiet (fail)
      go_wp2
      exact ⟨⟨k + 1, by omega, by go_num, Lib.hid ⟨_, rfl⟩⟩, by simp [intOf]; omega⟩
    · obtain rfl : k = l.length := by omega
      go_wp2
      go_ret
      exact ⟨rfl, HD.out⟩

set_option maxHeartbeats 1000000 in
theorem blks_same {v u : Value} {l : List Bk} {w : World} (hv : RA blkE w v l) (hu : RA blkE w u l) : Calls Try.prog 11 #[v, u] w fun e w' => e = .returned (.bool true) ∧ ∃ n, w' = w.drewN n := by
  obtain ⟨p, c, rfl, hlc, hcm⟩ := ra_shape hv
  obtain ⟨q, d, rfl, _, _⟩ := ra_shape hu
  have HS : Hid (∀ wr, (∃ n, wr = w.drewN n) → ∀ j, j < l.length → ∃ b off b' off', p = some ⟨b, off, none⟩ ∧ q = some ⟨b', off', none⟩ ∧ (∀ m, (blkLoad (.pointer (some ⟨b, off + j * 3, none⟩))).run Try.prog (wr.drewN m) = .ok (.agg (bc (l.getD j default))) (wr.drewN m)) ∧ ∀ m, (blkLoad (.pointer (some ⟨b', off' + j * 3, none⟩))).run Try.prog (wr.drewN m) = .ok (.agg (bc (l.getD j default))) (wr.drewN m)) := Lib.hid fun wr hwr j hj => by
    obtain ⟨n, rfl⟩ := hwr
    obtain ⟨b, off, rfl, _, _⟩ := blk_at hv (by omega)
    obtain ⟨b', off', rfl, _, _⟩ := blk_at hu (by omega)
    refine ⟨b, off, b', off', rfl, rfl, fun m => ?_, fun m => ?_⟩
    · obtain ⟨_, _, e, _, hx⟩ := blk_at (w := (w.drewN n).drewN m) hv (by omega)
      cases e
      exact (hx j hj).1
    · obtain ⟨_, _, e, _, hx⟩ := blk_at (w := (w.drewN n).drewN m) hu (by omega)
      cases e
      exact (hx j hj).1
  unfold maxLen at hcm
  have HL : Hid (l.length ≤ 9223372036854775807) := Lib.hid (by omega)
  clear hv hu hlc hcm
  go_enter Try.func11, Try.ntmps11
  go_wp2
  go_loopw [13] (fun i wr => ∃ k : Nat, k ≤ l.length ∧ i = .int .i64 k ∧ Hid (∃ n, wr = w.drewN n)) (fun i _ => l.length - (intOf i).toNat)
  case atStart => exact ⟨0, Nat.zero_le _, rfl, Lib.hid ⟨0, rfl⟩⟩
  case round =>
    obtain ⟨k, hk, rfl, HD⟩ := hrel
    by_cases hlt : k < l.length
    · obtain ⟨b, off, b', off', rfl, rfl, d1, d2⟩ := HS.out wr HD.out k hlt
      have j0 : IntKind.i64.wrap ((k : Int) + 1) = ((k + 1 : Nat) : Int) := by rw [show (k : Int) + 1 = ((k + 1 : Nat) : Int) by omega]; exact i64_nat _ (by have := HL.out; omega)
      have i0 : (0 : Int) ≤ (k : Int) := by omega
      have i1 : (k : Int) < (l.length : Int) := by omega
      have i2 : ¬ (k : Int) < 0 := by omega
      clear HS
      generalize l.getD k default = y at *
      generalize l.length = L at *
      have hy := eqB_self y
      go_wp2_with fail
      go_quiet (fail)
      go_wp2
      exact ⟨⟨k + 1, by omega, by go_num, Lib.hid (by obtain ⟨n, e⟩ := HD.out; subst e; exact ⟨_, World.drewN_drewN ..⟩)⟩, by simp [intOf]; omega⟩
    · obtain rfl : k = l.length := by omega
      go_wp2
      go_ret
      exact ⟨rfl, HD.out⟩

/-- words of one free block -/
def firstL (n : Int) : List Int := if Mw n then (List.replicate n.toNat 0).set 0 (n * 2) else []
theorem firstL_no {n : Int} (h : ¬ Mw n) : firstL n = [] := if_neg h
theorem firstL_yes {n : Nat} (h : Mw n) : firstL n = (List.replicate n 0).set 0 ((n : Int) * 2) := by rw [firstL, if_pos h, Int.toNat_natCast]
theorem Mw.mayB {n : Int} (h : Mw n) : MayB n := by obtain ⟨h1, h2, _⟩ := h; exact ⟨by omega, h2⟩

set_option maxHeartbeats 1000000 in
theorem first_is (n : Int) (w : World) : Calls Try.prog 13 #[.int .i64 n] w fun e w' => (∃ v, e = .returned v ∧ OwnU w.heap.size w' v (firstL n)) ∧ Below w.heap.size w w' := by
  have C := Lib.hid (mayw_is n w)
  by_cases hm : Mw n
  · rw [decide_eq_true hm] at C
    have hm2 := hm
    obtain ⟨h1, h2, _⟩ := hm2
    obtain ⟨k, rfl⟩ : ∃ k : Nat, n = k := ⟨n.toNat, by omega⟩
    rw [firstL_yes hm]
    have hmk := run_make_row' (P := Try.prog) 22 35 (.int .u64 0) 8 Try.underlying22 info_u64 rfl .i64 .i64 k (by omega) (by omega)
    obtain ⟨W, hW⟩ : ∃ W, w.alloc (.cells (madeCells #[.int .u64 0] k) 35) = W := ⟨_, rfl⟩
    have O := own_made_u w k (by unfold maxLen; omega)
    have B := bal (o := .cells (madeCells #[.int .u64 0] k) 35) (Below.refl w.heap.size w)
    rw [hW] at O B
    obtain ⟨c1, f1⟩ := OwnU.cells O (j := 0) (by simp; omega)
    have own2 := OwnU.stored O 0 ((k : Int) * 2)
    have B2 := B.setCell (p := ⟨w.heap.size, 0, none⟩) (Nat.le_refl _) (.int .u64 ((k : Int) * 2))
    have HO := Lib.hid own2
    have HB := Lib.hid B2
    have C2 := Lib.hid (wordb_is (k : Int) false W)
    rw [hdB_yes hm.mayB, show useB false = 0 from rfl, Int.add_zero] at C2
    have k1 : 0 < k := by omega
    generalize (List.replicate k (0 : Int)).getD 0 0 = y at c1
    clear O B own2 B2 hm h1 h2
    go_enter Try.func13, Try.ntmps13
    go_wp2_with fail
    refine (C.out).mono ?_; rintro e w' ⟨rfl, rfl⟩
    go_wp2_with fail
    refine (C2.out).mono ?_; rintro e w' ⟨rfl, rfl⟩
    go_wp2_with fail
    go_ret
    exact ⟨⟨_, rfl, HO.out⟩, HB.out⟩
  · rw [decide_eq_false hm] at C
    rw [firstL_no hm]
    clear hm
    go_enter Try.func13, Try.ntmps13
    go_wp2_with fail
    refine (C.out).mono ?_; rintro e w' ⟨rfl, rfl⟩
    go_wp2_with fail
    go_ret
    exact ⟨⟨_, rfl, own_nil_u _ _⟩, Below.refl _ _⟩
set_option maxHeartbeats 1000000 in
theorem rfirst_is (n : Int) (w : World) : Calls Try.prog 14 #[.int .i64 n] w fun e w' => (∃ v, e = .returned v ∧ OwnU w.heap.size w' v (firstL n)) ∧ Below w.heap.size w w' := by
  have C := Lib.hid (rmayw_is n w)
  by_cases hm : Mw n
  · rw [decide_eq_true hm] at C
    have hm2 := hm
    obtain ⟨h1, h2, _⟩ := hm2
    obtain ⟨k, rfl⟩ : ∃ k : Nat, n = k := ⟨n.toNat, by omega⟩
    rw [firstL_yes hm]
    have hmk := run_make_row' (P := Try.prog) 22 35 (.int .u64 0) 8 Try.underlying22 info_u64 rfl .i64 .i64 k (by omega) (by omega)
    obtain ⟨W, hW⟩ : ∃ W, w.alloc (.cells (madeCells #[.int .u64 0] k) 35) = W := ⟨_, rfl⟩
    have O := own_made_u w k (by unfold maxLen; omega)
    have B := bal (o := .cells (madeCells #[.int .u64 0] k) 35) (Below.refl w.heap.size w)
    rw [hW] at O B
    obtain ⟨c1, f1⟩ := OwnU.cells O (j := 0) (by simp; omega)
    have own2 := OwnU.stored O 0 ((k : Int) * 2)
    have B2 := B.setCell (p := ⟨w.heap.size, 0, none⟩) (Nat.le_refl _) (.int .u64 ((k : Int) * 2))
    have HO := Lib.hid own2
    have HB := Lib.hid B2
    have C2 := Lib.hid (rwordb_is (k : Int) false W)
    rw [hdB_yes hm.mayB, show useB false = 0 from rfl, Int.add_zero] at C2
    have k1 : 0 < k := by omega
    generalize (List.replicate k (0 : Int)).getD 0 0 = y at c1
    clear O B own2 B2 hm h1 h2
    go_enter Try.func14, Try.ntmps14
    go_wp2_with fail
    refine (C.out).mono ?_; rintro e w' ⟨rfl, rfl⟩
    go_wp2_with fail
    refine (C2.out).mono ?_; rintro e w' ⟨rfl, rfl⟩
    go_wp2_with fail
    go_ret
    exact ⟨⟨_, rfl, HO.out⟩, HB.out⟩
  · rw [decide_eq_false hm] at C
    rw [firstL_no hm]
    clear hm
    go_enter Try.func14, Try.ntmps14
    go_wp2_with fail
    refine (C.out).mono ?_; rintro e w' ⟨rfl, rfl⟩
    go_wp2_with fail
    go_ret
    exact ⟨⟨_, rfl, own_nil_u _ _⟩, Below.refl _ _⟩
end Go.Proofs.Ytcfpmpgodkepfaa
