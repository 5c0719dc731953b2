/-
  Blocks that are the same, words that are the same; words of one free block.
-/
import Derived.Test.YtlpbdnfecnochaaBkc
import Derived.Test.YtlpbdnfecnochaaRu
import Derived.BigQuiet
namespace Go.Proofs.Ytlpbdnfecnochaa
set_option maxRecDepth 100000
open Go.RowKit


set_option maxHeartbeats 1000000 in
theorem blks_same {v u : Value} {l : List Bk} {w : World} (hv : RA blkE w v l) (hu : RA blkE w u l) : Calls Try.prog 11 #[v, u] w fun e w' => e = .returned (.bool true) ∧ ∃ n, w' = w.drewN n := by
  obtain ⟨p, c, rfl, hlc, hcm⟩ := ra_shape hv
  obtain ⟨q, d, rfl, _, _⟩ := ra_shape hu
  have HS : Hid (∀ wr, (∃ n, wr = w.drewN n) → ∀ j, j < l.length → ∃ b off b' off', p = some ⟨b, off, none⟩ ∧ q = some ⟨b', off', none⟩ ∧ (∀ m, (blkLoad (.pointer (some ⟨b, off + j * 3, none⟩))).run Try.prog (wr.drewN m) = .ok (.agg (bc (l.getD j default))) (wr.drewN m)) ∧ ∀ m, (blkLoad (.pointer (some ⟨b', off' + j * 3, none⟩))).run Try.prog (wr.drewN m) = .ok (.agg (bc (l.getD j default))) (wr.drewN m)) := Lib.hid fun wr hwr j hj => by
    obtain ⟨n, rfl⟩ := hwr
    obtain ⟨b, off, rfl, _, _⟩ := blk_at hv (by omega)
    obtain ⟨b', off', rfl, _, _⟩ := blk_at hu (by omega)
    refine ⟨b, off, b', off', rfl, rfl, fun m => ?_, fun m => ?_⟩
    · obtain ⟨_, _, e, _, hx⟩ := blk_at (w := (w.drewN n).drewN m) hv (by omega)
      cases e
      exact (hx j hj).1
    · obtain ⟨_, _, e, _, hx⟩ := blk_at (w := (w.drewN n).drewN m) hu (by omega)
      cases e
      exact (hx j hj).1
  unfold maxLen at hcm
  have HL : Hid (l.length ≤ 9223372036854775807) := Lib.hid (by omega)
  clear hv hu hlc hcm
  go_enter Try.func11, Try.ntmps11
  go_wp2
  go_loopw [13] (fun i wr => ∃ k : Nat, k ≤ l.length ∧ i = .int .i64 k ∧ Hid (∃ n, wr = w.drewN n)) (fun i _ => l.length - (intOf i).toNat)
  case atStart => exact ⟨0, Nat.zero_le _, rfl, Lib.hid ⟨0, rfl⟩⟩
  case round =>
    obtain ⟨k, hk, rfl, HD⟩ := hrel
    by_cases hlt : k < l.length
    · obtain ⟨b, off, b', off', rfl, rfl, d1, d2⟩ := HS.out wr HD.out k hlt
      have j0 : IntKind.i64.wrap ((k : Int) + 1) = ((k + 1 : Nat) : Int) := by rw [show (k : Int) + 1 = ((k + 1 : Nat) : Int) by omega]; exact i64_nat _ (by have := HL.out; omega)
      have i0 : (0 : Int) ≤ (k : Int) := by omega
      have i1 : (k : Int) < (l.length : Int) := by omega
      have i2 : ¬ (k : Int) < 0 := by omega
      clear HS
      generalize l.getD k default = y at *
      generalize l.length = L at *
      have hy := eqB_self y
      go_wp2_with fail
      go_quiet (fail)
      go_wp2
      exact ⟨⟨k + 1, by omega, by go_num, Lib.hid (by obtain ⟨n, e⟩ := HD.out; subst e; exact ⟨_, World.drewN_drewN ..⟩)⟩, by simp [intOf]; omega⟩
    · obtain rfl : k = l.length := by omega
      go_wp2
      go_ret
      exact ⟨rfl, HD.out⟩

/-- words of one free block -/
def firstL (n : Int) : List Int := if Mw n then (List.replicate n.toNat 0).set 0 (n * 2) else []
theorem firstL_no {n : Int} (h : ¬ Mw n) : firstL n = [] := if_neg h
theorem firstL_yes {n : Nat} (h : Mw n) : firstL n = (List.replicate n 0).set 0 ((n : Int) * 2) := by rw [firstL, if_pos h, Int.toNat_natCast]
theorem Mw.mayB {n : Int} (h : Mw n) : MayB n := by obtain ⟨h1, h2, _⟩ := h; exact ⟨by omega, h2⟩

end Go.Proofs.Ytlpbdnfecnochaa
