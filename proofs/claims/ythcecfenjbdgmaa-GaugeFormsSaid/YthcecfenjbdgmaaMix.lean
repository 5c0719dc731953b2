/-
  Contracts of package torn's Mix, and of the reference's.
-/
import Derived.Test.YthcecfenjbdgmaaTorn
import Derived.BigQuiet
namespace Go.Proofs.Ythcecfenjbdgmaa
set_option maxRecDepth 100000
open Go.RowKit

def zeros : List Int := [0, 0, 0, 0, 0, 0, 0, 0]

theorem mix_any (a b : List Int) (m : Int) (w : World) (ha : a.length = 8) (hb : b.length = 8) :
    Calls Try.prog 35 #[.agg (lc a), .agg (lc b), .int .i64 m] w fun e w' => e = .returned (.agg (lc (mix a b m))) ∧ Below w.heap.size w w' := by
  have hl := mix_length a b m (ha.trans hb.symm)
  have AT := Lib.hid (mix_at a b m)
  have L0 := Lib.hid (Ln.new w ha)
  have L1 := Lib.hid (Ln.new (w.alloc (.cells (lc a) 36)) hb)
  have L2 := Lib.hid (Ln.new ((w.alloc (.cells (lc a) 36)).alloc (.cells (lc b) 36)) (l := zeros) rfl)
  have HB := Lib.hid (bal (o := .cells (lc zeros) 36) (bal (o := .cells (lc b) 36) (bal (o := .cells (lc a) 36) (Below.refl w.heap.size w))))
  generalize mix a b m = x at *
  go_enter Try.func35, Try.ntmps35
  go_wp2
  go_loopw [8] (fun i wr => ∃ k : Nat, k ≤ 8 ∧ i = .int .i64 k ∧ Hid (Ln wr w.heap.size (upTo x a k) ∧ Ln wr (w.heap.size + 1) b ∧ Ln wr (w.heap.size + 1 + 1) zeros ∧ Below w.heap.size w wr)) (fun i _ => 8 - (intOf i).toNat)
  case atStart =>
    refine ⟨0, by omega, rfl, Lib.hid ⟨?_, ?_, ?_, HB.out⟩⟩
    · rw [upTo_zero]; exact (L0.out.alloc _).alloc _
    · have := L1.out; rw [size_alloc] at this; exact this.alloc _
    · have := L2.out; rw [size_alloc, size_alloc] at this; exact this
  case round =>
    obtain ⟨k, hk, rfl, H⟩ := hrel
    by_cases hlt : k < 8
    · obtain ⟨c0, f0⟩ := H.out.1.cell hlt
      obtain ⟨c1, _⟩ := H.out.2.1.cell hlt
      have E := Lib.hid (AT.out k (ha.trans hb.symm) (by omega))
      generalize (upTo x a k).getD k 0 = q at c0
      generalize hy : b.getD k 0 = y at *
      go_wp2
      · rename_i ht
        refine ⟨⟨k + 1, by omega, by go_num, Lib.hid ⟨?_, ?_, ?_, ?_⟩⟩, by simp [intOf]; omega⟩
        · rw [← upTo_set hl (by omega)]
          have := H.out.1.set_ k y
          rw [E.out, if_pos (by simpa using ht)]; exact this
        · exact H.out.2.1.other (by omega) _
        · exact H.out.2.2.1.other (by omega) _
        · exact H.out.2.2.2.setCell (Nat.le_refl _) _
      · rename_i ht
        refine ⟨⟨k + 1, by omega, by go_num, Lib.hid ⟨?_, H.out.2⟩⟩, by simp [intOf]; omega⟩
        rw [upTo_keep hl (by rw [E.out, if_neg (by simpa using ht)])]; exact H.out.1
    · obtain rfl : k = 8 := by omega
      have hx : x.length = 8 := by omega
      have hX := H.out.1
      rw [upTo_all hx ha] at hX
      have hld := hX.load
      have hst := H.out.2.2.1.store hx
      have HP := Lib.hid (H.out.2.2.1.put hx)
      have HB2 := Lib.hid (below_row (c := lc x) H.out.2.2.2 (show w.heap.size ≤ w.heap.size + 1 + 1 by omega))
      clear hX
      go_wp2
      exact bodyPost_ret (v := .agg (lc x)) (results_cell_row rfl _ _ _ _ _ _ _ rfl HP.out.1 Try.underlying36 rfl (by rw [info_line, lc_size, hx])) rfl ⟨rfl, HB2.out⟩
end Go.Proofs.Ythcecfenjbdgmaa
