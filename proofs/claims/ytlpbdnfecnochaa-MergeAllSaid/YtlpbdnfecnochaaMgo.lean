/-
  Contract of package merge: the one block of the words of some that are side by side.
-/
import Derived.Test.YtlpbdnfecnochaaMgj
import Derived.Test.YtlpbdnfecnochaaEde
import Derived.Test.YtlpbdnfecnochaaChg
import Derived.Deep.RegionHeld3
namespace Go.Proofs.Ytlpbdnfecnochaa
set_option maxRecDepth 100000
open Go.ChangeShapes Go.WideShapes Go.ChangeAt Go.RowKit

theorem Bv.store {w : World} {g : Nat} {b : Bk} (h : Bv w g b) (c : Bk) : (blkStore (.pointer (some ⟨g, 0, none⟩)) (.agg (bc c))).run Try.prog w = .ok () (w.setRow g (bc c)) := by
  simp only [blkStore, Instr.storeAt, Instr.sureAddr, Sem.run_bind, Sem.run_pure, Result.andThen]
  exact run_storeVar_row w g 35 35 (bc b) (bc c) h (by rw [info_block, bc_size]) (by rw [bc_size, bc_size]) (bc_one c)
theorem Bv.put {w : World} {g : Nat} {b : Bk} (h : Bv w g b) (c : Bk) : Bv (w.setRow g (bc c)) g c := by
  have e : w.heap[g]? = some (.cells (bc b) 35 (0, 0)) := h
  unfold Bv Whole
  simp [World.setRow, Array.getElem?_modify, e]
theorem Ev.store {w : World} {g : Nat} {b : Ed} (h : Ev w g b) (c : Ed) : (edStore (.pointer (some ⟨g, 0, none⟩)) (.agg (ec c))).run Try.prog w = .ok () (w.setRow g (ec c)) := by
  simp only [edStore, Instr.storeAt, Instr.sureAddr, Sem.run_bind, Sem.run_pure, Result.andThen]
  exact run_storeVar_row w g 30 30 (ec b) (ec c) h (by rw [info_edit, ec_size]) (by rw [ec_size, ec_size]) (ec_one c)
theorem Ev.put {w : World} {g : Nat} {b : Ed} (h : Ev w g b) (c : Ed) : Ev (w.setRow g (ec c)) g c := by
  have e : w.heap[g]? = some (.cells (ec b) 30 (0, 0)) := h
  unfold Ev Whole
  simp [World.setRow, Array.getElem?_modify, e]
theorem Ev.load {w : World} {g : Nat} {b : Ed} (h : Ev w g b) : (edLoad (.pointer (some ⟨g, 0, none⟩))).run Try.prog w = .ok (.agg (ec b)) w :=
  run_edLoad fun j u hj => by rw [Whole.at_ h, Nat.zero_add, ← hj]; simp [ec]
theorem blk_box0 (w : World) : ∃ W, w.alloc (.cells #[.int .i64 0, .int .i64 0, .bool false] 35) = W ∧ Hid (Bv W w.heap.size ⟨0, 0, false⟩ ∧ Below w.heap.size w W) := blk_boxed w ⟨0, 0, false⟩
theorem ed_box0 (w : World) : ∃ W, w.alloc (.cells #[.int .i64 0, .int .u64 0] 30) = W ∧ Hid (Ev W w.heap.size ⟨0, 0⟩ ∧ Below w.heap.size w W) := ed_boxed w ⟨0, 0⟩

set_option maxHeartbeats 1000000 in
theorem one_is (m : List Bk) (v : Value) (w : World) (hv : RA blkE w v m) (h0 : 0 < m.length) (hl : m.length ≤ 1000) (a s : Int) (ha : (m.getD 0 default).a = a) (hs : szW m = s) :
    Calls Try.prog 22 #[v] w fun e w' => e = .returned (.agg (bc ⟨a, s, false⟩)) ∧ Below w.heap.size w w' := by
  obtain ⟨W, hW, H0⟩ := blk_box0 w
  have C := Lib.hid (fun (w' : World) (hb : Below W.heap.size W w') => mwords_is m v w' (ra_below (ra_below hv H0.out.2) hb) hl)
  rw [hs] at C
  have HR := Lib.hid (ra_below hv H0.out.2)
  obtain ⟨p, cap, rfl, hlc, hcm⟩ := ra_shape hv
  obtain ⟨b, off, rfl, hbw, _⟩ := blk_at hv h0
  have c0 : ∀ w', Chg [w.heap.size] W w' → w'.cell? ⟨b, off, none⟩ = some (.int .i64 a) := fun w' hc => by
    obtain ⟨_, _, e, _, hx⟩ := blk_at (ra_chg HR.out hc (fun g hg => by
      cases hg
      simpa using Nat.ne_of_lt hbw)) h0
    cases e
    have := (hx 0 h0).2.1
    rw [ha] at this
    simpa using this
  have i1 : (0 : Int) < (m.length : Int) := by omega
  have i2 : ¬ (m.length : Int) ≤ 0 := by omega
  have i3 : 0 < m.length := h0
  clear hv HR ha hs h0 hlc hcm
  generalize m.length = L at *
  have hbd : Below W.heap.size W W.drew := (Below.refl _ _).drew
  go_enter Try.func22, Try.ntmps22
  go_wp2_with fail
  go_region_held3 (fun w' => Chg [w.heap.size] W w')
    (first | assumption | exact (Chg.refl _ _).drew | exact Chg.setRow (by assumption) (.inl (by simp)) _)
    (first
      | (go_at_call 32; refine (C.out _ hbd).mono ?_; rintro e wy ⟨rfl, hby⟩
         have GY := H0.out.1.below (hbd.trans hby)
         have hst := GY.store ⟨a, s, false⟩
         have FY := Lib.hid (GY.put ⟨a, s, false⟩)
         have CY := Lib.hid (Chg.of_below (hbd.trans hby) [w.heap.size])
         clear hby GY))
  have BF := Lib.hid ((CY.out.setRow (g := w.heap.size) (.inl (by simp)) (bc ⟨a, s, false⟩)).below H0.out.2 H0.out.2.size (fun k hk => by rw [List.mem_singleton.1 hk]; exact Nat.le_refl _))
  go_wp2
  exact bodyPost_ret (v := .agg (bc ⟨a, s, false⟩)) (results_cell_row rfl _ _ _ _ _ _ _ rfl FY.out Try.underlying35 rfl (by rw [info_block]; rfl)) rfl ⟨rfl, BF.out⟩
end Go.Proofs.Ytlpbdnfecnochaa
