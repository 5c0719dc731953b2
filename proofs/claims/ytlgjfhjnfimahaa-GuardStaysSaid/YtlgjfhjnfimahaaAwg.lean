/-
  Contract of 'awake' of layer 3's statements.
-/
import Derived.Test.YtlgjfhjnfimahaaRun
import Derived.Test.YtlgjfhjnfimahaaSli
import Derived.Test.YtlgjfhjnfimahaaCas
namespace Go.Proofs.Ytlgjfhjnfimahaa
open Go.RowKit

theorem awake_steps : run [7] [] 0 [(1, 6), (1, 0), (3, 0)] = ([0, 6], 2, false) := by decide

theorem rl_lit (w : World) (l : List (Int × Int)) (hl : l.length ≤ 1000) : RL (w.alloc (.cells (fl l).toArray 37)) (.slice (some ⟨w.heap.size, 0, none⟩) l.length l.length) l := (ownl_lit w l (by unfold maxLen; omega)).rl
theorem ri_lit (w : World) (l : List Int) (hl : l.length ≤ 1000) : RI (w.alloc (.cells (l.map iv).toArray 3)) (.slice (some ⟨w.heap.size, 0, none⟩) l.length l.length) l := (own_lit w l (by unfold maxLen; omega)).ri

theorem awake_run (w : World) : Calls Try.prog 13 #[.slice (some ⟨w.heap.size, 0, none⟩) 1 1, .slice (some ⟨w.heap.size + 1, 0, none⟩) 3 3]
    ((w.alloc (.cells #[.int .i64 7] 3)).alloc (.cells #[.int .i64 1, .int .i64 6, .int .i64 1, .int .i64 0, .int .i64 3, .int .i64 0] 37)) fun e w' =>
      ∃ g c, e = .returned (.tuple #[.slice (some ⟨g, 0, none⟩) 2 c, .int .i64 2, .bool false]) ∧ w'.cell? ⟨g, 0, none⟩ = some (.int .i64 6) ∧ Below w.heap.size w w' := by
  have h1 := ri_one w 7
  have h2 := rl_lit (w.alloc (.cells #[.int .i64 7] 3)) [(1, 6), (1, 0), (3, 0)] (by simp)
  rw [size_alloc] at h2
  refine (run_walk _ _ [7] [(1, 6), (1, 0), (3, 0)] _ (ri_below h1 (bal (Below.refl _ _))) h2 (by simp)).mono ?_
  rintro e w1 ⟨v, rfl, ho, hb⟩
  rw [awake_steps] at ho ⊢
  obtain ⟨g, c, rfl, _, hg, _⟩ := ho.block (by simp)
  obtain ⟨c0, _⟩ := ho.cells (j := 0) (by simp)
  exact ⟨g, c, rfl, c0, (bal (bal (Below.refl _ _))).trans (hb.mono (by simp; omega))⟩

theorem awake_index (w : World) : Calls Try.prog 9 #[.slice (some ⟨w.heap.size, 0, none⟩) 2 2, .int .i64 1] (w.alloc (.cells #[.int .i64 4, .int .i64 5] 3)) fun e w' =>
      e = .returned (.tuple #[.int .i64 5, .bool true]) ∧ Below w.heap.size w w' := by
  have h1 := ri_lit w [4, 5] (by simp)
  refine (index_in _ [4, 5] 1 _ h1 (by decide) (by decide)).mono ?_
  rintro e w1 ⟨rfl, hb⟩
  exact ⟨rfl, below_more (bal (Below.refl _ _)) hb⟩

set_option maxHeartbeats 1000000 in
theorem awake_any (w : World) : Calls Try.prog 8 #[] w fun e w' => e = .returned (.bool true) ∧ Below w.heap.size w w' := by
  go_enter Try.func8, Try.ntmps8
  go_wp2_with fail
  refine (awake_run w).mono ?_; rintro e w1 ⟨g, c, rfl, c0, hb⟩
  have HB := Lib.hid hb
  have hg := World.block_lt_of_cell? w1 _ c0
  clear hb
  go_wp2_with fail
  refine (awake_index w1).mono ?_; rintro e w2 ⟨rfl, hb⟩
  have c1 : w2.cell? ⟨g, 0, none⟩ = some (.int .i64 6) := (hb.cell hg).trans c0
  have HB2 := Lib.hid (below_more HB.out hb)
  clear hb c0 hg HB
  go_wp2_with fail
  refine (div_out 1 w2).mono ?_; rintro e w3 ⟨rfl, hb⟩
  have c2 : w3.cell? ⟨g, 0, none⟩ = some (.int .i64 6) := (hb.cell (World.block_lt_of_cell? w2 _ c1)).trans c1
  have HB3 := Lib.hid (below_more HB2.out hb)
  clear hb c1 HB2
  go_wp2_with fail
  go_ret
  exact ⟨rfl, HB3.out⟩
end Go.Proofs.Ytlgjfhjnfimahaa
