/-
  slices.Concat and slices.Grow of blocks: a new slice of all that is in some slices.
-/
import Derived.Test.YtlpbdnfecnochaaBka
import Derived.Lib.AppendZeros
namespace Go.Proofs.Ytlpbdnfecnochaa
set_option maxRecDepth 100000
open Go.RowKit

/-- slices of blocks in a slice -/
def browE : Elm Try.prog Value where
  t := 58
  e := 22
  size := 1
  bytes := 24
  z := .slice none 0 0
  enc := fun v => [v]
  ok := fun v => v.oneCell' = true
  ht := Try.underlying58
  hi := by kernel_rfl
  hzs := rfl
  pos := by decide
  bpos := by decide
  len := fun _ _ => rfl
  one := fun a h u hu => by rw [List.mem_singleton.1 hu]; exact h

theorem grown_own (w : World) (n : Nat) (hn : n ≤ 2000) : OwnA blkE w.heap.size (w.drew.alloc (.cells (Builtin.zeroCells blkE.z.cells n ++ Builtin.zeroCells blkE.z.cells (grownCap w n 0 35 - n)) 35)) (.slice (some ⟨w.heap.size, 0, none⟩) 0 (grownCap w n 0 35)) [] := by
  have h1 := grownCap_ge w n 0 35
  have h2 := grownCap_le_maxLen w n 0 35 (by unfold maxLen; omega)
  refine ⟨⟨rfl, .inr ⟨w.heap.size, _, _, rfl, Nat.le_refl _, heap_alloc_new _ _, Nat.zero_le _, h2, ?_, ?_⟩⟩, fun _ h => by cases h⟩
  · rw [Array.size_append, size_zeroCells, size_zeroCells, blkE.hzs, ← Nat.add_mul]
    congr 1
    omega
  · simp
set_option maxHeartbeats 1000000 in
theorem grow_is (n : Nat) (w : World) (hn : n ≤ 2000) : Calls Try.prog 33 #[.slice none 0 0, .int .i64 n] w fun e w' => (∃ v, e = .returned v ∧ OwnA blkE w.heap.size w' v []) ∧ Below w.heap.size w w' := by
  have h1 : ¬ ((n : Int) < 0) := by omega
  have h3 : IntKind.i64.wrap (n : Int) = n := i64_nat _ (by omega)
  by_cases h0 : 0 < n
  · have h4 : (n : Int) > 0 := by omega
    have hO := grown_own w n hn
    have hB : Below w.heap.size w (w.drew.alloc (.cells (Builtin.zeroCells blkE.z.cells n ++ Builtin.zeroCells blkE.z.cells (grownCap w n 0 35 - n)) 35)) := bal ((Below.refl _ _).drew)
    obtain ⟨i0, hi, hz0, hz1, hz2⟩ := info_parts blkE.hi
    have hrz : ∀ ty, (Builtin.append_ #[22, 3] ty #[.slice none 0 0, .int .i64 (n : Int)]).run Try.prog w = _ := fun ty =>
      Lib.run_append_nil_zeros (P := Try.prog) w 22 3 ty 35 i0 blkE.z .i64 .i64 Try.underlying22 Try.underlying3 hi hz0 n h0 (by rw [hz1]; decide) (by omega) (by rw [hz2]; show n * 24 ≤ _; omega)
    have hG := grownCap_ge w n 0 35
    have hG2 := grownCap_le_maxLen w n 0 35 (by unfold maxLen; omega)
    obtain ⟨W, hW⟩ : ∃ W, w.drew.alloc (.cells (Builtin.zeroCells blkE.z.cells n ++ Builtin.zeroCells blkE.z.cells (grownCap w n 0 35 - n)) 35) = W := ⟨_, rfl⟩
    rw [hW] at hO hB
    simp only [hW] at hrz
    generalize grownCap w n 0 35 = G at *
    have g1 : ¬ (G = 0) := by omega
    have g2 : (0 : Int) ≤ (G : Int) := by omega
    have HO := Lib.hid hO
    have HB := Lib.hid hB
    clear hO hB hW hi hz0 hz1 hz2
    go_enter Try.func33, Try.ntmps33
    go_wp2_with (at_builtin; refine Lib.wpList_append_run _ rfl _ _ _ _ rfl _ _ rfl rfl _ _ (hrz _) ?_)
    go_wp2
    go_ret
    exact ⟨⟨_, rfl, HO.out⟩, HB.out⟩
  · obtain rfl : n = 0 := by omega
    clear h3
    go_enter Try.func33, Try.ntmps33
    go_wp2
    go_ret
    exact ⟨⟨_, rfl, own_nil_a _ _ _⟩, Below.refl _ _⟩

/-- how many there are in all -/
def lens (ls : List (List Bk)) : Nat := (ls.map List.length).sum
theorem lens_drop {ls : List (List Bk)} {k : Nat} (h : k < ls.length) : lens (ls.drop k) = (ls.getD k []).length + lens (ls.drop (k + 1)) := by
  unfold lens
  rw [List.drop_eq_getElem_cons h, List.getD_eq_getElem?_getD, List.getElem?_eq_getElem h, List.map_cons, List.sum_cons]
  rfl
theorem lens_flat (ls : List (List Bk)) : ls.flatten.length = lens ls := by simp [lens, List.length_flatten]
theorem flat_take {ls : List (List Bk)} {k : Nat} (h : k < ls.length) : (ls.take (k + 1)).flatten = (ls.take k).flatten ++ ls.getD k [] := by
  rw [List.take_add_one, List.getElem?_eq_getElem h, List.getD_eq_getElem?_getD, List.getElem?_eq_getElem h]
  simp only [Option.toList_some, List.flatten_append, List.flatten_cons, List.flatten_nil, List.append_nil, Option.getD_some]
theorem flat_split {ls : List (List Bk)} {k : Nat} (h : k < ls.length) : ((ls.take k).flatten).length + (ls.getD k []).length ≤ lens ls := by
  have := congrArg List.length (flat_take h)
  rw [List.length_append] at this
  rw [← this, ← lens_flat]
  conv => rhs; rw [← List.take_append_drop (k + 1) ls]
  rw [List.flatten_append, List.length_append]
  omega

set_option maxHeartbeats 1000000 in
theorem concat_is (ls : List (List Bk)) (v : Value) (w : World) (hv : RAs blkE browE w v ls) (hl : ls.length ≤ 1000) (hs : lens ls ≤ 2000) : Calls Try.prog 21 #[v] w fun e w' => (∃ u, e = .returned u ∧ OwnA blkE w.heap.size w' u ls.flatten) ∧ Below w.heap.size w w' := by
  obtain ⟨p, cap, rfl, _, _⟩ := ras_shape hv
  have HX : Hid (∀ wr, Below w.heap.size w wr → ∀ k, k < ls.length → ∃ b off q c, p = some ⟨b, off, none⟩ ∧ wr.cell? ⟨b, off + k, none⟩ = some (.slice q (ls.getD k []).length c) ∧ RA blkE wr (.slice q (ls.getD k []).length c) (ls.getD k [])) := Lib.hid fun wr hb k hk => by
    obtain ⟨b, off, e, _, hx⟩ := ras_at rfl rfl (ras_below hv hb) (by omega)
    obtain ⟨u, hc, hr⟩ := hx k hk
    obtain ⟨q, c, rfl, _⟩ := ra_shape hr
    exact ⟨b, off, q, c, e, hc, hr⟩
  have HL := Lib.hid hl
  have HS := Lib.hid hs
  clear hv hl hs
  go_enter Try.func21, Try.ntmps21
  go_wp2
  go_loopw [3, 5, 11] (fun z s i wr => ∃ k z' : Nat, k ≤ ls.length ∧ i = .int .i64 k ∧ z = .int .i64 z' ∧ wr = w ∧ Hid (z' + lens (ls.drop k) = lens ls)) (fun _ _ i _ => ls.length - (intOf i).toNat)
  case atStart => exact ⟨0, 0, Nat.zero_le _, rfl, rfl, rfl, Lib.hid (by simp)⟩
  case round =>
    obtain ⟨k, z, hk, rfl, rfl, rfl, H⟩ := hrel
    by_cases hlt : k < ls.length
    · obtain ⟨b, off, q, c, rfl, hc, _⟩ := HX.out wr (Below.refl _ _) k hlt
      have hF := H.out
      rw [lens_drop hlt] at hF
      have i0 : (0 : Int) ≤ (k : Int) := by omega
      have i1 : (k : Int) < (ls.length : Int) := by omega
      have i2 : ¬ (k : Int) < 0 := by omega
      have i3 : IntKind.i64.wrap ((k : Int) + 1) = ((k + 1 : Nat) : Int) := by rw [show (k : Int) + 1 = ((k + 1 : Nat) : Int) by omega]; exact i64_nat _ (by have := HL.out; omega)
      generalize (ls.getD k []).length = Y at *
      have i4 : IntKind.i64.wrap ((z : Int) + (Y : Int)) = ((z + Y : Nat) : Int) := by rw [show (z : Int) + (Y : Int) = ((z + Y : Nat) : Int) by omega]; exact i64_nat _ (by have := HS.out; omega)
      have i5 : ¬ ((z + Y : Nat) : Int) < 0 := by omega
      have HF := Lib.hid hF
      have HK := Lib.hid hlt
      obtain ⟨Z, hZ⟩ : ∃ Z, z + Y = Z := ⟨_, rfl⟩
      rw [hZ] at i4 i5
      have HZ := Lib.hid hZ
      clear hF hlt hk hZ
      go_wp2
      go_roundw
      case rel => exact ⟨k + 1, Z, by have := HK.out; omega, by go_num, rfl, trivial, Lib.hid (by have := HF.out; have := HZ.out; omega)⟩
      case measure => have := HK.out; simp [intOf]; omega
    · obtain rfl : k = ls.length := by omega
      have hF := H.out
      rw [List.drop_length] at hF
      obtain rfl : z = lens ls := hF
      clear H hlt hk
      have C := Lib.hid (grow_is (lens ls) wr HS.out)
      go_wp2_with fail
      refine (C.out).mono ?_; rintro e w1 ⟨⟨u1, rfl, o1⟩, b1⟩
      have O1 := Lib.hid o1
      have B1 := Lib.hid b1
      clear o1 b1
      go_wp2
      go_loopw [6, 8, 27] (fun u s i w2 => ∃ k : Nat, k ≤ ls.length ∧ i = .int .i64 k ∧ Hid (OwnA blkE wr.heap.size w2 u (ls.take k).flatten ∧ Below wr.heap.size wr w2)) (fun _ _ i _ => ls.length - (intOf i).toNat)
      case atStart => exact ⟨0, Nat.zero_le _, rfl, Lib.hid ⟨O1.out, B1.out⟩⟩
      case round =>
        obtain ⟨k, hk, rfl, H⟩ := hrel
        by_cases hlt : k < ls.length
        · obtain ⟨b, off, q, c, rfl, hc, hr⟩ := HX.out wr (H.out.2) k hlt
          have hlen : Hid (((ls.take k).flatten).length + (ls.getD k []).length ≤ 2000) := Lib.hid (by have := flat_split hlt; have := HS.out; omega)
          have i0 : (0 : Int) ≤ (k : Int) := by omega
          have i1 : (k : Int) < (ls.length : Int) := by omega
          have i2 : ¬ (k : Int) < 0 := by omega
          have i3 : IntKind.i64.wrap ((k : Int) + 1) = ((k + 1 : Nat) : Int) := by rw [show (k : Int) + 1 = ((k + 1 : Nat) : Int) by omega]; exact i64_nat _ (by have := HL.out; omega)
          have HT := Lib.hid (flat_take hlt)
          obtain ⟨Y, hY⟩ : ∃ Y, (ls.getD k []).length = Y := ⟨_, rfl⟩
          rw [hY] at hc hr
          have HR := Lib.hid hr
          have HK := Lib.hid hlt
          clear hr hk hlt hY
          go_wp2_with (at_builtin; refine app_blk rfl _ _ rfl _ _ _ rfl H.out.1 _ _ rfl HR.out hlen (H.out.2.size) ?_)
          intro v' w' ho hg hx
          have HN := Lib.hid (show OwnA blkE _ w' v' (ls.take (k + 1)).flatten ∧ Below _ _ w' from ⟨by rw [HT.out]; exact ho, below_app H.out.2 H.out.2.size H.out.1 hg⟩)
          clear ho hg hx
          go_wp2
          go_roundw
          case rel => exact ⟨k + 1, by have := HK.out; omega, by go_num, HN⟩
          case measure => have := HK.out; simp [intOf]; omega
        · obtain rfl : k = ls.length := by omega
          have hF := H.out
          rw [List.take_length] at hF
          have HF := Lib.hid hF
          clear hF
          go_wp2
          go_ret
          exact ⟨⟨_, rfl, HF.out.1⟩, HF.out.2⟩
end Go.Proofs.Ytlpbdnfecnochaa
