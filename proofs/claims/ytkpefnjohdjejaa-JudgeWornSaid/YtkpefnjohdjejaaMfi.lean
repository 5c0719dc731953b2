/-
  Contracts of package model: the free blocks of which one may be taken, the offsets of those.
-/
import Derived.Test.YtkpefnjohdjejaaMbl
import Derived.Test.YtkpefnjohdjejaaZmd
namespace Go.Proofs.Ytkpefnjohdjejaa
set_option maxRecDepth 100000
open Go.RowKit

/-- the free blocks that fit; where their bytes begin -/
def fbl (n : Int) (l : List Bk) : List Bk := (fitN n l).map fun i => l.getD i default
def fos (n : Int) (l : List Bk) : List Int := (fbl n l).map fun b => offB b.a
theorem fbl_len (n : Int) (l : List Bk) : (fbl n l).length ≤ l.length := by
  rw [fbl, List.length_map]
  unfold fitN
  split
  · simp
  · exact plS_len _ _ _
theorem fbl_mem {n : Int} {l : List Bk} {b : Bk} (h : b ∈ fbl n l) : ∃ d, d ∈ fitN n l ∧ d < l.length ∧ l.getD d default = b := by
  obtain ⟨d, hd, rfl⟩ := List.mem_map.1 h
  exact ⟨d, hd, (fitN_mem hd).1, rfl⟩
theorem map_snoc {α β : Type} [Inhabited α] (f : α → β) {l : List α} {k : Nat} (hk : k < l.length) : (l.take (k + 1)).map f = (l.take k).map f ++ [f (l.getD k default)] := by
  rw [List.take_add_one, List.getElem?_eq_getElem hk, List.getD_eq_getElem?_getD, List.getElem?_eq_getElem hk, List.map_append]
  rfl
set_option maxHeartbeats 2000000 in
theorem mfit_is {D : List Nat} {g : Nat} {wl : List Int} {l : List Bk} {r : Int} (N : Int) (w : World) (h : Mo w D g wl l r) :
    Calls Try.prog 65 #[.pointer (some ⟨g, 0, none⟩), .int .i64 N] w fun e w' => (∃ v, e = .returned v ∧ OwnA blkE w.heap.size w' v (fbl N l)) ∧ Below w.heap.size w w' := by
  obtain ⟨hlen, _, _⟩ := h.len
  have C1 := Lib.hid (mobl_is w h)
  have C2 := Lib.hid (fun v w' (hv : RA blkE w' v l) => fits_is N l v w' hv (by omega))
  have hm : ∀ i ∈ fitN N l, i < l.length := fun i hi => (fitN_mem hi).1
  have hfl : (fitN N l).length ≤ 256 := by
    have := fbl_len N l
    rw [fbl, List.length_map] at this
    omega
  unfold fbl
  generalize fitN N l = F at *
  have HM := Lib.hid hm
  have HL := Lib.hid (And.intro hlen hfl)
  clear hm hlen hfl h
  go_enter Try.func65, Try.ntmps65
  go_wp2_with fail
  refine (C1.out).mono ?_; rintro e w1 ⟨⟨v1, rfl, o1⟩, b1⟩
  have D1 := Lib.hid b1
  have O1 := Lib.hid o1.ra
  clear b1 o1 C1
  go_wp2_with fail
  refine (C2.out _ _ O1.out).mono ?_; rintro e w2 ⟨⟨v2, rfl, o2⟩, b2⟩
  have D2 := Lib.hid (below_more D1.out b2)
  have HF := Lib.hid o2.ri
  have O2 := Lib.hid (ra_below O1.out b2)
  obtain ⟨pf, cf, rfl⟩ := o2.shape
  obtain ⟨pl, cl, rfl, _, _⟩ := ra_shape O1.out
  clear b2 o2 C2 O1
  rw [ins_length] at HF ⊢
  go_wp2
  go_loopw [6, 15] (fun y i wr => ∃ (k : Nat), k ≤ F.length ∧ i = .int .i64 k ∧ Hid (OwnA blkE w2.heap.size wr y ((F.take k).map fun i => l.getD i default) ∧ Below w2.heap.size w2 wr)) (fun _ i _ => F.length - (intOf i).toNat)
  case atStart => exact ⟨0, Nat.zero_le _, rfl, Lib.hid ⟨own_nil_a _ _ _, Below.refl _ _⟩⟩
  case round =>
    obtain ⟨k, hk, rfl, H⟩ := hrel
    by_cases hlt : k < F.length
    · obtain ⟨bf, of, rfl, _, hfr⟩ := ri_some (ri_below HF.out H.out.2) (by rw [ins_length]; omega)
      have cf1 := hfr k (by rw [ins_length]; exact hlt)
      rw [ins_getD hlt] at cf1
      have hi := HM.out _ (getD_mem_n hlt)
      obtain ⟨b, off, rfl, _, hx⟩ := blk_at (ra_below O2.out H.out.2) (by omega)
      obtain ⟨hld, _, _, _, hwf⟩ := hx _ hi
      have HS := Lib.hid (map_snoc (fun i => l.getD i default) hlt)
      have i0 : (0 : Int) ≤ (k : Int) := by omega
      have i1 : (k : Int) < (F.length : Int) := by omega
      have i2 : ¬ (k : Int) < 0 := by omega
      have i3 : IntKind.i64.wrap ((k : Int) + 1) = ((k + 1 : Nat) : Int) := by rw [show (k : Int) + 1 = ((k + 1 : Nat) : Int) by omega]; exact i64_nat _ (by have := HL.out; omega)
      have q1 : ((F.getD k 0 : Nat) : Int) < (l.length : Int) := by omega
      have q3 : ¬ ((F.getD k 0 : Nat) : Int) < 0 := by omega
      have q5 : (0 : Int) ≤ ((F.getD k 0 : Nat) : Int) := by omega
      have HK := Lib.hid hlt
      have HW := Lib.hid hwf
      have hcl : Hid (((F.take k).map fun i => l.getD i default).length + 1 ≤ 2000) := Lib.hid (by rw [List.length_map, List.length_take]; have := HL.out; omega)
      clear hfr hk hx hwf hi hlt
      change Hid (_ = _ ++ [l.getD (F.getD k 0) default]) at HS
      have HO := Lib.hid H.out.1
      have HB := Lib.hid H.out.2
      obtain ⟨Z, hZ⟩ : ∃ Z, (F.take k).map (fun i => l.getD i default) = Z := ⟨_, rfl⟩
      rw [hZ] at hcl HS HO
      clear H hZ
      generalize F.getD k 0 = I at *
      generalize l.getD I default = X at *
      go_wp2_with (at_builtin; refine app_blk rfl _ _ rfl _ _ _ rfl (HO.out.alloc _) _ _ rfl (blk_one wr HW.out).ra hcl (bal HB.out).size ?_)
      intro v3 w3 o3 g3 x3
      have B3 := Lib.hid (below_app (bal HB.out) (bal HB.out).size (HO.out.alloc _) g3)
      have O3 := Lib.hid o3
      clear o3 g3 x3
      go_wp2
      go_roundw
      case rel => exact ⟨k + 1, by have := HK.out; omega, by go_num, Lib.hid ⟨by rw [HS.out]; exact O3.out, B3.out⟩⟩
      case measure => have := HK.out; simp [intOf]; omega
    · obtain rfl : k = F.length := by omega
      have HF := H.out
      rw [List.take_length] at HF
      go_wp2
      go_ret
      exact ⟨⟨_, rfl, HF.1.mono D2.out.size⟩, below_more D2.out HF.2⟩

theorem fitN_nil (N : Int) : fitN N [] = [] := fitN_none fun b hb => by cases hb
theorem mfit_nil (N : Int) (w : World) : Calls Try.prog 65 #[.pointer none, .int .i64 N] w fun e w' => e = .returned (.slice none 0 0) ∧ Below w.heap.size w w' := by
  have C1 := Lib.hid (mobl_nil w)
  have C2 := Lib.hid (fits_is N [] _ w (ra_nil blkE w) (by simp))
  rw [fitN_nil] at C2
  go_enter Try.func65, Try.ntmps65
  go_wp2_with fail
  refine (C1.out).mono ?_; rintro e w1 ⟨rfl, rfl⟩
  go_wp2_with fail
  refine (C2.out).mono ?_; rintro e w2 ⟨⟨v2, rfl, o2⟩, b2⟩
  obtain ⟨pf, cf, rfl⟩ := o2.shape
  have D2 := Lib.hid b2
  clear b2 o2
  simp only [ins, List.map_nil, List.length_nil]
  go_wp2
  go_loopw [6, 15] (fun y i wr => i = .int .i64 0 ∧ y = .slice none 0 0 ∧ wr = w2) (fun _ i _ => 0)
  case atStart => exact ⟨rfl, rfl, rfl⟩
  case round =>
    obtain ⟨rfl, rfl, rfl⟩ := hrel
    go_wp2
    go_ret
    exact ⟨rfl, D2.out⟩
theorem mofs_nil (n : Int) (w : World) : Calls Try.prog 42 #[.pointer none, .int .i64 n] w fun e w' => e = .returned (.slice none 0 0) ∧ Below w.heap.size w w' := by
  have C0 := Lib.hid (fun w => need_is n w)
  have C1 := Lib.hid (mfit_nil (needN n) w)
  generalize needN n = N at *
  go_enter Try.func42, Try.ntmps42
  go_wp2_with fail
  refine (C0.out _).mono ?_; rintro e w1 ⟨rfl, rfl⟩
  go_wp2_with fail
  refine (C1.out).mono ?_; rintro e w2 ⟨rfl, b2⟩
  have D2 := Lib.hid b2
  clear b2
  go_wp2
  go_loopw [5, 13] (fun y i wr => i = .int .i64 0 ∧ y = .slice none 0 0 ∧ wr = w2) (fun _ i _ => 0)
  case atStart => exact ⟨rfl, rfl, rfl⟩
  case round =>
    obtain ⟨rfl, rfl, rfl⟩ := hrel
    go_wp2
    go_ret
    exact ⟨rfl, D2.out⟩
set_option maxHeartbeats 2000000 in
theorem mofs_is {D : List Nat} {g : Nat} {wl : List Int} {l : List Bk} {r : Int} (n : Int) (w : World) (h : Mo w D g wl l r) :
    Calls Try.prog 42 #[.pointer (some ⟨g, 0, none⟩), .int .i64 n] w fun e w' => (∃ v, e = .returned v ∧ OwnI w.heap.size w' v (fos (needN n) l)) ∧ Below w.heap.size w w' := by
  obtain ⟨hlen, _, _⟩ := h.len
  have hfl := fbl_len (needN n) l
  have C0 := Lib.hid (fun w => need_is n w)
  have C1 := Lib.hid (mfit_is (needN n) w h)
  unfold fos
  generalize needN n = N at *
  generalize fbl N l = F at *
  have HL := Lib.hid (show F.length ≤ 256 by omega)
  clear hlen hfl h
  go_enter Try.func42, Try.ntmps42
  go_wp2_with fail
  refine (C0.out _).mono ?_; rintro e w1 ⟨rfl, rfl⟩
  go_wp2_with fail
  refine (C1.out).mono ?_; rintro e w1 ⟨⟨v1, rfl, o1⟩, b1⟩
  have D1 := Lib.hid b1
  have O1 := Lib.hid o1.ra
  obtain ⟨pf, cf, rfl, _, _⟩ := ra_shape O1.out
  clear b1 o1 C1
  go_wp2
  go_loopw [5, 13] (fun y i wr => ∃ (k : Nat), k ≤ F.length ∧ i = .int .i64 k ∧ Hid (OwnI w1.heap.size wr y ((F.take k).map fun b => offB b.a) ∧ Below w1.heap.size w1 wr)) (fun _ i _ => F.length - (intOf i).toNat)
  case atStart => exact ⟨0, Nat.zero_le _, rfl, Lib.hid ⟨ownI_nil' _ _, Below.refl _ _⟩⟩
  case round =>
    obtain ⟨k, hk, rfl, H⟩ := hrel
    by_cases hlt : k < F.length
    · obtain ⟨b, off, rfl, _, hx⟩ := blk_at (ra_below O1.out H.out.2) (by omega)
      obtain ⟨hld, _, _, _, _⟩ := hx _ hlt
      have HS := Lib.hid (map_snoc (fun b => offB b.a) hlt)
      have i0 : (0 : Int) ≤ (k : Int) := by omega
      have i1 : (k : Int) < (F.length : Int) := by omega
      have i2 : ¬ (k : Int) < 0 := by omega
      have i3 : IntKind.i64.wrap ((k : Int) + 1) = ((k + 1 : Nat) : Int) := by rw [show (k : Int) + 1 = ((k + 1 : Nat) : Int) by omega]; exact i64_nat _ (by have := HL.out; omega)
      have HK := Lib.hid hlt
      have hcl : Hid (((F.take k).map fun b => offB b.a).length + 1 ≤ 1000000) := Lib.hid (by rw [List.length_map, List.length_take]; have := HL.out; omega)
      have HO := Lib.hid H.out.1
      have HB := Lib.hid H.out.2
      clear hk hx hlt
      change Hid (_ = _ ++ [offB (F.getD k default).a]) at HS
      obtain ⟨Z, hZ⟩ : ∃ Z, (F.take k).map (fun b => offB b.a) = Z := ⟨_, rfl⟩
      rw [hZ] at hcl HS HO
      clear H hZ
      generalize F.getD k default = X at *
      obtain ⟨W, hW, HW⟩ := blk_boxed wr X
      have l0 := HW.out.1.load
      obtain ⟨x, hx⟩ : ∃ x, offB X.a = x := ⟨_, rfl⟩
      have C := Lib.hid (off_is X x hx W)
      rw [hx] at HS
      clear hx
      go_wp2_with fail
      refine (C.out).mono ?_; rintro e w2 ⟨rfl, b2⟩
      have B2 := Lib.hid (below_more HW.out.2 b2)
      clear b2
      go_wp2_with (at_builtin; refine list_app_int rfl _ _ rfl w1.heap.size _ _ rfl (World.ownsRow.alloc (own_below_i HO.out B2.out) _) _ [x] rfl (ri_one _ _) hcl.out (bal (below_more HB.out B2.out)).size ?_)
      intro v3 w3 o3 g3 x3
      have B3 := Lib.hid (Below.grown (bal (below_more HB.out B2.out)) g3 (bal (below_more HB.out B2.out)).size (fun q hq => (World.ownsRow.lt HO.out q hq).1))
      have O3 := Lib.hid o3
      clear o3 g3 x3
      go_wp2
      go_roundw
      case rel => exact ⟨k + 1, by have := HK.out; omega, by go_num, Lib.hid ⟨by rw [HS.out]; exact O3.out, B3.out⟩⟩
      case measure => have := HK.out; simp [intOf]; omega
    · obtain rfl : k = F.length := by omega
      have HF := H.out
      rw [List.take_length] at HF
      go_wp2
      go_ret
      exact ⟨⟨_, rfl, OwnI.mono HF.1 D1.out.size⟩, below_more D1.out HF.2⟩
end Go.Proofs.Ytkpefnjohdjejaa
