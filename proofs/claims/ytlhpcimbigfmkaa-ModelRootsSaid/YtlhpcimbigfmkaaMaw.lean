/-
  What every program must know of package model: the call of awake of darninglaw20.
-/
import Derived.Test.YtlhpcimbigfmkaaMwr
import Derived.Test.YtlhpcimbigfmkaaZma
import Derived.Deep.WholeRow
namespace Go.Proofs.Ytlhpcimbigfmkaa
set_option maxRecDepth 100000
open Go.RowKit

def mw1 : List Int := 5 :: 0 :: 28 :: List.replicate 13 0
def mw2 : List Int := 5 :: 5 :: 28 :: List.replicate 13 0
def ml1 : List Bk := [⟨0, 2, true⟩, ⟨2, 14, false⟩]
theorem mw_need : needN 8 = 2 := by kernel_rfl
theorem mw_fos : fos 2 [⟨0, 16, false⟩] = [8] := by kernel_rfl
theorem mw_alq : alQ 2 [⟨0, 16, false⟩] 8 = some 0 := by kernel_rfl
theorem mw_alw : alW (firstL 16) 2 [⟨0, 16, false⟩] 8 = mw1 := by kernel_rfl
theorem mw_alb : alB 2 [⟨0, 16, false⟩] 8 = ml1 := by kernel_rfl
theorem mw_ref1 : refF mw1 8 1 = 0 := by kernel_rfl
theorem mw_ap : appF mw1 [⟨1, 5⟩] = mw2 := by kernel_rfl
theorem mw_ref2 : refF mw2 8 2 = 0 := by kernel_rfl
theorem mw_rd : rdR mw2 8 2 = [5, 0] := by kernel_rfl
theorem mw_str : strOfNums [5, 0] = ⟨#[5, 0]⟩ := by kernel_rfl
theorem mw_sr : srQ ml1 8 = 0 := by kernel_rfl
theorem mw_feq : feQ ml1 8 8 = 5 := by kernel_rfl
theorem mw_few : feW mw2 ml1 8 8 = mw2 := by kernel_rfl
theorem mw_feb : feB ml1 8 8 = ml1 := by kernel_rfl
theorem mw_wr {L : List Ed} (h : WrT mw1 [5] 8 L) : L = [⟨1, 5⟩] := by
  unfold WrT at h
  rw [if_pos (show refF mw1 8 ([5] : List Int).length = 0 from mw_ref1)] at h
  unfold Tells at h
  rw [if_pos (by decide)] at h
  refine h.one (c' := fun k => [(5 : Int)].getD k 0) ⟨by decide, fun j hj => ?_⟩ (fun _ _ => rfl)
  obtain rfl : j = 0 := by simpa using hj
  refine ⟨rfl, ⟨by decide, by decide⟩, fun k hk => ?_⟩
  rcases (by omega : k = 0 ∨ k = 1 ∨ k = 2 ∨ k = 3 ∨ k = 4 ∨ k = 5 ∨ k = 6 ∨ k = 7) with rfl | rfl | rfl | rfl | rfl | rfl | rfl | rfl <;> decide
theorem mbyte_lit (w : World) {x : Int} (h : By x) : ∃ W, w.alloc (.cells #[.int .u8 x] 5) = W ∧ Hid (RA byE W (.slice (some ⟨w.heap.size, 0, none⟩) 1 1) [x] ∧ Below w.heap.size w W) :=
  ⟨_, rfl, Lib.hid ⟨(by_one w h).ra, bal (Below.refl _ _)⟩⟩
theorem below_chg {w w1 w2 : World} {D : List Nat} (h0 : Below w.heap.size w w1) (hc : Chg D w1 w2) (hD : ∀ k ∈ D, w.heap.size ≤ k) : Below w.heap.size w w2 := hc.below h0 h0.size hD

set_option maxHeartbeats 4000000 in
theorem awake_any (w : World) : Calls Try.prog 8 #[] w fun e w' => e = .returned (.bool true) ∧ Below w.heap.size w w' := by
  have C1 := Lib.hid (mnew_yes 16 (by decide) w)
  go_enter Try.func8, Try.ntmps8
  go_wp2_with fail
  refine (C1.out).mono ?_; rintro e w1 ⟨⟨g, rfl, hg, hM⟩, b1⟩
  have M1 := Lib.hid (hM [] (fun _ h => by cases h))
  have hgw : g < w1.heap.size := M1.out.dlt g (List.mem_cons_self ..)
  have D1 := Lib.hid b1
  have HG := Lib.hid (show ∀ k ∈ [g], w.heap.size ≤ k from fun k hk => by rw [List.mem_singleton.1 hk]; exact hg)
  clear b1 hg hM C1
  have C2 := Lib.hid (mofs_is 8 w1 M1.out)
  rw [mw_need, show ((16 : Nat) : Int) = 16 from rfl, mw_fos] at C2
  go_wp2_with fail
  refine (C2.out).mono ?_; rintro e w2 ⟨⟨v2, rfl, o2⟩, b2⟩
  have D2 := Lib.hid (below_more D1.out b2)
  have M2 := Lib.hid (M1.out.below b2)
  obtain ⟨pf, cf, rfl⟩ := o2.shape
  obtain ⟨bf, of, rfl, hbf, hcf⟩ := ri_some o2.ri (by decide)
  have cf0 : w2.cell? ⟨bf, of, none⟩ = some (.int .i64 8) := hcf 0 (by decide)
  have nf : Hid (bf ∉ [g]) := Lib.hid (fun q => by
    have := (World.ownsRow.lt o2 bf rfl).1
    rw [List.mem_singleton.1 q] at this
    omega)
  clear b2 C2 o2 hcf
  have C3 := Lib.hid (malloc_is 8 8 w2 M2.out)
  rw [mw_need, show ((16 : Nat) : Int) = 16 from rfl, mw_alq, mw_alw, mw_alb] at C3
  simp only [Option.isSome_some] at C3
  go_wp2_with fail
  refine (C3.out).mono ?_; rintro e w3 ⟨rfl, m3, c3⟩
  have D3 := Lib.hid (below_chg D2.out c3 HG.out)
  have M3 := Lib.hid m3
  have T3 := Lib.hid c3
  clear m3 c3 C3
  obtain ⟨W, hW, H⟩ := mbyte_lit w3 (x := 5) ⟨by decide, by decide⟩
  have D4 := Lib.hid (below_more D3.out H.out.2)
  have T4 := Lib.hid (T3.out.trans (Chg.of_below H.out.2 [g]))
  have M4 := Lib.hid (M3.out.below H.out.2)
  have C4 := Lib.hid (mwrite_is 8 [5] _ W M4.out H.out.1 (by decide))
  rw [show refF mw1 8 ([5] : List Int).length = 0 from mw_ref1] at C4
  go_wp2_with fail
  refine (C4.out).mono ?_; rintro e w5 ⟨rfl, E, tE, m5, c5⟩
  obtain rfl := mw_wr tE
  rw [mw_ap] at m5
  have D5 := Lib.hid (below_chg D4.out c5 HG.out)
  have T5 := Lib.hid (T4.out.trans c5)
  have M5 := Lib.hid m5
  have hg5 : g < w5.heap.size := M5.out.dlt g (List.mem_cons_self ..)
  clear m5 c5 C4 tE
  have C5 := Lib.hid (mread_is 8 2 w5 M5.out)
  rw [mw_ref2, mw_rd] at C5
  go_wp2_with fail
  refine (C5.out).mono ?_; rintro e w6 ⟨⟨v6, rfl, o6⟩, b6⟩
  have D6 := Lib.hid (below_more D5.out b6)
  have T6 := Lib.hid (T5.out.trans (Chg.of_below b6 [g]))
  have M6 := Lib.hid (M5.out.below b6)
  have O6 := Lib.hid (show RA byE w6 v6 [5, 0] ∧ ∀ k, v6.ownBlock = some k → k ∉ [g] from ⟨o6.ra, fun k hk q => by
    have := (o6.lt k hk).1
    rw [List.mem_singleton.1 q] at this
    omega⟩)
  clear b6 o6 C5
  have C6 := Lib.hid (msetr_is 8 w6 M6.out)
  rw [mw_sr, if_pos rfl] at C6
  go_wp2_with fail
  refine (C6.out).mono ?_; rintro e w7 ⟨rfl, m7, c7⟩
  have D7 := Lib.hid (below_chg D6.out c7 HG.out)
  have T7 := Lib.hid (T6.out.trans c7)
  have M7 := Lib.hid m7
  have hs := run_strConv (ra_chg O6.out.1 c7 O6.out.2)
  rw [mw_str] at hs
  have cf7 : w7.cell? ⟨bf, of, none⟩ = some (.int .i64 8) := (World.cell?_of_block (T7.out.block bf hbf nf.out)).trans cf0
  clear m7 c7 C6 cf0
  have C7 := Lib.hid (mroot_is w7 M7.out)
  have C8 := Lib.hid (mfree_is 8 w7 M7.out)
  rw [mw_feq, mw_few, mw_feb] at C8
  go_wp2_with fail
  refine (C7.out).mono ?_; rintro e w8 ⟨rfl, rfl⟩
  go_wp2_with fail
  refine (C8.out).mono ?_; rintro e w9 ⟨rfl, m9, c9⟩
  have D9 := Lib.hid (below_chg D7.out c9 HG.out)
  have C9 := Lib.hid (mobl_is w9 m9)
  clear m9 c9
  go_wp2_with fail
  refine (C9.out).mono ?_; rintro e w10 ⟨⟨v10, rfl, o10⟩, b10⟩
  obtain ⟨p, c, rfl, _, _⟩ := o10.shape
  have D10 := Lib.hid (below_more D9.out b10)
  rw [show ml1.length = 2 from rfl]
  clear b10 o10
  go_wp2
  go_ret
  exact ⟨rfl, D10.out⟩
end Go.Proofs.Ytlhpcimbigfmkaa
