/-
  What every statement of the twenty-third layer asks besides: a script that every program must know.
-/
import Derived.Test.YtdnijdbhdlengaaCdi
import Derived.Deep.RegionHeld3
namespace Go.Proofs.Ytdnijdbhdlengaa
set_option maxRecDepth 100000
open Go.RowKit

def awB : List Int := [1, 8, 0, 0, 4, 8, 0, 2, 9, 9, 99, 0, 0, 0, 6]
theorem aw_dec : dec awB = [⟨1, 0, 8, 0, []⟩, ⟨4, 8, 0, 0, [9, 9]⟩] := by rfl
theorem aw_may1 : MayC ⟨1, 0, 8, 0, []⟩ := by unfold MayC; simp
theorem aw_may2 : MayC ⟨4, 8, 0, 0, [9, 9]⟩ := by unfold MayC; simp
theorem aw_str9 : strOfNums [9, 9] = ⟨#[9, 9]⟩ := by kernel_rfl
set_option maxHeartbeats 4000000 in
theorem awake_any (w : World) : Calls Try.prog 8 #[] w fun e w' => e = .returned (.bool true) ∧ Below w.heap.size w w' := by
  obtain ⟨W, hW⟩ : ∃ W, w.alloc (.cells (awB.map fun x => Value.int .u8 x).toArray 5) = W := ⟨_, rfl⟩
  have hsl : (bySlice 15 #[(0, .int .u8 1), (1, .int .u8 8), (2, .int .u8 0), (3, .int .u8 0), (4, .int .u8 4), (5, .int .u8 8), (6, .int .u8 0), (7, .int .u8 2), (8, .int .u8 9), (9, .int .u8 9), (10, .int .u8 99), (11, .int .u8 0), (12, .int .u8 0), (13, .int .u8 0), (14, .int .u8 6)]).run Try.prog w = .ok (.slice (some ⟨w.heap.size, 0, none⟩) 15 15) W := by
    rw [← hW]; exact built_by15 w 1 8 0 0 4 8 0 2 9 9 99 0 0 0 6
  have hby : ∀ x ∈ awB, By x := by unfold By; decide
  have O0 := own_lit_a byE w (l := awB) hby (by unfold maxLen awB; simp)
  have R0 : RA byE W (.slice (some ⟨w.heap.size, 0, none⟩) 15 15) awB := by
    have := O0.ra
    rw [← hW]
    exact this
  have HB := Lib.hid (show Below w.heap.size w W by rw [← hW]; exact bal (Below.refl _ _))
  have CD := Lib.hid (decode_is awB _ W R0 (by unfold awB; simp))
  clear hW hby O0 R0
  go_enter Try.func8, Try.ntmps8
  go_wp2_with fail
  refine (CD.out).mono ?_; rintro e w1 ⟨⟨u, L, rfl, hL, eL, hd⟩, b1⟩
  have B1 := Lib.hid (below_more HB.out b1)
  rw [aw_dec] at eL
  obtain ⟨x, y, rfl⟩ : ∃ x y, L = [x, y] := by
    have := congrArg List.length eL
    simp only [List.length_map, List.length_cons, List.length_nil] at this
    match L, this with
    | [x, y], _ => exact ⟨x, y, rfl⟩
  have e1 : toC x = ⟨1, 0, 8, 0, []⟩ := by simp only [List.map_cons, List.cons.injEq] at eL; exact eL.1
  have e2 : toC y = ⟨4, 8, 0, 0, [9, 9]⟩ := by simp only [List.map_cons, List.cons.injEq] at eL; exact eL.2.1
  have HRO := Lib.hid hL.ro
  have CE := Lib.hid (encode_is [x, y] u w1 hL.ro (by simp) (fun z hz => by have := hd z hz; omega) true ⟨fun _ z hz => by
    simp only [List.mem_cons, List.not_mem_nil, or_false] at hz
    rcases hz with rfl | rfl
    · rw [e1]; exact aw_may1
    · rw [e2]; exact aw_may2, fun _ => rfl⟩)
  have HEn : Hid ((encR true [x, y]).length = 10) := Lib.hid (by
    have : encR true [x, y] = opB (toC x) ++ (opB (toC y) ++ []) := rfl
    rw [this, e1, e2]; rfl)
  have HX := Lib.hid (And.intro e1 e2)
  obtain ⟨pu, cu, rfl, _⟩ := hL.row.shape
  rw [show ([x, y] : List Px).length = 2 from rfl] at HRO CE ⊢
  clear CD hL eL hd e1 e2 b1
  go_wp2_with fail
  refine (CE.out).mono ?_; rintro e w2 ⟨⟨u2, rfl, hu⟩, b2⟩
  have B2 := Lib.hid (below_more B1.out b2)
  have R2 := HRO.out.below b2
  obtain ⟨p2, c2, rfl, _⟩ := hu.shape
  rw [HEn.out]
  obtain ⟨q, off, rfl, _, hx⟩ := ro_at R2 (by simp)
  have hx0 := hx 0 (by simp)
  have hx1 := hx 1 (by simp)
  have g0 : ([x, y] : List Px).getD 0 default = x := rfl
  have g1 : ([x, y] : List Px).getD 1 default = y := rfl
  rw [g0] at hx0
  rw [g1] at hx1
  obtain ⟨d, o, n, m, v, bl⟩ := x
  obtain ⟨d2, o2, n2, m2, v2, bl2⟩ := y
  obtain ⟨ex, ey⟩ := HX.out
  simp only [toC, Cx.mk.injEq] at ex ey
  obtain ⟨rfl, rfl, rfl, rfl, rfl⟩ := ex
  obtain ⟨rfl, rfl, rfl, rfl, rfl⟩ := ey
  dsimp only at hx0 hx1
  obtain ⟨l0, a0, a1, a2, _, ra0⟩ := hx0
  obtain ⟨l1, b0, b1, b2', _, ra1⟩ := hx1
  obtain ⟨pv, cv, rfl, _⟩ := ra_shape ra0
  obtain ⟨pv2, cv2, rfl, _⟩ := ra_shape ra1
  have hs : (strConv (.slice pv2 2 cv2)).run Try.prog w2 = _ := run_strConv ra1
  rw [aw_str9] at hs
  have CM := Lib.hid (cmayop_is 1 0 8 0 pv cv [] w2 true ⟨fun _ => aw_may1, fun _ => rfl⟩)
  simp only [Nat.zero_mul, Nat.add_zero, Nat.one_mul] at l0 a0 a1 a2 l1 b0 b1 b2'
  clear hx g0 g1 hu b2 R2 ra0 ra1 CE
  go_wp2_with fail
  refine (CM.out).mono ?_; rintro e w3 ⟨rfl, b3⟩
  have B3 := Lib.hid (below_more B2.out b3)
  clear b3
  go_wp2_with fail
  go_ret
  exact ⟨rfl, B3.out⟩
end Go.Proofs.Ytdnijdbhdlengaa
