/-
  Of each kind, four bytes and what is written; what is more in its other fields cannot be encoded. No conditions.
-/
import Derived.Test.YtdnijdbhdlengaaCdm
import Derived.Test.YtdnijdbhdlengaaCdw
namespace Go.Proofs.Ytdnijdbhdlengaa.codeEach
set_option maxRecDepth 100000
open Go.Proofs.Ytdnijdbhdlengaa Go.ChangeShapes Go.WideShapes Go.ChangeAt Go.RowKit

set_option maxHeartbeats 4000000 in
theorem other (d o n m : Int) (p : Option Addr) (c : Nat) (bl : List Int) (x : Int) (w : World) (hv : RA byE w (.slice p bl.length c) bl) (hm : ¬ MayC ⟨d, o, n, m, bl⟩) :
    Calls Try.prog 6 #[.agg (pxc ⟨d, o, n, m, .slice p bl.length c, bl⟩), .int .i64 x] w fun e w' => e = .returned (.bool true) ∧ Below w.heap.size w w' := by
  obtain ⟨W, hW⟩ : ∃ W, w.alloc (.cells (pxc ⟨d, o, n, m, .slice p bl.length c, bl⟩) 26) = W := ⟨_, rfl⟩
  have V0 : Pxv W w.heap.size ⟨d, o, n, m, .slice p bl.length c, bl⟩ := by rw [← hW]; exact Pxv.new w _
  have B0 : Below w.heap.size w W := by rw [← hW]; exact bal (Below.refl _ _)
  have HB := Lib.hid B0
  have HV := Lib.hid V0
  have c4 := V0.c4
  have ld := V0.whole
  dsimp only at c4
  have C1 := Lib.hid (fun w => cmayop_is d o n m p c bl w false ⟨(fun h => nomatch h), fun h => absurd h hm⟩)
  have C2 := Lib.hid (fun (w' : World) (hw : Below w.heap.size w w') => rmayop_is d o n m p c bl w' (ra_below hv hw) false ⟨(fun h => nomatch h), fun h => absurd h hm⟩)
  clear V0 B0 hv hm
  by_cases h3 : 300 < bl.length
  · have i1 : (bl.length : Int) > 300 := by omega
    have i2 : 300 < bl.length := h3
    generalize bl.length = N at *
    have r0 : ∀ w' : World, Below W.heap.size W w' → (pxLoad (.pointer (some ⟨w.heap.size, 0, none⟩))).run Try.prog w' = .ok (.agg (pxc ⟨d, o, n, m, .slice p N c, bl⟩)) w' := fun w' hb => (HV.out.below hb).whole
    go_enter Try.func6, Try.ntmps6
    go_wp2
    go_region_held3 (fun w' => Below W.heap.size W w')
      (first | assumption | exact (Below.refl _ _).drew | exact below_more ‹Below W.heap.size W _› hbq)
      (first
        | (go_at_call 9; refine (C1.out _).mono ?_; rintro e wq ⟨rfl, hbq⟩)
        | (go_at_call 10; refine (C2.out _ (below_more HB.out (by assumption))).mono ?_; rintro e wq ⟨rfl, hbq⟩)
        | (go_at_call 8; refine (awake_any _).mono ?_; rintro e wq ⟨rfl, hbq⟩))
    have HB2 := Lib.hid (below_more HB.out ‹Below W.heap.size W wq›)
    go_wp2
    go_ret
    exact ⟨rfl, HB2.out⟩
  · have i1 : ¬ (bl.length : Int) > 300 := by omega
    generalize bl.length = N at *
    go_enter Try.func6, Try.ntmps6
    go_wp2_with fail
    refine (C2.out _ HB.out).mono ?_; rintro e w1 ⟨rfl, b1⟩
    have B1 := Lib.hid (below_more HB.out b1)
    have V1 := Lib.hid (HV.out.below b1)
    have r0 : ∀ w' : World, Below w1.heap.size w1 w' → (pxLoad (.pointer (some ⟨w.heap.size, 0, none⟩))).run Try.prog w' = .ok (.agg (pxc ⟨d, o, n, m, .slice p N c, bl⟩)) w' := fun w' hb => (V1.out.below hb).whole
    clear b1
    go_wp2
    go_region_held3 (fun w' => Below w1.heap.size w1 w')
      (first | assumption | exact (Below.refl _ _).drew | exact below_more ‹Below w1.heap.size w1 _› hbq)
      (first
        | (go_at_call 9; refine (C1.out _).mono ?_; rintro e wq ⟨rfl, hbq⟩)
        | (go_at_call 10; refine (C2.out _ (below_more B1.out (by assumption))).mono ?_; rintro e wq ⟨rfl, hbq⟩)
        | (go_at_call 8; refine (awake_any _).mono ?_; rintro e wq ⟨rfl, hbq⟩))
    have HB2 := Lib.hid (below_more B1.out ‹Below w1.heap.size w1 wq›)
    go_wp2
    go_ret
    exact ⟨rfl, HB2.out⟩
theorem tail_may {d o n m : Int} {bl : List Int} (h : MayC ⟨d, o, n, m, bl⟩) : (encR true [⟨d, o, n, m, .slice none 0 0, bl⟩]).length = 4 + bl.length := by
  have e : encR true [⟨d, o, n, m, .slice none 0 0, bl⟩] = opB ⟨d, o, n, m, bl⟩ ++ [] := rfl
  have e2 : opB ⟨d, o, n, m, bl⟩ = _ := if_pos h.kind
  rw [e, e2]; simp; omega
theorem off_not {d o n m : Int} {bl : List Int} (h : d = 1 ∨ d = 6 ∨ d = 7 ∨ d = 8) (ho : o ≠ 0) : ¬ MayC ⟨d, o, n, m, bl⟩ := by
  unfold MayC; dsimp only; omega
theorem mask_not {d o n m : Int} {bl : List Int} (h : d = 2 ∨ d = 3 ∨ d = 4 ∨ d = 5) (hm : m ≠ 0) : ¬ MayC ⟨d, o, n, m, bl⟩ := by
  unfold MayC; dsimp only; omega
theorem place100 (a : Int) : ∃ u K : Nat, IntKind.u64.wrap a = (u : Int) ∧ (u : Int).tmod 100 = (K : Int) ∧ IntKind.i64.wrap (K : Int) = (K : Int) ∧ IntKind.i64.wrap (1 + (K : Int)) = ((1 + K : Nat) : Int) ∧ K < 100 := by
  obtain ⟨u, hu, _⟩ := u64_nat a
  refine ⟨u, u % 100, hu, tmod_nat u 100, i64_nat _ (by omega), ?_, by omega⟩
  rw [show 1 + ((u % 100 : Nat) : Int) = ((1 + u % 100 : Nat) : Int) by omega]; exact i64_nat _ (by omega)
set_option maxHeartbeats 4000000 in
theorem kind1 (o n m : Int) (p : Option Addr) (c : Nat) (bl : List Int) (x : Int) (w : World) (hv : RA byE w (.slice p bl.length c) bl) (ho : (Lit.int .i64 o).wf = true) (hn : (Lit.int .i64 n).wf = true) (hk : (Lit.int .i64 m).wf = true) (hm : MayC ⟨1, o, n, m, bl⟩) :
    Calls Try.prog 6 #[.agg (pxc ⟨1, o, n, m, .slice p bl.length c, bl⟩), .int .i64 x] w fun e w' => e = .returned (.bool true) ∧ Below w.heap.size w w' := by
  obtain ⟨W, hW⟩ : ∃ W, w.alloc (.cells (pxc ⟨1, o, n, m, .slice p bl.length c, bl⟩) 26) = W := ⟨_, rfl⟩
  have V0 : Pxv W w.heap.size ⟨1, o, n, m, .slice p bl.length c, bl⟩ := by rw [← hW]; exact Pxv.new w _
  have B0 : Below w.heap.size w W := by rw [← hW]; exact bal (Below.refl _ _)
  have HB := Lib.hid B0
  have HV := Lib.hid V0
  have c4 := V0.c4
  have ld := V0.whole
  dsimp only at c4
  have C2 := Lib.hid (fun (w' : World) (hw : Below w.heap.size w w') => rmayop_is 1 o n m p c bl w' (ra_below hv hw) true ⟨fun _ => hm, fun _ => rfl⟩)
  have HR := Lib.hid (fun (w' : World) (hw : Below w.heap.size w w') => ra_below hv hw)
  have hb255 := hm.ranges.1
  dsimp only at hb255
  obtain ⟨u, K, t1, t2, t3, t4, _⟩ := place100 x
  obtain ⟨Z, hZ⟩ : ∃ Z, 1 + K = Z := ⟨_, rfl⟩
  rw [hZ] at t4
  have hno : ¬ MayC ⟨1, (Z : Int), n, m, bl⟩ := off_not (by omega) (by omega)
  have hwf : (Lit.int .i64 (Z : Int)).wf = true := i64_of (by omega) (by omega)
  have CM := Lib.hid (fun w => cmayop_is 1 (Z : Int) n m p c bl w false ⟨(fun h => nomatch h), fun h => absurd h hno⟩)
  have HT := Lib.hid (tail_may hm)
  have HN := Lib.hid hno
  have HM := Lib.hid hm
  have HWf := Lib.hid (And.intro ho (And.intro hn (And.intro hk hwf)))
  have i1 : ¬ (bl.length : Int) > 300 := by omega
  have t5 : IntKind.i64.wrap (4 + (bl.length : Int)) = ((4 + bl.length : Nat) : Int) := by rw [show 4 + (bl.length : Int) = ((4 + bl.length : Nat) : Int) by omega]; exact i64_nat _ (by omega)
  have HL := Lib.hid hb255
  clear V0 B0 hv hm hno hb255 hZ ho hn hk hwf
  obtain ⟨N, hN⟩ : ∃ N, bl.length = N := ⟨_, rfl⟩
  obtain ⟨F, hF⟩ : ∃ F, 4 + N = F := ⟨_, rfl⟩
  rw [hN] at HV c4 ld C2 HR CM HT i1 t5 HL hW ⊢
  rw [hF] at HT t5
  have HNN := Lib.hid hN
  clear hN
  go_enter Try.func6, Try.ntmps6
  go_wp2_with fail
  refine (C2.out _ HB.out).mono ?_; rintro e w1 ⟨rfl, b1⟩
  have B1 := Lib.hid (below_more HB.out b1)
  have V1 := HV.out.below b1
  have ld1 := V1.whole
  have c0 := V1.c0
  dsimp only at c0
  obtain ⟨W2, hW2⟩ : ∃ W2, w1.alloc (.cells (pxc ⟨1, o, n, m, .slice p N c, bl⟩) 26) = W2 := ⟨_, rfl⟩
  have hsl : (opSlice 1 #[(0, .agg (pxc ⟨1, o, n, m, .slice p N c, bl⟩))]).run Try.prog w1 = .ok (.slice (some ⟨w1.heap.size, 0, none⟩) 1 1) W2 := by
    rw [← hW2]
    exact run_opSlice1 w1 ⟨1, o, n, m, .slice p N c, bl⟩ (HR.out w1 B1.out)
  have b2 : Below w1.heap.size w1 W2 := by rw [← hW2]; exact bal (Below.refl _ _)
  have B2 := Lib.hid (below_more B1.out b2)
  have R2 : RO W2 (.slice (some ⟨w1.heap.size, 0, none⟩) 1 1) [⟨1, o, n, m, .slice p N c, bl⟩] := ⟨by rw [← hW2]; exact (op_one w1 (x := ⟨1, o, n, m, .slice p N c, bl⟩) ⟨rfl, HWf.out.1, HWf.out.2.1, HWf.out.2.2.1, rfl⟩).ra, OpD.one (HR.out _ B2.out)⟩
  have CE := Lib.hid (encode_is [⟨1, o, n, m, .slice p N c, bl⟩] _ W2 R2 (by simp) (fun x hx => by rw [List.mem_singleton.1 hx]; show bl.length ≤ 4000; have := HNN.out; have := HL.out; omega) true ⟨fun _ x hx => by rw [List.mem_singleton.1 hx]; exact HM.out, fun _ => rfl⟩)
  have V2 := Lib.hid (V1.below b2)
  clear b1 b2 R2 V1
  go_wp2_with fail
  refine (CE.out).mono ?_; rintro e w3 ⟨⟨u3, rfl, hu3⟩, b3⟩
  have B3 := Lib.hid (below_more B2.out b3)
  have V3 := V2.out.below b3
  have HV3 := Lib.hid V3
  have ld3 := V3.whole
  have c03 := V3.c0
  have c43 := V3.c4
  dsimp only at c03 c43
  obtain ⟨p3, c3, rfl, _⟩ := hu3.shape
  have hlen3 : (encR true [⟨1, o, n, m, .slice p N c, bl⟩]).length = F := HT.out
  rw [hlen3]
  obtain ⟨W4, hW4, hst, HW4⟩ := px_boxed w3 ⟨1, o, n, m, .slice p N c, bl⟩ rfl
  have V4 := HV3.out.below HW4.out.2
  have c04 := V4.c0
  have c44 := V4.c4
  dsimp only at c04 c44
  have z4 := HW4.out.1.c1
  have zf := HW4.out.1.free 1
  dsimp only at z4
  have A5 := HW4.out.1.seto (Z : Int)
  have hC5 := (Chg.refl [w3.heap.size] W4).setCell (p := ⟨w3.heap.size, 1, none⟩) (.inl (by simp)) (.int .i64 (Z : Int))
  obtain ⟨W5, hW5⟩ : ∃ W5, W4.setCell ⟨w3.heap.size, 1, none⟩ (.int .i64 (Z : Int)) = W5 := ⟨_, rfl⟩
  rw [hW5] at A5 hC5
  have B4 := below_more B3.out HW4.out.2
  have B5 := Lib.hid (hC5.below B4 B4.size (fun g hg => by rw [List.mem_singleton.1 hg]; exact B3.out.size))
  have V5 := V4.chg hC5 (by have := HV3.out.lt; simp; omega)
  have HV5 := Lib.hid V5
  have HA5 := Lib.hid A5
  have ld5 := A5.whole
  obtain ⟨W6, hW6⟩ : ∃ W6, W5.alloc (.cells (pxc ⟨1, (Z : Int), n, m, .slice p N c, bl⟩) 26) = W6 := ⟨_, rfl⟩
  have hsl5 : (opSlice 1 #[(0, .agg (pxc ⟨1, (Z : Int), n, m, .slice p N c, bl⟩))]).run Try.prog W5 = .ok (.slice (some ⟨W5.heap.size, 0, none⟩) 1 1) W6 := by
    rw [← hW6]
    exact run_opSlice1 W5 ⟨1, (Z : Int), n, m, .slice p N c, bl⟩ (HR.out W5 B5.out)
  have b6 : Below W5.heap.size W5 W6 := by rw [← hW6]; exact bal (Below.refl _ _)
  have B6 := Lib.hid (below_more B5.out b6)
  have R6 : RO W6 (.slice (some ⟨W5.heap.size, 0, none⟩) 1 1) [⟨1, (Z : Int), n, m, .slice p N c, bl⟩] := ⟨by rw [← hW6]; exact (op_one W5 (x := ⟨1, (Z : Int), n, m, .slice p N c, bl⟩) (by have := HWf.out; constructor <;> first | exact this.1 | exact this.2.1 | exact this.2.2.1 | exact this.2.2.2 | rfl)).ra, OpD.one (HR.out _ B6.out)⟩
  have CE6 := Lib.hid (encode_is [⟨1, (Z : Int), n, m, .slice p N c, bl⟩] _ W6 R6 (by simp) (fun x hx => by rw [List.mem_singleton.1 hx]; show bl.length ≤ 4000; have := HNN.out; have := HL.out; omega) false ⟨(fun h => nomatch h), fun h => absurd (h _ (List.mem_singleton.2 rfl)) HN.out⟩)
  have V6 := Lib.hid (HV5.out.below b6)
  have A6 := Lib.hid (HA5.out.below b6)
  have hst5 := hW5
  clear R6 b6 V4 V5 A5 hC5 B4 V3 hu3 b3 hlen3 ld1 c0 ld c4
  go_wp2_with fail
  refine (CE6.out).mono ?_; rintro e w7 ⟨⟨u7, rfl, hu7⟩, b7⟩
  have B7 := Lib.hid (below_more B6.out b7)
  have c47 := (V6.out.below b7).c4
  have ld7 := (A6.out.below b7).whole
  dsimp only at c47
  obtain ⟨p7, c7, rfl, _⟩ := hu7.shape
  clear b7 hu7
  go_wp2_with fail
  refine (CM.out _).mono ?_; rintro e w8 ⟨rfl, b8⟩
  have B8 := Lib.hid (below_more B7.out b8)
  clear b8
  go_wp2_with fail
  refine (awake_any _).mono ?_; rintro e w9 ⟨rfl, hb⟩
  have HS := Lib.hid (below_more B8.out hb)
  clear hb
  go_wp2_with fail
  go_ret
  exact ⟨rfl, HS.out⟩
set_option maxHeartbeats 4000000 in
theorem kind2 (o n m : Int) (p : Option Addr) (c : Nat) (bl : List Int) (x : Int) (w : World) (hv : RA byE w (.slice p bl.length c) bl) (ho : (Lit.int .i64 o).wf = true) (hn : (Lit.int .i64 n).wf = true) (hk : (Lit.int .i64 m).wf = true) (hm : MayC ⟨2, o, n, m, bl⟩) :
    Calls Try.prog 6 #[.agg (pxc ⟨2, o, n, m, .slice p bl.length c, bl⟩), .int .i64 x] w fun e w' => e = .returned (.bool true) ∧ Below w.heap.size w w' := by
  obtain ⟨W, hW⟩ : ∃ W, w.alloc (.cells (pxc ⟨2, o, n, m, .slice p bl.length c, bl⟩) 26) = W := ⟨_, rfl⟩
  have V0 : Pxv W w.heap.size ⟨2, o, n, m, .slice p bl.length c, bl⟩ := by rw [← hW]; exact Pxv.new w _
  have B0 : Below w.heap.size w W := by rw [← hW]; exact bal (Below.refl _ _)
  have HB := Lib.hid B0
  have HV := Lib.hid V0
  have c4 := V0.c4
  have ld := V0.whole
  dsimp only at c4
  have C2 := Lib.hid (fun (w' : World) (hw : Below w.heap.size w w') => rmayop_is 2 o n m p c bl w' (ra_below hv hw) true ⟨fun _ => hm, fun _ => rfl⟩)
  have HR := Lib.hid (fun (w' : World) (hw : Below w.heap.size w w') => ra_below hv hw)
  have hb255 := hm.ranges.1
  dsimp only at hb255
  obtain ⟨u, K, t1, t2, t3, t4, _⟩ := place100 x
  obtain ⟨Z, hZ⟩ : ∃ Z, 1 + K = Z := ⟨_, rfl⟩
  rw [hZ] at t4
  have hno : ¬ MayC ⟨2, o, n, (Z : Int), bl⟩ := mask_not (by omega) (by omega)
  have hwf : (Lit.int .i64 (Z : Int)).wf = true := i64_of (by omega) (by omega)
  have CM := Lib.hid (fun w => cmayop_is 2 o n (Z : Int) p c bl w false ⟨(fun h => nomatch h), fun h => absurd h hno⟩)
  have HT := Lib.hid (tail_may hm)
  have HN := Lib.hid hno
  have HM := Lib.hid hm
  have HWf := Lib.hid (And.intro ho (And.intro hn (And.intro hk hwf)))
  have i1 : ¬ (bl.length : Int) > 300 := by omega
  have t5 : IntKind.i64.wrap (4 + (bl.length : Int)) = ((4 + bl.length : Nat) : Int) := by rw [show 4 + (bl.length : Int) = ((4 + bl.length : Nat) : Int) by omega]; exact i64_nat _ (by omega)
  have HL := Lib.hid hb255
  clear V0 B0 hv hm hno hb255 hZ ho hn hk hwf
  obtain ⟨N, hN⟩ : ∃ N, bl.length = N := ⟨_, rfl⟩
  obtain ⟨F, hF⟩ : ∃ F, 4 + N = F := ⟨_, rfl⟩
  rw [hN] at HV c4 ld C2 HR CM HT i1 t5 HL hW ⊢
  rw [hF] at HT t5
  have HNN := Lib.hid hN
  clear hN
  go_enter Try.func6, Try.ntmps6
  go_wp2_with fail
  refine (C2.out _ HB.out).mono ?_; rintro e w1 ⟨rfl, b1⟩
  have B1 := Lib.hid (below_more HB.out b1)
  have V1 := HV.out.below b1
  have ld1 := V1.whole
  have c0 := V1.c0
  dsimp only at c0
  obtain ⟨W2, hW2⟩ : ∃ W2, w1.alloc (.cells (pxc ⟨2, o, n, m, .slice p N c, bl⟩) 26) = W2 := ⟨_, rfl⟩
  have hsl : (opSlice 1 #[(0, .agg (pxc ⟨2, o, n, m, .slice p N c, bl⟩))]).run Try.prog w1 = .ok (.slice (some ⟨w1.heap.size, 0, none⟩) 1 1) W2 := by
    rw [← hW2]
    exact run_opSlice1 w1 ⟨2, o, n, m, .slice p N c, bl⟩ (HR.out w1 B1.out)
  have b2 : Below w1.heap.size w1 W2 := by rw [← hW2]; exact bal (Below.refl _ _)
  have B2 := Lib.hid (below_more B1.out b2)
  have R2 : RO W2 (.slice (some ⟨w1.heap.size, 0, none⟩) 1 1) [⟨2, o, n, m, .slice p N c, bl⟩] := ⟨by rw [← hW2]; exact (op_one w1 (x := ⟨2, o, n, m, .slice p N c, bl⟩) ⟨rfl, HWf.out.1, HWf.out.2.1, HWf.out.2.2.1, rfl⟩).ra, OpD.one (HR.out _ B2.out)⟩
  have CE := Lib.hid (encode_is [⟨2, o, n, m, .slice p N c, bl⟩] _ W2 R2 (by simp) (fun x hx => by rw [List.mem_singleton.1 hx]; show bl.length ≤ 4000; have := HNN.out; have := HL.out; omega) true ⟨fun _ x hx => by rw [List.mem_singleton.1 hx]; exact HM.out, fun _ => rfl⟩)
  have V2 := Lib.hid (V1.below b2)
  clear b1 b2 R2 V1
  go_wp2_with fail
  refine (CE.out).mono ?_; rintro e w3 ⟨⟨u3, rfl, hu3⟩, b3⟩
  have B3 := Lib.hid (below_more B2.out b3)
  have V3 := V2.out.below b3
  have HV3 := Lib.hid V3
  have ld3 := V3.whole
  have c03 := V3.c0
  have c43 := V3.c4
  dsimp only at c03 c43
  obtain ⟨p3, c3, rfl, _⟩ := hu3.shape
  have hlen3 : (encR true [⟨2, o, n, m, .slice p N c, bl⟩]).length = F := HT.out
  rw [hlen3]
  obtain ⟨W4, hW4, hst, HW4⟩ := px_boxed w3 ⟨2, o, n, m, .slice p N c, bl⟩ rfl
  have V4 := HV3.out.below HW4.out.2
  have c04 := V4.c0
  have c44 := V4.c4
  dsimp only at c04 c44
  have z4 := HW4.out.1.c3
  have zf := HW4.out.1.free 3
  dsimp only at z4
  have A5 := HW4.out.1.setm (Z : Int)
  have hC5 := (Chg.refl [w3.heap.size] W4).setCell (p := ⟨w3.heap.size, 3, none⟩) (.inl (by simp)) (.int .i64 (Z : Int))
  obtain ⟨W5, hW5⟩ : ∃ W5, W4.setCell ⟨w3.heap.size, 3, none⟩ (.int .i64 (Z : Int)) = W5 := ⟨_, rfl⟩
  rw [hW5] at A5 hC5
  have B4 := below_more B3.out HW4.out.2
  have B5 := Lib.hid (hC5.below B4 B4.size (fun g hg => by rw [List.mem_singleton.1 hg]; exact B3.out.size))
  have V5 := V4.chg hC5 (by have := HV3.out.lt; simp; omega)
  have HV5 := Lib.hid V5
  have HA5 := Lib.hid A5
  have ld5 := A5.whole
  obtain ⟨W6, hW6⟩ : ∃ W6, W5.alloc (.cells (pxc ⟨2, o, n, (Z : Int), .slice p N c, bl⟩) 26) = W6 := ⟨_, rfl⟩
  have hsl5 : (opSlice 1 #[(0, .agg (pxc ⟨2, o, n, (Z : Int), .slice p N c, bl⟩))]).run Try.prog W5 = .ok (.slice (some ⟨W5.heap.size, 0, none⟩) 1 1) W6 := by
    rw [← hW6]
    exact run_opSlice1 W5 ⟨2, o, n, (Z : Int), .slice p N c, bl⟩ (HR.out W5 B5.out)
  have b6 : Below W5.heap.size W5 W6 := by rw [← hW6]; exact bal (Below.refl _ _)
  have B6 := Lib.hid (below_more B5.out b6)
  have R6 : RO W6 (.slice (some ⟨W5.heap.size, 0, none⟩) 1 1) [⟨2, o, n, (Z : Int), .slice p N c, bl⟩] := ⟨by rw [← hW6]; exact (op_one W5 (x := ⟨2, o, n, (Z : Int), .slice p N c, bl⟩) (by have := HWf.out; constructor <;> first | exact this.1 | exact this.2.1 | exact this.2.2.1 | exact this.2.2.2 | rfl)).ra, OpD.one (HR.out _ B6.out)⟩
  have CE6 := Lib.hid (encode_is [⟨2, o, n, (Z : Int), .slice p N c, bl⟩] _ W6 R6 (by simp) (fun x hx => by rw [List.mem_singleton.1 hx]; show bl.length ≤ 4000; have := HNN.out; have := HL.out; omega) false ⟨(fun h => nomatch h), fun h => absurd (h _ (List.mem_singleton.2 rfl)) HN.out⟩)
  have V6 := Lib.hid (HV5.out.below b6)
  have A6 := Lib.hid (HA5.out.below b6)
  have hst5 := hW5
  clear R6 b6 V4 V5 A5 hC5 B4 V3 hu3 b3 hlen3 ld1 c0 ld c4
  go_wp2_with fail
  refine (CE6.out).mono ?_; rintro e w7 ⟨⟨u7, rfl, hu7⟩, b7⟩
  have B7 := Lib.hid (below_more B6.out b7)
  have c47 := (V6.out.below b7).c4
  have ld7 := (A6.out.below b7).whole
  dsimp only at c47
  obtain ⟨p7, c7, rfl, _⟩ := hu7.shape
  clear b7 hu7
  go_wp2_with fail
  refine (CM.out _).mono ?_; rintro e w8 ⟨rfl, b8⟩
  have B8 := Lib.hid (below_more B7.out b8)
  clear b8
  go_wp2_with fail
  refine (awake_any _).mono ?_; rintro e w9 ⟨rfl, hb⟩
  have HS := Lib.hid (below_more B8.out hb)
  clear hb
  go_wp2_with fail
  go_ret
  exact ⟨rfl, HS.out⟩
set_option maxHeartbeats 4000000 in
theorem kind3 (o n m : Int) (p : Option Addr) (c : Nat) (bl : List Int) (x : Int) (w : World) (hv : RA byE w (.slice p bl.length c) bl) (ho : (Lit.int .i64 o).wf = true) (hn : (Lit.int .i64 n).wf = true) (hk : (Lit.int .i64 m).wf = true) (hm : MayC ⟨3, o, n, m, bl⟩) :
    Calls Try.prog 6 #[.agg (pxc ⟨3, o, n, m, .slice p bl.length c, bl⟩), .int .i64 x] w fun e w' => e = .returned (.bool true) ∧ Below w.heap.size w w' := by
  obtain ⟨W, hW⟩ : ∃ W, w.alloc (.cells (pxc ⟨3, o, n, m, .slice p bl.length c, bl⟩) 26) = W := ⟨_, rfl⟩
  have V0 : Pxv W w.heap.size ⟨3, o, n, m, .slice p bl.length c, bl⟩ := by rw [← hW]; exact Pxv.new w _
  have B0 : Below w.heap.size w W := by rw [← hW]; exact bal (Below.refl _ _)
  have HB := Lib.hid B0
  have HV := Lib.hid V0
  have c4 := V0.c4
  have ld := V0.whole
  dsimp only at c4
  have C2 := Lib.hid (fun (w' : World) (hw : Below w.heap.size w w') => rmayop_is 3 o n m p c bl w' (ra_below hv hw) true ⟨fun _ => hm, fun _ => rfl⟩)
  have HR := Lib.hid (fun (w' : World) (hw : Below w.heap.size w w') => ra_below hv hw)
  have hb255 := hm.ranges.1
  dsimp only at hb255
  obtain ⟨u, K, t1, t2, t3, t4, _⟩ := place100 x
  obtain ⟨Z, hZ⟩ : ∃ Z, 1 + K = Z := ⟨_, rfl⟩
  rw [hZ] at t4
  have hno : ¬ MayC ⟨3, o, n, (Z : Int), bl⟩ := mask_not (by omega) (by omega)
  have hwf : (Lit.int .i64 (Z : Int)).wf = true := i64_of (by omega) (by omega)
  have CM := Lib.hid (fun w => cmayop_is 3 o n (Z : Int) p c bl w false ⟨(fun h => nomatch h), fun h => absurd h hno⟩)
  have HT := Lib.hid (tail_may hm)
  have HN := Lib.hid hno
  have HM := Lib.hid hm
  have HWf := Lib.hid (And.intro ho (And.intro hn (And.intro hk hwf)))
  have i1 : ¬ (bl.length : Int) > 300 := by omega
  have t5 : IntKind.i64.wrap (4 + (bl.length : Int)) = ((4 + bl.length : Nat) : Int) := by rw [show 4 + (bl.length : Int) = ((4 + bl.length : Nat) : Int) by omega]; exact i64_nat _ (by omega)
  have HL := Lib.hid hb255
  clear V0 B0 hv hm hno hb255 hZ ho hn hk hwf
  obtain ⟨N, hN⟩ : ∃ N, bl.length = N := ⟨_, rfl⟩
  obtain ⟨F, hF⟩ : ∃ F, 4 + N = F := ⟨_, rfl⟩
  rw [hN] at HV c4 ld C2 HR CM HT i1 t5 HL hW ⊢
  rw [hF] at HT t5
  have HNN := Lib.hid hN
  clear hN
  go_enter Try.func6, Try.ntmps6
  go_wp2_with fail
  refine (C2.out _ HB.out).mono ?_; rintro e w1 ⟨rfl, b1⟩
  have B1 := Lib.hid (below_more HB.out b1)
  have V1 := HV.out.below b1
  have ld1 := V1.whole
  have c0 := V1.c0
  dsimp only at c0
  obtain ⟨W2, hW2⟩ : ∃ W2, w1.alloc (.cells (pxc ⟨3, o, n, m, .slice p N c, bl⟩) 26) = W2 := ⟨_, rfl⟩
  have hsl : (opSlice 1 #[(0, .agg (pxc ⟨3, o, n, m, .slice p N c, bl⟩))]).run Try.prog w1 = .ok (.slice (some ⟨w1.heap.size, 0, none⟩) 1 1) W2 := by
    rw [← hW2]
    exact run_opSlice1 w1 ⟨3, o, n, m, .slice p N c, bl⟩ (HR.out w1 B1.out)
  have b2 : Below w1.heap.size w1 W2 := by rw [← hW2]; exact bal (Below.refl _ _)
  have B2 := Lib.hid (below_more B1.out b2)
  have R2 : RO W2 (.slice (some ⟨w1.heap.size, 0, none⟩) 1 1) [⟨3, o, n, m, .slice p N c, bl⟩] := ⟨by rw [← hW2]; exact (op_one w1 (x := ⟨3, o, n, m, .slice p N c, bl⟩) ⟨rfl, HWf.out.1, HWf.out.2.1, HWf.out.2.2.1, rfl⟩).ra, OpD.one (HR.out _ B2.out)⟩
  have CE := Lib.hid (encode_is [⟨3, o, n, m, .slice p N c, bl⟩] _ W2 R2 (by simp) (fun x hx => by rw [List.mem_singleton.1 hx]; show bl.length ≤ 4000; have := HNN.out; have := HL.out; omega) true ⟨fun _ x hx => by rw [List.mem_singleton.1 hx]; exact HM.out, fun _ => rfl⟩)
  have V2 := Lib.hid (V1.below b2)
  clear b1 b2 R2 V1
  go_wp2_with fail
  refine (CE.out).mono ?_; rintro e w3 ⟨⟨u3, rfl, hu3⟩, b3⟩
  have B3 := Lib.hid (below_more B2.out b3)
  have V3 := V2.out.below b3
  have HV3 := Lib.hid V3
  have ld3 := V3.whole
  have c03 := V3.c0
  have c43 := V3.c4
  dsimp only at c03 c43
  obtain ⟨p3, c3, rfl, _⟩ := hu3.shape
  have hlen3 : (encR true [⟨3, o, n, m, .slice p N c, bl⟩]).length = F := HT.out
  rw [hlen3]
  obtain ⟨W4, hW4, hst, HW4⟩ := px_boxed w3 ⟨3, o, n, m, .slice p N c, bl⟩ rfl
  have V4 := HV3.out.below HW4.out.2
  have c04 := V4.c0
  have c44 := V4.c4
  dsimp only at c04 c44
  have z4 := HW4.out.1.c3
  have zf := HW4.out.1.free 3
  dsimp only at z4
  have A5 := HW4.out.1.setm (Z : Int)
  have hC5 := (Chg.refl [w3.heap.size] W4).setCell (p := ⟨w3.heap.size, 3, none⟩) (.inl (by simp)) (.int .i64 (Z : Int))
  obtain ⟨W5, hW5⟩ : ∃ W5, W4.setCell ⟨w3.heap.size, 3, none⟩ (.int .i64 (Z : Int)) = W5 := ⟨_, rfl⟩
  rw [hW5] at A5 hC5
  have B4 := below_more B3.out HW4.out.2
  have B5 := Lib.hid (hC5.below B4 B4.size (fun g hg => by rw [List.mem_singleton.1 hg]; exact B3.out.size))
  have V5 := V4.chg hC5 (by have := HV3.out.lt; simp; omega)
  have HV5 := Lib.hid V5
  have HA5 := Lib.hid A5
  have ld5 := A5.whole
  obtain ⟨W6, hW6⟩ : ∃ W6, W5.alloc (.cells (pxc ⟨3, o, n, (Z : Int), .slice p N c, bl⟩) 26) = W6 := ⟨_, rfl⟩
  have hsl5 : (opSlice 1 #[(0, .agg (pxc ⟨3, o, n, (Z : Int), .slice p N c, bl⟩))]).run Try.prog W5 = .ok (.slice (some ⟨W5.heap.size, 0, none⟩) 1 1) W6 := by
    rw [← hW6]
    exact run_opSlice1 W5 ⟨3, o, n, (Z : Int), .slice p N c, bl⟩ (HR.out W5 B5.out)
  have b6 : Below W5.heap.size W5 W6 := by rw [← hW6]; exact bal (Below.refl _ _)
  have B6 := Lib.hid (below_more B5.out b6)
  have R6 : RO W6 (.slice (some ⟨W5.heap.size, 0, none⟩) 1 1) [⟨3, o, n, (Z : Int), .slice p N c, bl⟩] := ⟨by rw [← hW6]; exact (op_one W5 (x := ⟨3, o, n, (Z : Int), .slice p N c, bl⟩) (by have := HWf.out; constructor <;> first | exact this.1 | exact this.2.1 | exact this.2.2.1 | exact this.2.2.2 | rfl)).ra, OpD.one (HR.out _ B6.out)⟩
  have CE6 := Lib.hid (encode_is [⟨3, o, n, (Z : Int), .slice p N c, bl⟩] _ W6 R6 (by simp) (fun x hx => by rw [List.mem_singleton.1 hx]; show bl.length ≤ 4000; have := HNN.out; have := HL.out; omega) false ⟨(fun h => nomatch h), fun h => absurd (h _ (List.mem_singleton.2 rfl)) HN.out⟩)
  have V6 := Lib.hid (HV5.out.below b6)
  have A6 := Lib.hid (HA5.out.below b6)
  have hst5 := hW5
  clear R6 b6 V4 V5 A5 hC5 B4 V3 hu3 b3 hlen3 ld1 c0 ld c4
  go_wp2_with fail
  refine (CE6.out).mono ?_; rintro e w7 ⟨⟨u7, rfl, hu7⟩, b7⟩
  have B7 := Lib.hid (below_more B6.out b7)
  have c47 := (V6.out.below b7).c4
  have ld7 := (A6.out.below b7).whole
  dsimp only at c47
  obtain ⟨p7, c7, rfl, _⟩ := hu7.shape
  clear b7 hu7
  go_wp2_with fail
  refine (CM.out _).mono ?_; rintro e w8 ⟨rfl, b8⟩
  have B8 := Lib.hid (below_more B7.out b8)
  clear b8
  go_wp2_with fail
  refine (awake_any _).mono ?_; rintro e w9 ⟨rfl, hb⟩
  have HS := Lib.hid (below_more B8.out hb)
  clear hb
  go_wp2_with fail
  go_ret
  exact ⟨rfl, HS.out⟩
set_option maxHeartbeats 4000000 in
theorem kind4 (o n m : Int) (p : Option Addr) (c : Nat) (bl : List Int) (x : Int) (w : World) (hv : RA byE w (.slice p bl.length c) bl) (ho : (Lit.int .i64 o).wf = true) (hn : (Lit.int .i64 n).wf = true) (hk : (Lit.int .i64 m).wf = true) (hm : MayC ⟨4, o, n, m, bl⟩) :
    Calls Try.prog 6 #[.agg (pxc ⟨4, o, n, m, .slice p bl.length c, bl⟩), .int .i64 x] w fun e w' => e = .returned (.bool true) ∧ Below w.heap.size w w' := by
  obtain ⟨W, hW⟩ : ∃ W, w.alloc (.cells (pxc ⟨4, o, n, m, .slice p bl.length c, bl⟩) 26) = W := ⟨_, rfl⟩
  have V0 : Pxv W w.heap.size ⟨4, o, n, m, .slice p bl.length c, bl⟩ := by rw [← hW]; exact Pxv.new w _
  have B0 : Below w.heap.size w W := by rw [← hW]; exact bal (Below.refl _ _)
  have HB := Lib.hid B0
  have HV := Lib.hid V0
  have c4 := V0.c4
  have ld := V0.whole
  dsimp only at c4
  have C2 := Lib.hid (fun (w' : World) (hw : Below w.heap.size w w') => rmayop_is 4 o n m p c bl w' (ra_below hv hw) true ⟨fun _ => hm, fun _ => rfl⟩)
  have HR := Lib.hid (fun (w' : World) (hw : Below w.heap.size w w') => ra_below hv hw)
  have hb255 := hm.ranges.1
  dsimp only at hb255
  obtain ⟨u, K, t1, t2, t3, t4, _⟩ := place100 x
  obtain ⟨Z, hZ⟩ : ∃ Z, 1 + K = Z := ⟨_, rfl⟩
  rw [hZ] at t4
  have hno : ¬ MayC ⟨4, o, n, (Z : Int), bl⟩ := mask_not (by omega) (by omega)
  have hwf : (Lit.int .i64 (Z : Int)).wf = true := i64_of (by omega) (by omega)
  have CM := Lib.hid (fun w => cmayop_is 4 o n (Z : Int) p c bl w false ⟨(fun h => nomatch h), fun h => absurd h hno⟩)
  have HT := Lib.hid (tail_may hm)
  have HN := Lib.hid hno
  have HM := Lib.hid hm
  have HWf := Lib.hid (And.intro ho (And.intro hn (And.intro hk hwf)))
  have i1 : ¬ (bl.length : Int) > 300 := by omega
  have t5 : IntKind.i64.wrap (4 + (bl.length : Int)) = ((4 + bl.length : Nat) : Int) := by rw [show 4 + (bl.length : Int) = ((4 + bl.length : Nat) : Int) by omega]; exact i64_nat _ (by omega)
  have HL := Lib.hid hb255
  clear V0 B0 hv hm hno hb255 hZ ho hn hk hwf
  obtain ⟨N, hN⟩ : ∃ N, bl.length = N := ⟨_, rfl⟩
  obtain ⟨F, hF⟩ : ∃ F, 4 + N = F := ⟨_, rfl⟩
  rw [hN] at HV c4 ld C2 HR CM HT i1 t5 HL hW ⊢
  rw [hF] at HT t5
  have HNN := Lib.hid hN
  clear hN
  go_enter Try.func6, Try.ntmps6
  go_wp2_with fail
  refine (C2.out _ HB.out).mono ?_; rintro e w1 ⟨rfl, b1⟩
  have B1 := Lib.hid (below_more HB.out b1)
  have V1 := HV.out.below b1
  have ld1 := V1.whole
  have c0 := V1.c0
  dsimp only at c0
  obtain ⟨W2, hW2⟩ : ∃ W2, w1.alloc (.cells (pxc ⟨4, o, n, m, .slice p N c, bl⟩) 26) = W2 := ⟨_, rfl⟩
  have hsl : (opSlice 1 #[(0, .agg (pxc ⟨4, o, n, m, .slice p N c, bl⟩))]).run Try.prog w1 = .ok (.slice (some ⟨w1.heap.size, 0, none⟩) 1 1) W2 := by
    rw [← hW2]
    exact run_opSlice1 w1 ⟨4, o, n, m, .slice p N c, bl⟩ (HR.out w1 B1.out)
  have b2 : Below w1.heap.size w1 W2 := by rw [← hW2]; exact bal (Below.refl _ _)
  have B2 := Lib.hid (below_more B1.out b2)
  have R2 : RO W2 (.slice (some ⟨w1.heap.size, 0, none⟩) 1 1) [⟨4, o, n, m, .slice p N c, bl⟩] := ⟨by rw [← hW2]; exact (op_one w1 (x := ⟨4, o, n, m, .slice p N c, bl⟩) ⟨rfl, HWf.out.1, HWf.out.2.1, HWf.out.2.2.1, rfl⟩).ra, OpD.one (HR.out _ B2.out)⟩
  have CE := Lib.hid (encode_is [⟨4, o, n, m, .slice p N c, bl⟩] _ W2 R2 (by simp) (fun x hx => by rw [List.mem_singleton.1 hx]; show bl.length ≤ 4000; have := HNN.out; have := HL.out; omega) true ⟨fun _ x hx => by rw [List.mem_singleton.1 hx]; exact HM.out, fun _ => rfl⟩)
  have V2 := Lib.hid (V1.below b2)
  clear b1 b2 R2 V1
  go_wp2_with fail
  refine (CE.out).mono ?_; rintro e w3 ⟨⟨u3, rfl, hu3⟩, b3⟩
  have B3 := Lib.hid (below_more B2.out b3)
  have V3 := V2.out.below b3
  have HV3 := Lib.hid V3
  have ld3 := V3.whole
  have c03 := V3.c0
  have c43 := V3.c4
  dsimp only at c03 c43
  obtain ⟨p3, c3, rfl, _⟩ := hu3.shape
  have hlen3 : (encR true [⟨4, o, n, m, .slice p N c, bl⟩]).length = F := HT.out
  rw [hlen3]
  obtain ⟨W4, hW4, hst, HW4⟩ := px_boxed w3 ⟨4, o, n, m, .slice p N c, bl⟩ rfl
  have V4 := HV3.out.below HW4.out.2
  have c04 := V4.c0
  have c44 := V4.c4
  dsimp only at c04 c44
  have z4 := HW4.out.1.c3
  have zf := HW4.out.1.free 3
  dsimp only at z4
  have A5 := HW4.out.1.setm (Z : Int)
  have hC5 := (Chg.refl [w3.heap.size] W4).setCell (p := ⟨w3.heap.size, 3, none⟩) (.inl (by simp)) (.int .i64 (Z : Int))
  obtain ⟨W5, hW5⟩ : ∃ W5, W4.setCell ⟨w3.heap.size, 3, none⟩ (.int .i64 (Z : Int)) = W5 := ⟨_, rfl⟩
  rw [hW5] at A5 hC5
  have B4 := below_more B3.out HW4.out.2
  have B5 := Lib.hid (hC5.below B4 B4.size (fun g hg => by rw [List.mem_singleton.1 hg]; exact B3.out.size))
  have V5 := V4.chg hC5 (by have := HV3.out.lt; simp; omega)
  have HV5 := Lib.hid V5
  have HA5 := Lib.hid A5
  have ld5 := A5.whole
  obtain ⟨W6, hW6⟩ : ∃ W6, W5.alloc (.cells (pxc ⟨4, o, n, (Z : Int), .slice p N c, bl⟩) 26) = W6 := ⟨_, rfl⟩
  have hsl5 : (opSlice 1 #[(0, .agg (pxc ⟨4, o, n, (Z : Int), .slice p N c, bl⟩))]).run Try.prog W5 = .ok (.slice (some ⟨W5.heap.size, 0, none⟩) 1 1) W6 := by
    rw [← hW6]
    exact run_opSlice1 W5 ⟨4, o, n, (Z : Int), .slice p N c, bl⟩ (HR.out W5 B5.out)
  have b6 : Below W5.heap.size W5 W6 := by rw [← hW6]; exact bal (Below.refl _ _)
  have B6 := Lib.hid (below_more B5.out b6)
  have R6 : RO W6 (.slice (some ⟨W5.heap.size, 0, none⟩) 1 1) [⟨4, o, n, (Z : Int), .slice p N c, bl⟩] := ⟨by rw [← hW6]; exact (op_one W5 (x := ⟨4, o, n, (Z : Int), .slice p N c, bl⟩) (by have := HWf.out; constructor <;> first | exact this.1 | exact this.2.1 | exact this.2.2.1 | exact this.2.2.2 | rfl)).ra, OpD.one (HR.out _ B6.out)⟩
  have CE6 := Lib.hid (encode_is [⟨4, o, n, (Z : Int), .slice p N c, bl⟩] _ W6 R6 (by simp) (fun x hx => by rw [List.mem_singleton.1 hx]; show bl.length ≤ 4000; have := HNN.out; have := HL.out; omega) false ⟨(fun h => nomatch h), fun h => absurd (h _ (List.mem_singleton.2 rfl)) HN.out⟩)
  have V6 := Lib.hid (HV5.out.below b6)
  have A6 := Lib.hid (HA5.out.below b6)
  have hst5 := hW5
  clear R6 b6 V4 V5 A5 hC5 B4 V3 hu3 b3 hlen3 ld1 c0 ld c4
  go_wp2_with fail
  refine (CE6.out).mono ?_; rintro e w7 ⟨⟨u7, rfl, hu7⟩, b7⟩
  have B7 := Lib.hid (below_more B6.out b7)
  have c47 := (V6.out.below b7).c4
  have ld7 := (A6.out.below b7).whole
  dsimp only at c47
  obtain ⟨p7, c7, rfl, _⟩ := hu7.shape
  clear b7 hu7
  go_wp2_with fail
  refine (CM.out _).mono ?_; rintro e w8 ⟨rfl, b8⟩
  have B8 := Lib.hid (below_more B7.out b8)
  clear b8
  go_wp2_with fail
  refine (awake_any _).mono ?_; rintro e w9 ⟨rfl, hb⟩
  have HS := Lib.hid (below_more B8.out hb)
  clear hb
  go_wp2_with fail
  go_ret
  exact ⟨rfl, HS.out⟩
set_option maxHeartbeats 4000000 in
theorem kind5 (o n m : Int) (p : Option Addr) (c : Nat) (bl : List Int) (x : Int) (w : World) (hv : RA byE w (.slice p bl.length c) bl) (ho : (Lit.int .i64 o).wf = true) (hn : (Lit.int .i64 n).wf = true) (hk : (Lit.int .i64 m).wf = true) (hm : MayC ⟨5, o, n, m, bl⟩) :
    Calls Try.prog 6 #[.agg (pxc ⟨5, o, n, m, .slice p bl.length c, bl⟩), .int .i64 x] w fun e w' => e = .returned (.bool true) ∧ Below w.heap.size w w' := by
  obtain ⟨W, hW⟩ : ∃ W, w.alloc (.cells (pxc ⟨5, o, n, m, .slice p bl.length c, bl⟩) 26) = W := ⟨_, rfl⟩
  have V0 : Pxv W w.heap.size ⟨5, o, n, m, .slice p bl.length c, bl⟩ := by rw [← hW]; exact Pxv.new w _
  have B0 : Below w.heap.size w W := by rw [← hW]; exact bal (Below.refl _ _)
  have HB := Lib.hid B0
  have HV := Lib.hid V0
  have c4 := V0.c4
  have ld := V0.whole
  dsimp only at c4
  have C2 := Lib.hid (fun (w' : World) (hw : Below w.heap.size w w') => rmayop_is 5 o n m p c bl w' (ra_below hv hw) true ⟨fun _ => hm, fun _ => rfl⟩)
  have HR := Lib.hid (fun (w' : World) (hw : Below w.heap.size w w') => ra_below hv hw)
  have hb255 := hm.ranges.1
  dsimp only at hb255
  obtain ⟨u, K, t1, t2, t3, t4, _⟩ := place100 x
  obtain ⟨Z, hZ⟩ : ∃ Z, 1 + K = Z := ⟨_, rfl⟩
  rw [hZ] at t4
  have hno : ¬ MayC ⟨5, o, n, (Z : Int), bl⟩ := mask_not (by omega) (by omega)
  have hwf : (Lit.int .i64 (Z : Int)).wf = true := i64_of (by omega) (by omega)
  have CM := Lib.hid (fun w => cmayop_is 5 o n (Z : Int) p c bl w false ⟨(fun h => nomatch h), fun h => absurd h hno⟩)
  have HT := Lib.hid (tail_may hm)
  have HN := Lib.hid hno
  have HM := Lib.hid hm
  have HWf := Lib.hid (And.intro ho (And.intro hn (And.intro hk hwf)))
  have i1 : ¬ (bl.length : Int) > 300 := by omega
  have t5 : IntKind.i64.wrap (4 + (bl.length : Int)) = ((4 + bl.length : Nat) : Int) := by rw [show 4 + (bl.length : Int) = ((4 + bl.length : Nat) : Int) by omega]; exact i64_nat _ (by omega)
  have HL := Lib.hid hb255
  clear V0 B0 hv hm hno hb255 hZ ho hn hk hwf
  obtain ⟨N, hN⟩ : ∃ N, bl.length = N := ⟨_, rfl⟩
  obtain ⟨F, hF⟩ : ∃ F, 4 + N = F := ⟨_, rfl⟩
  rw [hN] at HV c4 ld C2 HR CM HT i1 t5 HL hW ⊢
  rw [hF] at HT t5
  have HNN := Lib.hid hN
  clear hN
  go_enter Try.func6, Try.ntmps6
  go_wp2_with fail
  refine (C2.out _ HB.out).mono ?_; rintro e w1 ⟨rfl, b1⟩
  have B1 := Lib.hid (below_more HB.out b1)
  have V1 := HV.out.below b1
  have ld1 := V1.whole
  have c0 := V1.c0
  dsimp only at c0
  obtain ⟨W2, hW2⟩ : ∃ W2, w1.alloc (.cells (pxc ⟨5, o, n, m, .slice p N c, bl⟩) 26) = W2 := ⟨_, rfl⟩
  have hsl : (opSlice 1 #[(0, .agg (pxc ⟨5, o, n, m, .slice p N c, bl⟩))]).run Try.prog w1 = .ok (.slice (some ⟨w1.heap.size, 0, none⟩) 1 1) W2 := by
    rw [← hW2]
    exact run_opSlice1 w1 ⟨5, o, n, m, .slice p N c, bl⟩ (HR.out w1 B1.out)
  have b2 : Below w1.heap.size w1 W2 := by rw [← hW2]; exact bal (Below.refl _ _)
  have B2 := Lib.hid (below_more B1.out b2)
  have R2 : RO W2 (.slice (some ⟨w1.heap.size, 0, none⟩) 1 1) [⟨5, o, n, m, .slice p N c, bl⟩] := ⟨by rw [← hW2]; exact (op_one w1 (x := ⟨5, o, n, m, .slice p N c, bl⟩) ⟨rfl, HWf.out.1, HWf.out.2.1, HWf.out.2.2.1, rfl⟩).ra, OpD.one (HR.out _ B2.out)⟩
  have CE := Lib.hid (encode_is [⟨5, o, n, m, .slice p N c, bl⟩] _ W2 R2 (by simp) (fun x hx => by rw [List.mem_singleton.1 hx]; show bl.length ≤ 4000; have := HNN.out; have := HL.out; omega) true ⟨fun _ x hx => by rw [List.mem_singleton.1 hx]; exact HM.out, fun _ => rfl⟩)
  have V2 := Lib.hid (V1.below b2)
  clear b1 b2 R2 V1
  go_wp2_with fail
  refine (CE.out).mono ?_; rintro e w3 ⟨⟨u3, rfl, hu3⟩, b3⟩
  have B3 := Lib.hid (below_more B2.out b3)
  have V3 := V2.out.below b3
  have HV3 := Lib.hid V3
  have ld3 := V3.whole
  have c03 := V3.c0
  have c43 := V3.c4
  dsimp only at c03 c43
  obtain ⟨p3, c3, rfl, _⟩ := hu3.shape
  have hlen3 : (encR true [⟨5, o, n, m, .slice p N c, bl⟩]).length = F := HT.out
  rw [hlen3]
  obtain ⟨W4, hW4, hst, HW4⟩ := px_boxed w3 ⟨5, o, n, m, .slice p N c, bl⟩ rfl
  have V4 := HV3.out.below HW4.out.2
  have c04 := V4.c0
  have c44 := V4.c4
  dsimp only at c04 c44
  have z4 := HW4.out.1.c3
  have zf := HW4.out.1.free 3
  dsimp only at z4
  have A5 := HW4.out.1.setm (Z : Int)
  have hC5 := (Chg.refl [w3.heap.size] W4).setCell (p := ⟨w3.heap.size, 3, none⟩) (.inl (by simp)) (.int .i64 (Z : Int))
  obtain ⟨W5, hW5⟩ : ∃ W5, W4.setCell ⟨w3.heap.size, 3, none⟩ (.int .i64 (Z : Int)) = W5 := ⟨_, rfl⟩
  rw [hW5] at A5 hC5
  have B4 := below_more B3.out HW4.out.2
  have B5 := Lib.hid (hC5.below B4 B4.size (fun g hg => by rw [List.mem_singleton.1 hg]; exact B3.out.size))
  have V5 := V4.chg hC5 (by have := HV3.out.lt; simp; omega)
  have HV5 := Lib.hid V5
  have HA5 := Lib.hid A5
  have ld5 := A5.whole
  obtain ⟨W6, hW6⟩ : ∃ W6, W5.alloc (.cells (pxc ⟨5, o, n, (Z : Int), .slice p N c, bl⟩) 26) = W6 := ⟨_, rfl⟩
  have hsl5 : (opSlice 1 #[(0, .agg (pxc ⟨5, o, n, (Z : Int), .slice p N c, bl⟩))]).run Try.prog W5 = .ok (.slice (some ⟨W5.heap.size, 0, none⟩) 1 1) W6 := by
    rw [← hW6]
    exact run_opSlice1 W5 ⟨5, o, n, (Z : Int), .slice p N c, bl⟩ (HR.out W5 B5.out)
  have b6 : Below W5.heap.size W5 W6 := by rw [← hW6]; exact bal (Below.refl _ _)
  have B6 := Lib.hid (below_more B5.out b6)
  have R6 : RO W6 (.slice (some ⟨W5.heap.size, 0, none⟩) 1 1) [⟨5, o, n, (Z : Int), .slice p N c, bl⟩] := ⟨by rw [← hW6]; exact (op_one W5 (x := ⟨5, o, n, (Z : Int), .slice p N c, bl⟩) (by have := HWf.out; constructor <;> first | exact this.1 | exact this.2.1 | exact this.2.2.1 | exact this.2.2.2 | rfl)).ra, OpD.one (HR.out _ B6.out)⟩
  have CE6 := Lib.hid (encode_is [⟨5, o, n, (Z : Int), .slice p N c, bl⟩] _ W6 R6 (by simp) (fun x hx => by rw [List.mem_singleton.1 hx]; show bl.length ≤ 4000; have := HNN.out; have := HL.out; omega) false ⟨(fun h => nomatch h), fun h => absurd (h _ (List.mem_singleton.2 rfl)) HN.out⟩)
  have V6 := Lib.hid (HV5.out.below b6)
  have A6 := Lib.hid (HA5.out.below b6)
  have hst5 := hW5
  clear R6 b6 V4 V5 A5 hC5 B4 V3 hu3 b3 hlen3 ld1 c0 ld c4
  go_wp2_with fail
  refine (CE6.out).mono ?_; rintro e w7 ⟨⟨u7, rfl, hu7⟩, b7⟩
  have B7 := Lib.hid (below_more B6.out b7)
  have c47 := (V6.out.below b7).c4
  have ld7 := (A6.out.below b7).whole
  dsimp only at c47
  obtain ⟨p7, c7, rfl, _⟩ := hu7.shape
  clear b7 hu7
  go_wp2_with fail
  refine (CM.out _).mono ?_; rintro e w8 ⟨rfl, b8⟩
  have B8 := Lib.hid (below_more B7.out b8)
  clear b8
  go_wp2_with fail
  refine (awake_any _).mono ?_; rintro e w9 ⟨rfl, hb⟩
  have HS := Lib.hid (below_more B8.out hb)
  clear hb
  go_wp2_with fail
  go_ret
  exact ⟨rfl, HS.out⟩
set_option maxHeartbeats 4000000 in
theorem kind6 (o n m : Int) (p : Option Addr) (c : Nat) (bl : List Int) (x : Int) (w : World) (hv : RA byE w (.slice p bl.length c) bl) (ho : (Lit.int .i64 o).wf = true) (hn : (Lit.int .i64 n).wf = true) (hk : (Lit.int .i64 m).wf = true) (hm : MayC ⟨6, o, n, m, bl⟩) :
    Calls Try.prog 6 #[.agg (pxc ⟨6, o, n, m, .slice p bl.length c, bl⟩), .int .i64 x] w fun e w' => e = .returned (.bool true) ∧ Below w.heap.size w w' := by
  obtain ⟨W, hW⟩ : ∃ W, w.alloc (.cells (pxc ⟨6, o, n, m, .slice p bl.length c, bl⟩) 26) = W := ⟨_, rfl⟩
  have V0 : Pxv W w.heap.size ⟨6, o, n, m, .slice p bl.length c, bl⟩ := by rw [← hW]; exact Pxv.new w _
  have B0 : Below w.heap.size w W := by rw [← hW]; exact bal (Below.refl _ _)
  have HB := Lib.hid B0
  have HV := Lib.hid V0
  have c4 := V0.c4
  have ld := V0.whole
  dsimp only at c4
  have C2 := Lib.hid (fun (w' : World) (hw : Below w.heap.size w w') => rmayop_is 6 o n m p c bl w' (ra_below hv hw) true ⟨fun _ => hm, fun _ => rfl⟩)
  have HR := Lib.hid (fun (w' : World) (hw : Below w.heap.size w w') => ra_below hv hw)
  have hb255 := hm.ranges.1
  dsimp only at hb255
  obtain ⟨u, K, t1, t2, t3, t4, _⟩ := place100 x
  obtain ⟨Z, hZ⟩ : ∃ Z, 1 + K = Z := ⟨_, rfl⟩
  rw [hZ] at t4
  have hno : ¬ MayC ⟨6, (Z : Int), n, m, bl⟩ := off_not (by omega) (by omega)
  have hwf : (Lit.int .i64 (Z : Int)).wf = true := i64_of (by omega) (by omega)
  have CM := Lib.hid (fun w => cmayop_is 6 (Z : Int) n m p c bl w false ⟨(fun h => nomatch h), fun h => absurd h hno⟩)
  have HT := Lib.hid (tail_may hm)
  have HN := Lib.hid hno
  have HM := Lib.hid hm
  have HWf := Lib.hid (And.intro ho (And.intro hn (And.intro hk hwf)))
  have i1 : ¬ (bl.length : Int) > 300 := by omega
  have t5 : IntKind.i64.wrap (4 + (bl.length : Int)) = ((4 + bl.length : Nat) : Int) := by rw [show 4 + (bl.length : Int) = ((4 + bl.length : Nat) : Int) by omega]; exact i64_nat _ (by omega)
  have HL := Lib.hid hb255
  clear V0 B0 hv hm hno hb255 hZ ho hn hk hwf
  obtain ⟨N, hN⟩ : ∃ N, bl.length = N := ⟨_, rfl⟩
  obtain ⟨F, hF⟩ : ∃ F, 4 + N = F := ⟨_, rfl⟩
  rw [hN] at HV c4 ld C2 HR CM HT i1 t5 HL hW ⊢
  rw [hF] at HT t5
  have HNN := Lib.hid hN
  clear hN
  go_enter Try.func6, Try.ntmps6
  go_wp2_with fail
  refine (C2.out _ HB.out).mono ?_; rintro e w1 ⟨rfl, b1⟩
  have B1 := Lib.hid (below_more HB.out b1)
  have V1 := HV.out.below b1
  have ld1 := V1.whole
  have c0 := V1.c0
  dsimp only at c0
  obtain ⟨W2, hW2⟩ : ∃ W2, w1.alloc (.cells (pxc ⟨6, o, n, m, .slice p N c, bl⟩) 26) = W2 := ⟨_, rfl⟩
  have hsl : (opSlice 1 #[(0, .agg (pxc ⟨6, o, n, m, .slice p N c, bl⟩))]).run Try.prog w1 = .ok (.slice (some ⟨w1.heap.size, 0, none⟩) 1 1) W2 := by
    rw [← hW2]
    exact run_opSlice1 w1 ⟨6, o, n, m, .slice p N c, bl⟩ (HR.out w1 B1.out)
  have b2 : Below w1.heap.size w1 W2 := by rw [← hW2]; exact bal (Below.refl _ _)
  have B2 := Lib.hid (below_more B1.out b2)
  have R2 : RO W2 (.slice (some ⟨w1.heap.size, 0, none⟩) 1 1) [⟨6, o, n, m, .slice p N c, bl⟩] := ⟨by rw [← hW2]; exact (op_one w1 (x := ⟨6, o, n, m, .slice p N c, bl⟩) ⟨rfl, HWf.out.1, HWf.out.2.1, HWf.out.2.2.1, rfl⟩).ra, OpD.one (HR.out _ B2.out)⟩
  have CE := Lib.hid (encode_is [⟨6, o, n, m, .slice p N c, bl⟩] _ W2 R2 (by simp) (fun x hx => by rw [List.mem_singleton.1 hx]; show bl.length ≤ 4000; have := HNN.out; have := HL.out; omega) true ⟨fun _ x hx => by rw [List.mem_singleton.1 hx]; exact HM.out, fun _ => rfl⟩)
  have V2 := Lib.hid (V1.below b2)
  clear b1 b2 R2 V1
  go_wp2_with fail
  refine (CE.out).mono ?_; rintro e w3 ⟨⟨u3, rfl, hu3⟩, b3⟩
  have B3 := Lib.hid (below_more B2.out b3)
  have V3 := V2.out.below b3
  have HV3 := Lib.hid V3
  have ld3 := V3.whole
  have c03 := V3.c0
  have c43 := V3.c4
  dsimp only at c03 c43
  obtain ⟨p3, c3, rfl, _⟩ := hu3.shape
  have hlen3 : (encR true [⟨6, o, n, m, .slice p N c, bl⟩]).length = F := HT.out
  rw [hlen3]
  obtain ⟨W4, hW4, hst, HW4⟩ := px_boxed w3 ⟨6, o, n, m, .slice p N c, bl⟩ rfl
  have V4 := HV3.out.below HW4.out.2
  have c04 := V4.c0
  have c44 := V4.c4
  dsimp only at c04 c44
  have z4 := HW4.out.1.c1
  have zf := HW4.out.1.free 1
  dsimp only at z4
  have A5 := HW4.out.1.seto (Z : Int)
  have hC5 := (Chg.refl [w3.heap.size] W4).setCell (p := ⟨w3.heap.size, 1, none⟩) (.inl (by simp)) (.int .i64 (Z : Int))
  obtain ⟨W5, hW5⟩ : ∃ W5, W4.setCell ⟨w3.heap.size, 1, none⟩ (.int .i64 (Z : Int)) = W5 := ⟨_, rfl⟩
  rw [hW5] at A5 hC5
  have B4 := below_more B3.out HW4.out.2
  have B5 := Lib.hid (hC5.below B4 B4.size (fun g hg => by rw [List.mem_singleton.1 hg]; exact B3.out.size))
  have V5 := V4.chg hC5 (by have := HV3.out.lt; simp; omega)
  have HV5 := Lib.hid V5
  have HA5 := Lib.hid A5
  have ld5 := A5.whole
  obtain ⟨W6, hW6⟩ : ∃ W6, W5.alloc (.cells (pxc ⟨6, (Z : Int), n, m, .slice p N c, bl⟩) 26) = W6 := ⟨_, rfl⟩
  have hsl5 : (opSlice 1 #[(0, .agg (pxc ⟨6, (Z : Int), n, m, .slice p N c, bl⟩))]).run Try.prog W5 = .ok (.slice (some ⟨W5.heap.size, 0, none⟩) 1 1) W6 := by
    rw [← hW6]
    exact run_opSlice1 W5 ⟨6, (Z : Int), n, m, .slice p N c, bl⟩ (HR.out W5 B5.out)
  have b6 : Below W5.heap.size W5 W6 := by rw [← hW6]; exact bal (Below.refl _ _)
  have B6 := Lib.hid (below_more B5.out b6)
  have R6 : RO W6 (.slice (some ⟨W5.heap.size, 0, none⟩) 1 1) [⟨6, (Z : Int), n, m, .slice p N c, bl⟩] := ⟨by rw [← hW6]; exact (op_one W5 (x := ⟨6, (Z : Int), n, m, .slice p N c, bl⟩) (by have := HWf.out; constructor <;> first | exact this.1 | exact this.2.1 | exact this.2.2.1 | exact this.2.2.2 | rfl)).ra, OpD.one (HR.out _ B6.out)⟩
  have CE6 := Lib.hid (encode_is [⟨6, (Z : Int), n, m, .slice p N c, bl⟩] _ W6 R6 (by simp) (fun x hx => by rw [List.mem_singleton.1 hx]; show bl.length ≤ 4000; have := HNN.out; have := HL.out; omega) false ⟨(fun h => nomatch h), fun h => absurd (h _ (List.mem_singleton.2 rfl)) HN.out⟩)
  have V6 := Lib.hid (HV5.out.below b6)
  have A6 := Lib.hid (HA5.out.below b6)
  have hst5 := hW5
  clear R6 b6 V4 V5 A5 hC5 B4 V3 hu3 b3 hlen3 ld1 c0 ld c4
  go_wp2_with fail
  refine (CE6.out).mono ?_; rintro e w7 ⟨⟨u7, rfl, hu7⟩, b7⟩
  have B7 := Lib.hid (below_more B6.out b7)
  have c47 := (V6.out.below b7).c4
  have ld7 := (A6.out.below b7).whole
  dsimp only at c47
  obtain ⟨p7, c7, rfl, _⟩ := hu7.shape
  clear b7 hu7
  go_wp2_with fail
  refine (CM.out _).mono ?_; rintro e w8 ⟨rfl, b8⟩
  have B8 := Lib.hid (below_more B7.out b8)
  clear b8
  go_wp2_with fail
  refine (awake_any _).mono ?_; rintro e w9 ⟨rfl, hb⟩
  have HS := Lib.hid (below_more B8.out hb)
  clear hb
  go_wp2_with fail
  go_ret
  exact ⟨rfl, HS.out⟩
set_option maxHeartbeats 4000000 in
theorem kind7 (o n m : Int) (p : Option Addr) (c : Nat) (bl : List Int) (x : Int) (w : World) (hv : RA byE w (.slice p bl.length c) bl) (ho : (Lit.int .i64 o).wf = true) (hn : (Lit.int .i64 n).wf = true) (hk : (Lit.int .i64 m).wf = true) (hm : MayC ⟨7, o, n, m, bl⟩) :
    Calls Try.prog 6 #[.agg (pxc ⟨7, o, n, m, .slice p bl.length c, bl⟩), .int .i64 x] w fun e w' => e = .returned (.bool true) ∧ Below w.heap.size w w' := by
  obtain ⟨W, hW⟩ : ∃ W, w.alloc (.cells (pxc ⟨7, o, n, m, .slice p bl.length c, bl⟩) 26) = W := ⟨_, rfl⟩
  have V0 : Pxv W w.heap.size ⟨7, o, n, m, .slice p bl.length c, bl⟩ := by rw [← hW]; exact Pxv.new w _
  have B0 : Below w.heap.size w W := by rw [← hW]; exact bal (Below.refl _ _)
  have HB := Lib.hid B0
  have HV := Lib.hid V0
  have c4 := V0.c4
  have ld := V0.whole
  dsimp only at c4
  have C2 := Lib.hid (fun (w' : World) (hw : Below w.heap.size w w') => rmayop_is 7 o n m p c bl w' (ra_below hv hw) true ⟨fun _ => hm, fun _ => rfl⟩)
  have HR := Lib.hid (fun (w' : World) (hw : Below w.heap.size w w') => ra_below hv hw)
  have hb255 := hm.ranges.1
  dsimp only at hb255
  obtain ⟨u, K, t1, t2, t3, t4, _⟩ := place100 x
  obtain ⟨Z, hZ⟩ : ∃ Z, 1 + K = Z := ⟨_, rfl⟩
  rw [hZ] at t4
  have hno : ¬ MayC ⟨7, (Z : Int), n, m, bl⟩ := off_not (by omega) (by omega)
  have hwf : (Lit.int .i64 (Z : Int)).wf = true := i64_of (by omega) (by omega)
  have CM := Lib.hid (fun w => cmayop_is 7 (Z : Int) n m p c bl w false ⟨(fun h => nomatch h), fun h => absurd h hno⟩)
  have HT := Lib.hid (tail_may hm)
  have HN := Lib.hid hno
  have HM := Lib.hid hm
  have HWf := Lib.hid (And.intro ho (And.intro hn (And.intro hk hwf)))
  have i1 : ¬ (bl.length : Int) > 300 := by omega
  have t5 : IntKind.i64.wrap (4 + (bl.length : Int)) = ((4 + bl.length : Nat) : Int) := by rw [show 4 + (bl.length : Int) = ((4 + bl.length : Nat) : Int) by omega]; exact i64_nat _ (by omega)
  have HL := Lib.hid hb255
  clear V0 B0 hv hm hno hb255 hZ ho hn hk hwf
  obtain ⟨N, hN⟩ : ∃ N, bl.length = N := ⟨_, rfl⟩
  obtain ⟨F, hF⟩ : ∃ F, 4 + N = F := ⟨_, rfl⟩
  rw [hN] at HV c4 ld C2 HR CM HT i1 t5 HL hW ⊢
  rw [hF] at HT t5
  have HNN := Lib.hid hN
  clear hN
  go_enter Try.func6, Try.ntmps6
  go_wp2_with fail
  refine (C2.out _ HB.out).mono ?_; rintro e w1 ⟨rfl, b1⟩
  have B1 := Lib.hid (below_more HB.out b1)
  have V1 := HV.out.below b1
  have ld1 := V1.whole
  have c0 := V1.c0
  dsimp only at c0
  obtain ⟨W2, hW2⟩ : ∃ W2, w1.alloc (.cells (pxc ⟨7, o, n, m, .slice p N c, bl⟩) 26) = W2 := ⟨_, rfl⟩
  have hsl : (opSlice 1 #[(0, .agg (pxc ⟨7, o, n, m, .slice p N c, bl⟩))]).run Try.prog w1 = .ok (.slice (some ⟨w1.heap.size, 0, none⟩) 1 1) W2 := by
    rw [← hW2]
    exact run_opSlice1 w1 ⟨7, o, n, m, .slice p N c, bl⟩ (HR.out w1 B1.out)
  have b2 : Below w1.heap.size w1 W2 := by rw [← hW2]; exact bal (Below.refl _ _)
  have B2 := Lib.hid (below_more B1.out b2)
  have R2 : RO W2 (.slice (some ⟨w1.heap.size, 0, none⟩) 1 1) [⟨7, o, n, m, .slice p N c, bl⟩] := ⟨by rw [← hW2]; exact (op_one w1 (x := ⟨7, o, n, m, .slice p N c, bl⟩) ⟨rfl, HWf.out.1, HWf.out.2.1, HWf.out.2.2.1, rfl⟩).ra, OpD.one (HR.out _ B2.out)⟩
  have CE := Lib.hid (encode_is [⟨7, o, n, m, .slice p N c, bl⟩] _ W2 R2 (by simp) (fun x hx => by rw [List.mem_singleton.1 hx]; show bl.length ≤ 4000; have := HNN.out; have := HL.out; omega) true ⟨fun _ x hx => by rw [List.mem_singleton.1 hx]; exact HM.out, fun _ => rfl⟩)
  have V2 := Lib.hid (V1.below b2)
  clear b1 b2 R2 V1
  go_wp2_with fail
  refine (CE.out).mono ?_; rintro e w3 ⟨⟨u3, rfl, hu3⟩, b3⟩
  have B3 := Lib.hid (below_more B2.out b3)
  have V3 := V2.out.below b3
  have HV3 := Lib.hid V3
  have ld3 := V3.whole
  have c03 := V3.c0
  have c43 := V3.c4
  dsimp only at c03 c43
  obtain ⟨p3, c3, rfl, _⟩ := hu3.shape
  have hlen3 : (encR true [⟨7, o, n, m, .slice p N c, bl⟩]).length = F := HT.out
  rw [hlen3]
  obtain ⟨W4, hW4, hst, HW4⟩ := px_boxed w3 ⟨7, o, n, m, .slice p N c, bl⟩ rfl
  have V4 := HV3.out.below HW4.out.2
  have c04 := V4.c0
  have c44 := V4.c4
  dsimp only at c04 c44
  have z4 := HW4.out.1.c1
  have zf := HW4.out.1.free 1
  dsimp only at z4
  have A5 := HW4.out.1.seto (Z : Int)
  have hC5 := (Chg.refl [w3.heap.size] W4).setCell (p := ⟨w3.heap.size, 1, none⟩) (.inl (by simp)) (.int .i64 (Z : Int))
  obtain ⟨W5, hW5⟩ : ∃ W5, W4.setCell ⟨w3.heap.size, 1, none⟩ (.int .i64 (Z : Int)) = W5 := ⟨_, rfl⟩
  rw [hW5] at A5 hC5
  have B4 := below_more B3.out HW4.out.2
  have B5 := Lib.hid (hC5.below B4 B4.size (fun g hg => by rw [List.mem_singleton.1 hg]; exact B3.out.size))
  have V5 := V4.chg hC5 (by have := HV3.out.lt; simp; omega)
  have HV5 := Lib.hid V5
  have HA5 := Lib.hid A5
  have ld5 := A5.whole
  obtain ⟨W6, hW6⟩ : ∃ W6, W5.alloc (.cells (pxc ⟨7, (Z : Int), n, m, .slice p N c, bl⟩) 26) = W6 := ⟨_, rfl⟩
  have hsl5 : (opSlice 1 #[(0, .agg (pxc ⟨7, (Z : Int), n, m, .slice p N c, bl⟩))]).run Try.prog W5 = .ok (.slice (some ⟨W5.heap.size, 0, none⟩) 1 1) W6 := by
    rw [← hW6]
    exact run_opSlice1 W5 ⟨7, (Z : Int), n, m, .slice p N c, bl⟩ (HR.out W5 B5.out)
  have b6 : Below W5.heap.size W5 W6 := by rw [← hW6]; exact bal (Below.refl _ _)
  have B6 := Lib.hid (below_more B5.out b6)
  have R6 : RO W6 (.slice (some ⟨W5.heap.size, 0, none⟩) 1 1) [⟨7, (Z : Int), n, m, .slice p N c, bl⟩] := ⟨by rw [← hW6]; exact (op_one W5 (x := ⟨7, (Z : Int), n, m, .slice p N c, bl⟩) (by have := HWf.out; constructor <;> first | exact this.1 | exact this.2.1 | exact this.2.2.1 | exact this.2.2.2 | rfl)).ra, OpD.one (HR.out _ B6.out)⟩
  have CE6 := Lib.hid (encode_is [⟨7, (Z : Int), n, m, .slice p N c, bl⟩] _ W6 R6 (by simp) (fun x hx => by rw [List.mem_singleton.1 hx]; show bl.length ≤ 4000; have := HNN.out; have := HL.out; omega) false ⟨(fun h => nomatch h), fun h => absurd (h _ (List.mem_singleton.2 rfl)) HN.out⟩)
  have V6 := Lib.hid (HV5.out.below b6)
  have A6 := Lib.hid (HA5.out.below b6)
  have hst5 := hW5
  clear R6 b6 V4 V5 A5 hC5 B4 V3 hu3 b3 hlen3 ld1 c0 ld c4
  go_wp2_with fail
  refine (CE6.out).mono ?_; rintro e w7 ⟨⟨u7, rfl, hu7⟩, b7⟩
  have B7 := Lib.hid (below_more B6.out b7)
  have c47 := (V6.out.below b7).c4
  have ld7 := (A6.out.below b7).whole
  dsimp only at c47
  obtain ⟨p7, c7, rfl, _⟩ := hu7.shape
  clear b7 hu7
  go_wp2_with fail
  refine (CM.out _).mono ?_; rintro e w8 ⟨rfl, b8⟩
  have B8 := Lib.hid (below_more B7.out b8)
  clear b8
  go_wp2_with fail
  refine (awake_any _).mono ?_; rintro e w9 ⟨rfl, hb⟩
  have HS := Lib.hid (below_more B8.out hb)
  clear hb
  go_wp2_with fail
  go_ret
  exact ⟨rfl, HS.out⟩
set_option maxHeartbeats 4000000 in
theorem kind8 (o n m : Int) (p : Option Addr) (c : Nat) (bl : List Int) (x : Int) (w : World) (hv : RA byE w (.slice p bl.length c) bl) (ho : (Lit.int .i64 o).wf = true) (hn : (Lit.int .i64 n).wf = true) (hk : (Lit.int .i64 m).wf = true) (hm : MayC ⟨8, o, n, m, bl⟩) :
    Calls Try.prog 6 #[.agg (pxc ⟨8, o, n, m, .slice p bl.length c, bl⟩), .int .i64 x] w fun e w' => e = .returned (.bool true) ∧ Below w.heap.size w w' := by
  obtain ⟨W, hW⟩ : ∃ W, w.alloc (.cells (pxc ⟨8, o, n, m, .slice p bl.length c, bl⟩) 26) = W := ⟨_, rfl⟩
  have V0 : Pxv W w.heap.size ⟨8, o, n, m, .slice p bl.length c, bl⟩ := by rw [← hW]; exact Pxv.new w _
  have B0 : Below w.heap.size w W := by rw [← hW]; exact bal (Below.refl _ _)
  have HB := Lib.hid B0
  have HV := Lib.hid V0
  have c4 := V0.c4
  have ld := V0.whole
  dsimp only at c4
  have C2 := Lib.hid (fun (w' : World) (hw : Below w.heap.size w w') => rmayop_is 8 o n m p c bl w' (ra_below hv hw) true ⟨fun _ => hm, fun _ => rfl⟩)
  have HR := Lib.hid (fun (w' : World) (hw : Below w.heap.size w w') => ra_below hv hw)
  have hb255 := hm.ranges.1
  dsimp only at hb255
  obtain ⟨u, K, t1, t2, t3, t4, _⟩ := place100 x
  obtain ⟨Z, hZ⟩ : ∃ Z, 1 + K = Z := ⟨_, rfl⟩
  rw [hZ] at t4
  have hno : ¬ MayC ⟨8, (Z : Int), n, m, bl⟩ := off_not (by omega) (by omega)
  have hwf : (Lit.int .i64 (Z : Int)).wf = true := i64_of (by omega) (by omega)
  have CM := Lib.hid (fun w => cmayop_is 8 (Z : Int) n m p c bl w false ⟨(fun h => nomatch h), fun h => absurd h hno⟩)
  have HT := Lib.hid (tail_may hm)
  have HN := Lib.hid hno
  have HM := Lib.hid hm
  have HWf := Lib.hid (And.intro ho (And.intro hn (And.intro hk hwf)))
  have i1 : ¬ (bl.length : Int) > 300 := by omega
  have t5 : IntKind.i64.wrap (4 + (bl.length : Int)) = ((4 + bl.length : Nat) : Int) := by rw [show 4 + (bl.length : Int) = ((4 + bl.length : Nat) : Int) by omega]; exact i64_nat _ (by omega)
  have HL := Lib.hid hb255
  clear V0 B0 hv hm hno hb255 hZ ho hn hk hwf
  obtain ⟨N, hN⟩ : ∃ N, bl.length = N := ⟨_, rfl⟩
  obtain ⟨F, hF⟩ : ∃ F, 4 + N = F := ⟨_, rfl⟩
  rw [hN] at HV c4 ld C2 HR CM HT i1 t5 HL hW ⊢
  rw [hF] at HT t5
  have HNN := Lib.hid hN
  clear hN
  go_enter Try.func6, Try.ntmps6
  go_wp2_with fail
  refine (C2.out _ HB.out).mono ?_; rintro e w1 ⟨rfl, b1⟩
  have B1 := Lib.hid (below_more HB.out b1)
  have V1 := HV.out.below b1
  have ld1 := V1.whole
  have c0 := V1.c0
  dsimp only at c0
  obtain ⟨W2, hW2⟩ : ∃ W2, w1.alloc (.cells (pxc ⟨8, o, n, m, .slice p N c, bl⟩) 26) = W2 := ⟨_, rfl⟩
  have hsl : (opSlice 1 #[(0, .agg (pxc ⟨8, o, n, m, .slice p N c, bl⟩))]).run Try.prog w1 = .ok (.slice (some ⟨w1.heap.size, 0, none⟩) 1 1) W2 := by
    rw [← hW2]
    exact run_opSlice1 w1 ⟨8, o, n, m, .slice p N c, bl⟩ (HR.out w1 B1.out)
  have b2 : Below w1.heap.size w1 W2 := by rw [← hW2]; exact bal (Below.refl _ _)
  have B2 := Lib.hid (below_more B1.out b2)
  have R2 : RO W2 (.slice (some ⟨w1.heap.size, 0, none⟩) 1 1) [⟨8, o, n, m, .slice p N c, bl⟩] := ⟨by rw [← hW2]; exact (op_one w1 (x := ⟨8, o, n, m, .slice p N c, bl⟩) ⟨rfl, HWf.out.1, HWf.out.2.1, HWf.out.2.2.1, rfl⟩).ra, OpD.one (HR.out _ B2.out)⟩
  have CE := Lib.hid (encode_is [⟨8, o, n, m, .slice p N c, bl⟩] _ W2 R2 (by simp) (fun x hx => by rw [List.mem_singleton.1 hx]; show bl.length ≤ 4000; have := HNN.out; have := HL.out; omega) true ⟨fun _ x hx => by rw [List.mem_singleton.1 hx]; exact HM.out, fun _ => rfl⟩)
  have V2 := Lib.hid (V1.below b2)
  clear b1 b2 R2 V1
  go_wp2_with fail
  refine (CE.out).mono ?_; rintro e w3 ⟨⟨u3, rfl, hu3⟩, b3⟩
  have B3 := Lib.hid (below_more B2.out b3)
  have V3 := V2.out.below b3
  have HV3 := Lib.hid V3
  have ld3 := V3.whole
  have c03 := V3.c0
  have c43 := V3.c4
  dsimp only at c03 c43
  obtain ⟨p3, c3, rfl, _⟩ := hu3.shape
  have hlen3 : (encR true [⟨8, o, n, m, .slice p N c, bl⟩]).length = F := HT.out
  rw [hlen3]
  obtain ⟨W4, hW4, hst, HW4⟩ := px_boxed w3 ⟨8, o, n, m, .slice p N c, bl⟩ rfl
  have V4 := HV3.out.below HW4.out.2
  have c04 := V4.c0
  have c44 := V4.c4
  dsimp only at c04 c44
  have z4 := HW4.out.1.c1
  have zf := HW4.out.1.free 1
  dsimp only at z4
  have A5 := HW4.out.1.seto (Z : Int)
  have hC5 := (Chg.refl [w3.heap.size] W4).setCell (p := ⟨w3.heap.size, 1, none⟩) (.inl (by simp)) (.int .i64 (Z : Int))
  obtain ⟨W5, hW5⟩ : ∃ W5, W4.setCell ⟨w3.heap.size, 1, none⟩ (.int .i64 (Z : Int)) = W5 := ⟨_, rfl⟩
  rw [hW5] at A5 hC5
  have B4 := below_more B3.out HW4.out.2
  have B5 := Lib.hid (hC5.below B4 B4.size (fun g hg => by rw [List.mem_singleton.1 hg]; exact B3.out.size))
  have V5 := V4.chg hC5 (by have := HV3.out.lt; simp; omega)
  have HV5 := Lib.hid V5
  have HA5 := Lib.hid A5
  have ld5 := A5.whole
  obtain ⟨W6, hW6⟩ : ∃ W6, W5.alloc (.cells (pxc ⟨8, (Z : Int), n, m, .slice p N c, bl⟩) 26) = W6 := ⟨_, rfl⟩
  have hsl5 : (opSlice 1 #[(0, .agg (pxc ⟨8, (Z : Int), n, m, .slice p N c, bl⟩))]).run Try.prog W5 = .ok (.slice (some ⟨W5.heap.size, 0, none⟩) 1 1) W6 := by
    rw [← hW6]
    exact run_opSlice1 W5 ⟨8, (Z : Int), n, m, .slice p N c, bl⟩ (HR.out W5 B5.out)
  have b6 : Below W5.heap.size W5 W6 := by rw [← hW6]; exact bal (Below.refl _ _)
  have B6 := Lib.hid (below_more B5.out b6)
  have R6 : RO W6 (.slice (some ⟨W5.heap.size, 0, none⟩) 1 1) [⟨8, (Z : Int), n, m, .slice p N c, bl⟩] := ⟨by rw [← hW6]; exact (op_one W5 (x := ⟨8, (Z : Int), n, m, .slice p N c, bl⟩) (by have := HWf.out; constructor <;> first | exact this.1 | exact this.2.1 | exact this.2.2.1 | exact this.2.2.2 | rfl)).ra, OpD.one (HR.out _ B6.out)⟩
  have CE6 := Lib.hid (encode_is [⟨8, (Z : Int), n, m, .slice p N c, bl⟩] _ W6 R6 (by simp) (fun x hx => by rw [List.mem_singleton.1 hx]; show bl.length ≤ 4000; have := HNN.out; have := HL.out; omega) false ⟨(fun h => nomatch h), fun h => absurd (h _ (List.mem_singleton.2 rfl)) HN.out⟩)
  have V6 := Lib.hid (HV5.out.below b6)
  have A6 := Lib.hid (HA5.out.below b6)
  have hst5 := hW5
  clear R6 b6 V4 V5 A5 hC5 B4 V3 hu3 b3 hlen3 ld1 c0 ld c4
  go_wp2_with fail
  refine (CE6.out).mono ?_; rintro e w7 ⟨⟨u7, rfl, hu7⟩, b7⟩
  have B7 := Lib.hid (below_more B6.out b7)
  have c47 := (V6.out.below b7).c4
  have ld7 := (A6.out.below b7).whole
  dsimp only at c47
  obtain ⟨p7, c7, rfl, _⟩ := hu7.shape
  clear b7 hu7
  go_wp2_with fail
  refine (CM.out _).mono ?_; rintro e w8 ⟨rfl, b8⟩
  have B8 := Lib.hid (below_more B7.out b8)
  clear b8
  go_wp2_with fail
  refine (awake_any _).mono ?_; rintro e w9 ⟨rfl, hb⟩
  have HS := Lib.hid (below_more B8.out hb)
  clear hb
  go_wp2_with fail
  go_ret
  exact ⟨rfl, HS.out⟩
theorem walk (c0 : Px) (a1 : Int) (w : World) (w0 : c0.Wf w) (_ : (Lit.int .i64 a1).wf = true) :
    Calls Try.prog 6 #[.agg (pxc c0), .int .i64 a1] w fun e w' => e = .returned (.bool true) ∧ Below w.heap.size w w' := by
  obtain ⟨d, o, n, m, v, bl⟩ := c0
  obtain ⟨_, ho, hn, hm, _, hv⟩ := w0
  dsimp only at ho hn hm hv
  obtain ⟨p, c, rfl, _⟩ := ra_shape hv
  rcases Classical.em (MayC ⟨d, o, n, m, bl⟩) with h | h
  · have hk : d = 1 ∨ d = 2 ∨ d = 3 ∨ d = 4 ∨ d = 5 ∨ d = 6 ∨ d = 7 ∨ d = 8 := by have := h.kind; dsimp only at this; omega
    rcases hk with rfl | rfl | rfl | rfl | rfl | rfl | rfl | rfl
    · exact kind1 o n m p c bl a1 w hv ho hn hm h
    · exact kind2 o n m p c bl a1 w hv ho hn hm h
    · exact kind3 o n m p c bl a1 w hv ho hn hm h
    · exact kind4 o n m p c bl a1 w hv ho hn hm h
    · exact kind5 o n m p c bl a1 w hv ho hn hm h
    · exact kind6 o n m p c bl a1 w hv ho hn hm h
    · exact kind7 o n m p c bl a1 w hv ho hn hm h
    · exact kind8 o n m p c bl a1 w hv ho hn hm h
  · exact other d o n m p c bl a1 w hv h

set_option maxRecDepth 100000 in
theorem lifted (os : Os) (started : os.Started) (H : Type) (enc : TypeId × Value → H) :
    ReturnsInHanded {} Try.checked os 6 .any (Rows.codeEachSpec.pre6 enc Try.prog Try.f6 Rows.codeEachRow.domain false) (Rows.codeEachSpec.post enc Try.prog Try.f6 false true false false) := by
  refine returnsInHanded_of_change (C := Try.checked) own started (by kernel_rfl) Try.func6
    (ChangeSpec.witness6 (enc := enc) (C := Try.checked) false ⟨#[], #[.agg #[.int .i64 0, .int .i64 0, .int .i64 0, .int .i64 0, .slice none 0 0], .int .i64 0], []⟩ 8 (by kernel_rfl) (by kernel_rfl) (by kernel_rfl) (by kernel_rfl)) ?_
  intro W base args ds gs before hval0 hW hcnd _
  have hval : ∀ (j : Nat) t v, Try.f6.params[j]? = some t → args[j]? = some v → Value.okWide Try.prog W .any base t v := hval0
  have hW' := hW
  have hlt := hW.lt
  obtain ⟨p, q, hA0, hV, hpq, hfz, hnd⟩ := hW
  have hA : DataW.TrodAll enc Try.prog W 0 (fun _ => true) true Try.f6.params.toList args.toList ds p := hA0
  rw [Try.params6] at hA hval
  obtain ⟨v0, vs0, d0, ds0, p0, q0, hargs, rfl, hp, h0, r0⟩ := trodAll_cons hA
  obtain ⟨v1, vs1, d1, ds1, p1, q1, rfl, rfl, rfl, h1, r1⟩ := trodAll_cons r0
  obtain ⟨rfl, rfl, rfl⟩ := trodAll_nil r1
  obtain rfl : args = #[v0, v1] := by cases args; simp_all
  obtain ⟨rfl, rfl⟩ := trodVars_none hV
  have hlt' : ∀ x ∈ before, x.block < W.heap.size := fun x hx => hlt x hx
  obtain ⟨c0, rfl, w0⟩ := hop_in (hval 0 26 v0 rfl rfl) h0
  obtain ⟨a1, rfl, rfl, rfl, w1⟩ := open_int Try.underlying3 (hval 1 3 v1 rfl rfl) h1
  refine (walk c0 a1 W w0 w1).mono fun e W' ⟨he, hb⟩ => ?_
  subst he
  exact ⟨_, rfl, law_post rfl (by kernel_rfl) hW' (by rw [Try.params6]; intro t ht; simp only [List.mem_cons, List.not_mem_nil, or_false] at ht; (repeat' (first | (rcases ht with rfl | ht) | subst ht)) <;> exact ⟨by kernel_rfl, of_decide_eq_true (by kernel_rfl)⟩) rfl hb⟩

theorem over : Rows.codeEachRow.holds Try.pinned (OpenSpec.ofChange Rows.codeEachSpec) :=
  OpenClaim.holds_of_wide 6 Try.f6 rfl rfl rfl rfl rfl rfl rfl ⟨rfl, rfl, rfl, rfl, rfl⟩ rfl rfl rfl rfl rfl (by kernel_rfl) Try.func6 (by kernel_rfl)
    (of_decide_eq_true (by kernel_rfl)) (by unfold Func.isWrapper; first | (rw [if_pos (by decide +kernel)]; kernel_rfl) | (rw [if_neg (by decide +kernel)]; exact ⟨rfl, rfl⟩))
    (fun os started H enc _ => lifted os started H enc)

theorem proved : Rows.CodeEachSaid := over
end Go.Proofs.Ytdnijdbhdlengaa.codeEach
