/-
  No call over any heap has more lines to change than its cost says. No conditions.
-/
import Derived.Test.YtegbeolnlpgdeaaCoh
import Derived.Test.YtegbeolnlpgdeaaZme
import Derived.Deep.RegionHeld3
namespace Go.Proofs.Ytegbeolnlpgdeaa.costHomes
set_option maxRecDepth 100000
open Go.Proofs.Ytegbeolnlpgdeaa Go.ChangeShapes Go.WideShapes Go.ChangeAt Go.RowKit

theorem first_fine {n : Nat} (h : Mw n) : (firstL n).length = n ∧ WordsOk (firstL n) := by
  obtain ⟨h1, h2⟩ := h.mayB
  rw [firstL_yes h]
  exact ⟨by simp, set_ok (zeros_ok n) (by omega) (by omega)⟩
theorem row_other {w : World} {g k : Nat} (c : Array Value) (h : g ≠ k) : (w.setRow g c).heap[k]? = w.heap[k]? := setRow_other w g k c (Ne.symm h)

set_option maxHeartbeats 1000000 in
theorem far (a0 a2 : Int) (M f : Nat) (r : Option Addr) (dl : List Dx) (v : Value) (w : World) (hv : RA (doE w) w v dl) (h : 0 < hvF 0 dl ∨ 500 < M) :
    Calls Try.prog 5 #[.int .i64 a0, v, .int .i64 a2, .slice r M f] w fun e w' => e = .returned (.bool true) ∧ Below w.heap.size w w' := by
  obtain ⟨R, hR⟩ : ∃ R, hvF 0 dl = R := ⟨_, rfl⟩
  have C := Lib.hid (heavy_is dl v w hv R hR)
  rw [hR] at h
  clear hR hv
  by_cases h1 : R > 0
  · clear h
    go_enter Try.func5, Try.ntmps5
    go_wp2_with fail
    refine (C.out).mono ?_; rintro e w1 ⟨rfl, b1⟩
    have D1 := Lib.hid b1
    clear b1
    go_wp2_with fail
    refine (awake_any _).mono ?_; rintro e w2 ⟨rfl, b2⟩
    have D2 := Lib.hid (below_more D1.out b2)
    clear b2
    go_wp2_with fail
    go_ret
    exact ⟨rfl, D2.out⟩
  · have i2 : (M : Int) > 500 := by omega
    clear h
    go_enter Try.func5, Try.ntmps5
    go_wp2_with fail
    refine (C.out).mono ?_; rintro e w1 ⟨rfl, b1⟩
    have D1 := Lib.hid b1
    clear b1
    go_wp2_with fail
    refine (awake_any _).mono ?_; rintro e w2 ⟨rfl, b2⟩
    have D2 := Lib.hid (below_more D1.out b2)
    clear b2
    go_wp2_with fail
    go_ret
    exact ⟨rfl, D2.out⟩

set_option maxRecDepth 100000 in
set_option maxHeartbeats 8000000 in
theorem near (a0 n : Int) (M f : Nat) (r : Option Addr) (dl : List Dx) (v : Value) (w : World) (hv : RA (doE w) w v dl) (h1 : ¬ 0 < hvF 0 dl) (h2 : M ≤ 500) :
    Calls Try.prog 5 #[.int .i64 a0, v, .int .i64 n, .slice r M f] w fun e w' => e = .returned (.bool true) ∧ Below w.heap.size w w' := by
  obtain ⟨u, hu, _⟩ := u64_nat a0
  obtain ⟨L, hL⟩ : ∃ L, L = 1 + u % 64 := ⟨_, rfl⟩
  have l1 : 1 ≤ L := by omega
  have l2 : L ≤ 64 := by omega
  have t1 : (u : Int).tmod 64 = (L : Int) - 1 := by have h := tmod_nat u 64; rw [show ((64 : Nat) : Int) = 64 from rfl] at h; omega
  have k1 : IntKind.i64.wrap ((L : Int) - 1) = (L : Int) - 1 := wr64 _ (by omega) (by omega)
  have t3 : (1 : Int) + ((L : Int) - 1) = (L : Int) := by omega
  have k2 : IntKind.i64.wrap (L : Int) = (L : Int) := wr64 _ (by omega) (by omega)
  have k3 : IntKind.i64.wrap (8 * (L : Int)) = ((8 * L : Nat) : Int) := by rw [wr64 _ (by omega) (by omega)]; simp
  have k4 : (8 : Int) * (L : Int) = ((8 * L : Nat) : Int) := by simp
  have hm : Mw ((8 * L : Nat) : Int) := by unfold Mw; omega
  have FX := Lib.hid (first_fine hm)
  have CH := Lib.hid (heavy_is dl v w hv _ rfl)
  obtain ⟨hz1, hz2⟩ := hvF_zero h1
  obtain ⟨R, hR⟩ : ∃ R, hvF 0 dl = R := ⟨_, rfl⟩
  rw [hR] at CH h1
  have HZ := Lib.hid hz1
  have HD : Hid (dl.length ≤ 100) := Lib.hid (by
    rcases hz2 with h | h
    · rw [h]; simp
    · omega)
  have HLN : Hid (8 * L ≤ 512) := Lib.hid (by omega)
  have HV := Lib.hid (fun (w' : World) (hb : Below w.heap.size w w') => ra_below hv hb)
  have hR0 : R ≤ 0 := by omega
  have i3 : (M : Int) ≤ 500 := by omega
  have i4 : ¬ (500 : Int) < (M : Int) := by omega
  have CF := Lib.hid (fun w => rfirst_is ((8 * L : Nat) : Int) w)
  obtain ⟨pd, cd, rfl, _, _⟩ := ra_shape hv
  rw [k4] at k3
  obtain ⟨L8, hL8⟩ : ∃ L8, 8 * L = L8 := ⟨_, rfl⟩
  rw [hL8] at k3 k4 CF FX HLN
  clear hL l1 l2 hm hz1 hz2 hR hv h1 h2 hL8
  go_enter Try.func5, Try.ntmps5
  go_wp2_with fail
  refine (CH.out).mono ?_; rintro e w1 ⟨rfl, b1⟩
  have D1 := Lib.hid b1
  clear b1 CH
  go_wp2_with fail
  refine (CF.out _).mono ?_; rintro e w2 ⟨⟨v2, rfl, o2⟩, b2⟩
  have D2 := Lib.hid (below_more D1.out b2)
  have R2 := Lib.hid o2.ru
  have F2 : Hid (∃ X, RU w2 v2 X ∧ (X.length ≤ 512 ∧ WordsOk X) ∧ Below w.heap.size w w2) := Lib.hid ⟨_, R2.out, ⟨by rw [FX.out.1]; exact HLN.out, FX.out.2⟩, D2.out⟩
  clear o2 b2 D1 D2 R2 FX HLN CF hu t1 k1 t3 k2 k3 k4 hR0 i3 i4
  go_wp2
  go_loopw [9, 36] (fun vw i wr => ∃ k : Nat, k ≤ dl.length ∧ i = .int .i64 k ∧ Hid (∃ X, RU wr vw X ∧ (X.length ≤ 512 ∧ WordsOk X) ∧ Below w.heap.size w wr)) (fun _ i _ => dl.length - (intOf i).toNat)
  case atStart => exact ⟨0, Nat.zero_le _, rfl, F2⟩
  case round =>
    obtain ⟨k, hk, rfl, H⟩ := hrel
    obtain ⟨X, hRX, hHX, hBW⟩ := H.out
    have RX := Lib.hid hRX
    have HX := Lib.hid hHX
    have HBW := Lib.hid hBW
    clear hRX hHX hBW H F2
    by_cases hlt : k < dl.length
    · obtain ⟨b, off, rfl, hb, hx⟩ := do_at (HV.out _ HBW.out) (by omega)
      obtain ⟨hld, hwf⟩ := hx k hlt
      have hbl : (dl.getD k default).bl.length ≤ 500 := HZ.out _ (by simp [hlt])
      have i0 : (0 : Int) ≤ (k : Int) := by omega
      have i1 : (k : Int) < (dl.length : Int) := by omega
      have i2 : ¬ (k : Int) < 0 := by omega
      have j0 : IntKind.i64.wrap ((k : Int) + 1) = ((k + 1 : Nat) : Int) := by rw [show (k : Int) + 1 = ((k + 1 : Nat) : Int) by omega]; exact i64_nat _ (by have := HD.out; omega)
      have HK := Lib.hid hlt
      generalize dl.getD k default = y at *
      obtain ⟨pb, cb, hpb, _, _⟩ := ra_shape hwf.rv
      have RBL := Lib.hid hwf.rv
      have hone := hwf.one
      obtain ⟨d, nn, kk, oo, vb, bl⟩ := y
      dsimp only at hpb hbl RBL hone
      subst hpb
      obtain ⟨V, hV, hst, HVD⟩ := do_boxed wr ⟨d, nn, kk, oo, .slice pb bl.length cb, bl⟩ hone
      obtain ⟨Y, hY, hst2, HY⟩ := px_boxed V ⟨1, 0, nn, 0, .slice none 0 0, []⟩ rfl
      have HBL := Lib.hid hbl
      have d1 := HVD.out.1.c1
      dsimp only at d1
      have DY := Lib.hid (HVD.out.1.below HY.out.2)
      have d0 := DY.out.c0
      have d1y := DY.out.c1
      dsimp only at d0 d1y
      have BY := Lib.hid (below_more HVD.out.2 HY.out.2)
      have HVs : Hid (wr.heap.size ≤ V.heap.size) := Lib.hid HVD.out.2.size
      have HVl : Hid (wr.heap.size < V.heap.size) := Lib.hid HVD.out.1.lt
      obtain ⟨o1, ho1⟩ : ∃ o, IntKind.i64.wrap (8 * kk) = o := ⟨_, rfl⟩
      obtain ⟨A, hA⟩ : ∃ A, bits .and .i64 kk 63 = A := ⟨_, rfl⟩
      obtain ⟨B, hB⟩ : ∃ B, bits .and .i64 oo 7 = B := ⟨_, rfl⟩
      obtain ⟨o3, ho3⟩ : ∃ o, IntKind.i64.wrap (8 * A) = o := ⟨_, rfl⟩
      obtain ⟨o4, ho4⟩ : ∃ o, IntKind.i64.wrap (o3 + B) = o := ⟨_, rfl⟩
      have HO4 : Hid (-9223372036854775808 ≤ o4 ∧ o4 ≤ 9223372036854775807) := Lib.hid (by rw [← ho4, IntKind.wrap_i64]; omega)
      clear hx hb hwf hbl HVD hone HD hlt hk HZ HV hV hY
      generalize dl.length = LD at *
      by_cases hd0 : d = 0
      · subst hd0
        have EF := Lib.hid (al_fine X nn (0 : Nat))
        obtain ⟨C, hC⟩ : ∃ C, lnC 1 nn (0 : Nat) = C := ⟨_, rfl⟩
        rw [hC] at EF
        have IA := Lib.hid (ral_is X nn [] u9 (.slice none 0 0) Y (ru_below RX.out BY.out) (by have := HX.out.1; omega) HX.out.2 (ri_nil Y))
        have PV := Lib.hid HY.out.1
        have BP := Lib.hid BY.out
        obtain ⟨E, hE⟩ : ∃ E, (alR X nn []).1 = E := ⟨_, rfl⟩
        rw [hE] at EF IA
        clear hE HY
        go_wp2_with fail
        refine (IA.out).mono ?_; rintro e w5 ⟨⟨x5, rfl, o5⟩, b5⟩
        clear IA

        obtain ⟨pe, ce, rfl, _, _⟩ := ra_shape o5.ra
        have R5 := Lib.hid o5.ra
        have P5 := Lib.hid (PV.out.below b5)
        have B5 := Lib.hid (below_more BP.out b5)
        have l5 : ∀ w' : World, Below w5.heap.size w5 w' → (pxLoad (.pointer (some ⟨V.heap.size, 0, none⟩))).run Try.prog w' = .ok (.agg (pxc ⟨1, 0, nn, 0, .slice none 0 0, []⟩)) w' := P5.out.later
        have EL := Lib.hid (fun (w' : World) (hb : Below w5.heap.size w5 w') => rlen_is EF.out _ w' (ra_below R5.out hb))
        have CL := Lib.hid (clines_w 1 0 nn 0 none 0 0 [] C hC)
        clear o5 b5 PV BP
        go_wp2
        go_region_held3 (fun w' => Below w5.heap.size w5 w')
          (first | assumption | exact (Below.refl _ _).drew | exact below_more ‹Below w5.heap.size w5 _› hbq)
          (first
            | (go_at_call 21; refine (EL.out _ (by first | assumption | exact (Below.refl _ _).drew)).mono ?_; rintro e wq ⟨pq, nq, dq, rfl, hnq, hbq⟩)
            | (go_at_call 9; refine (CL.out _).mono ?_; rintro e wq ⟨rfl, hbq⟩))
        have B6 := Lib.hid ‹Below w5.heap.size w5 wq›
        have AP := Lib.hid (rapply_any X E _ _ wq (ru_below RX.out (below_more B5.out B6.out)) (ra_below R5.out B6.out) (by have := HX.out.1; omega) EF.out.len)
        have hX2 := appF_fine EF.out HX.out.2
        have hX1 : (appF X E).length ≤ 512 := by rw [appF_length]; exact HX.out.1
        have HX2 := Lib.hid (And.intro hX1 hX2)
        have BW := Lib.hid (below_more HBW.out (below_more B5.out B6.out))
        clear EL CL R5 P5 B5 B6 l5 hX1 hX2 EF hC
        go_wp2_with fail
        refine (AP.out).mono ?_; rintro e w7 ⟨⟨v7, rfl, o7⟩, b7⟩
        have HF : Hid (∃ X, RU w7 v7 X ∧ (X.length ≤ 512 ∧ WordsOk X) ∧ Below w.heap.size w w7) := Lib.hid ⟨_, o7.ru, HX2.out, below_more BW.out b7⟩
        clear o7 b7 AP HX2 BW
        go_wp2
        exact ⟨⟨k + 1, by have := HK.out; omega, by go_num, HF⟩, by have := HK.out; simp [intOf]; omega⟩
      · by_cases hd1 : d = 1
        · subst hd1
          have EF := Lib.hid (fr_fine X o1)
          have hC : lnC 2 0 (0 : Nat) = 1 := by decide
          have st := HY.out.1.store (y := ⟨2, 0, 0, 0, .slice none 0 0, []⟩) rfl
          obtain ⟨Z, hZ⟩ : ∃ Z, Y.setRow V.heap.size (pxc ⟨2, 0, 0, 0, .slice none 0 0, []⟩) = Z := ⟨_, rfl⟩
          have PV := Lib.hid (show Pxv Z V.heap.size ⟨2, 0, 0, 0, .slice none 0 0, []⟩ by rw [← hZ]; exact HY.out.1.put)
          have bz : Below wr.heap.size wr Z := by rw [← hZ]; exact below_row BY.out HVs.out
          have BP := Lib.hid bz
          have d2 : Z.cell? ⟨wr.heap.size, 2, none⟩ = some (.int .i64 kk) := by
            have : Dv Z wr.heap.size ⟨1, nn, kk, oo, .slice pb bl.length cb, bl⟩ := by
              rw [← hZ]
              exact DY.out.of_heap (row_other _ (Nat.ne_of_gt HVl.out))
            exact this.c2
          have IA := Lib.hid (rfr_is X o1 u9 Z (ru_below RX.out bz) (by have := HX.out.1; omega) HX.out.2)
          obtain ⟨E, hE⟩ : ∃ E, (frR X o1).1 = E := ⟨_, rfl⟩
          rw [hE] at EF IA
          clear hE HY bz DY BY
          go_wp2_with fail
          refine (IA.out).mono ?_; rintro e w5 ⟨⟨x5, rfl, o5⟩, b5⟩
          clear IA st hZ d2

          obtain ⟨pe, ce, rfl, _, _⟩ := ra_shape o5.ra
          have R5 := Lib.hid o5.ra
          have P5 := Lib.hid (PV.out.below b5)
          have B5 := Lib.hid (below_more BP.out b5)
          have l5 : ∀ w' : World, Below w5.heap.size w5 w' → (pxLoad (.pointer (some ⟨V.heap.size, 0, none⟩))).run Try.prog w' = .ok (.agg (pxc ⟨2, 0, 0, 0, .slice none 0 0, []⟩)) w' := P5.out.later
          have EL := Lib.hid (fun (w' : World) (hb : Below w5.heap.size w5 w') => rlen_is EF.out _ w' (ra_below R5.out hb))
          have CL := Lib.hid (clines_w 2 0 0 0 none 0 0 [] 1 hC)
          clear o5 b5 PV BP
          go_wp2
          go_region_held3 (fun w' => Below w5.heap.size w5 w')
            (first | assumption | exact (Below.refl _ _).drew | exact below_more ‹Below w5.heap.size w5 _› hbq)
            (first
              | (go_at_call 21; refine (EL.out _ (by first | assumption | exact (Below.refl _ _).drew)).mono ?_; rintro e wq ⟨pq, nq, dq, rfl, hnq, hbq⟩)
              | (go_at_call 9; refine (CL.out _).mono ?_; rintro e wq ⟨rfl, hbq⟩))
          have B6 := Lib.hid ‹Below w5.heap.size w5 wq›
          have AP := Lib.hid (rapply_any X E _ _ wq (ru_below RX.out (below_more B5.out B6.out)) (ra_below R5.out B6.out) (by have := HX.out.1; omega) EF.out.len)
          have hX2 := appF_fine EF.out HX.out.2
          have hX1 : (appF X E).length ≤ 512 := by rw [appF_length]; exact HX.out.1
          have HX2 := Lib.hid (And.intro hX1 hX2)
          have BW := Lib.hid (below_more HBW.out (below_more B5.out B6.out))
          clear EL CL R5 P5 B5 B6 l5 hX1 hX2 EF hC
          go_wp2_with fail
          refine (AP.out).mono ?_; rintro e w7 ⟨⟨v7, rfl, o7⟩, b7⟩
          have HF : Hid (∃ X, RU w7 v7 X ∧ (X.length ≤ 512 ∧ WordsOk X) ∧ Below w.heap.size w w7) := Lib.hid ⟨_, o7.ru, HX2.out, below_more BW.out b7⟩
          clear o7 b7 AP HX2 BW
          go_wp2
          exact ⟨⟨k + 1, by have := HK.out; omega, by go_num, HF⟩, by have := HK.out; simp [intOf]; omega⟩
        · have e0 : (d == 0) = false := beq_eq_false_iff_ne.2 hd0
          have e1 : (d == 1) = false := beq_eq_false_iff_ne.2 hd1
          have st := HY.out.1.store (y := ⟨4, 0, 0, 0, .slice pb bl.length cb, []⟩) rfl
          obtain ⟨Z, hZ⟩ : ∃ Z, Y.setRow V.heap.size (pxc ⟨4, 0, 0, 0, .slice pb bl.length cb, []⟩) = Z := ⟨_, rfl⟩
          have PV := Lib.hid (show Pxv Z V.heap.size ⟨4, 0, 0, 0, .slice pb bl.length cb, []⟩ by rw [← hZ]; exact HY.out.1.put)
          have bz : Below wr.heap.size wr Z := by rw [← hZ]; exact below_row BY.out HVs.out
          have BP := Lib.hid bz
          have dz : Dv Z wr.heap.size ⟨d, nn, kk, oo, .slice pb bl.length cb, bl⟩ := by
            rw [← hZ]
            exact DY.out.of_heap (row_other _ (Nat.ne_of_gt HVl.out))
          have d2 := dz.c2
          have d3 := dz.c3
          have d4 := dz.c4
          have d4y := DY.out.c4
          dsimp only at d2 d3 d4 d4y
          have IA := Lib.hid (rwr_is X bl o4 u9 (.slice pb bl.length cb) Z (ru_below RX.out bz) (ra_below RBL.out (below_more HBW.out bz)) (by have := HX.out.1; omega) (by have := HBL.out; omega) HX.out.2 HO4.out)
          obtain ⟨LB, hLB⟩ : ∃ LB, bl.length = LB := ⟨_, rfl⟩
          have WF := Lib.hid (fun L (h : WrT X bl o4 L) => wr_fine h)
          rw [hLB] at IA PV st hZ d4 d4y WF hst hld
          obtain ⟨C, hC⟩ : ∃ C, lnC 4 0 (LB : Int) = C := ⟨_, rfl⟩
          rw [hC] at WF
          clear HY bz dz DY BY hLB hd0 hd1
          go_wp2_with fail
          refine (IA.out).mono ?_; rintro e w5 ⟨⟨x5, E, rfl, o5, ht⟩, b5⟩
          have EF := Lib.hid (WF.out E ht)
          clear IA st hZ d2 d3 d4 d4y ht WF

          obtain ⟨pe, ce, rfl, _, _⟩ := ra_shape o5.ra
          have R5 := Lib.hid o5.ra
          have P5 := Lib.hid (PV.out.below b5)
          have B5 := Lib.hid (below_more BP.out b5)
          have l5 : ∀ w' : World, Below w5.heap.size w5 w' → (pxLoad (.pointer (some ⟨V.heap.size, 0, none⟩))).run Try.prog w' = .ok (.agg (pxc ⟨4, 0, 0, 0, .slice pb LB cb, []⟩)) w' := P5.out.later
          have EL := Lib.hid (fun (w' : World) (hb : Below w5.heap.size w5 w') => rlen_is EF.out _ w' (ra_below R5.out hb))
          have CL := Lib.hid (clines_w 4 0 0 0 pb LB cb [] C hC)
          clear o5 b5 PV BP
          go_wp2
          go_region_held3 (fun w' => Below w5.heap.size w5 w')
            (first | assumption | exact (Below.refl _ _).drew | exact below_more ‹Below w5.heap.size w5 _› hbq)
            (first
              | (go_at_call 21; refine (EL.out _ (by first | assumption | exact (Below.refl _ _).drew)).mono ?_; rintro e wq ⟨pq, nq, dq, rfl, hnq, hbq⟩)
              | (go_at_call 9; refine (CL.out _).mono ?_; rintro e wq ⟨rfl, hbq⟩))
          have B6 := Lib.hid ‹Below w5.heap.size w5 wq›
          have AP := Lib.hid (rapply_any X E _ _ wq (ru_below RX.out (below_more B5.out B6.out)) (ra_below R5.out B6.out) (by have := HX.out.1; omega) EF.out.len)
          have hX2 := appF_fine EF.out HX.out.2
          have hX1 : (appF X E).length ≤ 512 := by rw [appF_length]; exact HX.out.1
          have HX2 := Lib.hid (And.intro hX1 hX2)
          have BW := Lib.hid (below_more HBW.out (below_more B5.out B6.out))
          clear EL CL R5 P5 B5 B6 l5 hX1 hX2 EF hC
          go_wp2_with fail
          refine (AP.out).mono ?_; rintro e w7 ⟨⟨v7, rfl, o7⟩, b7⟩
          have HF : Hid (∃ X, RU w7 v7 X ∧ (X.length ≤ 512 ∧ WordsOk X) ∧ Below w.heap.size w w7) := Lib.hid ⟨_, o7.ru, HX2.out, below_more BW.out b7⟩
          clear o7 b7 AP HX2 BW
          go_wp2
          exact ⟨⟨k + 1, by have := HK.out; omega, by go_num, HF⟩, by have := HK.out; simp [intOf]; omega⟩
    · obtain rfl : k = dl.length := by omega
      clear HV HZ HD hlt hk
      generalize dl.length = LD at *
      have IA := Lib.hid (ral_is X n [] u9 (.slice none 0 0) wr RX.out (by have := HX.out.1; omega) HX.out.2 (ri_nil wr))
      have EF := Lib.hid (al_fine X n (0 : Nat))
      obtain ⟨C, hC⟩ : ∃ C, lnC 1 n (0 : Nat) = C := ⟨_, rfl⟩
      have C0 : 0 ≤ C := by rw [← hC]; exact (lnC_in 1 n (0 : Nat)).1
      rw [hC] at EF
      have CL := Lib.hid (clines_w 1 0 n 0 none 0 0 [] C hC)
      clear hC
      go_wp2_with fail
      refine (IA.out).mono ?_; rintro e w5 ⟨⟨x5, rfl, o5⟩, b5⟩
      have EL := Lib.hid (rlen_is EF.out _ w5 o5.ra)
      have B5 := Lib.hid (below_more HBW.out b5)
      clear IA o5 b5
      go_wp2_with fail
      refine (EL.out).mono ?_; rintro e w6 ⟨p6, n6, d6, rfl, h6, b6⟩
      have B6 := Lib.hid (below_more B5.out b6)
      clear EL b6 EF
      go_wp2_with fail
      refine (CL.out _).mono ?_; rintro e w7 ⟨rfl, b7⟩
      have B7 := Lib.hid (below_more B6.out b7)
      clear b7
      by_cases hC1 : 0 < C
      · go_wp2_with fail
        refine (awake_any _).mono ?_; rintro e w8 ⟨rfl, hb⟩
        go_wp2_with fail
        go_ret
        exact ⟨rfl, below_more B7.out hb⟩
      · obtain rfl : C = 0 := by omega
        obtain rfl : n6 = 0 := by omega
        go_wp2_with fail
        refine (awake_any _).mono ?_; rintro e w8 ⟨rfl, hb⟩
        go_wp2_with fail
        go_ret
        exact ⟨rfl, below_more B7.out hb⟩

theorem walk (a0 : Int) (l1 : List Dx) (v1 : Value) (a2 : Int) (l3 : List Int) (v3 : Value) (w : World) (_ : (Lit.int .i64 a0).wf = true) (h1 : RA (doE w) w v1 l1) (_ : (Lit.int .i64 a2).wf = true) (h3 : RA byE w v3 l3) :
    Calls Try.prog 5 #[.int .i64 a0, v1, .int .i64 a2, v3] w fun e w' => e = .returned (.bool true) ∧ Below w.heap.size w w' := by
  obtain ⟨q, c, rfl, _, _⟩ := ra_shape h3
  by_cases h : 0 < hvF 0 l1 ∨ 500 < l3.length
  · exact far a0 a2 l3.length c q l1 v1 w h1 h
  · have h' := not_or.1 h
    exact near a0 a2 l3.length c q l1 v1 w h1 h'.1 (by omega)

set_option maxRecDepth 100000 in
theorem lifted (os : Os) (started : os.Started) (H : Type) (enc : TypeId × Value → H) :
    ReturnsInHanded {} Try.checked os 5 .any (Rows.costHomesSpec.pre6 enc Try.prog Try.f5 Rows.costHomesRow.domain false) (Rows.costHomesSpec.post enc Try.prog Try.f5 false true false false) := by
  refine returnsInHanded_of_change (C := Try.checked) own started (by kernel_rfl) Try.func5
    (ChangeSpec.witness6 (enc := enc) (C := Try.checked) false ⟨#[], #[.int .i64 0, .slice none 0 0, .int .i64 0, .slice none 0 0], []⟩ 8 (by kernel_rfl) (by kernel_rfl) (by kernel_rfl) (by kernel_rfl)) ?_
  intro W base args ds gs before hval0 hW hcnd _
  have hval : ∀ (j : Nat) t v, Try.f5.params[j]? = some t → args[j]? = some v → Value.okWide Try.prog W .any base t v := hval0
  have hW' := hW
  have hlt := hW.lt
  obtain ⟨p, q, hA0, hV, hpq, hfz, hnd⟩ := hW
  have hA : DataW.TrodAll enc Try.prog W 0 (fun _ => true) true Try.f5.params.toList args.toList ds p := hA0
  rw [Try.params5] at hA hval
  obtain ⟨v0, vs0, d0, ds0, p0, q0, hargs, rfl, hp, h0, r0⟩ := trodAll_cons hA
  obtain ⟨v1, vs1, d1, ds1, p1, q1, rfl, rfl, rfl, h1, r1⟩ := trodAll_cons r0
  obtain ⟨v2, vs2, d2, ds2, p2, q2, rfl, rfl, rfl, h2, r2⟩ := trodAll_cons r1
  obtain ⟨v3, vs3, d3, ds3, p3, q3, rfl, rfl, rfl, h3, r3⟩ := trodAll_cons r2
  obtain ⟨rfl, rfl, rfl⟩ := trodAll_nil r3
  obtain rfl : args = #[v0, v1, v2, v3] := by cases args; simp_all
  obtain ⟨rfl, rfl⟩ := trodVars_none hV
  have hlt' : ∀ x ∈ before, x.block < W.heap.size := fun x hx => hlt x hx
  obtain ⟨a0, rfl, rfl, rfl, w0⟩ := open_int Try.underlying3 (hval 0 3 v0 rfl rfl) h0
  obtain ⟨l1, w1⟩ := dos_in (hval 1 36 v1 rfl rfl) h1
  obtain ⟨a2, rfl, rfl, rfl, w2⟩ := open_int Try.underlying3 (hval 2 3 v2 rfl rfl) h2
  obtain ⟨l3, w3⟩ := bytes_in (hval 3 22 v3 rfl rfl) h3
  refine (walk a0 l1 v1 a2 l3 v3 W w0 w1 w2 w3).mono fun e W' ⟨he, hb⟩ => ?_
  subst he
  exact ⟨_, rfl, law_post rfl (by kernel_rfl) hW' (by rw [Try.params5]; intro t ht; simp only [List.mem_cons, List.not_mem_nil, or_false] at ht; (repeat' (first | (rcases ht with rfl | ht) | subst ht)) <;> exact ⟨by kernel_rfl, of_decide_eq_true (by kernel_rfl)⟩) rfl hb⟩

theorem over : Rows.costHomesRow.holds Try.pinned (OpenSpec.ofChange Rows.costHomesSpec) :=
  OpenClaim.holds_of_wide 5 Try.f5 rfl rfl rfl rfl rfl rfl rfl ⟨rfl, rfl, rfl, rfl, rfl⟩ rfl rfl rfl rfl rfl (by kernel_rfl) Try.func5 (by kernel_rfl)
    (of_decide_eq_true (by kernel_rfl)) (by unfold Func.isWrapper; first | (rw [if_pos (by decide +kernel)]; kernel_rfl) | (rw [if_neg (by decide +kernel)]; exact ⟨rfl, rfl⟩))
    (fun os started H enc _ => lifted os started H enc)

theorem proved : Rows.CostHomesSaid := over
end Go.Proofs.Ytegbeolnlpgdeaa.costHomes
