/-
  A memory answers as the document's reference does, whatever lines, limits and calls there are, and wherever the power goes. No conditions.
-/
import Derived.Test.YtomodoofpjgpgaaRmg
import Derived.Test.YtomodoofpjgpgaaCav
import Derived.Deep.RegionHeld3
import Derived.Deep.CutBlock
namespace Go.Proofs.Ytomodoofpjgpgaa.nvmPlays
open Go.Proofs.Ytomodoofpjgpgaa Go.ChangeShapes Go.WideShapes Go.ChangeAt Go.RowKit

set_option maxRecDepth 100000 in
set_option maxHeartbeats 4000000 in
theorem small (n : Int) (lim : List Int) (lv : Value) (cl : List Cl) (cv : Value) (w : World) (hl : IntsIn .i64 w lv lim) (hcl : RC w cv cl) (h : 200 < cl.length ∨ 300 < lim.length ∨ n < 1 ∨ 200 < n) :
    Calls Try.prog 3 #[.int .i64 n, lv, cv] w fun e w' => e = .returned (.bool true) ∧ Below w.heap.size w w' := by
  obtain ⟨p, cap, rfl, _⟩ := rc_shape hcl
  obtain ⟨p2, cap2, rfl, _⟩ := hl
  clear hcl
  by_cases h1 : 200 < cl.length
  · have i1 : (200 : Int) < (cl.length : Int) := by omega
    generalize cl.length = L at *
    go_enter Try.func3, Try.ntmps3
    go_wp2_with fail
    refine (awake_any _).mono ?_; rintro e w1 ⟨rfl, hb⟩
    have B1 := Lib.hid hb
    go_wp2
    go_ret
    exact ⟨rfl, B1.out⟩
  have i1 : ¬ (200 : Int) < (cl.length : Int) := by omega
  by_cases h2 : 300 < lim.length
  · have i2 : (300 : Int) < (lim.length : Int) := by omega
    generalize cl.length = L at *
    generalize lim.length = M at *
    go_enter Try.func3, Try.ntmps3
    go_wp2_with fail
    refine (awake_any _).mono ?_; rintro e w1 ⟨rfl, hb⟩
    have B1 := Lib.hid hb
    go_wp2
    go_ret
    exact ⟨rfl, B1.out⟩
  have i2 : ¬ (300 : Int) < (lim.length : Int) := by omega
  have h3 : n < 1 ∨ 200 < n := by omega
  generalize cl.length = L at *
  generalize lim.length = M at *
  have C1 := Lib.hid (fun v w => new_no n v w h3)
  have C2 := Lib.hid (fun v w => rnew_no n v w h3)
  clear h h3
  go_enter Try.func3, Try.ntmps3
  go_wp2_with fail
  refine (C1.out _ _).mono ?_; rintro e w1 ⟨rfl, rfl⟩
  go_wp2_with fail
  refine (C2.out _ _).mono ?_; rintro e w1 ⟨rfl, rfl⟩
  go_wp2_with fail
  refine (awake_any _).mono ?_; rintro e w1 ⟨rfl, hb⟩
  have B1 := Lib.hid hb
  go_wp2
  go_ret
  exact ⟨rfl, B1.out⟩

set_option maxRecDepth 100000 in
set_option maxHeartbeats 8000000 in
theorem main (n : Nat) (lim : List Int) (lv : Value) (cl : List Cl) (cv : Value) (w : World) (hl : RI w lv lim) (hcl : RC w cv cl) (h1 : cl.length ≤ 200) (h2 : lim.length ≤ 300) (hn1 : 1 ≤ n) (hn2 : n ≤ 200) :
    Calls Try.prog 3 #[.int .i64 n, lv, cv] w fun e w' => e = .returned (.bool true) ∧ Below w.heap.size w w' := by
  have HC := Lib.hid hcl
  have HL := Lib.hid hl
  have C1 := Lib.hid (fun v w (h : RI w v lim) => new_yes n v lim w hn1 hn2 h)
  have C2 := Lib.hid (fun v w (h : RI w v lim) => rnew_yes n v lim w hn1 hn2 h h2)
  obtain ⟨p, cap, rfl, _⟩ := rc_shape hcl
  obtain ⟨p2, cap2, rfl, _⟩ := hl
  have i1 : ¬ (200 : Int) < (cl.length : Int) := by omega
  have i2 : ¬ (300 : Int) < (lim.length : Int) := by omega
  clear hcl
  go_enter Try.func3, Try.ntmps3
  go_wp2_with fail
  refine (C1.out _ _ HL.out).mono ?_; rintro e w1 ⟨g, rfl, hg, hN, hb⟩
  go_wp2_with fail
  refine (C2.out _ _ (ri_below HL.out hb)).mono ?_; rintro e w2 ⟨r, rfl, hD, hv, hR, hb2⟩
  obtain ⟨hA, hB⟩ := at_start hn1 hn2 hg hN hb hD hv hR hb2
  have HA := Lib.hid hA
  have HB := Lib.hid hB
  clear hg hN hb hD hv hR hb2 hA hB
  go_wp2
  go_loopw [48] (fun i wr => ∃ k : Nat, k ≤ cl.length ∧ i = .int .i64 k ∧ Hid (∃ s, Both w g r wr s n k)) (fun i _ => cl.length - (intOf i).toNat)
  case atStart => exact ⟨0, by omega, rfl, Lib.hid ⟨_, HB.out⟩⟩
  case round =>
    obtain ⟨k, hk, rfl, HR⟩ := hrel
    obtain ⟨s, hBs⟩ := HR.out
    have HS := Lib.hid hBs
    clear hBs HR HB
    by_cases hlt : k < cl.length
    · obtain ⟨b, off, rfl, _, hcld, hwf⟩ := rc_at (rc_below HC.out HS.out.bel) hlt
      obtain ⟨W1, hW1⟩ : ∃ W1, wr.alloc (.cells (cc (cl.getD k default)) 33) = W1 := ⟨_, rfl⟩
      have V := Cv.new wr hwf.len
      have HS1 := HS.out.below (bal (o := .cells (cc (cl.getD k default)) 33) (Below.refl _ _))
      rw [hW1] at V HS1
      have HS1 := Lib.hid HS1
      have HSM := Lib.hid (HS1.out.small (by omega))
      have hc0 := Int.le_trans (HS1.out.ok.wr0 0) (HS1.out.ok.wr1 0)
      have hgb1 : Hid (wr.heap.size ∉ [g]) := Lib.hid (by have := HS.out.nm.lt; simp; omega)
      have hgb2 : Hid (wr.heap.size ∉ r.D) := Lib.hid (fun hx => by have := HS.out.rm.D_lt _ hx; omega)
      have hl8 := hwf.len
      have hwn := hwf.wn
      obtain ⟨L, hL⟩ : ∃ L, cl.length = L := ⟨_, rfl⟩
      rw [hL] at hlt i1 hk ⊢
      have i3 : (k : Int) < (L : Int) := by omega
      generalize cl.getD k default = c at *
      have VV := Lib.hid V
      obtain ⟨d, i, nn, l, vv⟩ := c
      dsimp only at hl8 hwn
      have hwn : nn ≤ 9223372036854775807 := by
        have hx : -9223372036854775808 ≤ nn ∧ nn ≤ 9223372036854775807 := by simpa [Lit.wf, IntKind.min, IntKind.max, IntKind.signed, IntKind.bits] using hwn
        exact hx.2
      have D0 : ∀ w', Cv w' wr.heap.size ⟨d, i, nn, l, vv⟩ → w'.cell? ⟨wr.heap.size, 0, none⟩ = some (.int .i64 d) := fun w' h => h.nums.1
      have D1 : ∀ w', Cv w' wr.heap.size ⟨d, i, nn, l, vv⟩ → w'.cell? ⟨wr.heap.size, 1, none⟩ = some (.int .i64 i) := fun w' h => h.nums.2.1
      have D2 : ∀ w', Cv w' wr.heap.size ⟨d, i, nn, l, vv⟩ → w'.cell? ⟨wr.heap.size, 2, none⟩ = some (.int .i64 nn) := fun w' h => h.nums.2.2.1
      have D3 : ∀ w', Cv w' wr.heap.size ⟨d, i, nn, l, vv⟩ → w'.cell? ⟨wr.heap.size, 11, none⟩ = some (.int .u64 vv) := fun w' h => h.nums.2.2.2
      have D4 : ∀ w', Cv w' wr.heap.size ⟨d, i, nn, l, vv⟩ → (lineLoad (.pointer (some ⟨wr.heap.size, 3, none⟩))).run Try.prog w' = .ok (.agg (lc l)) w' := fun w' h => h.line
      have dd := VV.out.nums.1
      dsimp only at dd
      clear V hwf hL D0
      have DD : d = 0 ∨ d = 1 ∨ d = 2 ∨ d = 3 ∨ d = 4 ∨ ((d == 0) = false ∧ (d == 1) = false ∧ (d == 2) = false ∧ (d == 3) = false ∧ (d == 4) = false) := by
        simp only [beq_eq_false_iff_ne]; omega
      go_upto_block 2 with fail
      go_cut [11] from 52 to 149 (fun v11 wx => v11 = .bool true ∧ Hid (∃ s', Both w g r wx s' n (k + 1)))
      case first =>
        rcases DD with rfl | rfl | rfl | rfl | rfl | ⟨t0, t1, t2, t3, t4⟩
        · go_wp2
          go_region_held3 (fun w' => Cv w' wr.heap.size ⟨0, i, nn, l, vv⟩)
            (first | assumption | exact VV.out | exact Cv.chg ‹Cv _ _ _› hCp hgb1.out | exact Cv.chg ‹Cv _ _ _› hCr hgb2.out)
            (first
              | (go_at_call 12; refine (put_any g s i l _ HS1.out.nm.drew HS1.out.ok HSM.out.2 hl8).mono ?_; rintro e wp ⟨rfl, hNp, hCp⟩)
              | (go_at_call 13; refine (rput_any r s i l _ (Rm.chg HS1.out.drew.rm hCp HA.out) HS1.out.ok hl8 HSM.out.1).mono ?_; rintro e wq ⟨rfl, hRr, hCr⟩))
          have HS2 := Lib.hid (HS1.out.drew.step HA.out hNp hCp hRr hCr (HS1.out.ok.put hl8 i) (s.put_n i l) (s.put_c i l))
          clear hNp hCp hRr hCr D1 D2 D3 D4
          go_wp2_with fail
          go_meet
          exact ⟨rfl, Lib.hid ⟨_, HS2.out⟩⟩
        · go_wp2
          go_region_held3 (fun w' => Cv w' wr.heap.size ⟨1, i, nn, l, vv⟩)
            (first | assumption | exact VV.out | exact Cv.chg ‹Cv _ _ _› hCp hgb1.out | exact Cv.chg ‹Cv _ _ _› hCr hgb2.out)
            (first
              | (go_at_call 14; refine (set_any g s i vv _ HS1.out.nm.drew HS1.out.ok HSM.out.2).mono ?_; rintro e wp ⟨rfl, hNp, hCp⟩)
              | (go_at_call 15; refine (rset_any r s i vv _ (Rm.chg HS1.out.drew.rm hCp HA.out) HS1.out.ok HSM.out.1).mono ?_; rintro e wq ⟨rfl, hRr, hCr⟩))
          have HS2 := Lib.hid (HS1.out.drew.step HA.out hNp hCp hRr hCr (HS1.out.ok.set i vv) (s.set_n i vv) (s.set_c i vv))
          clear hNp hCp hRr hCr D1 D2 D3 D4
          go_wp2_with fail
          go_meet
          exact ⟨rfl, Lib.hid ⟨_, HS2.out⟩⟩
        · obtain ⟨d0, d1, d2, d3⟩ := VV.out.nums
          dsimp only at d0 d1 d2 d3
          go_wp2_with fail
          refine (cut_any g s nn i W1 HS1.out.nm).mono ?_; rintro e wp ⟨rfl, hNp, hCp⟩
          have VP := VV.out.chg hCp hgb1.out
          have RP := Lib.hid (Rm.chg HS1.out.rm hCp HA.out)
          obtain ⟨e0, e1, e2, e3⟩ := VP.nums
          dsimp only at e0 e1 e2 e3
          have KN := Lib.hid hNp
          have KC := Lib.hid hCp
          clear VP d0 d1 d2 d3 hNp hCp
          go_wp2_with fail
          refine (rcut_any r s nn i wp RP.out hc0 hwn).mono ?_; rintro e wq ⟨rfl, hRr, hCr⟩
          have HS2 := Lib.hid (HS1.out.step HA.out KN.out KC.out hRr hCr (HS1.out.ok.cutAt hwn i) rfl (by show s.c ≤ s.c + 1; omega))
          clear hRr hCr e0 e1 e2 e3 D1 D2 D3 D4
          go_wp2_with fail
          go_meet
          exact ⟨rfl, Lib.hid ⟨_, HS2.out⟩⟩
        · obtain ⟨d0, d1, d2, d3⟩ := VV.out.nums
          dsimp only at d0
          go_wp2_with fail
          refine (power_any g s W1 HS1.out.nm).mono ?_; rintro e wp ⟨rfl, hNp, hCp⟩
          have RP := Lib.hid (Rm.chg HS1.out.rm hCp HA.out)
          have KN := Lib.hid hNp
          have KC := Lib.hid hCp
          clear d0 d1 d2 d3 hNp hCp
          go_wp2_with fail
          refine (rpower_any r s wp RP.out).mono ?_; rintro e wq ⟨rfl, hRr, hCr⟩
          have HS2 := Lib.hid (HS1.out.step HA.out KN.out KC.out hRr hCr HS1.out.ok.power rfl (by show s.c ≤ s.c + 1; omega))
          clear hRr hCr D1 D2 D3 D4
          go_wp2_with fail
          go_meet
          exact ⟨rfl, Lib.hid ⟨_, HS2.out⟩⟩
        · obtain ⟨d0, d1, d2, d3⟩ := VV.out.nums
          dsimp only at d0 d1
          go_wp2_with fail
          refine (reg_any g s i W1 HS1.out.nm).mono ?_; rintro e wp ⟨rfl, rfl⟩
          go_wp2_with fail
          refine (rreg_any r s i W1 HS1.out.rm).mono ?_; rintro e wq ⟨rfl, rfl⟩
          have HS2 := Lib.hid HS1.out.more
          clear d0 d1 d2 d3 D1 D2 D3 D4
          go_wp2_with fail
          go_meet
          exact ⟨rfl, Lib.hid ⟨_, HS2.out⟩⟩
        · obtain ⟨d0, d1, d2, d3⟩ := VV.out.nums
          dsimp only at d0 d1
          have hz := HS1.out.ok
          have hgl : (s.get i).length = 8 := by
            unfold Nv.get
            split
            · exact hz.line _
            · rfl
          clear hz
          obtain ⟨y, ey⟩ : ∃ y, s.get i = y := ⟨_, rfl⟩
          rw [ey] at hgl
          have EY := Lib.hid ey
          clear ey
          go_wp2_with fail
          refine (get_any g s i W1 HS1.out.nm HS1.out.ok).mono ?_; rintro e wa ⟨rfl, hba⟩
          rw [EY.out]
          obtain ⟨Wa, hWa, Ha⟩ := boxed1 wa (a := y) hgl
          have BA := Lib.hid (below_more hba Ha.out.2)
          have HSa := Lib.hid (HS1.out.below BA.out)
          obtain ⟨f0, f1, f2, f3⟩ := (VV.out.below BA.out).nums
          dsimp only at f0 f1
          clear hba d0 d1 d2 d3
          go_wp2_with fail
          refine (rget_any r s i Wa HSa.out.rm HSa.out.ok).mono ?_; rintro e wb ⟨rfl, hbb⟩
          rw [EY.out]
          obtain ⟨W9, hWb, Hb⟩ := boxed1 wb (a := y) hgl
          have BB := Lib.hid (below_more hbb Hb.out.2)
          have HS2 := Lib.hid (HSa.out.below BB.out).more
          have la := (Ha.out.1.below BB.out).load
          have lb := Hb.out.1.load
          clear hbb f0 f1 f2 f3 D1 D2 D3 D4
          go_wp2_with fail
          go_meet
          exact ⟨rfl, Lib.hid ⟨_, HS2.out⟩⟩
      case rest =>
        obtain ⟨rfl, HX⟩ := hcut
        obtain ⟨s', hs'⟩ := HX.out
        have HS2 := Lib.hid hs'
        clear hs' HX
        have U1 := fun (w' : World) (hb : Below wc.heap.size wc w') => (Rm.below HS2.out.rm hb).reads.1
        have U2 := fun (w' : World) (hb : Below wc.heap.size wc w') => (Rm.below HS2.out.rm hb).reads.2
        go_wp2
        go_region_held3 (fun w' => Below wc.heap.size wc w')
          (first | assumption | exact (Below.refl _ _).drew)
          (first
            | (go_at_call 24; refine (down_is rfl (HS2.out.nm.below (by assumption))).mono ?_; rintro e wz ⟨rfl, rfl⟩)
            | (go_at_call 25; refine (writes_is rfl (HS2.out.nm.below (by assumption))).mono ?_; rintro e wz ⟨rfl, rfl⟩)
            | (go_at_call 26; refine (lines_is HS2.out.ln (HS2.out.nm.below (by assumption))).mono ?_; rintro e wz ⟨rfl, rfl⟩))
        go_wp2
        exact ⟨⟨k + 1, by omega, by go_num, Lib.hid ⟨_, HS2.out.drew⟩⟩, by simp [intOf]; omega⟩
    · have i3 : ¬ (k : Int) < (cl.length : Int) := by omega
      generalize cl.length = L at *
      go_wp2_with fail
      refine (power_any g s wr HS.out.nm).mono ?_; rintro e wp ⟨rfl, hNp, hCp⟩
      have RP := Lib.hid (Rm.chg HS.out.rm hCp HA.out)
      have KN := Lib.hid hNp
      have KC := Lib.hid hCp
      clear hNp hCp
      go_wp2_with fail
      refine (rpower_any r s wp RP.out).mono ?_; rintro e wq ⟨rfl, hRr, hCr⟩
      have HS2 := Lib.hid (HS.out.step HA.out KN.out KC.out hRr hCr HS.out.ok.power rfl (by show s.c ≤ s.c + 1; omega))
      have CA : Hid s.power.calm := Lib.hid ⟨rfl, rfl⟩
      obtain ⟨sp, ep⟩ : ∃ sp, s.power = sp := ⟨_, rfl⟩
      rw [ep] at HS2 CA
      clear hRr hCr ep HS RP KN KC hlt hk i3 i1
      go_wp2
      go_loopw [182] (fun i wr2 => ∃ q : Nat, q ≤ n ∧ i = .int .i64 q ∧ Hid (Both w g r wr2 sp n (k + 1))) (fun i _ => n - (intOf i).toNat)
      case atStart => exact ⟨0, by omega, rfl, HS2⟩
      case round =>
        obtain ⟨q, hq, rfl, HS⟩ := hrel
        clear HS2
        by_cases hlt : q < n
        · have hr : sp.rdy (sp.has q) = 0 := CA.out.rdy (Nv.has_of (by rw [HS.out.ln]; exact hlt))
          have hg : sp.get q = sp.h q := by simp only [Nv.get, hr, if_true, Int.toNat_natCast]
          have hw : sp.wear q = sp.wr q := by
            have : sp.has q = true := Nv.has_of (by rw [HS.out.ln]; exact hlt)
            simp only [Nv.wear, this, if_true, Int.toNat_natCast]
          have h8 := HS.out.ok.line q
          obtain ⟨y, ey⟩ : ∃ y, sp.h q = y := ⟨_, rfl⟩
          obtain ⟨x, ex⟩ : ∃ x, sp.wr q = x := ⟨_, rfl⟩
          rw [ey] at hg h8
          rw [ex] at hw
          have EY := Lib.hid ey
          have EX := Lib.hid ex
          have GG := Lib.hid hg
          have GR := Lib.hid hr
          have GW := Lib.hid hw
          clear ey ex hg hr hw
          go_wp2_with fail
          refine (get_is GG.out GR.out HS.out.nm HS.out.ok).mono ?_; rintro e wa ⟨rfl, hba⟩
          obtain ⟨Wa, hWa, Ha⟩ := boxed1 wa (a := y) h8
          have BA := Lib.hid (below_more hba Ha.out.2)
          have HSa := Lib.hid (HS.out.below BA.out)
          clear hba
          have u0 : ∀ w', Below Wa.heap.size Wa w' → w'.cell? ⟨r.a, 0, none⟩ = some (.slice (some ⟨r.l, 0, none⟩) n n) := fun w' hb => ((HSa.out.below hb).line hlt).1
          have u1 : ∀ w', Below Wa.heap.size Wa w' → w'.cell? ⟨r.a, 36, none⟩ = some (.slice (some ⟨r.m, 0, none⟩) n n) := fun w' hb => ((HSa.out.below hb).line hlt).2.1
          have u2 : ∀ w', Below Wa.heap.size Wa w' → (lineLoad (.pointer (some ⟨r.l, q * 8, none⟩))).run Try.prog w' = .ok (.agg (lc y)) w' := fun w' hb => by
            have := ((HSa.out.below hb).line hlt).2.2.1
            rw [EY.out] at this; exact this
          have u3 : ∀ w', Below Wa.heap.size Wa w' → w'.cell? ⟨r.m, q, none⟩ = some (.int .i64 x) := fun w' hb => by
            have := ((HSa.out.below hb).line hlt).2.2.2
            rw [EX.out] at this; exact this
          have u4 := Ha.out.1.later
          have j0 : (0 : Int) ≤ (q : Int) := by omega
          have j1 : (q : Int) < (n : Int) := by omega
          go_wp2
          go_region_held3 (fun w' => Below Wa.heap.size Wa w')
            (first | assumption | exact (Below.refl _ _).drew)
            ((go_at_call 27; refine (wear_is GW.out (HSa.out.nm.below (by assumption)) HSa.out.ok).mono ?_; rintro e wz ⟨rfl, rfl⟩))
          go_wp2
          exact ⟨⟨q + 1, by omega, by go_num, Lib.hid HSa.out.drew⟩, by simp [intOf]; omega⟩
        · obtain rfl : q = n := by omega
          have w1 : sp.wear (q : Int) = 0 := by
            have : sp.has (q : Int) = false := by simp [Nv.has, HS.out.ln]
            simp only [Nv.wear, this]; rfl
          have w2 : sp.wear (-1) = 0 := by
            have : sp.has (-1) = false := by simp [Nv.has]
            simp only [Nv.wear, this]; rfl
          have G1 := Lib.hid w1
          have G2 := Lib.hid w2
          clear w1 w2
          go_wp2_with fail
          refine (wear_is G1.out HS.out.nm HS.out.ok).mono ?_; rintro e w3 ⟨rfl, rfl⟩
          go_wp2_with fail
          refine (wear_is G2.out HS.out.nm HS.out.ok).mono ?_; rintro e w3 ⟨rfl, rfl⟩
          go_wp2_with fail
          refine (awake_any _).mono ?_; rintro e w4 ⟨rfl, hb⟩
          have B7 := Lib.hid (below_more HS.out.bel hb)
          go_wp2
          go_ret
          exact ⟨rfl, B7.out⟩

theorem walk (n : Int) (lim : List Int) (lv : Value) (cl : List Cl) (cv : Value) (w : World) (_ : (Lit.int .i64 n).wf = true) (hl : IntsIn .i64 w lv lim) (hcl : RC w cv cl) :
    Calls Try.prog 3 #[.int .i64 n, lv, cv] w fun e w' => e = .returned (.bool true) ∧ Below w.heap.size w w' := by
  by_cases h : 200 < cl.length ∨ 300 < lim.length ∨ n < 1 ∨ 200 < n
  · exact small n lim lv cl cv w hl hcl h
  · obtain ⟨m, rfl⟩ : ∃ m : Nat, n = m := ⟨n.toNat, by omega⟩
    exact main m lim lv cl cv w (ri_in hl) hcl (by omega) (by omega) (by omega) (by omega)

set_option maxRecDepth 100000 in
theorem lifted (os : Os) (started : os.Started) (H : Type) (enc : TypeId × Value → H) :
    ReturnsInHanded {} Try.checked os 3 .any (Rows.nvmPlaysSpec.pre6 enc Try.prog Try.f3 Rows.nvmPlaysRow.domain false) (Rows.nvmPlaysSpec.post enc Try.prog Try.f3 false true false false) := by
  refine returnsInHanded_of_change (C := Try.checked) own started (by kernel_rfl) Try.func3
    (ChangeSpec.witness6 (enc := enc) (C := Try.checked) false ⟨#[], #[.int .i64 0, .slice none 0 0, .slice none 0 0], []⟩ 8 (by kernel_rfl) (by kernel_rfl) (by kernel_rfl) (by kernel_rfl)) ?_
  intro W base args ds gs before hval0 hW hcnd _
  have hval : ∀ (j : Nat) t v, Try.f3.params[j]? = some t → args[j]? = some v → Value.okWide Try.prog W .any base t v := hval0
  have hW' := hW
  have hlt := hW.lt
  obtain ⟨p, q, hA0, hV, hpq, hfz, hnd⟩ := hW
  have hA : DataW.TrodAll enc Try.prog W 0 (fun _ => true) true Try.f3.params.toList args.toList ds p := hA0
  rw [Try.params3] at hA hval
  obtain ⟨v0, vs0, d0, ds0, p0, q0, hargs, rfl, hp, h0, r0⟩ := trodAll_cons hA
  obtain ⟨v1, vs1, d1, ds1, p1, q1, rfl, rfl, rfl, h1, r1⟩ := trodAll_cons r0
  obtain ⟨v2, vs2, d2, ds2, p2, q2, rfl, rfl, rfl, h2, r2⟩ := trodAll_cons r1
  obtain ⟨rfl, rfl, rfl⟩ := trodAll_nil r2
  obtain rfl : args = #[v0, v1, v2] := by cases args; simp_all
  obtain ⟨rfl, rfl⟩ := trodVars_none hV
  have hlt' : ∀ x ∈ before, x.block < W.heap.size := fun x hx => hlt x hx
  obtain ⟨a0, rfl, rfl, rfl, w0⟩ := open_int Try.underlying3 (hval 0 3 v0 rfl rfl) h0
  obtain ⟨l1, w1⟩ := ints_in Try.underlying22 Try.underlying3 (by kernel_rfl) (hval 1 22 v1 rfl rfl) (fun x hx => hlt' x (by rw [hpq, hp]; simp [hx])) h1
  obtain ⟨l2, w2⟩ := calls_in (hval 2 23 v2 rfl rfl) h2
  refine (walk a0 l1 v1 l2 v2 W w0 w1 w2).mono fun e W' ⟨he, hb⟩ => ?_
  subst he
  exact ⟨_, rfl, law_post rfl (by kernel_rfl) hW' (by rw [Try.params3]; intro t ht; simp only [List.mem_cons, List.not_mem_nil, or_false] at ht; (repeat' (first | (rcases ht with rfl | ht) | subst ht)) <;> exact ⟨by kernel_rfl, of_decide_eq_true (by kernel_rfl)⟩) rfl hb⟩

theorem over : Rows.nvmPlaysRow.holds Try.pinned (OpenSpec.ofChange Rows.nvmPlaysSpec) :=
  OpenClaim.holds_of_wide 3 Try.f3 rfl rfl rfl rfl rfl rfl rfl ⟨rfl, rfl, rfl, rfl, rfl⟩ rfl rfl rfl rfl rfl (by kernel_rfl) Try.func3 (by kernel_rfl)
    (of_decide_eq_true (by kernel_rfl)) (by unfold Func.isWrapper; first | (rw [if_pos (by decide +kernel)]; kernel_rfl) | (rw [if_neg (by decide +kernel)]; exact ⟨rfl, rfl⟩))
    (fun os started H enc _ => lifted os started H enc)

theorem proved : Rows.NvmPlaysSaid := over
end Go.Proofs.Ytomodoofpjgpgaa.nvmPlays
