/-
  Of blocks that may be, the bytes of each begin behind its header, and rise with the blocks; a block that is taken for bytes has as many as were asked for, or more, and begins where it began; none is taken that is used or too small. No conditions.
-/
import Derived.Test.YtabdcdddkmklcaaCrx
import Derived.Deep.RegionHeld3
namespace Go.Proofs.Ytabdcdddkmklcaa.carveOffs
set_option maxRecDepth 100000
open Go.Proofs.Ytabdcdddkmklcaa Go.ChangeShapes Go.WideShapes Go.ChangeAt Go.RowKit

theorem next_at {n : Int} {l : List Bk} (h : mayL n l = true) {k : Nat} (hk : k + 1 < l.length) : (l.getD k default).a < (l.getD (k + 1) default).a := by
  have hf := (mayL_yes.1 h).2
  have hs := getD_split (l := l) (k := k) (by omega)
  rw [getD_cut hk] at hs
  rw [hs] at hf
  obtain ⟨_, hf, _⟩ := mayF_app hf
  obtain ⟨h1, ⟨h2, _⟩, _, hf⟩ := mayF_cons.1 hf
  obtain ⟨h3, _⟩ := mayF_cons.1 hf
  omega
theorem bytes_of (x : Int) : ∃ u q N : Nat, IntKind.u64.wrap x = (u : Int) ∧ (u : Int).tmod 448 = (q : Int) ∧ IntKind.i64.wrap (q : Int) = (q : Int) ∧ IntKind.i64.wrap (1 + (q : Int)) = (N : Int) ∧ 1 ≤ N ∧ N ≤ 448 := by
  obtain ⟨u, hu, _⟩ := u64_nat x
  have hk : u % 448 < 448 := Nat.mod_lt _ (by omega)
  exact ⟨u, u % 448, 1 + u % 448, hu, tmod_nat u 448, i64_nat _ (by omega), by rw [show (1 : Int) + ((u % 448 : Nat) : Int) = ((1 + u % 448 : Nat) : Int) by omega]; exact i64_nat _ (by omega), by omega, by omega⟩

set_option maxHeartbeats 1000000 in
theorem far (l : List Bk) (p : Option Addr) (c : Nat) (n i k : Int) (w : World) (hv : RA blkE w (.slice p l.length c) l) (h : 300 < l.length ∨ l.length = 0 ∨ mayL n l = false) :
    Calls Try.prog 7 #[.slice p l.length c, .int .i64 n, .int .i64 i, .int .i64 k] w fun e w' => e = .returned (.bool true) ∧ Below w.heap.size w w' := by
  by_cases h1 : 300 < l.length
  · clear hv h
    generalize l.length = L at *
    have i1 : (L : Int) > 300 := by omega
    go_enter Try.func7, Try.ntmps7
    go_wp2_with fail
    refine (awake_any _).mono ?_; rintro e w' ⟨rfl, hb⟩
    go_wp2_with fail
    go_ret
    exact ⟨rfl, hb⟩
  by_cases h2 : l.length = 0
  · clear hv h
    rw [h2]
    go_enter Try.func7, Try.ntmps7
    go_wp2_with fail
    refine (awake_any _).mono ?_; rintro e w' ⟨rfl, hb⟩
    go_wp2_with fail
    go_ret
    exact ⟨rfl, hb⟩
  have h3 : mayL n l = false := (h.resolve_left h1).resolve_left h2
  have M := Lib.hid (rmay_is n l _ false w hv (by omega) h3)
  have i1 : ¬ (l.length : Int) > 300 := by omega
  have i2 : ((l.length : Int) == 0) = false := beq_eq_false_iff_ne.2 (by omega)
  clear hv h h1 h2 h3
  generalize l.length = L at *
  go_enter Try.func7, Try.ntmps7
  go_wp2_with fail
  refine (M.out).mono ?_; rintro e w1 ⟨rfl, b1⟩
  have D1 := Lib.hid b1
  clear b1
  go_wp2_with fail
  refine (awake_any _).mono ?_; rintro e w2 ⟨rfl, b2⟩
  have D2 := Lib.hid (below_more D1.out b2)
  clear b2
  go_wp2_with fail
  go_ret
  exact ⟨rfl, D2.out⟩

set_option maxHeartbeats 4000000 in
theorem near (l : List Bk) (p : Option Addr) (c : Nat) (n i k : Int) (w : World) (hv : RA blkE w (.slice p l.length c) l) (h1 : l.length ≤ 300) (h2 : 0 < l.length) (h3 : mayL n l = true) :
    Calls Try.prog 7 #[.slice p l.length c, .int .i64 n, .int .i64 i, .int .i64 k] w fun e w' => e = .returned (.bool true) ∧ Below w.heap.size w w' := by
  obtain ⟨u1, I, t1, t2, t3, t4, hI⟩ := place_of i l.length h2 h1
  obtain ⟨u2, q, N, t5, t6, t7, t8, hN, hN2⟩ := bytes_of k
  have M := Lib.hid (rmay_is n l _ true w hv (by omega) h3)
  obtain ⟨D, hD, hD2⟩ : ∃ D : Nat, needN N = D ∧ D = (N + 7) / 8 + 1 := ⟨(N + 7) / 8 + 1, by rw [needN, if_pos (by omega)]; omega, rfl⟩
  have CN := Lib.hid (fun w => need_is N w)
  rw [hD] at CN
  have hcan := can_at h3 hI (N := D) (by omega)
  obtain ⟨⟨s1, s2⟩, a1, a2⟩ := at_in h3 hI
  obtain ⟨_, hn5, _⟩ := (mayL_yes.1 h3).1
  have hwf := (ra_ok hv).at_ hI
  have hbn := bAt_nat l I
  have HA : Hid (∀ j, j < l.length → 0 ≤ (l.getD j default).a ∧ (l.getD j default).a ≤ 512) := Lib.hid fun j hj => by
    obtain ⟨⟨g1, _⟩, g2, g3⟩ := at_in h3 hj
    omega
  have HNX : Hid (∀ j, j + 1 < l.length → (l.getD j default).a < (l.getD (j + 1) default).a) := Lib.hid fun j hj => next_at h3 hj
  have HV := Lib.hid (fun (w' : World) (hb : Below w.heap.size w w') => blk_at (ra_below hv hb) h2)
  have i1 : ¬ (l.length : Int) > 300 := by omega
  have i2 : ((l.length : Int) == 0) = false := beq_eq_false_iff_ne.2 (by omega)
  have i3 : ¬ (l.length : Int) = 0 := by omega
  have i4 : ¬ (I : Int) < 0 := by omega
  have i5 : (I : Int) < (l.length : Int) := by omega
  have i6 : ¬ l.length = 0 := by omega
  have HL := Lib.hid (And.intro h1 (And.intro hI (And.intro (And.intro hN hN2) hD2)))
  obtain ⟨r, hr⟩ : ∃ r, canC l I D = r := ⟨_, rfl⟩
  have CB := Lib.hid (fun (w' : World) (hb : Below w.heap.size w w') => cblocks_is l I D _ w' (ra_below hv hb) (by omega) r hr)
  have HF : Hid ((r = false → (l.getD I default).u = true ∨ (l.getD I default).u = false ∧ ((l.getD I default).s - 1) * 8 < N) ∧ (r = true → I < (crvF l I D).length ∧ ∃ t : Nat, 2 ≤ t ∧ t ≤ 512 ∧ (N : Int) ≤ ((t : Int) - 1) * 8 ∧ (crvF l I D).getD I default = ⟨(l.getD I default).a, t, true⟩)) := Lib.hid (by
    refine ⟨fun e => ?_, fun e => ?_⟩
    · rw [hr, e] at hcan
      cases hu : (l.getD I default).u
      · refine .inr ⟨rfl, ?_⟩
        rw [hu] at hcan
        by_cases c : (D : Int) ≤ (l.getD I default).s
        · rw [decide_eq_true c] at hcan; cases hcan
        · omega
      · exact .inl rfl
    · have hr := hr.trans e
      have hP := crv_at hr
      have hlen := crv_length hr
      obtain ⟨_, _, _, hu, ht⟩ := canC_yes.1 hr
      obtain ⟨g1, g2, g3, g4⟩ := takN_some ht
      rw [bAt_nat] at hP
      rw [hbn] at hP ht g2 g3 g4
      obtain ⟨t, hte⟩ : ∃ t : Nat, takN (l.getD I default).s D = t := ⟨(takN (l.getD I default).s D).toNat, by omega⟩
      rw [hte] at hP g2 g3
      exact ⟨by rw [hlen]; exact Nat.lt_of_lt_of_le hI (Nat.le_add_right _ _), t, by omega, by omega, by omega, hP⟩)
  have HS : Hid ((l.getD I default).s ≤ 512 ∧ 2 ≤ (l.getD I default).s) := Lib.hid ⟨s2, s1⟩
  obtain ⟨b, off, rfl, _, _⟩ := HV.out w (Below.refl _ _)
  clear hv h1 h2 h3 hI hN hN2 hcan s1 s2 a1 a2 hwf hr hbn hD hD2 hn5
  generalize l.length = L at *
  go_enter Try.func7, Try.ntmps7
  go_wp2_with fail
  refine (M.out).mono ?_; rintro e w1 ⟨rfl, b1⟩
  have D1 := Lib.hid b1
  clear b1
  go_wp2
  go_loopw [9, 11, 12, 44] (fun last x o i wr => ∃ (k : Nat) (z : Int), k ≤ L ∧ i = .int .i64 k ∧ last = .int .i64 z ∧ Hid ((k < L → z < (l.getD k default).a * 8 + 8) ∧ Below w.heap.size w wr)) (fun _ _ _ i _ => L - (intOf i).toNat)
  case atStart => exact ⟨0, 0, Nat.zero_le _, rfl, rfl, Lib.hid ⟨fun h => by have := HA.out 0 h; omega, D1.out⟩⟩
  case round =>
    obtain ⟨k, z, hk, rfl, rfl, H⟩ := hrel
    by_cases hlt : k < L
    · clear t1 t2 t3 t4 t5 t6 t7 t8 CN CB HF HS
      obtain ⟨_, _, e, hb, hx⟩ := HV.out wr H.out.2
      cases e
      obtain ⟨hld, _, _, _, hwf⟩ := hx k hlt
      have hF := H.out.1 hlt
      have hA := HA.out k hlt
      have hN : k + 1 < L → (l.getD k default).a < (l.getD (k + 1) default).a := HNX.out k
      generalize l.getD k default = y at *
      obtain ⟨a, s, u⟩ := y
      simp only at hF hA hN
      obtain ⟨W, hW, HW⟩ := blk_boxed wr ⟨a, s, u⟩
      have c0 : W.cell? ⟨wr.heap.size, 0, none⟩ = some (.int .i64 a) := HW.out.1.c0
      have hl2 := HW.out.1.load
      have C := Lib.hid (off_is ⟨a, s, u⟩ (a * 8 + 8) (by show offB a = _; rw [offB, if_pos hA]; omega) W)
      have HB := Lib.hid (below_more H.out.2 HW.out.2)
      have V0 := Lib.hid HW.out.1
      have j0 : IntKind.i64.wrap (a * 8) = a * 8 := IntWalk.i64_in _ (by omega)
      have n0 : (0 : Int) ≤ (k : Int) := by omega
      have n1 : (k : Int) < (L : Int) := by omega
      have n2 : ¬ (k : Int) < 0 := by omega
      have n3 : IntKind.i64.wrap ((k : Int) + 1) = ((k + 1 : Nat) : Int) := by rw [show (k : Int) + 1 = ((k + 1 : Nat) : Int) by omega]; exact i64_nat _ (by have := HL.out; omega)
      have n4 : ¬ (a * 8 + 8 ≤ z) := by omega
      have n5 : (a * 8 + 8 != a * 8 + 8) = false := by simp
      have HN : Hid (k + 1 < L → a * 8 + 8 < (l.getD (k + 1) default).a * 8 + 8) := Lib.hid fun h => by have := hN h; omega
      have HK := Lib.hid hlt
      obtain ⟨y, hy⟩ : ∃ y, a * 8 + 8 = y := ⟨_, rfl⟩
      have j1 : IntKind.i64.wrap (a * 8 + 8) = y := by rw [← hy]; exact IntWalk.i64_in _ (by omega)
      rw [hy] at C n4 n5 HN
      clear hx hF hk hb hwf hN hlt hA hy
      go_wp2_with fail
      refine (C.out).mono ?_; rintro e w2 ⟨rfl, b2⟩
      have D2 := Lib.hid (below_more HB.out b2)
      have c0' : w2.cell? ⟨wr.heap.size, 0, none⟩ = some (.int .i64 a) := (V0.out.below b2).c0
      clear b2
      go_wp2
      go_roundw
      case rel => exact ⟨k + 1, y, by have := HK.out; omega, by go_num, rfl, Lib.hid ⟨HN.out, D2.out⟩⟩
      case measure => have := HK.out; simp [intOf]; omega
    · obtain rfl : k = L := by omega
      have DR := Lib.hid H.out.2
      clear H hk HNX
      go_wp2_with fail
      refine (CN.out wr).mono ?_; rintro e w' ⟨rfl, rfl⟩
      go_wp2_with fail
      refine (CB.out wr DR.out).mono ?_; rintro e w2 ⟨⟨ve, rfl, oe⟩, b2⟩
      have D2 := Lib.hid (below_more DR.out b2)
      obtain ⟨_, _, e, hb, hx⟩ := HV.out w2 D2.out
      cases e
      cases r with
      | false =>
        obtain ⟨_, _, x1, x2, _⟩ := hx I (by have := HL.out; omega)
        have hus := HF.out.1 rfl
        have hS := HS.out
        clear hx CB CN HF HV HA HS b2 oe
        generalize l.getD I default = y at *
        obtain ⟨a, s, u⟩ := y
        simp only at x1 x2 hus hS
        have j0 : IntKind.i64.wrap (s - 1) = s - 1 := IntWalk.i64_in _ (by omega)
        have j1 : IntKind.i64.wrap ((s - 1) * 8) = (s - 1) * 8 := IntWalk.i64_in _ (by omega)
        clear hS
        rcases hus with rfl | ⟨rfl, hs⟩
        · clear j0 j1
          go_wp2_with fail
          refine (awake_any _).mono ?_; rintro e w3 ⟨rfl, b3⟩
          have D3 := Lib.hid (below_more D2.out b3)
          clear b3
          go_wp2_with fail
          go_ret
          exact ⟨rfl, D3.out⟩
        · go_wp2_with fail
          refine (awake_any _).mono ?_; rintro e w3 ⟨rfl, b3⟩
          have D3 := Lib.hid (below_more D2.out b3)
          clear b3
          go_wp2_with fail
          go_ret
          exact ⟨rfl, D3.out⟩
      | true =>
        obtain ⟨hIP, t, g1, g2, g3, hP⟩ := HF.out.2 rfl
        obtain ⟨g, d, rfl, hgd, _, HK⟩ := oe.as_slice (by omega)
        obtain ⟨Y, hY⟩ : ∃ Y, (crvF l I D).length = Y := ⟨_, rfl⟩
        rw [hY] at HK hgd hIP ⊢
        have ldl : ∀ w', Below w2.heap.size w2 w' → (blkLoad (.pointer (some ⟨b, off + I * 3, none⟩))).run Try.prog w' = .ok (.agg (bc (l.getD I default))) w' := fun w' hb => by
          obtain ⟨_, _, e, _, hx⟩ := HV.out w' (below_more D2.out hb)
          cases e
          exact (hx I (by have := HL.out; omega)).1
        have ldm : ∀ w', Below w2.heap.size w2 w' → (blkLoad (.pointer (some ⟨g, I * 3, none⟩))).run Try.prog w' = .ok (.agg (bc ⟨(l.getD I default).a, t, true⟩)) w' := fun w' hb => by
          obtain ⟨hr, _⟩ := HK w' hb
          obtain ⟨_, _, e, _, hx⟩ := blk_at hr (by omega)
          cases e
          have := (hx I (by omega)).1
          rw [hP, Nat.zero_add] at this
          exact this
        have ldc : ∀ w', Below w2.heap.size w2 w' → w'.cell? ⟨g, I * 3 + 1, none⟩ = some (.int .i64 t) := fun w' hb => by
          obtain ⟨_, hc⟩ := HK w' hb
          obtain ⟨_, y1, _⟩ := hc I (by omega)
          rw [hP] at y1
          exact y1
        have hA := HA.out I (by have := HL.out; omega)
        obtain ⟨a, ha⟩ : ∃ a, (l.getD I default).a = a := ⟨_, rfl⟩
        have o1 : offB (l.getD I default).a = offB a := by rw [ha]
        rw [ha] at ldm
        obtain ⟨mb, hmb⟩ : ∃ b : Bk, (⟨a, t, true⟩ : Bk) = b := ⟨_, rfl⟩
        have o2 : offB mb.a = offB a := by rw [← hmb]
        rw [hmb] at ldm
        generalize offB a = x at *
        have x1 : (x == x) = true := by simp
        have m1 : (Y : Int) > (I : Int) := by omega
        have m2 : ¬ (Y : Int) ≤ (I : Int) := by omega
        have m3 : (I : Int) < (Y : Int) := by omega
        obtain ⟨T, hT⟩ : ∃ T : Nat, (t : Int) - 1 = T := ⟨t - 1, by omega⟩
        obtain ⟨T8, hT8⟩ : ∃ T8 : Nat, (T : Int) * 8 = T8 := ⟨T * 8, by omega⟩
        have j0 : IntKind.i64.wrap ((t : Int) - 1) = (T : Int) := by rw [hT]; exact i64_nat _ (by omega)
        have j1 : IntKind.i64.wrap ((T : Int) * 8) = (T8 : Int) := by rw [hT8]; exact i64_nat _ (by omega)
        have m4 : (T8 : Int) ≥ (N : Int) := by omega
        have m5 : (N : Int) ≤ (T8 : Int) := by omega
        generalize l.getD I default = y at *
        clear hx CB CN HF HV HA HS b2 oe HK hgd hIP hP hY g1 g2 g3 hA ha hT hT8 hb hmb
        clear t1 t2 t3 t4 t5 t6 t7 t8
        go_wp2_with fail
        go_region_held3 (fun w' => Below w2.heap.size w2 w')
          (first | exact (Below.refl _ _).drew | exact below_more ‹Below w2.heap.size w2 _› hbq)
          (first
            | (go_at_call 15; refine (off_is _ _ (by assumption) _).mono ?_; rintro e wq ⟨rfl, hbq⟩)
            | (go_at_call 8; refine (awake_any _).mono ?_; rintro e wq ⟨rfl, hbq⟩))
        have HB := Lib.hid (below_more D2.out ‹Below w2.heap.size w2 wq›)
        go_wp2
        go_ret
        exact ⟨rfl, HB.out⟩

theorem walk (l0 : List Bk) (v0 : Value) (a1 a2 a3 : Int) (w : World) (h0 : RA blkE w v0 l0) (_ : (Lit.int .i64 a1).wf = true) (_ : (Lit.int .i64 a2).wf = true) (_ : (Lit.int .i64 a3).wf = true) :
    Calls Try.prog 7 #[v0, .int .i64 a1, .int .i64 a2, .int .i64 a3] w fun e w' => e = .returned (.bool true) ∧ Below w.heap.size w w' := by
  obtain ⟨p, c, rfl, _⟩ := ra_shape h0
  by_cases h : 300 < l0.length ∨ l0.length = 0 ∨ mayL a1 l0 = false
  · exact far l0 p c a1 a2 a3 w h0 h
  · have h' := not_or.1 h
    have h'' := not_or.1 h'.2
    exact near l0 p c a1 a2 a3 w h0 (by omega) (by omega) (by simpa using h''.2)

set_option maxRecDepth 100000 in
theorem lifted (os : Os) (started : os.Started) (H : Type) (enc : TypeId × Value → H) :
    ReturnsInHanded {} Try.checked os 7 .any (Rows.carveOffsSpec.pre6 enc Try.prog Try.f7 Rows.carveOffsRow.domain false) (Rows.carveOffsSpec.post enc Try.prog Try.f7 false true false false) := by
  refine returnsInHanded_of_change (C := Try.checked) own started (by kernel_rfl) Try.func7
    (ChangeSpec.witness6 (enc := enc) (C := Try.checked) false ⟨#[], #[.slice none 0 0, .int .i64 0, .int .i64 0, .int .i64 0], []⟩ 8 (by kernel_rfl) (by kernel_rfl) (by kernel_rfl) (by kernel_rfl)) ?_
  intro W base args ds gs before hval0 hW hcnd _
  have hval : ∀ (j : Nat) t v, Try.f7.params[j]? = some t → args[j]? = some v → Value.okWide Try.prog W .any base t v := hval0
  have hW' := hW
  have hlt := hW.lt
  obtain ⟨p, q, hA0, hV, hpq, hfz, hnd⟩ := hW
  have hA : DataW.TrodAll enc Try.prog W 0 (fun _ => true) true Try.f7.params.toList args.toList ds p := hA0
  rw [Try.params7] at hA hval
  obtain ⟨v0, vs0, d0, ds0, p0, q0, hargs, rfl, hp, h0, r0⟩ := trodAll_cons hA
  obtain ⟨v1, vs1, d1, ds1, p1, q1, rfl, rfl, rfl, h1, r1⟩ := trodAll_cons r0
  obtain ⟨v2, vs2, d2, ds2, p2, q2, rfl, rfl, rfl, h2, r2⟩ := trodAll_cons r1
  obtain ⟨v3, vs3, d3, ds3, p3, q3, rfl, rfl, rfl, h3, r3⟩ := trodAll_cons r2
  obtain ⟨rfl, rfl, rfl⟩ := trodAll_nil r3
  obtain rfl : args = #[v0, v1, v2, v3] := by cases args; simp_all
  obtain ⟨rfl, rfl⟩ := trodVars_none hV
  have hlt' : ∀ x ∈ before, x.block < W.heap.size := fun x hx => hlt x hx
  obtain ⟨l0, w0⟩ := blocks_in (hval 0 22 v0 rfl rfl) h0
  obtain ⟨a1, rfl, rfl, rfl, w1⟩ := open_int Try.underlying3 (hval 1 3 v1 rfl rfl) h1
  obtain ⟨a2, rfl, rfl, rfl, w2⟩ := open_int Try.underlying3 (hval 2 3 v2 rfl rfl) h2
  obtain ⟨a3, rfl, rfl, rfl, w3⟩ := open_int Try.underlying3 (hval 3 3 v3 rfl rfl) h3
  refine (walk l0 v0 a1 a2 a3 W w0 w1 w2 w3).mono fun e W' ⟨he, hb⟩ => ?_
  subst he
  exact ⟨_, rfl, law_post rfl (by kernel_rfl) hW' (by rw [Try.params7]; intro t ht; simp only [List.mem_cons, List.not_mem_nil, or_false] at ht; (repeat' (first | (rcases ht with rfl | ht) | subst ht)) <;> exact ⟨by kernel_rfl, of_decide_eq_true (by kernel_rfl)⟩) rfl hb⟩

theorem over : Rows.carveOffsRow.holds Try.pinned (OpenSpec.ofChange Rows.carveOffsSpec) :=
  OpenClaim.holds_of_wide 7 Try.f7 rfl rfl rfl rfl rfl rfl rfl ⟨rfl, rfl, rfl, rfl, rfl⟩ rfl rfl rfl rfl rfl (by kernel_rfl) Try.func7 (by kernel_rfl)
    (of_decide_eq_true (by kernel_rfl)) (by unfold Func.isWrapper; first | (rw [if_pos (by decide +kernel)]; kernel_rfl) | (rw [if_neg (by decide +kernel)]; exact ⟨rfl, rfl⟩))
    (fun os started H enc _ => lifted os started H enc)

theorem proved : Rows.CarveOffsSaid := over
end Go.Proofs.Ytabdcdddkmklcaa.carveOffs
