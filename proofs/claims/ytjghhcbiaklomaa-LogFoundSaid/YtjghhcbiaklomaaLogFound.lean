/-
  Found anew all homes hold what was committed last; a Recover writes nothing where nothing is Pending. No conditions.
-/
import Derived.Test.YtjghhcbiaklomaaMgd
import Derived.BigQuiet
namespace Go.Proofs.Ytjghhcbiaklomaa.logFound
set_option maxRecDepth 100000
open Go.Proofs.Ytjghhcbiaklomaa Go.ChangeShapes Go.WideShapes Go.ChangeAt Go.RowKit

/-- a log found anew on the same memory -/
theorem found {w wr w' : World} {x g y q n P per gw K p x' y' q' : Nat} {s : Nv} {f : Nat → List Int} (k : Kp w wr x g y q n P per gw K p s f) (hn : 0 < n) (hb : Below wr.heap.size wr w') (hx : wr.heap.size ≤ x') (hy : wr.heap.size ≤ y') (hq : wr.heap.size ≤ q') (hL : Lg w' x' g y' q' (16 + n) P per 0 s) :
    Kp w w' x' g y' q' n P per gw K 0 s f := by
  have hgw : gw < wr.heap.size := by
    obtain ⟨_, _, e, hlt, _⟩ := ra_at (OwnA.ra k.own) (by simp; omega)
    cases e; exact hlt
  have pl := k.pl
  have num := k.num
  exact ⟨hL, k.ok, k.calm, k.own.below hb, below_base k.bel k.bel.size hb, ⟨pl.1, Nat.le_trans k.bel.size hy, pl.2.2.1, by omega, by omega, by omega⟩, by omega, k.c⟩

set_option maxHeartbeats 8000000 in
theorem walk_ (C : Ctr) (a0 a1 a2 : Int) (l4 : List (List Hm)) (v4 : Value) (w : World) (h4 : RAs homeE rowsE w v4 l4) :
    Calls Try.prog 9 #[.int .i64 a0, .int .i64 a1, .int .i64 a2, v4] w fun e w' => e = .returned (.bool true) ∧ Below w.heap.size w w' := by
  have HH := Lib.hid (heavy_any l4 [] v4 _ w h4 (ri_nil w))
  have HZ := Lib.hid (sized_any a0 a1 a2 w)
  have HV := Lib.hid h4
  clear h4
  go_enter Try.func9, Try.ntmps9
  go_wp2_with fail
  refine (HH.out).mono ?_; rintro e w' ⟨⟨r, rfl, hr⟩, rfl⟩
  by_cases hr0 : r = 0
  rotate_left
  · have i1 : (r : Int) > 0 := by omega
    clear hr hr0
    go_wp2_with fail
    refine (awake_any C _).mono ?_; rintro e w' ⟨rfl, hb⟩
    go_wp2_with fail
    go_ret
    exact ⟨rfl, hb⟩
  subst hr0
  have HL : Hid (l4.length ≤ 30) := Lib.hid (hr rfl).1
  clear hr
  go_wp2_with fail
  refine (HZ.out).mono ?_; rintro e w' ⟨⟨n, P, per, rfl, n1, n2, n3, n4, n5⟩, rfl⟩
  have HM := Lib.hid (made_yes C (.slice none 0 0) [] w n1 n2 n3 n4 n5 (ri_nil w))
  have HN : Hid (1 ≤ n ∧ n ≤ 20 ∧ P ≤ 16 ∧ 1 ≤ per ∧ per ≤ 20) := Lib.hid ⟨n1, n2, n3, n4, n5⟩
  have NL := Lib.hid (newNv_lg (n := 16 + n) (P := P) (by omega) n3 (by omega) [])
  have NC : Hid ((newNv (16 + n + 1 + P) []).calm ∧ (newNv (16 + n + 1 + P) []).c = 0 ∧ Free (newNv (16 + n + 1 + P) [])) := Lib.hid ⟨newNv_calm _ _, rfl, newNv_free _⟩
  obtain ⟨p4, cap, rfl, _⟩ := ras_shape HV.out
  have hmk := run_make_want n (by omega)
  have i0 : (0 : Int) ≤ (n : Int) := by omega
  obtain ⟨s0, e0⟩ : ∃ s0, newNv (16 + n + 1 + P) [] = s0 := ⟨_, rfl⟩
  rw [e0] at HM NL NC
  clear n1 n2 n3 n4 n5 e0
  go_wp2_with fail
  refine (HM.out).mono ?_; rintro e w1 ⟨x, g, y, q, rfl, hx, hg, hy, hq, hL, hb⟩
  obtain ⟨gw, hgw⟩ : ∃ gw, w1.heap.size = gw := ⟨_, rfl⟩
  have W3 := Wt.new w1 n
  have hB : Below w.heap.size w (w1.alloc (.cells (tab (n * 8) (wl fun _ => zeros)) 39)) := bal hb
  have hO : Ol w.heap.size (w1.alloc (.cells (tab (n * 8) (wl fun _ => zeros)) 39)) gw n n (fun _ => zeros) := by
    rw [← hgw]; exact Ol.of_wt W3 hb.size (by unfold maxLen; have := HN.out; omega)
  have GWL : Hid (w.heap.size ≤ gw) := Lib.hid (by rw [← hgw]; exact hb.size)
  have KP : Hid (∃ y q p s, Kp w (w1.alloc (.cells (tab (n * 8) (wl fun _ => zeros)) 39)) x g y q n P per gw 0 p s (fun i => view s (16 + n) P (16 + i)) ∧ Free s ∧ lk s = 0) :=
    Lib.hid ⟨y, q, 0, s0, ⟨hL.below (bal (Below.refl _ _)), NL.out.1, NC.out.1, hO.as fun i _ => NL.out.2.2.2.2 _, hB, ⟨hg, hy, by have := hL.nm.lt; omega, by have := hL.tq.lt; omega, by have := hL.xlt; omega, by have := hL.lq.lt; omega⟩, by have := HN.out; have := NL.out.2.2.1; omega, by rw [NC.out.2.1]; exact Int.le_refl _⟩, NC.out.2.2, NL.out.2.1⟩
  have hmk2 := hmk w1
  clear hmk
  rw [hgw] at hmk2
  clear hx hg hy hq hL hb W3 hB hO hgw
  have HX : Hid (∀ w' : World, Below w.heap.size w w' → ∀ k, k < l4.length → ∃ b off u, p4 = some ⟨b, off, none⟩ ∧ w'.cell? ⟨b, off + k, none⟩ = some u ∧ RA homeE w u (l4.getD k [])) := Lib.hid fun w' hb k hk => by
    obtain ⟨b, off, e, hlt, hx⟩ := ras_at rfl rfl HV.out (by omega)
    obtain ⟨u, hc, hr⟩ := hx k hk
    exact ⟨b, off, u, e, (hb.cell (p := ⟨b, off + k, none⟩) hlt).trans hc, hr⟩
  generalize l4.length = len at *
  obtain ⟨lf, hlf⟩ : ∃ lf : Nat → List Hm, ∀ k, l4.getD k [] = lf k := ⟨fun k => l4.getD k [], fun _ => rfl⟩
  have HY : Hid (∀ w' : World, Below w.heap.size w w' → ∀ k, k < len → ∃ b off u, p4 = some ⟨b, off, none⟩ ∧ w'.cell? ⟨b, off + k, none⟩ = some u ∧ RA homeE w u (lf k)) := Lib.hid fun w' hb k hk => by
    rw [← hlf]; exact HX.out w' hb k hk
  clear hlf HX
  go_wp2
  go_loopw [9, 47] (fun v9 i wr => ∃ k : Nat, k ≤ len ∧ i = .int .i64 k ∧ ∃ x : Nat, v9 = .pointer (some ⟨x, 0, none⟩) ∧ Hid (∃ y q p s, Kp w wr x g y q n P per gw k p s (fun i => view s (16 + n) P (16 + i)) ∧ Free s ∧ lk s = 0)) (fun _ i _ => len - (intOf i).toNat)
  case atStart => exact ⟨0, Nat.zero_le _, rfl, x, rfl, KP⟩
  case round =>
    clear KP
    obtain ⟨k, hk, rfl, x, rfl, H⟩ := hrel
    obtain ⟨y, q, p, s, hs, hF, h0⟩ := H.out
    have K0 := Lib.hid hs
    have F0 := Lib.hid (And.intro hF h0)
    clear hs H hmk2 hF h0
    by_cases hlt : k < len
    · obtain ⟨b, off, u, rfl, hc, hru⟩ := HY.out _ K0.out.bel k hlt
      obtain ⟨h, hh⟩ : ∃ h, lf k = h := ⟨_, rfl⟩
      rw [hh] at hru
      obtain ⟨q5, c5, rfl, hc5, _⟩ := ra_shape hru
      have RU := Lib.hid hru
      have KN : Hid (k < len ∧ k < 100) := Lib.hid ⟨hlt, by have := HL.out; omega⟩
      have i1 : (0 : Int) ≤ (k : Int) := by omega
      have i2 : (k : Int) < (len : Int) := by omega
      have i3 : ¬ (k : Int) < 0 := by omega
      have j0 : IntKind.i64.wrap ((k : Int) + 1) = ((k + 1 : Nat) : Int) := by rw [show (k : Int) + 1 = ((k + 1 : Nat) : Int) by omega]; exact i64_nat _ (by have := KN.out; omega)
      have FIN : ∀ z, z = k + 1 → z ≤ len := fun z e => by have := KN.out; omega
      have FI := Lib.hid FIN
      clear hru hh hc5 hk hlt FIN
      by_cases hm : MayH ((16 + n : Nat) : Int) h
      · have CM := C.com _ _ _ _ _ _ _ _ _ _ _ h K0.out.lg K0.out.ok K0.out.calm.1 K0.out.room F0.out.2 (K0.out.homes RU.out) hm
        have KC := fun (w' : World) => K0.out.com (w' := w') KN.out.2 F0.out.2 hm (ra_wide RU.out)
        obtain ⟨g1, g2, g3⟩ := lcom_go (h := h) per p K0.out.ok hm (ra_wide RU.out) F0.out.1 K0.out.room.m
        generalize lcom (16 + n) P per p h s = R at *
        obtain ⟨e1, p1, s1⟩ := R
        dsimp only at g1
        subst g1
        have GG := Lib.hid (And.intro g2 g3)
        have HM1 := Lib.hid hm
        have CM := Lib.hid CM
        have KC := Lib.hid KC
        clear hm g2 g3
        go_wp2_with fail
        refine (CM.out).mono ?_; rintro e w3 ⟨rfl, hL, hC⟩
        obtain ⟨k2, ko⟩ := KC.out w3 hL hC
        have HVW : Hid (∀ b, 16 ≤ b → b < 16 + n → view s1 (16 + n) P b = hv h (view s (16 + n) P) b) := Lib.hid (by
          rcases ko with ⟨_, hv⟩ | ⟨e, _⟩
          · exact hv
          · cases e)
        have K3 := Lib.hid (k2.as (f' := fun i => hv (h.take 0) (view s (16 + n) P) (16 + i)) fun i _ => hv_zero _ _ _)
        clear hL hC k2 ko hc
        obtain ⟨bq, oq, rfl, hbq, hxq⟩ := home_at RU.out (by have := HM1.out.lo; omega)
        have HQ : Hid (∀ w' : World, Below w.heap.size w w' → ∀ j, j < h.length → (homeLoad (.pointer (some ⟨bq, oq + j * 9, none⟩))).run Try.prog w' = .ok (.agg (hmc (h.getD j default))) w' ∧ (h.getD j default).Wf) := Lib.hid fun w' hb j hj => by
          obtain ⟨b', o', e, _, hx⟩ := home_at (ra_below RU.out hb) (by omega)
          cases e
          exact ⟨(hx j hj).1, (hx j hj).2.2.2⟩
        clear hbq hxq
        go_wp2
        go_loopw [57] (fun i wi => ∃ j : Nat, j ≤ h.length ∧ i = .int .i64 j ∧ Hid (Kp w wi x g y q n P per gw (k + 1) p1 s1 (fun i => hv (h.take j) (view s (16 + n) P) (16 + i)))) (fun i _ => h.length - (intOf i).toNat)
        case atStart => exact ⟨0, Nat.zero_le _, rfl, K3⟩
        case round =>
          obtain ⟨j, hj, rfl, KI⟩ := hrel
          clear K3
          by_cases hjl : j < h.length
          · obtain ⟨hl, hwf⟩ := HQ.out _ KI.out.bel j hjl
            obtain ⟨X, hX⟩ : ∃ X, h.getD j default = X := ⟨_, rfl⟩
            have hat := HM1.out.at_ _ (getD_mem hjl)
            rw [hX] at hl hwf hat
            obtain ⟨m, hm⟩ : ∃ m : Nat, X.i = ((16 + m : Nat) : Int) := ⟨(X.i - 16).toNat, by omega⟩
            have hmn : m < n := by omega
            obtain ⟨W1, hW1, H1⟩ := home_boxed wr hwf.len
            have KJ := Lib.hid (KI.out.below H1.out.2)
            obtain ⟨hst, kst⟩ := KJ.out.lay hmn hwf.len GWL.out
            obtain ⟨V, hV⟩ : ∃ V, W1.setCells gw (m * 8) (X.l.map uv) = V := ⟨_, rfl⟩
            rw [hV] at hst kst
            have KV : Hid (Kp w V x g y q n P per gw (k + 1) p1 s1 (fun i => hv (h.take (j + 1)) (view s (16 + n) P) (16 + i))) := Lib.hid (kst.as fun i _ => by
              rw [hv_step HM1.out.nd hjl (m := m) (by rw [hX]; exact hm), hX])
            have d0 := H1.out.1.slot
            rw [hm] at d0
            have d1 := H1.out.1.line
            have hw8 := hwf.len
            obtain ⟨Xl, hXl⟩ : ∃ z, X.l = z := ⟨_, rfl⟩
            rw [hXl] at hst d1
            have m0 : (0 : Int) ≤ (j : Int) := by omega
            have m1 : (j : Int) < (h.length : Int) := by omega
            have m2 : ¬ (j : Int) < 0 := by omega
            have m3 : IntKind.i64.wrap (((16 + m : Nat) : Int) - 16) = (m : Int) := by rw [show ((16 + m : Nat) : Int) - 16 = (m : Int) by omega]; exact i64_nat _ (by have := HN.out; omega)
            have m4 : (0 : Int) ≤ (m : Int) := by omega
            have m5 : (m : Int) < (n : Int) := by omega
            have m6 : IntKind.i64.wrap ((j : Int) + 1) = ((j + 1 : Nat) : Int) := by rw [show (j : Int) + 1 = ((j + 1 : Nat) : Int) by omega]; exact i64_nat _ (by have := HM1.out.hi; omega)
            have HJ := Lib.hid hjl
            clear hX hat hm hmn kst hXl hwf hj hjl hV
            generalize 16 + m = Z at *
            go_wp2
            exact ⟨⟨j + 1, by have := HJ.out; omega, by go_num, KV⟩, by have := HJ.out; simp [intOf]; omega⟩
          · obtain rfl : j = h.length := by omega
            have KT : Hid (Kp w wr x g y q n P per gw (k + 1) p1 s1 (fun i => view s1 (16 + n) P (16 + i))) := Lib.hid (KI.out.as fun i hi => by rw [HVW.out _ (by omega) (by omega), hv_all])
            have OV := Lib.hid (over_yes C KT.out.ok KT.out.calm.1 HN.out.1 HN.out.2.1 HN.out.2.2.2.1 HN.out.2.2.2.2 (by have := KT.out.num; omega) KT.out.lg.nm)
            clear KI HQ
            go_wp2_with fail
            refine (OV.out).mono ?_; rintro e w5 ⟨x', y', q', rfl, hx, hy, hq, hL, hb⟩
            have K4 := Lib.hid (found KT.out HN.out.1 hb hx hy hq hL)
            clear hx hy hq hL hb
            go_wp2_with fail
            refine (writes_any g s1 w5 K4.out.lg.nm).mono ?_; rintro e w' ⟨rfl, rfl⟩
            go_wp2_with fail
            refine (rcv_zero K4.out.lg K4.out.calm.1 (by rw [K4.out.ok.r1, GG.out.2]; rfl)).mono ?_; rintro e w' ⟨rfl, rfl⟩
            go_wp2_with fail
            refine (writes_any g s1 w5 K4.out.lg.nm).mono ?_; rintro e w' ⟨rfl, rfl⟩
            have PD := C.pend _ _ _ _ _ _ _ _ _ _ K4.out.lg K4.out.ok K4.out.calm.1
            rw [show decide (lk s1 ≠ 0) = false by simp [GG.out.2]] at PD
            have PD := Lib.hid PD
            go_wp2_with fail
            refine (PD.out).mono ?_; rintro e w6 ⟨rfl, hb⟩
            have KT2 := Lib.hid (K4.out.below hb)
            clear hb
            go_wp2
            go_loopw [95] (fun i wi => ∃ z : Nat, z ≤ n ∧ i = .int .i64 z ∧ Hid (Kp w wi x' g y' q' n P per gw (k + 1) 0 s1 (fun i => view s1 (16 + n) P (16 + i)))) (fun i _ => n - (intOf i).toNat)
            case atStart => exact ⟨0, Nat.zero_le _, rfl, KT2⟩
            case round =>
              obtain ⟨z, hz, rfl, KI⟩ := hrel
              clear KT2
              by_cases hzl : z < n
              · have lw := KI.out.own.load hzl
                have h8 := KI.out.own.wide hzl
                obtain ⟨yv, hy⟩ : ∃ yv, view s1 (16 + n) P (16 + z) = yv := ⟨_, rfl⟩
                rw [hy] at lw h8
                have EY := Lib.hid hy
                clear hy
                obtain ⟨W1, hW1, H1⟩ := boxed1 wr h8
                have KJ := Lib.hid (KI.out.below H1.out.2)
                have GC := C.get _ _ _ _ _ _ _ _ _ (16 + z) _ KJ.out.lg KJ.out.ok KJ.out.calm.1 KJ.out.room (by omega) (by omega)
                rw [EY.out] at GC
                have GC := Lib.hid GC
                have i6 : (0 : Int) ≤ (z : Int) := by omega
                have i7 : (z : Int) < (n : Int) := by omega
                have i8 : ¬ (z : Int) < 0 := by omega
                have hz40 : z < 40 := by have := HN.out; omega
                have jz : IntKind.i64.wrap (16 + (z : Int)) = ((16 + z : Nat) : Int) := by rw [show 16 + (z : Int) = ((16 + z : Nat) : Int) by omega]; exact i64_nat _ (by omega)
                have j1 : IntKind.i64.wrap ((z : Int) + 1) = ((z + 1 : Nat) : Int) := by rw [show (z : Int) + 1 = ((z + 1 : Nat) : Int) by omega]; exact i64_nat _ (by omega)
                have HZ2 := Lib.hid hzl
                clear hz hzl hz40
                go_wp2_with fail
                refine (GC.out).mono ?_; rintro e w5 ⟨rfl, hb⟩
                obtain ⟨W2, hW2, H2⟩ := boxed1 w5 h8
                have KM := Lib.hid ((KJ.out.below hb).below H2.out.2)
                have l17 := ((H1.out.1.below hb).below H2.out.2).load
                have l18 := H2.out.1.load
                clear hb lw
                go_wp2
                exact ⟨⟨z + 1, by have := HZ2.out; omega, by go_num, KM⟩, by have := HZ2.out; simp [intOf]; omega⟩
              · obtain rfl : z = n := by omega
                go_wp2
                exact ⟨⟨k + 1, FI.out _ rfl, by go_num, _, rfl, Lib.hid ⟨_, _, _, _, KI.out, GG.out⟩⟩, by have := KN.out; simp [intOf]; omega⟩
      · have CM := Lib.hid (C.comArg _ _ _ _ _ _ _ _ _ _ _ h K0.out.lg (by have := HN.out; omega) (ra_below RU.out K0.out.bel) hm)
        clear hm
        go_wp2_with fail
        refine (CM.out).mono ?_; rintro e w3 ⟨rfl, hb⟩
        clear hc
        have KT := Lib.hid ((K0.out.below hb).more KN.out.2)
        clear hb
        go_wp2
        exact ⟨⟨k + 1, FI.out _ rfl, by go_num, _, rfl, Lib.hid ⟨_, _, _, _, KT.out, F0.out⟩⟩, by have := KN.out; simp [intOf]; omega⟩
    · obtain rfl : k = len := by omega
      go_wp2_with fail
      refine (awake_any C _).mono ?_; rintro e w4 ⟨rfl, hb⟩
      have B6 := Lib.hid (below_base K0.out.bel K0.out.bel.size hb)
      go_wp2
      go_ret
      exact ⟨rfl, B6.out⟩

theorem walk (a0 a1 a2 : Int) (l3 : List (List Hm)) (v3 : Value) (w : World) (_ : (Lit.int .i64 a0).wf = true) (_ : (Lit.int .i64 a1).wf = true) (_ : (Lit.int .i64 a2).wf = true) (h3 : RAs homeE rowsE w v3 l3) :
    Calls Try.prog 9 #[.int .i64 a0, .int .i64 a1, .int .i64 a2, v3] w fun e w' => e = .returned (.bool true) ∧ Below w.heap.size w w' := walk_ ctr a0 a1 a2 l3 v3 w h3

set_option maxRecDepth 100000 in
theorem lifted (os : Os) (started : os.Started) (H : Type) (enc : TypeId × Value → H) :
    ReturnsInHanded {} Try.checked os 9 .any (Rows.logFoundSpec.pre6 enc Try.prog Try.f9 Rows.logFoundRow.domain false) (Rows.logFoundSpec.post enc Try.prog Try.f9 false true false false) := by
  refine returnsInHanded_of_change (C := Try.checked) own started (by kernel_rfl) Try.func9
    (ChangeSpec.witness6 (enc := enc) (C := Try.checked) false ⟨#[], #[.int .i64 0, .int .i64 0, .int .i64 0, .slice none 0 0], []⟩ 8 (by kernel_rfl) (by kernel_rfl) (by kernel_rfl) (by kernel_rfl)) ?_
  intro W base args ds gs before hval0 hW hcnd _
  have hval : ∀ (j : Nat) t v, Try.f9.params[j]? = some t → args[j]? = some v → Value.okWide Try.prog W .any base t v := hval0
  have hW' := hW
  have hlt := hW.lt
  obtain ⟨p, q, hA0, hV, hpq, hfz, hnd⟩ := hW
  have hA : DataW.TrodAll enc Try.prog W 0 (fun _ => true) true Try.f9.params.toList args.toList ds p := hA0
  rw [Try.params9] at hA hval
  obtain ⟨v0, vs0, d0, ds0, p0, q0, hargs, rfl, hp, h0, r0⟩ := trodAll_cons hA
  obtain ⟨v1, vs1, d1, ds1, p1, q1, rfl, rfl, rfl, h1, r1⟩ := trodAll_cons r0
  obtain ⟨v2, vs2, d2, ds2, p2, q2, rfl, rfl, rfl, h2, r2⟩ := trodAll_cons r1
  obtain ⟨v3, vs3, d3, ds3, p3, q3, rfl, rfl, rfl, h3, r3⟩ := trodAll_cons r2
  obtain ⟨rfl, rfl, rfl⟩ := trodAll_nil r3
  obtain rfl : args = #[v0, v1, v2, v3] := by cases args; simp_all
  obtain ⟨rfl, rfl⟩ := trodVars_none hV
  have hlt' : ∀ x ∈ before, x.block < W.heap.size := fun x hx => hlt x hx
  obtain ⟨a0, rfl, rfl, rfl, w0⟩ := open_int Try.underlying3 (hval 0 3 v0 rfl rfl) h0
  obtain ⟨a1, rfl, rfl, rfl, w1⟩ := open_int Try.underlying3 (hval 1 3 v1 rfl rfl) h1
  obtain ⟨a2, rfl, rfl, rfl, w2⟩ := open_int Try.underlying3 (hval 2 3 v2 rfl rfl) h2
  obtain ⟨l3, w3⟩ := homess_in (hval 3 23 v3 rfl rfl) h3
  refine (walk a0 a1 a2 l3 v3 W w0 w1 w2 w3).mono fun e W' ⟨he, hb⟩ => ?_
  subst he
  exact ⟨_, rfl, law_post rfl (by kernel_rfl) hW' (by rw [Try.params9]; intro t ht; simp only [List.mem_cons, List.not_mem_nil, or_false] at ht; (repeat' (first | (rcases ht with rfl | ht) | subst ht)) <;> exact ⟨by kernel_rfl, of_decide_eq_true (by kernel_rfl)⟩) rfl hb⟩

theorem over : Rows.logFoundRow.holds Try.pinned (OpenSpec.ofChange Rows.logFoundSpec) :=
  OpenClaim.holds_of_wide 9 Try.f9 rfl rfl rfl rfl rfl rfl rfl ⟨rfl, rfl, rfl, rfl, rfl⟩ rfl rfl rfl rfl rfl (by kernel_rfl) Try.func9 (by kernel_rfl)
    (of_decide_eq_true (by kernel_rfl)) (by unfold Func.isWrapper; first | (rw [if_pos (by decide +kernel)]; kernel_rfl) | (rw [if_neg (by decide +kernel)]; exact ⟨rfl, rfl⟩))
    (fun os started H enc _ => lifted os started H enc)

theorem proved : Rows.LogFoundSaid := over
end Go.Proofs.Ytjghhcbiaklomaa.logFound
