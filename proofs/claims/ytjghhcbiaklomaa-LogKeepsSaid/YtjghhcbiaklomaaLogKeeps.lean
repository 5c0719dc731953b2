/-
  Any commits, any limits: each home holds what was committed for it last; a commit that is refused changes nothing. No conditions.
-/
import Derived.Test.YtjghhcbiaklomaaMgd
import Derived.BigQuiet
namespace Go.Proofs.Ytjghhcbiaklomaa.logKeeps
set_option maxRecDepth 100000
open Go.Proofs.Ytjghhcbiaklomaa Go.ChangeShapes Go.WideShapes Go.ChangeAt Go.RowKit

set_option maxHeartbeats 8000000 in
theorem walk_ (C : Ctr) (a0 a1 a2 : Int) (l3 : List Int) (v3 : Value) (l4 : List (List Hm)) (v4 : Value) (w : World) (h3 : RI w v3 l3) (h4 : RAs homeE rowsE w v4 l4) :
    Calls Try.prog 3 #[.int .i64 a0, .int .i64 a1, .int .i64 a2, v3, v4] w fun e w' => e = .returned (.bool true) ∧ Below w.heap.size w w' := by
  have HH := Lib.hid (heavy_any l4 l3 v4 v3 w h4 h3)
  have HZ := Lib.hid (sized_any a0 a1 a2 w)
  have HM0 := Lib.hid h3
  have HV := Lib.hid h4
  clear h3 h4
  go_enter Try.func3, Try.ntmps3
  go_wp2_with fail
  refine (HH.out).mono ?_; rintro e w' ⟨⟨r, rfl, hr⟩, rfl⟩
  by_cases hr0 : r = 0
  rotate_left
  · have i1 : (r : Int) > 0 := by omega
    clear hr hr0
    go_wp2_with fail
    refine (awake_any C _).mono ?_; rintro e w' ⟨rfl, hb⟩
    go_wp2_with fail
    go_ret
    exact ⟨rfl, hb⟩
  subst hr0
  have HL : Hid (l4.length ≤ 30) := Lib.hid (hr rfl).1
  clear hr
  go_wp2_with fail
  refine (HZ.out).mono ?_; rintro e w' ⟨⟨n, P, per, rfl, n1, n2, n3, n4, n5⟩, rfl⟩
  have HM := Lib.hid (made_yes C v3 l3 w n1 n2 n3 n4 n5 HM0.out)
  have HN : Hid (1 ≤ n ∧ n ≤ 20 ∧ P ≤ 16 ∧ per ≤ 20) := Lib.hid ⟨n1, n2, n3, n5⟩
  have NL := Lib.hid (newNv_lg (n := 16 + n) (P := P) (by omega) n3 (by omega) l3)
  have NC : Hid ((newNv (16 + n + 1 + P) l3).calm ∧ (newNv (16 + n + 1 + P) l3).c = 0) := Lib.hid ⟨newNv_calm _ _, rfl⟩
  obtain ⟨p4, cap, rfl, _⟩ := ras_shape HV.out
  have hmk := run_make_want n (by omega)
  have k16 : IntKind.i64.wrap (16 + (n : Int)) = ((16 + n : Nat) : Int) := by rw [show 16 + (n : Int) = ((16 + n : Nat) : Int) by omega]; exact i64_nat _ (by omega)
  have i0 : (0 : Int) ≤ (n : Int) := by omega
  obtain ⟨s0, e0⟩ : ∃ s0, newNv (16 + n + 1 + P) l3 = s0 := ⟨_, rfl⟩
  rw [e0] at HM NL NC
  clear n1 n2 n3 n4 n5 e0
  go_wp2_with fail
  refine (HM.out).mono ?_; rintro e w1 ⟨x, g, y, q, rfl, hx, hg, hy, hq, hL, hb⟩
  obtain ⟨gw, hgw⟩ : ∃ gw, w1.heap.size = gw := ⟨_, rfl⟩
  have W3 := Wt.new w1 n
  have hB : Below w.heap.size w (w1.alloc (.cells (tab (n * 8) (wl fun _ => zeros)) 39)) := bal hb
  have hO : Ol w.heap.size (w1.alloc (.cells (tab (n * 8) (wl fun _ => zeros)) 39)) gw n n (fun _ => zeros) := by
    rw [← hgw]; exact Ol.of_wt W3 hb.size (by unfold maxLen; have := HN.out; omega)
  have GWL : Hid (w.heap.size ≤ gw) := Lib.hid (by rw [← hgw]; exact hb.size)
  have KP : Hid (Kp w (w1.alloc (.cells (tab (n * 8) (wl fun _ => zeros)) 39)) x g y q n P per gw 0 0 s0 (fun i => view s0 (16 + n) P (16 + i))) :=
    Lib.hid ⟨hL.below (bal (Below.refl _ _)), NL.out.1, NC.out.1, hO.as fun i _ => NL.out.2.2.2.2 _, hB, ⟨hg, hy, by have := hL.nm.lt; omega, by have := hL.tq.lt; omega, by have := hL.xlt; omega, by have := hL.lq.lt; omega⟩, by have := HN.out; have := NL.out.2.2.1; omega, by rw [NC.out.2]; exact Int.le_refl _⟩
  have hmk2 := hmk w1
  clear hmk
  rw [hgw] at hmk2
  clear hx hg hy hq hL hb W3 hB hO hgw
  have HX : Hid (∀ w' : World, Below w.heap.size w w' → ∀ k, k < l4.length → ∃ b off u, p4 = some ⟨b, off, none⟩ ∧ w'.cell? ⟨b, off + k, none⟩ = some u ∧ RA homeE w u (l4.getD k [])) := Lib.hid fun w' hb k hk => by
    obtain ⟨b, off, e, hlt, hx⟩ := ras_at rfl rfl HV.out (by omega)
    obtain ⟨u, hc, hr⟩ := hx k hk
    exact ⟨b, off, u, e, (hb.cell (p := ⟨b, off + k, none⟩) hlt).trans hc, hr⟩
  generalize l4.length = len at *
  obtain ⟨lf, hlf⟩ : ∃ lf : Nat → List Hm, ∀ k, l4.getD k [] = lf k := ⟨fun k => l4.getD k [], fun _ => rfl⟩
  have HY : Hid (∀ w' : World, Below w.heap.size w w' → ∀ k, k < len → ∃ b off u, p4 = some ⟨b, off, none⟩ ∧ w'.cell? ⟨b, off + k, none⟩ = some u ∧ RA homeE w u (lf k)) := Lib.hid fun w' hb k hk => by
    rw [← hlf]; exact HX.out w' hb k hk
  clear hlf HX
  go_wp2
  go_loopw [55] (fun i wr => ∃ k : Nat, k ≤ len ∧ i = .int .i64 k ∧ Hid (∃ p s, Kp w wr x g y q n P per gw k p s (fun i => view s (16 + n) P (16 + i)))) (fun i _ => len - (intOf i).toNat)
  case atStart => exact ⟨0, Nat.zero_le _, rfl, Lib.hid ⟨_, _, KP.out⟩⟩
  case round =>
    obtain ⟨k, hk, rfl, H⟩ := hrel
    obtain ⟨p, s, hs⟩ := H.out
    have K0 := Lib.hid hs
    clear hs H KP hmk2
    by_cases hlt : k < len
    · obtain ⟨b, off, u, rfl, hc, hru⟩ := HY.out _ K0.out.bel k hlt
      obtain ⟨h, hh⟩ : ∃ h, lf k = h := ⟨_, rfl⟩
      rw [hh] at hru
      obtain ⟨q5, c5, rfl, hc5, _⟩ := ra_shape hru
      have RU := Lib.hid hru
      have KN : Hid (k < len ∧ k < 100) := Lib.hid ⟨hlt, by have := HL.out; omega⟩
      have i1 : (0 : Int) ≤ (k : Int) := by omega
      have i2 : (k : Int) < (len : Int) := by omega
      have i3 : ¬ (k : Int) < 0 := by omega
      have j0 : IntKind.i64.wrap ((k : Int) + 1) = ((k + 1 : Nat) : Int) := by rw [show (k : Int) + 1 = ((k + 1 : Nat) : Int) by omega]; exact i64_nat _ (by have := KN.out; omega)
      have FIN : ∀ z, z = k + 1 → z ≤ len := fun z e => by have := KN.out; omega
      have FI := Lib.hid FIN
      clear hru hh hc5 hk hlt FIN
      have PD := Lib.hid (C.pend _ _ _ _ _ _ _ _ _ _ K0.out.lg K0.out.ok K0.out.calm.1)
      obtain ⟨r, hr⟩ : ∃ r : Bool, r = true ↔ MayH ((16 + n : Nat) : Int) h := by
        by_cases hm : MayH ((16 + n : Nat) : Int) h
        · exact ⟨true, fun _ => hm, fun _ => rfl⟩
        · exact ⟨false, fun e => (by cases e), fun e => absurd e hm⟩
      have HR := Lib.hid hr
      clear hr
      cases r
      · have hm : ¬ MayH ((16 + n : Nat) : Int) h := fun e => by have := HR.out.2 e; cases this
        obtain ⟨bb, hbb⟩ : ∃ bb, decide (lk s ≠ 0) = bb := ⟨_, rfl⟩
        rw [hbb] at PD
        clear hbb
        go_wp2_with fail
        refine (PD.out).mono ?_; rintro e w2 ⟨rfl, hb⟩
        have K1 := Lib.hid (K0.out.below hb)
        have R1 := Lib.hid (ra_below RU.out K1.out.bel)
        have CM := Lib.hid (C.comArg _ _ _ _ _ _ _ _ _ _ _ h K1.out.lg (by have := HN.out; omega) R1.out hm)
        clear hb hc hm
        go_wp2_with fail
        refine (CM.out).mono ?_; rintro e w3 ⟨rfl, hb⟩
        have K2 := Lib.hid (K1.out.below hb)
        have R2 := Lib.hid (ra_below RU.out K2.out.bel)
        have MC := Lib.hid (rmayh_some ((16 + n : Nat) : Int) h _ false w3 R2.out HR.out)
        clear hb
        go_wp2_with fail
        refine (MC.out).mono ?_; rintro e w4 ⟨rfl, hb⟩
        have KT := Lib.hid ((K2.out.below hb).more KN.out.2)
        clear hb
        go_wp2
        go_loopw [102] (fun i wi => ∃ z : Nat, z ≤ n ∧ i = .int .i64 z ∧ Hid (Kp w wi x g y q n P per gw (k + 1) p s (fun i => view s (16 + n) P (16 + i)))) (fun i _ => n - (intOf i).toNat)
        case atStart => exact ⟨0, Nat.zero_le _, rfl, KT⟩
        case round =>
          obtain ⟨z, hz, rfl, KI⟩ := hrel
          clear KT
          by_cases hzl : z < n
          · have lw := KI.out.own.load hzl
            have h8 := KI.out.own.wide hzl
            obtain ⟨yv, hy⟩ : ∃ yv, view s (16 + n) P (16 + z) = yv := ⟨_, rfl⟩
            rw [hy] at lw h8
            have EY := Lib.hid hy
            clear hy
            obtain ⟨W1, hW1, H1⟩ := boxed1 wr h8
            have KJ := Lib.hid (KI.out.below H1.out.2)
            have GC := C.get _ _ _ _ _ _ _ _ _ (16 + z) _ KJ.out.lg KJ.out.ok KJ.out.calm.1 KJ.out.room (by omega) (by omega)
            rw [EY.out] at GC
            have GC := Lib.hid GC
            have i6 : (0 : Int) ≤ (z : Int) := by omega
            have i7 : (z : Int) < (n : Int) := by omega
            have hz40 : z < 40 := by have := HN.out; omega
            have jz : IntKind.i64.wrap (16 + (z : Int)) = ((16 + z : Nat) : Int) := by rw [show 16 + (z : Int) = ((16 + z : Nat) : Int) by omega]; exact i64_nat _ (by omega)
            have j1 : IntKind.i64.wrap ((z : Int) + 1) = ((z + 1 : Nat) : Int) := by rw [show (z : Int) + 1 = ((z + 1 : Nat) : Int) by omega]; exact i64_nat _ (by omega)
            have HZ2 := Lib.hid hzl
            clear hz hzl hz40
            go_wp2_with fail
            refine (GC.out).mono ?_; rintro e w5 ⟨rfl, hb⟩
            obtain ⟨W2, hW2, H2⟩ := boxed1 w5 h8
            have KM := Lib.hid ((KJ.out.below hb).below H2.out.2)
            have l17 := ((H1.out.1.below hb).below H2.out.2).load
            have l18 := H2.out.1.load
            clear hb lw
            go_wp2
            exact ⟨⟨z + 1, by have := HZ2.out; omega, by go_num, KM⟩, by have := HZ2.out; simp [intOf]; omega⟩
          · obtain rfl : z = n := by omega
            go_wp2
            exact ⟨⟨k + 1, FI.out _ rfl, by go_num, Lib.hid ⟨_, _, KI.out⟩⟩, by have := KN.out; simp [intOf]; omega⟩
      · by_cases hp : lk s = 0
        · have hm : MayH ((16 + n : Nat) : Int) h := HR.out.1 rfl
          rw [show decide (lk s ≠ 0) = false by simp [hp]] at PD
          go_wp2_with fail
          refine (PD.out).mono ?_; rintro e w2 ⟨rfl, hb⟩
          have K1 := Lib.hid (K0.out.below hb)
          have R1 := Lib.hid (ra_below RU.out K1.out.bel)
          have CM := C.com _ _ _ _ _ _ _ _ _ _ _ h K1.out.lg K1.out.ok K1.out.calm.1 K1.out.room hp (K1.out.homes RU.out) hm
          have KC := fun (w' : World) => K1.out.com (w' := w') KN.out.2 hp hm (ra_wide R1.out)
          generalize lcom (16 + n) P per p h s = R at *
          obtain ⟨e1, p1, s1⟩ := R
          have HM1 := Lib.hid hm
          have CM := Lib.hid CM
          have KC := Lib.hid KC
          clear hb hc hm hp
          go_wp2_with fail
          refine (CM.out).mono ?_; rintro e w3 ⟨rfl, hL, hC⟩
          obtain ⟨k2, ko⟩ := KC.out w3 hL hC
          have K2 := Lib.hid k2
          have R2 := Lib.hid (ra_below RU.out K2.out.bel)
          have MC := Lib.hid (rmayh_some ((16 + n : Nat) : Int) h _ true w3 R2.out ⟨fun _ => HM1.out, fun _ => rfl⟩)
          clear hL hC k2
          rcases ko with ⟨rfl, hv⟩ | ⟨rfl, hv, hw⟩
          · have HVW := Lib.hid hv
            clear hv
            go_wp2_with fail
            refine (MC.out).mono ?_; rintro e w4 ⟨rfl, hb⟩
            have K3 := Lib.hid ((K2.out.below hb).as (f' := fun i => hv (h.take 0) (view s (16 + n) P) (16 + i)) fun i _ => hv_zero _ _ _)
            obtain ⟨bq, oq, rfl, hbq, hxq⟩ := home_at RU.out (by have := HM1.out.lo; omega)
            have HQ : Hid (∀ w' : World, Below w.heap.size w w' → ∀ j, j < h.length → (homeLoad (.pointer (some ⟨bq, oq + j * 9, none⟩))).run Try.prog w' = .ok (.agg (hmc (h.getD j default))) w' ∧ (h.getD j default).Wf) := Lib.hid fun w' hb j hj => by
              obtain ⟨b', o', e, _, hx⟩ := home_at (ra_below RU.out hb) (by omega)
              cases e
              exact ⟨(hx j hj).1, (hx j hj).2.2.2⟩
            clear hb hbq hxq
            go_wp2
            go_loopw [81] (fun i wi => ∃ j : Nat, j ≤ h.length ∧ i = .int .i64 j ∧ Hid (Kp w wi x g y q n P per gw (k + 1) p1 s1 (fun i => hv (h.take j) (view s (16 + n) P) (16 + i)))) (fun i _ => h.length - (intOf i).toNat)
            case atStart => exact ⟨0, Nat.zero_le _, rfl, K3⟩
            case round =>
              obtain ⟨j, hj, rfl, KI⟩ := hrel
              clear K3
              by_cases hjl : j < h.length
              · obtain ⟨hl, hwf⟩ := HQ.out _ KI.out.bel j hjl
                obtain ⟨X, hX⟩ : ∃ X, h.getD j default = X := ⟨_, rfl⟩
                have hat := HM1.out.at_ _ (getD_mem hjl)
                rw [hX] at hl hwf hat
                obtain ⟨m, hm⟩ : ∃ m : Nat, X.i = ((16 + m : Nat) : Int) := ⟨(X.i - 16).toNat, by omega⟩
                have hmn : m < n := by omega
                obtain ⟨W1, hW1, H1⟩ := home_boxed wr hwf.len
                have KJ := Lib.hid (KI.out.below H1.out.2)
                obtain ⟨hst, kst⟩ := KJ.out.lay hmn hwf.len GWL.out
                obtain ⟨V, hV⟩ : ∃ V, W1.setCells gw (m * 8) (X.l.map uv) = V := ⟨_, rfl⟩
                rw [hV] at hst kst
                have KV : Hid (Kp w V x g y q n P per gw (k + 1) p1 s1 (fun i => hv (h.take (j + 1)) (view s (16 + n) P) (16 + i))) := Lib.hid (kst.as fun i _ => by
                  rw [hv_step HM1.out.nd hjl (m := m) (by rw [hX]; exact hm), hX])
                have d0 := H1.out.1.slot
                rw [hm] at d0
                have d1 := H1.out.1.line
                have hw8 := hwf.len
                obtain ⟨Xl, hXl⟩ : ∃ z, X.l = z := ⟨_, rfl⟩
                rw [hXl] at hst d1
                have m0 : (0 : Int) ≤ (j : Int) := by omega
                have m1 : (j : Int) < (h.length : Int) := by omega
                have m2 : ¬ (j : Int) < 0 := by omega
                have m3 : IntKind.i64.wrap (((16 + m : Nat) : Int) - 16) = (m : Int) := by rw [show ((16 + m : Nat) : Int) - 16 = (m : Int) by omega]; exact i64_nat _ (by have := HN.out; omega)
                have m4 : (0 : Int) ≤ (m : Int) := by omega
                have m5 : (m : Int) < (n : Int) := by omega
                have m6 : IntKind.i64.wrap ((j : Int) + 1) = ((j + 1 : Nat) : Int) := by rw [show (j : Int) + 1 = ((j + 1 : Nat) : Int) by omega]; exact i64_nat _ (by have := HM1.out.hi; omega)
                have HJ := Lib.hid hjl
                clear hX hat hm hmn kst hXl hwf hj hjl hV
                generalize 16 + m = Z at *
                go_wp2
                exact ⟨⟨j + 1, by have := HJ.out; omega, by go_num, KV⟩, by have := HJ.out; simp [intOf]; omega⟩
              · obtain rfl : j = h.length := by omega
                have KT : Hid (Kp w wr x g y q n P per gw (k + 1) p1 s1 (fun i => view s1 (16 + n) P (16 + i))) := Lib.hid (KI.out.as fun i hi => by rw [HVW.out _ (by omega) (by omega), hv_all])
                clear KI HQ
                go_wp2
                go_loopw [102] (fun i wi => ∃ z : Nat, z ≤ n ∧ i = .int .i64 z ∧ Hid (Kp w wi x g y q n P per gw (k + 1) p1 s1 (fun i => view s1 (16 + n) P (16 + i)))) (fun i _ => n - (intOf i).toNat)
                case atStart => exact ⟨0, Nat.zero_le _, rfl, KT⟩
                case round =>
                  obtain ⟨z, hz, rfl, KI⟩ := hrel
                  clear KT
                  by_cases hzl : z < n
                  · have lw := KI.out.own.load hzl
                    have h8 := KI.out.own.wide hzl
                    obtain ⟨yv, hy⟩ : ∃ yv, view s1 (16 + n) P (16 + z) = yv := ⟨_, rfl⟩
                    rw [hy] at lw h8
                    have EY := Lib.hid hy
                    clear hy
                    obtain ⟨W1, hW1, H1⟩ := boxed1 wr h8
                    have KJ := Lib.hid (KI.out.below H1.out.2)
                    have GC := C.get _ _ _ _ _ _ _ _ _ (16 + z) _ KJ.out.lg KJ.out.ok KJ.out.calm.1 KJ.out.room (by omega) (by omega)
                    rw [EY.out] at GC
                    have GC := Lib.hid GC
                    have i6 : (0 : Int) ≤ (z : Int) := by omega
                    have i7 : (z : Int) < (n : Int) := by omega
                    have hz40 : z < 40 := by have := HN.out; omega
                    have jz : IntKind.i64.wrap (16 + (z : Int)) = ((16 + z : Nat) : Int) := by rw [show 16 + (z : Int) = ((16 + z : Nat) : Int) by omega]; exact i64_nat _ (by omega)
                    have j1 : IntKind.i64.wrap ((z : Int) + 1) = ((z + 1 : Nat) : Int) := by rw [show (z : Int) + 1 = ((z + 1 : Nat) : Int) by omega]; exact i64_nat _ (by omega)
                    have HZ2 := Lib.hid hzl
                    clear hz hzl hz40
                    go_wp2_with fail
                    refine (GC.out).mono ?_; rintro e w5 ⟨rfl, hb⟩
                    obtain ⟨W2, hW2, H2⟩ := boxed1 w5 h8
                    have KM := Lib.hid ((KJ.out.below hb).below H2.out.2)
                    have l17 := ((H1.out.1.below hb).below H2.out.2).load
                    have l18 := H2.out.1.load
                    clear hb lw
                    go_wp2
                    exact ⟨⟨z + 1, by have := HZ2.out; omega, by go_num, KM⟩, by have := HZ2.out; simp [intOf]; omega⟩
                  · obtain rfl : z = n := by omega
                    go_wp2
                    exact ⟨⟨k + 1, FI.out _ rfl, by go_num, Lib.hid ⟨_, _, KI.out⟩⟩, by have := KN.out; simp [intOf]; omega⟩
          · have HVW := Lib.hid hw
            have HK1 := Lib.hid hv
            clear hv hw
            go_wp2_with fail
            refine (MC.out).mono ?_; rintro e w4 ⟨rfl, hb⟩
            have K3 := Lib.hid (K2.out.below hb)
            have PD2 := C.pend _ _ _ _ _ _ _ _ _ _ K3.out.lg K3.out.ok K3.out.calm.1
            rw [show decide (lk s1 ≠ 0) = false by simp [HK1.out]] at PD2
            have PD2 := Lib.hid PD2
            clear hb
            go_wp2_with fail
            refine (PD2.out).mono ?_; rintro e w6 ⟨rfl, hb⟩
            have KT := Lib.hid ((K3.out.below hb).as (f' := fun i => view s1 (16 + n) P (16 + i)) fun i hi => HVW.out _ (by omega) (by omega))
            clear hb
            go_wp2
            go_loopw [102] (fun i wi => ∃ z : Nat, z ≤ n ∧ i = .int .i64 z ∧ Hid (Kp w wi x g y q n P per gw (k + 1) p1 s1 (fun i => view s1 (16 + n) P (16 + i)))) (fun i _ => n - (intOf i).toNat)
            case atStart => exact ⟨0, Nat.zero_le _, rfl, KT⟩
            case round =>
              obtain ⟨z, hz, rfl, KI⟩ := hrel
              clear KT
              by_cases hzl : z < n
              · have lw := KI.out.own.load hzl
                have h8 := KI.out.own.wide hzl
                obtain ⟨yv, hy⟩ : ∃ yv, view s1 (16 + n) P (16 + z) = yv := ⟨_, rfl⟩
                rw [hy] at lw h8
                have EY := Lib.hid hy
                clear hy
                obtain ⟨W1, hW1, H1⟩ := boxed1 wr h8
                have KJ := Lib.hid (KI.out.below H1.out.2)
                have GC := C.get _ _ _ _ _ _ _ _ _ (16 + z) _ KJ.out.lg KJ.out.ok KJ.out.calm.1 KJ.out.room (by omega) (by omega)
                rw [EY.out] at GC
                have GC := Lib.hid GC
                have i6 : (0 : Int) ≤ (z : Int) := by omega
                have i7 : (z : Int) < (n : Int) := by omega
                have hz40 : z < 40 := by have := HN.out; omega
                have jz : IntKind.i64.wrap (16 + (z : Int)) = ((16 + z : Nat) : Int) := by rw [show 16 + (z : Int) = ((16 + z : Nat) : Int) by omega]; exact i64_nat _ (by omega)
                have j1 : IntKind.i64.wrap ((z : Int) + 1) = ((z + 1 : Nat) : Int) := by rw [show (z : Int) + 1 = ((z + 1 : Nat) : Int) by omega]; exact i64_nat _ (by omega)
                have HZ2 := Lib.hid hzl
                clear hz hzl hz40
                go_wp2_with fail
                refine (GC.out).mono ?_; rintro e w5 ⟨rfl, hb⟩
                obtain ⟨W2, hW2, H2⟩ := boxed1 w5 h8
                have KM := Lib.hid ((KJ.out.below hb).below H2.out.2)
                have l17 := ((H1.out.1.below hb).below H2.out.2).load
                have l18 := H2.out.1.load
                clear hb lw
                go_wp2
                exact ⟨⟨z + 1, by have := HZ2.out; omega, by go_num, KM⟩, by have := HZ2.out; simp [intOf]; omega⟩
              · obtain rfl : z = n := by omega
                go_wp2
                exact ⟨⟨k + 1, FI.out _ rfl, by go_num, Lib.hid ⟨_, _, KI.out⟩⟩, by have := KN.out; simp [intOf]; omega⟩
        · have hm : MayH ((16 + n : Nat) : Int) h := HR.out.1 rfl
          rw [show decide (lk s ≠ 0) = true by simp [hp]] at PD
          go_wp2_with fail
          refine (PD.out).mono ?_; rintro e w2 ⟨rfl, hb⟩
          have K1 := Lib.hid (K0.out.below hb)
          have R1 := Lib.hid (ra_below RU.out K1.out.bel)
          have HM1 := Lib.hid hm
          have CM := Lib.hid (C.comState _ _ _ _ _ _ _ _ _ _ _ h K1.out.lg K1.out.calm.1 K1.out.ok.r1 hp (by have := HN.out; omega) R1.out hm)
          clear hb hc hm hp
          go_wp2_with fail
          refine (CM.out).mono ?_; rintro e w3 ⟨rfl, hb⟩
          have K2 := Lib.hid (K1.out.below hb)
          have R2 := Lib.hid (ra_below RU.out K2.out.bel)
          have MC := Lib.hid (rmayh_some ((16 + n : Nat) : Int) h _ true w3 R2.out ⟨fun _ => HM1.out, fun _ => rfl⟩)
          clear hb
          go_wp2_with fail
          refine (MC.out).mono ?_; rintro e w4 ⟨rfl, hb⟩
          have KT := Lib.hid ((K2.out.below hb).more KN.out.2)
          clear hb
          go_wp2
          go_loopw [102] (fun i wi => ∃ z : Nat, z ≤ n ∧ i = .int .i64 z ∧ Hid (Kp w wi x g y q n P per gw (k + 1) p s (fun i => view s (16 + n) P (16 + i)))) (fun i _ => n - (intOf i).toNat)
          case atStart => exact ⟨0, Nat.zero_le _, rfl, KT⟩
          case round =>
            obtain ⟨z, hz, rfl, KI⟩ := hrel
            clear KT
            by_cases hzl : z < n
            · have lw := KI.out.own.load hzl
              have h8 := KI.out.own.wide hzl
              obtain ⟨yv, hy⟩ : ∃ yv, view s (16 + n) P (16 + z) = yv := ⟨_, rfl⟩
              rw [hy] at lw h8
              have EY := Lib.hid hy
              clear hy
              obtain ⟨W1, hW1, H1⟩ := boxed1 wr h8
              have KJ := Lib.hid (KI.out.below H1.out.2)
              have GC := C.get _ _ _ _ _ _ _ _ _ (16 + z) _ KJ.out.lg KJ.out.ok KJ.out.calm.1 KJ.out.room (by omega) (by omega)
              rw [EY.out] at GC
              have GC := Lib.hid GC
              have i6 : (0 : Int) ≤ (z : Int) := by omega
              have i7 : (z : Int) < (n : Int) := by omega
              have hz40 : z < 40 := by have := HN.out; omega
              have jz : IntKind.i64.wrap (16 + (z : Int)) = ((16 + z : Nat) : Int) := by rw [show 16 + (z : Int) = ((16 + z : Nat) : Int) by omega]; exact i64_nat _ (by omega)
              have j1 : IntKind.i64.wrap ((z : Int) + 1) = ((z + 1 : Nat) : Int) := by rw [show (z : Int) + 1 = ((z + 1 : Nat) : Int) by omega]; exact i64_nat _ (by omega)
              have HZ2 := Lib.hid hzl
              clear hz hzl hz40
              go_wp2_with fail
              refine (GC.out).mono ?_; rintro e w5 ⟨rfl, hb⟩
              obtain ⟨W2, hW2, H2⟩ := boxed1 w5 h8
              have KM := Lib.hid ((KJ.out.below hb).below H2.out.2)
              have l17 := ((H1.out.1.below hb).below H2.out.2).load
              have l18 := H2.out.1.load
              clear hb lw
              go_wp2
              exact ⟨⟨z + 1, by have := HZ2.out; omega, by go_num, KM⟩, by have := HZ2.out; simp [intOf]; omega⟩
            · obtain rfl : z = n := by omega
              go_wp2
              exact ⟨⟨k + 1, FI.out _ rfl, by go_num, Lib.hid ⟨_, _, KI.out⟩⟩, by have := KN.out; simp [intOf]; omega⟩
    · obtain rfl : k = len := by omega
      go_wp2_with fail
      refine (C.getOut wr x g y q (16 + n) P per p 15 s K0.out.lg (by omega)).mono ?_; rintro e w2 ⟨rfl, hb⟩
      obtain ⟨W1, hW1, H1⟩ := boxed1 w2 (a := [0, 0, 0, 0, 0, 0, 0, 0]) rfl
      have K1 := Lib.hid ((K0.out.below hb).below H1.out.2)
      have hst : (lineStore (.pointer (some ⟨w2.heap.size, 0, none⟩)) (.agg (lc zeros))).run Try.prog W1 = .ok () W1 := by rw [← hW1]; exact store_new w2 zeros zeros rfl rfl
      clear hb
      go_wp2_with fail
      refine (C.getOut W1 x g y q (16 + n) P per p ((16 + n : Nat) : Int) s K1.out.lg (by omega)).mono ?_; rintro e w3 ⟨rfl, hb⟩
      obtain ⟨W2, hW2, H2⟩ := boxed1 w3 (a := [0, 0, 0, 0, 0, 0, 0, 0]) rfl
      have K2 := Lib.hid ((K1.out.below hb).below H2.out.2)
      have hst2 : (lineStore (.pointer (some ⟨w3.heap.size, 0, none⟩)) (.agg (lc zeros))).run Try.prog W2 = .ok () W2 := by rw [← hW2]; exact store_new w3 zeros zeros rfl rfl
      clear hb
      go_wp2_with fail
      refine (awake_any C _).mono ?_; rintro e w4 ⟨rfl, hb⟩
      have B6 := Lib.hid (below_base K2.out.bel K2.out.bel.size hb)
      go_wp2
      go_ret
      exact ⟨rfl, B6.out⟩

theorem walk (a0 a1 a2 : Int) (l3 : List Int) (v3 : Value) (l4 : List (List Hm)) (v4 : Value) (w : World) (_ : (Lit.int .i64 a0).wf = true) (_ : (Lit.int .i64 a1).wf = true) (_ : (Lit.int .i64 a2).wf = true) (h3 : IntsIn .i64 w v3 l3) (h4 : RAs homeE rowsE w v4 l4) :
    Calls Try.prog 3 #[.int .i64 a0, .int .i64 a1, .int .i64 a2, v3, v4] w fun e w' => e = .returned (.bool true) ∧ Below w.heap.size w w' := walk_ ctr a0 a1 a2 l3 v3 l4 v4 w (ri_in h3) h4

set_option maxRecDepth 100000 in
theorem lifted (os : Os) (started : os.Started) (H : Type) (enc : TypeId × Value → H) :
    ReturnsInHanded {} Try.checked os 3 .any (Rows.logKeepsSpec.pre6 enc Try.prog Try.f3 Rows.logKeepsRow.domain false) (Rows.logKeepsSpec.post enc Try.prog Try.f3 false true false false) := by
  refine returnsInHanded_of_change (C := Try.checked) own started (by kernel_rfl) Try.func3
    (ChangeSpec.witness6 (enc := enc) (C := Try.checked) false ⟨#[], #[.int .i64 0, .int .i64 0, .int .i64 0, .slice none 0 0, .slice none 0 0], []⟩ 8 (by kernel_rfl) (by kernel_rfl) (by kernel_rfl) (by kernel_rfl)) ?_
  intro W base args ds gs before hval0 hW hcnd _
  have hval : ∀ (j : Nat) t v, Try.f3.params[j]? = some t → args[j]? = some v → Value.okWide Try.prog W .any base t v := hval0
  have hW' := hW
  have hlt := hW.lt
  obtain ⟨p, q, hA0, hV, hpq, hfz, hnd⟩ := hW
  have hA : DataW.TrodAll enc Try.prog W 0 (fun _ => true) true Try.f3.params.toList args.toList ds p := hA0
  rw [Try.params3] at hA hval
  obtain ⟨v0, vs0, d0, ds0, p0, q0, hargs, rfl, hp, h0, r0⟩ := trodAll_cons hA
  obtain ⟨v1, vs1, d1, ds1, p1, q1, rfl, rfl, rfl, h1, r1⟩ := trodAll_cons r0
  obtain ⟨v2, vs2, d2, ds2, p2, q2, rfl, rfl, rfl, h2, r2⟩ := trodAll_cons r1
  obtain ⟨v3, vs3, d3, ds3, p3, q3, rfl, rfl, rfl, h3, r3⟩ := trodAll_cons r2
  obtain ⟨v4, vs4, d4, ds4, p4, q4, rfl, rfl, rfl, h4, r4⟩ := trodAll_cons r3
  obtain ⟨rfl, rfl, rfl⟩ := trodAll_nil r4
  obtain rfl : args = #[v0, v1, v2, v3, v4] := by cases args; simp_all
  obtain ⟨rfl, rfl⟩ := trodVars_none hV
  have hlt' : ∀ x ∈ before, x.block < W.heap.size := fun x hx => hlt x hx
  obtain ⟨a0, rfl, rfl, rfl, w0⟩ := open_int Try.underlying3 (hval 0 3 v0 rfl rfl) h0
  obtain ⟨a1, rfl, rfl, rfl, w1⟩ := open_int Try.underlying3 (hval 1 3 v1 rfl rfl) h1
  obtain ⟨a2, rfl, rfl, rfl, w2⟩ := open_int Try.underlying3 (hval 2 3 v2 rfl rfl) h2
  obtain ⟨l3, w3⟩ := ints_in Try.underlying22 Try.underlying3 (by kernel_rfl) (hval 3 22 v3 rfl rfl) (fun x hx => hlt' x (by rw [hpq, hp]; simp [hx])) h3
  obtain ⟨l4, w4⟩ := homess_in (hval 4 23 v4 rfl rfl) h4
  refine (walk a0 a1 a2 l3 v3 l4 v4 W w0 w1 w2 w3 w4).mono fun e W' ⟨he, hb⟩ => ?_
  subst he
  exact ⟨_, rfl, law_post rfl (by kernel_rfl) hW' (by rw [Try.params3]; intro t ht; simp only [List.mem_cons, List.not_mem_nil, or_false] at ht; (repeat' (first | (rcases ht with rfl | ht) | subst ht)) <;> exact ⟨by kernel_rfl, of_decide_eq_true (by kernel_rfl)⟩) rfl hb⟩

theorem over : Rows.logKeepsRow.holds Try.pinned (OpenSpec.ofChange Rows.logKeepsSpec) :=
  OpenClaim.holds_of_wide 3 Try.f3 rfl rfl rfl rfl rfl rfl rfl ⟨rfl, rfl, rfl, rfl, rfl⟩ rfl rfl rfl rfl rfl (by kernel_rfl) Try.func3 (by kernel_rfl)
    (of_decide_eq_true (by kernel_rfl)) (by unfold Func.isWrapper; first | (rw [if_pos (by decide +kernel)]; kernel_rfl) | (rw [if_neg (by decide +kernel)]; exact ⟨rfl, rfl⟩))
    (fun os started H enc _ => lifted os started H enc)

theorem proved : Rows.LogKeepsSaid := over
end Go.Proofs.Ytjghhcbiaklomaa.logKeeps
