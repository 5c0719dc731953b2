/-
  Lines don't fail, as long as there are spare ones: each slot holds what was put last; when none is left it is said, and all is as it was. No conditions.
-/
import Derived.Test.YtlpmpnhkghbdmaaLnw
import Derived.Test.YtlpmpnhkghbdmaaPt
import Derived.Test.YtlpmpnhkghbdmaaWt
namespace Go.Proofs.Ytlpmpnhkghbdmaa.linesKeep
open Go.Proofs.Ytlpmpnhkghbdmaa Go.ChangeShapes Go.WideShapes Go.ChangeAt Go.RowKit

/-- the lines and what they must hold, behind k Puts -/
structure Kp (w : World) (q g gw S P : Nat) (wr : World) (k : Nat) (s : Nv) : Prop where
  nm : Nm wr g s
  lq : Lq wr q g S P
  lok : LOk s S P
  comes : s.comes = false
  wt : Wt wr gw S (hold s S P)
  bel : Below w.heap.size w wr
  c : s.c ≤ 40 * k
theorem Kp.hold8 {w : World} {q g gw S P : Nat} {wr : World} {k : Nat} {s : Nv} (h : Kp w q g gw S P wr k s) (i : Nat) : (hold s S P i).length = 8 := h.lok.ok.line _
theorem Kp.below {w : World} {q g gw S P : Nat} {wr wr' : World} {k : Nat} {s : Nv} (h : Kp w q g gw S P wr k s) (hb : Below wr.heap.size wr wr') : Kp w q g gw S P wr' k s :=
  ⟨h.nm.below hb, h.lq.below hb, h.lok, h.comes, h.wt.below hb, below_base h.bel h.bel.size hb, h.c⟩
theorem Kp.more {w : World} {q g gw S P : Nat} {wr : World} {k : Nat} {s : Nv} (h : Kp w q g gw S P wr k s) : Kp w q g gw S P wr (k + 1) s :=
  ⟨h.nm, h.lq, h.lok, h.comes, h.wt, h.bel, by have := h.c; push_cast; omega⟩

theorem small (a0 a1 : Int) (lim : List Int) (l : List Pt) (lv v : Value) (w : World) (hl : IntsIn .i64 w lv lim) (h : RP w v l) (hb : 200 < l.length ∨ 200 < lim.length) :
    Calls Try.prog 3 #[.int .i64 a0, .int .i64 a1, lv, v] w fun e w' => e = .returned (.bool true) ∧ Below w.heap.size w w' := by
  obtain ⟨p, cap, rfl, h1, h2⟩ := rp_shape h
  obtain ⟨p2, cap2, rfl, h3, h4, _⟩ := hl
  unfold maxLen at h2 h4
  by_cases hx : 200 < l.length
  · have i1 : (200 : Int) < (l.length : Int) := by omega
    clear hb h
    generalize l.length = n at *
    go_enter Try.func3, Try.ntmps3
    go_wp2_with fail
    refine (awake_any _).mono ?_; rintro e w' ⟨rfl, hb⟩
    go_wp2_with fail
    go_ret
    exact ⟨rfl, hb⟩
  · have i1 : ¬ (200 : Int) < (l.length : Int) := by omega
    have i2 : (200 : Int) < (lim.length : Int) := by omega
    clear hb h
    generalize l.length = n at *
    generalize lim.length = n2 at *
    go_enter Try.func3, Try.ntmps3
    go_wp2_with fail
    refine (awake_any _).mono ?_; rintro e w' ⟨rfl, hb⟩
    go_wp2_with fail
    go_ret
    exact ⟨rfl, hb⟩

set_option maxRecDepth 100000 in
set_option maxHeartbeats 8000000 in
theorem main (a0 a1 : Int) (lim : List Int) (l : List Pt) (lv v : Value) (w : World) (hl : IntsIn .i64 w lv lim) (h : RP w v l) (hb1 : l.length ≤ 200) (hb2 : lim.length ≤ 200) :
    Calls Try.prog 3 #[.int .i64 a0, .int .i64 a1, lv, v] w fun e w' => e = .returned (.bool true) ∧ Below w.heap.size w w' := by
  obtain ⟨u0, hu0, _⟩ := u64_nat a0
  obtain ⟨m, hm⟩ : ∃ m, m = u0 % 40 := ⟨_, rfl⟩
  have t0 : (u0 : Int).tmod 40 = (m : Int) := by rw [hm]; exact tmod_nat u0 40
  obtain ⟨S, hS⟩ : ∃ S : Nat, S = m + 1 := ⟨_, rfl⟩
  have k0 : IntKind.i64.wrap (m : Int) = m := IntWalk.i64_in _ (by omega)
  have k1 : IntKind.i64.wrap (1 + (m : Int)) = (S : Int) := by rw [show 1 + (m : Int) = (S : Int) by omega]; exact IntWalk.i64_in _ (by omega)
  obtain ⟨u1, hu1, _⟩ := u64_nat a1
  obtain ⟨P, hP⟩ : ∃ P, P = u1 % 17 := ⟨_, rfl⟩
  have t1 : (u1 : Int).tmod 17 = (P : Int) := by rw [hP]; exact tmod_nat u1 17
  have k2 : IntKind.i64.wrap (P : Int) = P := IntWalk.i64_in _ (by omega)
  obtain ⟨N, hN⟩ : ∃ N : Nat, N = S + P := ⟨_, rfl⟩
  have k3 : IntKind.i64.wrap ((S : Int) + (P : Int)) = (N : Int) := by rw [show (S : Int) + (P : Int) = (N : Int) by omega]; exact IntWalk.i64_in _ (by omega)
  have HB : Hid (1 ≤ S ∧ S ≤ 40 ∧ P ≤ 16 ∧ N = S + P) := Lib.hid ⟨by omega, by omega, by omega, hN⟩
  have R0 := Lib.hid (ri_in hl)
  have HR := Lib.hid h
  have LK := newNv_lok (S := S) (P := P) (by omega) (by omega) (by omega) lim
  rw [← hN] at LK
  have HK := Lib.hid LK
  have LF := Lib.hid (newNv_left N P lim)
  obtain ⟨p, cap, rfl, h1, h2⟩ := rp_shape h
  obtain ⟨p2, cap2, rfl, h3, h4, _⟩ := hl
  have i1 : ¬ (200 : Int) < (l.length : Int) := by omega
  have i2 : ¬ (200 : Int) < (lim.length : Int) := by omega
  have hmk := run_make_want S (by omega)
  obtain ⟨n, hn⟩ : ∃ n, l.length = n := ⟨_, rfl⟩
  obtain ⟨n2, hn2⟩ : ∃ n2, lim.length = n2 := ⟨_, rfl⟩
  have EN := Lib.hid hn
  have HN200 : Hid (n ≤ 200) := Lib.hid (by omega)
  rw [hn] at i1 HR ⊢
  rw [hn2] at i2 R0 ⊢
  clear hm hS hP hN h h1 h2 h3 h4 hb1 hb2 hn hn2 LK
  go_enter Try.func3, Try.ntmps3
  go_wp2_with fail
  refine (new_yes N _ _ w (by have := HB.out; omega) (by have := HB.out; omega) R0.out).mono ?_; rintro e w1 ⟨g, rfl, hg, hN, hb⟩
  have G1 := Lib.hid hg
  have N1 := Lib.hid hN
  have B1 := Lib.hid hb
  clear hg hN hb
  go_wp2_with fail
  refine (lnew_yes HK.out N1.out).mono ?_; rintro e w2 ⟨q, rfl, hq, hQ, hb⟩
  have HQG : Hid (q ≠ g) := Lib.hid (by have := N1.out.lt; omega)
  have N2 := Lib.hid (N1.out.below hb)
  have Q2 := Lib.hid hQ
  have B2 := Lib.hid (below_more B1.out hb)
  clear hq hQ hb
  go_wp2_with fail
  refine (slots_any q g S P w2 Q2.out).mono ?_; rintro e w' ⟨rfl, rfl⟩
  go_wp2_with fail
  refine (lleft_is LF.out HK.out Q2.out N2.out).mono ?_; rintro e w3 ⟨rfl, hb⟩
  obtain ⟨gw, hgw⟩ : ∃ gw, w3.heap.size = gw := ⟨_, rfl⟩
  have W3 := Wt.new w3 S
  have B3 := below_more B2.out hb
  have HGW : Hid (w.heap.size ≤ gw) := Lib.hid (by rw [← hgw]; exact B3.size)
  have HGG : Hid (gw ≠ g ∧ q ≠ gw) := Lib.hid ⟨by have := (N2.out.below hb).lt; omega, by have := (Q2.out.below hb).lt; omega⟩
  have HQW : Hid (q ≠ gw) := Lib.hid HGG.out.2
  have KP : Hid (Kp w q g gw S P (w3.alloc (.cells (tab (S * 8) (wl fun _ => zeros)) 33)) 0 (newNv N lim)) :=
    Lib.hid ⟨(N2.out.below hb).alloc _, (Q2.out.below hb).alloc _, HK.out, rfl, by rw [← hgw]; exact W3.as fun i _ => rfl, bal B3, by show (0 : Int) ≤ _; simp⟩
  have hmk2 := hmk w3
  clear hmk
  rw [hgw] at hmk2
  have KK : Hid (q ≠ g ∧ w.heap.size ≤ g ∧ gw ≠ g ∧ ∀ b, ¬ b = g → b ≠ g) := Lib.hid ⟨HQG.out, G1.out, HGG.out.1, fun _ h => h⟩
  clear hb W3 B3 t0 t1 k0 k1 k2 k3 hgw
  go_wp2
  go_loopw [67] (fun i wr => ∃ k : Nat, k ≤ n ∧ i = .int .i64 k ∧ Hid (∃ s, Kp w q g gw S P wr k s)) (fun i _ => n - (intOf i).toNat)
  case atStart => exact ⟨0, Nat.zero_le _, rfl, Lib.hid ⟨_, KP.out⟩⟩
  case round =>
    obtain ⟨k, hk, rfl, H⟩ := hrel
    obtain ⟨s, hs⟩ := H.out
    have HK0 := Lib.hid hs
    clear hs H KP hmk2
    by_cases hlt : k < n
    · have hRr := rp_below HR.out HK0.out.bel
      obtain ⟨b, off, rfl, hb, hld, hwf⟩ := rp_at hRr (k := k) (by rw [EN.out]; exact hlt)
      obtain ⟨c, hc⟩ : ∃ c, l.getD k default = c := ⟨_, rfl⟩
      rw [hc] at hld hwf
      have hci := hwf.len
      rcases c with ⟨ci, cl⟩
      obtain ⟨W1, hW1⟩ : ∃ W1, wr.alloc (.cells (pc ⟨ci, cl⟩) 35) = W1 := ⟨_, rfl⟩
      have PV := Pv.new wr hci
      have BA := bal (o := .cells (pc ⟨ci, cl⟩) 35) (Below.refl wr.heap.size wr)
      rw [hW1] at PV BA
      have PV1 := Lib.hid PV
      have KB := Lib.hid (HK0.out.below BA)
      have PB : Hid (¬ wr.heap.size = g) := Lib.hid (by have := HK0.out.nm.lt; omega)
      obtain ⟨l1, hl1⟩ : ∃ l1, leftT (s.tb P) = l1 := ⟨_, rfl⟩
      have E1 := Lib.hid hl1
      have i3 : (0 : Int) ≤ (k : Int) := by omega
      have i4 : (k : Int) < (n : Int) := by omega
      clear hc hwf PV BA hRr hb hl1
      go_wp2_with fail
      refine (lleft_is E1.out KB.out.lok KB.out.lq KB.out.nm).mono ?_; rintro e w2 ⟨rfl, hb⟩
      have KC := Lib.hid (KB.out.below hb)
      have PVC := Lib.hid (PV1.out.below hb)
      have K9 : Hid (s.c + 200 < 4611686018427387904) := Lib.hid (by have := KC.out.c; have := HN200.out; omega)
      have c3 := PVC.out.slot
      have l3 := PVC.out.line
      clear hb hld i3 i4
      dsimp only at c3 l3
      by_cases ha : 0 ≤ ci ∧ ci < S
      · obtain ⟨a, rfl⟩ : ∃ a : Nat, ci = a := ⟨ci.toNat, by omega⟩
        have has : a < S := by omega
        have i8 : ¬ (a : Int) < 0 := by omega
        have i9 : ¬ (a : Int) ≥ (S : Int) := by omega
        have i10 : (0 : Int) ≤ (a : Int) := by omega
        have i11 : (a : Int) < (S : Int) := by omega
        have OO := Lib.hid (lput_out KC.out.lok hci has)
        obtain ⟨R, hR⟩ : ∃ R, lput S P (a : Int) cl s = R := ⟨_, rfl⟩
        rw [hR] at OO
        have HP := Lib.hid hR
        rcases R with ⟨x, s'⟩
        dsimp only at OO
        have HLE : Hid (leftT (s'.tb P) ≤ l1) := Lib.hid (Nat.le_trans OO.out.1.left (Nat.le_of_eq E1.out))
        clear hR ha
        rcases OO.out.1.own with ⟨hx, hd, hh⟩ | ⟨hx, hd, hlf, hh⟩ | ⟨_, hcm, _⟩
        · have LS := Lib.hid (OO.out.1.lok KC.out.lok hd)
          clear hd
          rw [hx] at HP
          have X1 := Lib.hid hh
          clear hx hh
          go_wp2_with fail
          refine (lput_is HP.out KC.out.lok hci KK.out.1 K9.out KC.out.lq KC.out.nm).mono ?_; rintro e w3 ⟨rfl, hN, hC⟩
          have PV3 := Lib.hid (PVC.out.chg hC (by have := KK.out.2.2.2 _ PB.out; simpa using this))
          have WT3 := KC.out.wt.chg hC (by simpa using KK.out.2.2.1)
          have hst := WT3.store has hci
          have WT4 := (WT3.set_ a hci).as (f' := hold s' S P) (fun i hi => by
            unfold upd; split
            · rename_i e; subst e; exact X1.out
            · rename_i e; exact OO.out.1.oth i hi e)
          obtain ⟨W4, hW4⟩ : ∃ W4, w3.setCells gw (a * 8) (cl.map uv) = W4 := ⟨_, rfl⟩
          rw [hW4] at hst WT4
          have hC4 := Chg.setCells (D := [gw]) (w := w3) (b := gw) (.inl (by simp)) (cl.map uv) (a * 8) w3 (Chg.refl _ _)
          rw [hW4] at hC4
          have KS : Hid (Kp w q g gw S P W4 (k + 1) s') := Lib.hid ⟨hN.chg hC4 (by simpa using fun e => KK.out.2.2.1 e.symm), (KC.out.lq.chg hC (by simpa using KK.out.1)).chg hC4 (by simpa using HQW.out), LS.out, OO.out.1.comes.trans KC.out.comes, WT4, hC4.own (hC.own KC.out.bel KK.out.2.1) HGW.out, by have := KC.out.c; have := OO.out.2; push_cast; omega⟩
          have c4 := PV3.out.slot
          dsimp only at c4
          have l4 := PV3.out.line
          dsimp only at l4
          clear hN hC c3 l3 WT3 WT4 hC4
          have KL := Lib.hid (show leftT (s'.tb P) ≤ l1 from HLE.out)
          obtain ⟨l2, hl2⟩ : ∃ l2, leftT (s'.tb P) = l2 := ⟨_, rfl⟩
          have E2 := Lib.hid hl2
          have i5 : ¬ l1 < l2 := by have := KL.out; omega
          have i5b : ¬ (l2 : Int) < 0 := by omega
          clear hl2
          go_wp2_with fail
          refine (lleft_is E2.out KS.out.lok KS.out.lq KS.out.nm).mono ?_; rintro e wa ⟨rfl, hb⟩
          have KS1 := Lib.hid (KS.out.below hb)
          clear hb
          go_wp2_with fail
          refine (lleft_is E2.out KS1.out.lok KS1.out.lq KS1.out.nm).mono ?_; rintro e wb ⟨rfl, hb⟩
          have KS2 := Lib.hid (KS1.out.below hb)
          clear hb
          go_wp2
          go_loopw [119] (fun i wi => ∃ j : Nat, j ≤ S ∧ i = .int .i64 j ∧ Hid (Kp w q g gw S P wi (k + 1) s')) (fun i _ => S - (intOf i).toNat)
          case atStart => exact ⟨0, Nat.zero_le _, rfl, KS2⟩
          case round =>
            obtain ⟨j, hj, rfl, KI⟩ := hrel
            clear KS2
            by_cases hjl : j < S
            · have lw := KI.out.wt.load hjl
              have h8 := KI.out.hold8 j
              obtain ⟨y, hy⟩ : ∃ y, hold s' S P j = y := ⟨_, rfl⟩
              rw [hy] at lw h8
              have EY := Lib.hid hy
              clear hy
              obtain ⟨W1, hW1, H1⟩ := boxed1 wr h8
              have KJ := Lib.hid (KI.out.below H1.out.2)
              have i6 : (0 : Int) ≤ (j : Int) := by omega
              have i7 : (j : Int) < (S : Int) := by omega
              have hj40 : j < 40 := by have := HB.out.2.1; omega
              go_wp2_with fail
              refine (lget_is EY.out KJ.out.lok hjl KJ.out.lq KJ.out.nm).mono ?_; rintro e w2 ⟨rfl, hb⟩
              obtain ⟨W2, hW2, H2⟩ := boxed1 w2 h8
              have KM := Lib.hid ((KJ.out.below hb).below H2.out.2)
              have l17 := ((H1.out.1.below hb).below H2.out.2).load
              have l18 := H2.out.1.load
              clear hb lw
              go_wp2
              exact ⟨⟨j + 1, by omega, by go_num, KM⟩, by simp [intOf]; omega⟩
            · obtain rfl : j = S := by omega
              go_wp2
              exact ⟨⟨k + 1, by omega, by go_num, Lib.hid ⟨_, KI.out⟩⟩, by simp [intOf]; omega⟩
        · have LS := Lib.hid (OO.out.1.lok KC.out.lok hd)
          clear hd
          rw [hx] at HP
          have X1 := Lib.hid hh
          have X2 := Lib.hid hlf
          clear hx hh hlf
          go_wp2_with fail
          refine (lput_is HP.out KC.out.lok hci KK.out.1 K9.out KC.out.lq KC.out.nm).mono ?_; rintro e w3 ⟨rfl, hN, hC⟩
          have PV3 := Lib.hid (PVC.out.chg hC (by have := KK.out.2.2.2 _ PB.out; simpa using this))
          have KX : Hid (Kp w q g gw S P w3 (k + 1) s') := Lib.hid ⟨hN, KC.out.lq.chg hC (by simpa using KK.out.1), LS.out, OO.out.1.comes.trans KC.out.comes, (KC.out.wt.chg hC (by simpa using KK.out.2.2.1)).as (fun i hi => by
            by_cases e : i = a
            · subst e; exact X1.out
            · exact OO.out.1.oth i hi e), hC.own KC.out.bel KK.out.2.1, by have := KC.out.c; have := OO.out.2; push_cast; omega⟩
          have c4 := PV3.out.slot
          dsimp only at c4
          clear hN hC c3 l3
          go_wp2_with fail
          refine (lleft_is X2.out KX.out.lok KX.out.lq KX.out.nm).mono ?_; rintro e wx ⟨rfl, hb⟩
          have KS := Lib.hid (KX.out.below hb)
          clear hb
          have KL := Lib.hid (show leftT (s'.tb P) ≤ l1 from HLE.out)
          obtain ⟨l2, hl2⟩ : ∃ l2, leftT (s'.tb P) = l2 := ⟨_, rfl⟩
          have E2 := Lib.hid hl2
          have i5 : ¬ l1 < l2 := by have := KL.out; omega
          have i5b : ¬ (l2 : Int) < 0 := by omega
          clear hl2
          go_wp2_with fail
          refine (lleft_is E2.out KS.out.lok KS.out.lq KS.out.nm).mono ?_; rintro e wa ⟨rfl, hb⟩
          have KS1 := Lib.hid (KS.out.below hb)
          clear hb
          go_wp2_with fail
          refine (lleft_is E2.out KS1.out.lok KS1.out.lq KS1.out.nm).mono ?_; rintro e wb ⟨rfl, hb⟩
          have KS2 := Lib.hid (KS1.out.below hb)
          clear hb
          go_wp2
          go_loopw [119] (fun i wi => ∃ j : Nat, j ≤ S ∧ i = .int .i64 j ∧ Hid (Kp w q g gw S P wi (k + 1) s')) (fun i _ => S - (intOf i).toNat)
          case atStart => exact ⟨0, Nat.zero_le _, rfl, KS2⟩
          case round =>
            obtain ⟨j, hj, rfl, KI⟩ := hrel
            clear KS2
            by_cases hjl : j < S
            · have lw := KI.out.wt.load hjl
              have h8 := KI.out.hold8 j
              obtain ⟨y, hy⟩ : ∃ y, hold s' S P j = y := ⟨_, rfl⟩
              rw [hy] at lw h8
              have EY := Lib.hid hy
              clear hy
              obtain ⟨W1, hW1, H1⟩ := boxed1 wr h8
              have KJ := Lib.hid (KI.out.below H1.out.2)
              have i6 : (0 : Int) ≤ (j : Int) := by omega
              have i7 : (j : Int) < (S : Int) := by omega
              have hj40 : j < 40 := by have := HB.out.2.1; omega
              go_wp2_with fail
              refine (lget_is EY.out KJ.out.lok hjl KJ.out.lq KJ.out.nm).mono ?_; rintro e w2 ⟨rfl, hb⟩
              obtain ⟨W2, hW2, H2⟩ := boxed1 w2 h8
              have KM := Lib.hid ((KJ.out.below hb).below H2.out.2)
              have l17 := ((H1.out.1.below hb).below H2.out.2).load
              have l18 := H2.out.1.load
              clear hb lw
              go_wp2
              exact ⟨⟨j + 1, by omega, by go_num, KM⟩, by simp [intOf]; omega⟩
            · obtain rfl : j = S := by omega
              go_wp2
              exact ⟨⟨k + 1, by omega, by go_num, Lib.hid ⟨_, KI.out⟩⟩, by simp [intOf]; omega⟩
        · rw [KC.out.comes] at hcm; cases hcm
      · by_cases hn0 : ci < 0
        · clear ha
          have hpe : lput S P ci cl s = (1, s) := by rw [lput, if_neg (by omega)]
          have HP := Lib.hid hpe
          clear hpe
          go_wp2_with fail
          refine (lput_is HP.out KC.out.lok hci KK.out.1 K9.out KC.out.lq KC.out.nm).mono ?_; rintro e w3 ⟨rfl, hN, hC⟩
          have PV3 := Lib.hid (PVC.out.chg hC (by have := KK.out.2.2.2 _ PB.out; simpa using this))
          have KS := Lib.hid (Kp.more ⟨hN, KC.out.lq.chg hC (by simpa using KK.out.1), KC.out.lok, KC.out.comes, KC.out.wt.chg hC (by simpa using KK.out.2.2.1), hC.own KC.out.bel KK.out.2.1, KC.out.c⟩)
          have HLE : Hid (leftT (s.tb P) ≤ l1) := Lib.hid (Nat.le_of_eq E1.out)
          have c4 := PV3.out.slot
          dsimp only at c4
          clear hN hC c3 l3
          have KL := Lib.hid (show leftT (s.tb P) ≤ l1 from HLE.out)
          obtain ⟨l2, hl2⟩ : ∃ l2, leftT (s.tb P) = l2 := ⟨_, rfl⟩
          have E2 := Lib.hid hl2
          have i5 : ¬ l1 < l2 := by have := KL.out; omega
          have i5b : ¬ (l2 : Int) < 0 := by omega
          clear hl2
          go_wp2_with fail
          refine (lleft_is E2.out KS.out.lok KS.out.lq KS.out.nm).mono ?_; rintro e wa ⟨rfl, hb⟩
          have KS1 := Lib.hid (KS.out.below hb)
          clear hb
          go_wp2_with fail
          refine (lleft_is E2.out KS1.out.lok KS1.out.lq KS1.out.nm).mono ?_; rintro e wb ⟨rfl, hb⟩
          have KS2 := Lib.hid (KS1.out.below hb)
          clear hb
          go_wp2
          go_loopw [119] (fun i wi => ∃ j : Nat, j ≤ S ∧ i = .int .i64 j ∧ Hid (Kp w q g gw S P wi (k + 1) s)) (fun i _ => S - (intOf i).toNat)
          case atStart => exact ⟨0, Nat.zero_le _, rfl, KS2⟩
          case round =>
            obtain ⟨j, hj, rfl, KI⟩ := hrel
            clear KS2
            by_cases hjl : j < S
            · have lw := KI.out.wt.load hjl
              have h8 := KI.out.hold8 j
              obtain ⟨y, hy⟩ : ∃ y, hold s S P j = y := ⟨_, rfl⟩
              rw [hy] at lw h8
              have EY := Lib.hid hy
              clear hy
              obtain ⟨W1, hW1, H1⟩ := boxed1 wr h8
              have KJ := Lib.hid (KI.out.below H1.out.2)
              have i6 : (0 : Int) ≤ (j : Int) := by omega
              have i7 : (j : Int) < (S : Int) := by omega
              have hj40 : j < 40 := by have := HB.out.2.1; omega
              go_wp2_with fail
              refine (lget_is EY.out KJ.out.lok hjl KJ.out.lq KJ.out.nm).mono ?_; rintro e w2 ⟨rfl, hb⟩
              obtain ⟨W2, hW2, H2⟩ := boxed1 w2 h8
              have KM := Lib.hid ((KJ.out.below hb).below H2.out.2)
              have l17 := ((H1.out.1.below hb).below H2.out.2).load
              have l18 := H2.out.1.load
              clear hb lw
              go_wp2
              exact ⟨⟨j + 1, by omega, by go_num, KM⟩, by simp [intOf]; omega⟩
            · obtain rfl : j = S := by omega
              go_wp2
              exact ⟨⟨k + 1, by omega, by go_num, Lib.hid ⟨_, KI.out⟩⟩, by simp [intOf]; omega⟩
        · have hge : ci ≥ (S : Int) := by omega
          clear ha
          have hpe : lput S P ci cl s = (1, s) := by rw [lput, if_neg (by omega)]
          have HP := Lib.hid hpe
          clear hpe
          go_wp2_with fail
          refine (lput_is HP.out KC.out.lok hci KK.out.1 K9.out KC.out.lq KC.out.nm).mono ?_; rintro e w3 ⟨rfl, hN, hC⟩
          have PV3 := Lib.hid (PVC.out.chg hC (by have := KK.out.2.2.2 _ PB.out; simpa using this))
          have KS := Lib.hid (Kp.more ⟨hN, KC.out.lq.chg hC (by simpa using KK.out.1), KC.out.lok, KC.out.comes, KC.out.wt.chg hC (by simpa using KK.out.2.2.1), hC.own KC.out.bel KK.out.2.1, KC.out.c⟩)
          have HLE : Hid (leftT (s.tb P) ≤ l1) := Lib.hid (Nat.le_of_eq E1.out)
          have c4 := PV3.out.slot
          dsimp only at c4
          clear hN hC c3 l3
          have KL := Lib.hid (show leftT (s.tb P) ≤ l1 from HLE.out)
          obtain ⟨l2, hl2⟩ : ∃ l2, leftT (s.tb P) = l2 := ⟨_, rfl⟩
          have E2 := Lib.hid hl2
          have i5 : ¬ l1 < l2 := by have := KL.out; omega
          have i5b : ¬ (l2 : Int) < 0 := by omega
          clear hl2
          go_wp2_with fail
          refine (lleft_is E2.out KS.out.lok KS.out.lq KS.out.nm).mono ?_; rintro e wa ⟨rfl, hb⟩
          have KS1 := Lib.hid (KS.out.below hb)
          clear hb
          go_wp2_with fail
          refine (lleft_is E2.out KS1.out.lok KS1.out.lq KS1.out.nm).mono ?_; rintro e wb ⟨rfl, hb⟩
          have KS2 := Lib.hid (KS1.out.below hb)
          clear hb
          go_wp2
          go_loopw [119] (fun i wi => ∃ j : Nat, j ≤ S ∧ i = .int .i64 j ∧ Hid (Kp w q g gw S P wi (k + 1) s)) (fun i _ => S - (intOf i).toNat)
          case atStart => exact ⟨0, Nat.zero_le _, rfl, KS2⟩
          case round =>
            obtain ⟨j, hj, rfl, KI⟩ := hrel
            clear KS2
            by_cases hjl : j < S
            · have lw := KI.out.wt.load hjl
              have h8 := KI.out.hold8 j
              obtain ⟨y, hy⟩ : ∃ y, hold s S P j = y := ⟨_, rfl⟩
              rw [hy] at lw h8
              have EY := Lib.hid hy
              clear hy
              obtain ⟨W1, hW1, H1⟩ := boxed1 wr h8
              have KJ := Lib.hid (KI.out.below H1.out.2)
              have i6 : (0 : Int) ≤ (j : Int) := by omega
              have i7 : (j : Int) < (S : Int) := by omega
              have hj40 : j < 40 := by have := HB.out.2.1; omega
              go_wp2_with fail
              refine (lget_is EY.out KJ.out.lok hjl KJ.out.lq KJ.out.nm).mono ?_; rintro e w2 ⟨rfl, hb⟩
              obtain ⟨W2, hW2, H2⟩ := boxed1 w2 h8
              have KM := Lib.hid ((KJ.out.below hb).below H2.out.2)
              have l17 := ((H1.out.1.below hb).below H2.out.2).load
              have l18 := H2.out.1.load
              clear hb lw
              go_wp2
              exact ⟨⟨j + 1, by omega, by go_num, KM⟩, by simp [intOf]; omega⟩
            · obtain rfl : j = S := by omega
              go_wp2
              exact ⟨⟨k + 1, by omega, by go_num, Lib.hid ⟨_, KI.out⟩⟩, by simp [intOf]; omega⟩
    · obtain rfl : k = n := by omega
      go_wp2_with fail
      refine (lget_out q g S P (S : Int) wr HK0.out.lq (by omega)).mono ?_; rintro e w2 ⟨rfl, hb⟩
      obtain ⟨W1, hW1, H1⟩ := boxed1 w2 (a := [0, 0, 0, 0, 0, 0, 0, 0]) rfl
      have B5 := Lib.hid ((HK0.out.below hb).below H1.out.2).bel
      have hst : (lineStore (.pointer (some ⟨w2.heap.size, 0, none⟩)) (.agg (lc zeros))).run Try.prog W1 = .ok () W1 := by rw [← hW1]; exact store_new w2 zeros zeros rfl rfl
      clear hb
      go_wp2_with fail
      refine (awake_any _).mono ?_; rintro e w4 ⟨rfl, hb⟩
      have B6 := Lib.hid (below_base B5.out B5.out.size hb)
      go_wp2
      go_ret
      exact ⟨rfl, B6.out⟩

theorem walk (a0 a1 : Int) (lim : List Int) (lv : Value) (l : List Pt) (v : Value) (w : World) (_ : (Lit.int .i64 a0).wf = true) (_ : (Lit.int .i64 a1).wf = true) (hl : IntsIn .i64 w lv lim) (h : RP w v l) :
    Calls Try.prog 3 #[.int .i64 a0, .int .i64 a1, lv, v] w fun e w' => e = .returned (.bool true) ∧ Below w.heap.size w w' := by
  by_cases hb : 200 < l.length ∨ 200 < lim.length
  · exact small a0 a1 lim l lv v w hl h hb
  · exact main a0 a1 lim l lv v w hl h (by omega) (by omega)

set_option maxRecDepth 100000 in
theorem lifted (os : Os) (started : os.Started) (H : Type) (enc : TypeId × Value → H) :
    ReturnsInHanded {} Try.checked os 3 .any (Rows.linesKeepSpec.pre6 enc Try.prog Try.f3 Rows.linesKeepRow.domain false) (Rows.linesKeepSpec.post enc Try.prog Try.f3 false true false false) := by
  refine returnsInHanded_of_change (C := Try.checked) own started (by kernel_rfl) Try.func3
    (ChangeSpec.witness6 (enc := enc) (C := Try.checked) false ⟨#[], #[.int .i64 0, .int .i64 0, .slice none 0 0, .slice none 0 0], []⟩ 8 (by kernel_rfl) (by kernel_rfl) (by kernel_rfl) (by kernel_rfl)) ?_
  intro W base args ds gs before hval0 hW hcnd _
  have hval : ∀ (j : Nat) t v, Try.f3.params[j]? = some t → args[j]? = some v → Value.okWide Try.prog W .any base t v := hval0
  have hW' := hW
  have hlt := hW.lt
  obtain ⟨p, q, hA0, hV, hpq, hfz, hnd⟩ := hW
  have hA : DataW.TrodAll enc Try.prog W 0 (fun _ => true) true Try.f3.params.toList args.toList ds p := hA0
  rw [Try.params3] at hA hval
  obtain ⟨v0, vs0, d0, ds0, p0, q0, hargs, rfl, hp, h0, r0⟩ := trodAll_cons hA
  obtain ⟨v1, vs1, d1, ds1, p1, q1, rfl, rfl, rfl, h1, r1⟩ := trodAll_cons r0
  obtain ⟨v2, vs2, d2, ds2, p2, q2, rfl, rfl, rfl, h2, r2⟩ := trodAll_cons r1
  obtain ⟨v3, vs3, d3, ds3, p3, q3, rfl, rfl, rfl, h3, r3⟩ := trodAll_cons r2
  obtain ⟨rfl, rfl, rfl⟩ := trodAll_nil r3
  obtain rfl : args = #[v0, v1, v2, v3] := by cases args; simp_all
  obtain ⟨rfl, rfl⟩ := trodVars_none hV
  have hlt' : ∀ x ∈ before, x.block < W.heap.size := fun x hx => hlt x hx
  obtain ⟨a0, rfl, rfl, rfl, w0⟩ := open_int Try.underlying3 (hval 0 3 v0 rfl rfl) h0
  obtain ⟨a1, rfl, rfl, rfl, w1⟩ := open_int Try.underlying3 (hval 1 3 v1 rfl rfl) h1
  obtain ⟨l2, w2⟩ := ints_in Try.underlying22 Try.underlying3 (by kernel_rfl) (hval 2 22 v2 rfl rfl) (fun x hx => hlt' x (by rw [hpq, hp]; simp [hx])) h2
  obtain ⟨l3, w3⟩ := puts_in (hval 3 23 v3 rfl rfl) h3
  refine (walk a0 a1 l2 v2 l3 v3 W w0 w1 w2 w3).mono fun e W' ⟨he, hb⟩ => ?_
  subst he
  exact ⟨_, rfl, law_post rfl (by kernel_rfl) hW' (by rw [Try.params3]; intro t ht; simp only [List.mem_cons, List.not_mem_nil, or_false] at ht; (repeat' (first | (rcases ht with rfl | ht) | subst ht)) <;> exact ⟨by kernel_rfl, of_decide_eq_true (by kernel_rfl)⟩) rfl hb⟩

theorem over : Rows.linesKeepRow.holds Try.pinned (OpenSpec.ofChange Rows.linesKeepSpec) :=
  OpenClaim.holds_of_wide 3 Try.f3 rfl rfl rfl rfl rfl rfl rfl ⟨rfl, rfl, rfl, rfl, rfl⟩ rfl rfl rfl rfl rfl (by kernel_rfl) Try.func3 (by kernel_rfl)
    (of_decide_eq_true (by kernel_rfl)) (by unfold Func.isWrapper; first | (rw [if_pos (by decide +kernel)]; kernel_rfl) | (rw [if_neg (by decide +kernel)]; exact ⟨rfl, rfl⟩))
    (fun os started H enc _ => lifted os started H enc)

theorem proved : Rows.LinesKeepSaid := over
end Go.Proofs.Ytlpmpnhkghbdmaa.linesKeep
