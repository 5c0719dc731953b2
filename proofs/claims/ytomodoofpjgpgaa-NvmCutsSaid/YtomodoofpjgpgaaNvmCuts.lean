/-
  The power goes at just the write that a Cut names: those ahead of it are done, it is done in part, those behind are not; a later Cut replaces it; none is over with Power. No conditions.
-/
import Derived.Test.YtomodoofpjgpgaaNvp
namespace Go.Proofs.Ytomodoofpjgpgaa.nvmCuts
open Go.Proofs.Ytomodoofpjgpgaa Go.ChangeShapes Go.WideShapes Go.ChangeAt Go.RowKit

def seven : List Int := [7, 0, 0, 0, 0, 0, 0, 0]
def hh (n : Nat) (m : Int) (i j : Nat) : List Int := if j < i then (if j < n then seven else if j = n then mix zeros seven m else zeros) else zeros
/-- the memory after i rounds -/
structure At (n : Nat) (m : Int) (i : Nat) (s : Nv) : Prop where
  ok : s.Ok
  ln : s.n = 50
  la : ∀ j, j < 50 → s.la j = -1
  c : s.c = ((min i (n + 1) : Nat) : Int)
  h : ∀ j, s.h j = hh n m i j
  dark : s.dark = decide (n < i)
  live : i ≤ n → s.comes = true ∧ s.ahead = ((n - i : Nat) : Int) ∧ s.mask = m
theorem start (n : Nat) (m : Int) (hn : n < 20) : At n m 0 (((newNv 50 []).cutAt 99 0).cutAt n m) := by
  refine ⟨((newNv_ok (by decide) (by decide) _).cutAt (by decide) _).cutAt (by omega) _, rfl, fun j hj => ?_, by simp [Nv.cutAt, newNv], fun j => ?_, by simp [Nv.cutAt, newNv], fun _ => ⟨by simp [Nv.cutAt], rfl, rfl⟩⟩
  · simp [Nv.cutAt, newNv, hj]
  · simp [Nv.cutAt, newNv, hh]
theorem At.step {n i : Nat} {m : Int} {s : Nv} (h : At n m i s) (hi : i < 50) : ∃ s' x, s.put i seven = s' ∧ s.putE i = x ∧ At n m (i + 1) s' ∧ (i < n ∧ x = 0 ∧ s'.dark = false ∨ n ≤ i ∧ x = 2 ∧ s'.dark = true) := by
  have hk : i < s.n := by rw [h.ln]; exact hi
  have hO := h.ok.put (l := seven) rfl i
  have hw : s.worn i = false := by simp [Nv.worn, h.la i hi]
  have hH : ∀ (l : List Int) (j : Nat), (j ≠ i → hh n m (i + 1) j = hh n m i j) := fun l j hj => by
    unfold hh
    by_cases h1 : j < i
    · rw [if_pos h1, if_pos (by omega)]
    · rw [if_neg h1, if_neg (by omega)]
  rcases Nat.lt_trichotomy i n with hlt | heq | hgt
  · obtain ⟨l1, l2, l3⟩ := h.live (by omega)
    have hd : s.dark = false := by rw [h.dark]; simp; omega
    have hg : s.goes = false := by simp [Nv.goes, l2]; omega
    have hb : s.by_ = 255 := by simp [Nv.by_, hg]
    have ht : s.told = 0 := by simp [Nv.told, hg]
    obtain ⟨p1, p2⟩ := Nv.put_live hd hk hw seven
    refine ⟨_, _, rfl, rfl, ?_, .inl ⟨hlt, by rw [p2, ht], ?_⟩⟩
    · refine ⟨hO, (s.put_n _ _).trans h.ln, fun j hj => by rw [s.put_la]; exact h.la j hj, ?_, fun j => ?_, ?_, fun _ => ⟨?_, ?_, ?_⟩⟩
      · rw [p1]; show s.c + 1 = _; rw [h.c]; omega
      · rw [p1, hb]
        show upd s.h i (mix (s.h i) seven 255) j = _
        rw [mix_whole _ _ (h.ok.line i) rfl]
        by_cases e : j = i
        · subst e; rw [upd_same]; simp [hh, hlt]
        · rw [upd_other _ _ e, hH seven j e]; exact h.h j
      · rw [p1]; show (s.dark || s.goes) = _; rw [hd, hg]; simp; omega
      · rw [s.put_comes]; exact l1
      · rw [p1]; show (if s.comes && decide (0 < s.ahead) then s.ahead - 1 else s.ahead) = _
        rw [l1, l2, if_pos (by simp; omega)]; omega
      · rw [p1]; exact l3
    · rw [p1]; show (s.dark || s.goes) = _; rw [hd, hg]; rfl
  · subst heq
    obtain ⟨l1, l2, l3⟩ := h.live (by omega)
    have hd : s.dark = false := by rw [h.dark]; simp
    have hg : s.goes = true := by simp [Nv.goes, l1, l2]
    have hb : s.by_ = m := by simp [Nv.by_, hg, l3]
    have ht : s.told = 2 := by simp [Nv.told, hg]
    obtain ⟨p1, p2⟩ := Nv.put_live hd hk hw seven
    refine ⟨_, _, rfl, rfl, ?_, .inr ⟨Nat.le_refl _, by rw [p2, ht], ?_⟩⟩
    · refine ⟨hO, (s.put_n _ _).trans h.ln, fun j hj => by rw [s.put_la]; exact h.la j hj, ?_, fun j => ?_, ?_, fun _ => ?_⟩
      · rw [p1]; show s.c + 1 = _; rw [h.c]; omega
      · rw [p1, hb]
        show upd s.h i (mix (s.h i) seven m) j = _
        by_cases e : j = i
        · subst e; rw [upd_same, h.h]; simp [hh]
        · rw [upd_other _ _ e, hH seven j e]; exact h.h j
      · rw [p1]; show (s.dark || s.goes) = _; rw [hd, hg]; simp
      · omega
    · rw [p1]; show (s.dark || s.goes) = _; rw [hd, hg]; rfl
  · have hd : s.dark = true := by rw [h.dark]; simp; omega
    have p1 := Nv.put_dark hd i seven
    refine ⟨_, _, rfl, rfl, ?_, .inr ⟨by omega, Nv.putE_dark hd hk, by rw [p1]; exact hd⟩⟩
    rw [p1]
    refine ⟨h.ok, h.ln, h.la, ?_, fun j => ?_, ?_, fun _ => ?_⟩
    · rw [h.c]; omega
    · by_cases e : j = i
      · subst e; rw [h.h]; unfold hh; rw [if_neg (by omega), if_pos (by omega), if_neg (by omega), if_neg (by omega)]
      · rw [hH seven j e]; exact h.h j
    · rw [hd]; simp; omega
    · omega

/-- the memory when the power has come again -/
structure Pw (n : Nat) (m : Int) (k : Nat) (s : Nv) : Prop where
  ok : s.Ok
  ln : s.n = 50
  la : ∀ j, j < 50 → s.la j = -1
  c : s.c = ((min k (n + 1) : Nat) : Int)
  h : ∀ j, s.h j = hh n m k j
  calm : s.calm
theorem At.power {n k : Nat} {m : Int} {s : Nv} (h : At n m k s) : Pw n m k s.power := ⟨h.ok.power, h.ln, h.la, h.c, h.h, rfl, rfl⟩
theorem Pw.get {n k : Nat} {m : Int} {s : Nv} (h : Pw n m k s) {i : Nat} (hi : i < k) (hk : k < 50) : ∃ l : List Int, s.get i = l ∧ s.rdy (s.has i) = 0 ∧ l.length = 8 ∧ l.getD 0 0 = if i < n ∨ i = n ∧ m % 2 = 1 then 7 else 0 := by
  have hr : s.rdy (s.has i) = 0 := h.calm.rdy (Nv.has_of (by rw [h.ln]; omega))
  refine ⟨_, rfl, hr, ?_, ?_⟩
  · simp only [Nv.get, hr, if_true, Int.toNat_natCast]; exact h.ok.line i
  · simp only [Nv.get, hr, if_true, Int.toNat_natCast, h.h, hh, if_pos hi]
    by_cases h1 : i < n
    · rw [if_pos h1, if_pos (.inl h1)]; rfl
    · rw [if_neg h1]
      by_cases h2 : i = n
      · rw [if_pos h2]
        by_cases h3 : m % 2 = 1
        · rw [if_pos (.inr ⟨h2, h3⟩)]; simp [zeros, seven, mix, h3]
        · rw [if_neg (by simp [h1, h3])]; simp [zeros, seven, mix, h3]
      · rw [if_neg h2, if_neg (by simp [h1, h2])]; rfl
theorem Pw.last {n k : Nat} {m : Int} {s : Nv} (h : Pw n m k s) : s.putE 49 = 0 := by
  have hk : 49 < s.n := by rw [h.ln]; decide
  have := h.calm.putE hk
  have hw : s.worn 49 = false := by simp [Nv.worn, h.la 49 (by decide)]
  rw [hw] at this
  exact this

set_option maxRecDepth 100000 in
set_option maxHeartbeats 2000000 in
theorem walk (a0 a1 m : Int) (w : World) (_ : (Lit.int .i64 a0).wf = true) (_ : (Lit.int .i64 a1).wf = true) (_ : (Lit.int .i64 m).wf = true) :
    Calls Try.prog 7 #[.int .i64 a0, .int .i64 a1, .int .i64 m] w fun e w' => e = .returned (.bool true) ∧ Below w.heap.size w w' := by
  obtain ⟨u, hu, _⟩ := u64_nat a0
  obtain ⟨n, hn⟩ : ∃ n, n = u % 20 := ⟨_, rfl⟩
  have t1 : (u : Int).tmod 20 = (n : Int) := by have h := tmod_nat u 20; rw [show ((20 : Nat) : Int) = 20 from rfl] at h; rw [hn]; omega
  have hn20 : n < 20 := by omega
  obtain ⟨u', hu', _⟩ := u64_nat a1
  obtain ⟨k, hk⟩ : ∃ n, n = u' % 40 := ⟨_, rfl⟩
  have t2 : (u' : Int).tmod 40 = (k : Int) := by have h := tmod_nat u' 40; rw [show ((40 : Nat) : Int) = 40 from rfl] at h; rw [hk]; omega
  have hk40 : k < 40 := by omega
  have k1 : IntKind.i64.wrap (n : Int) = n := IntWalk.i64_in _ (by omega)
  have k2 : IntKind.i64.wrap (k : Int) = k := IntWalk.i64_in _ (by omega)
  have A0 := Lib.hid (start n m hn20)
  obtain ⟨s0, e0⟩ : ∃ s0, newNv 50 [] = s0 := ⟨_, rfl⟩
  have O0 : Hid s0.Ok := Lib.hid (by rw [← e0]; exact newNv_ok (by decide) (by decide) _)
  rw [e0] at A0
  have E0 := Lib.hid e0
  clear hn hk e0
  go_enter Try.func7, Try.ntmps7
  go_wp2_with fail
  refine (new_yes 50 _ [] _ (by decide) (by decide) (ri_nil w)).mono ?_; rintro e w1 ⟨g, rfl, hg, hN, hb⟩
  rw [E0.out] at hN
  have hg' : Hid (w.heap.size ≤ g) := Lib.hid hg
  have N0 := Lib.hid hN
  have B1 := Lib.hid hb
  clear hN hg hb
  go_wp2_with fail
  refine (cut_is rfl N0.out O0.out (by decide)).mono ?_; rintro e w2 ⟨rfl, hN, hO, hC⟩
  have N1 := Lib.hid hN
  have O1 := Lib.hid hO
  have B2 := Lib.hid (hC.own B1.out hg'.out)
  clear hN hO hC
  go_wp2_with fail
  refine (cut_is rfl N1.out O1.out (by omega)).mono ?_; rintro e w3 ⟨rfl, hN, hO, hC⟩
  have N2 := Lib.hid hN
  have B3 := Lib.hid (hC.own B2.out hg'.out)
  clear hN hO hC N0 N1
  go_wp2
  go_loopw [30] (fun i wr => ∃ j : Nat, j ≤ k ∧ i = .int .i64 j ∧ Hid (∃ s, Nm wr g s ∧ At n m j s ∧ Below w.heap.size w wr)) (fun i _ => k - (intOf i).toNat)
  case atStart => exact ⟨0, by omega, rfl, Lib.hid ⟨_, N2.out, A0.out, B3.out⟩⟩
  case round =>
    obtain ⟨j, hj, rfl, H⟩ := hrel
    obtain ⟨s, hN, hA, hB⟩ := H.out
    have HN := Lib.hid hN
    have HA := Lib.hid hA
    have HB := Lib.hid hB
    clear hN hA hB H A0 N2
    by_cases hlt : j < k
    · obtain ⟨s1, x, f1, f2, f3, f4⟩ := HA.out.step (by omega)
      have F1 := Lib.hid f1; have F2 := Lib.hid f2; have F3 := Lib.hid f3
      have C0 : Hid (s.c < 4611686018427387904) := Lib.hid (by have := HA.out.c; omega)
      clear f1 f2 f3
      go_wp2_with fail
      refine (put_is F2.out F1.out rfl HN.out HA.out.ok C0.out).mono ?_; rintro e w4 ⟨rfl, hN, hO, hC⟩
      have N3 := Lib.hid hN
      have B4 := Lib.hid (hC.own HB.out hg'.out)
      clear hN hO hC
      rcases f4 with ⟨hx, rfl, hd⟩ | ⟨hx, rfl, hd⟩
      · have i1 : (j : Int) < (n : Int) := by omega
        have D := Lib.hid hd
        clear hd
        go_wp2_with fail
        refine (down_is D.out N3.out).mono ?_; rintro e w5 ⟨rfl, rfl⟩
        go_wp2
        exact ⟨⟨j + 1, by omega, by go_num, Lib.hid ⟨_, N3.out, F3.out, B4.out⟩⟩, by simp [intOf]; omega⟩
      · have i1 : (n : Int) ≤ (j : Int) := by omega
        have D := Lib.hid hd
        clear hd
        go_wp2_with fail
        refine (down_is D.out N3.out).mono ?_; rintro e w5 ⟨rfl, rfl⟩
        go_wp2
        exact ⟨⟨j + 1, by omega, by go_num, Lib.hid ⟨_, N3.out, F3.out, B4.out⟩⟩, by simp [intOf]; omega⟩
    · obtain rfl : j = k := by omega
      have P0 := Lib.hid HA.out.power
      go_wp2_with fail
      refine (power_is rfl HN.out HA.out.ok).mono ?_; rintro e w4 ⟨rfl, hN, hO, hC⟩
      have N3 := Lib.hid hN
      have B4 := Lib.hid (hC.own HB.out hg'.out)
      clear hN hO hC
      obtain ⟨sp, ep⟩ : ∃ sp, s.power = sp := ⟨_, rfl⟩
      rw [ep] at N3 P0
      clear ep HN HA HB hj hlt
      go_wp2
      go_loopw [65] (fun i wr => ∃ q : Nat, q ≤ j ∧ i = .int .i64 q ∧ Hid (Nm wr g sp ∧ Below w.heap.size w wr)) (fun i _ => j - (intOf i).toNat)
      case atStart => exact ⟨0, by omega, rfl, Lib.hid ⟨N3.out, B4.out⟩⟩
      case round =>
        obtain ⟨q, hq, rfl, H⟩ := hrel
        have HN := Lib.hid H.out.1
        have HB := Lib.hid H.out.2
        clear H N3 B4
        by_cases hlt : q < j
        · obtain ⟨l, g1, g2, g3, g4⟩ := P0.out.get hlt (by omega)
          have G1 := Lib.hid g1; have G2 := Lib.hid g2; have G4 := Lib.hid g4
          clear g1 g2 g4
          go_wp2_with fail
          refine (get_is G1.out G2.out HN.out P0.out.ok).mono ?_; rintro e w5 ⟨rfl, hb⟩
          obtain ⟨W, hW, H⟩ := boxed1 w5 (a := l) g3
          have N4 := Lib.hid ((HN.out.below hb).below H.out.2)
          have B5 := Lib.hid (below_more (below_more HB.out hb) H.out.2)
          obtain ⟨cm, _⟩ := H.out.1.cell (i := 0) (by decide)
          have hg4 := G4.out
          generalize l.getD 0 0 = y at cm hg4
          clear hb
          have DD : (q < n) ∨ (q = n ∧ m % 2 = 1) ∨ (q = n ∧ ¬ m % 2 = 1) ∨ n < q := by omega
          rcases DD with h1 | ⟨h1, h2⟩ | ⟨h1, h2⟩ | h1
          · have i1 : (q : Int) < (n : Int) := by omega
            rw [if_pos (.inl h1)] at hg4
            subst hg4
            go_wp2
            exact ⟨⟨q + 1, by omega, by go_num, Lib.hid ⟨N4.out, B5.out⟩⟩, by simp [intOf]; omega⟩
          · have i1 : (q : Int) = (n : Int) := by omega
            rw [if_pos (.inr ⟨h1, h2⟩)] at hg4
            subst hg4
            subst h1
            go_wp2
            exact ⟨⟨q + 1, by omega, by go_num, Lib.hid ⟨N4.out, B5.out⟩⟩, by simp [intOf]; omega⟩
          · rw [if_neg (by omega)] at hg4
            subst hg4
            subst h1
            go_wp2
            exact ⟨⟨q + 1, by omega, by go_num, Lib.hid ⟨N4.out, B5.out⟩⟩, by simp [intOf]; omega⟩
          · have i1 : (n : Int) < (q : Int) := by omega
            have i2 : ((q : Int) == (n : Int)) = false := by simp; omega
            rw [if_neg (by omega)] at hg4
            subst hg4
            go_wp2
            exact ⟨⟨q + 1, by omega, by go_num, Lib.hid ⟨N4.out, B5.out⟩⟩, by simp [intOf]; omega⟩
        · obtain rfl : q = j := by omega
          have Q1 := Lib.hid P0.out.last
          have C1 : Hid (sp.c < 4611686018427387904) := Lib.hid (by have := P0.out.c; omega)
          have DC := P0.out.c
          have D1 : (q ≤ n + 1 ∧ sp.c = q) ∨ (n + 1 < q ∧ sp.c = (n : Int) + 1) := by omega
          clear DC hlt hq
          rcases D1 with ⟨hc, hm⟩ | ⟨hc, hm⟩
          · have i1 : (q : Int) ≤ (n : Int) + 1 := by omega
            have M := Lib.hid hm
            clear hm
            go_wp2_with fail
            refine (writes_is M.out HN.out).mono ?_; rintro e w3 ⟨rfl, rfl⟩
            go_wp2_with fail
            refine (put_is Q1.out rfl rfl HN.out P0.out.ok C1.out).mono ?_; rintro e w4 ⟨rfl, hN, hO, hC⟩
            have B6 := Lib.hid (hC.own HB.out hg'.out)
            clear hN hO hC
            go_wp2_with fail
            refine (awake_any _).mono ?_; rintro e w4 ⟨rfl, hb⟩
            have B7 := Lib.hid (below_more B6.out hb)
            go_wp2
            go_ret
            exact ⟨rfl, B7.out⟩
          · have i1 : (n : Int) + 1 < (q : Int) := by omega
            have M := Lib.hid hm
            clear hm
            go_wp2_with fail
            refine (writes_is M.out HN.out).mono ?_; rintro e w3 ⟨rfl, rfl⟩
            go_wp2_with fail
            refine (put_is Q1.out rfl rfl HN.out P0.out.ok C1.out).mono ?_; rintro e w4 ⟨rfl, hN, hO, hC⟩
            have B6 := Lib.hid (hC.own HB.out hg'.out)
            clear hN hO hC
            go_wp2_with fail
            refine (awake_any _).mono ?_; rintro e w4 ⟨rfl, hb⟩
            have B7 := Lib.hid (below_more B6.out hb)
            go_wp2
            go_ret
            exact ⟨rfl, B7.out⟩

set_option maxRecDepth 100000 in
theorem lifted (os : Os) (started : os.Started) (H : Type) (enc : TypeId × Value → H) :
    ReturnsInHanded {} Try.checked os 7 .any (Rows.nvmCutsSpec.pre6 enc Try.prog Try.f7 Rows.nvmCutsRow.domain false) (Rows.nvmCutsSpec.post enc Try.prog Try.f7 false true false false) := by
  refine returnsInHanded_of_change (C := Try.checked) own started (by kernel_rfl) Try.func7
    (ChangeSpec.witness6 (enc := enc) (C := Try.checked) false ⟨#[], #[.int .i64 0, .int .i64 0, .int .i64 0], []⟩ 8 (by kernel_rfl) (by kernel_rfl) (by kernel_rfl) (by kernel_rfl)) ?_
  intro W base args ds gs before hval0 hW hcnd _
  have hval : ∀ (j : Nat) t v, Try.f7.params[j]? = some t → args[j]? = some v → Value.okWide Try.prog W .any base t v := hval0
  have hW' := hW
  have hlt := hW.lt
  obtain ⟨p, q, hA0, hV, hpq, hfz, hnd⟩ := hW
  have hA : DataW.TrodAll enc Try.prog W 0 (fun _ => true) true Try.f7.params.toList args.toList ds p := hA0
  rw [Try.params7] at hA hval
  obtain ⟨v0, vs0, d0, ds0, p0, q0, hargs, rfl, hp, h0, r0⟩ := trodAll_cons hA
  obtain ⟨v1, vs1, d1, ds1, p1, q1, rfl, rfl, rfl, h1, r1⟩ := trodAll_cons r0
  obtain ⟨v2, vs2, d2, ds2, p2, q2, rfl, rfl, rfl, h2, r2⟩ := trodAll_cons r1
  obtain ⟨rfl, rfl, rfl⟩ := trodAll_nil r2
  obtain rfl : args = #[v0, v1, v2] := by cases args; simp_all
  obtain ⟨rfl, rfl⟩ := trodVars_none hV
  have hlt' : ∀ x ∈ before, x.block < W.heap.size := fun x hx => hlt x hx
  obtain ⟨a0, rfl, rfl, rfl, w0⟩ := open_int Try.underlying3 (hval 0 3 v0 rfl rfl) h0
  obtain ⟨a1, rfl, rfl, rfl, w1⟩ := open_int Try.underlying3 (hval 1 3 v1 rfl rfl) h1
  obtain ⟨a2, rfl, rfl, rfl, w2⟩ := open_int Try.underlying3 (hval 2 3 v2 rfl rfl) h2
  refine (walk a0 a1 a2 W w0 w1 w2).mono fun e W' ⟨he, hb⟩ => ?_
  subst he
  exact ⟨_, rfl, law_post rfl (by kernel_rfl) hW' (by rw [Try.params7]; intro t ht; simp only [List.mem_cons, List.not_mem_nil, or_false] at ht; (repeat' (first | (rcases ht with rfl | ht) | subst ht)) <;> exact ⟨by kernel_rfl, of_decide_eq_true (by kernel_rfl)⟩) rfl hb⟩

theorem over : Rows.nvmCutsRow.holds Try.pinned (OpenSpec.ofChange Rows.nvmCutsSpec) :=
  OpenClaim.holds_of_wide 7 Try.f7 rfl rfl rfl rfl rfl rfl rfl ⟨rfl, rfl, rfl, rfl, rfl⟩ rfl rfl rfl rfl rfl (by kernel_rfl) Try.func7 (by kernel_rfl)
    (of_decide_eq_true (by kernel_rfl)) (by unfold Func.isWrapper; first | (rw [if_pos (by decide +kernel)]; kernel_rfl) | (rw [if_neg (by decide +kernel)]; exact ⟨rfl, rfl⟩))
    (fun os started H enc _ => lifted os started H enc)

theorem proved : Rows.NvmCutsSaid := over
end Go.Proofs.Ytomodoofpjgpgaa.nvmCuts
