/-
  A line lasts for as many writes as its limit says, whatever is written to others; then it stays as it is. No conditions.
-/
import Derived.Test.YtomodoofpjgpgaaNvp
import Derived.Deep.RegionHeld3
namespace Go.Proofs.Ytomodoofpjgpgaa.nvmLasts
open Go.Proofs.Ytomodoofpjgpgaa Go.ChangeShapes Go.WideShapes Go.ChangeAt Go.RowKit

def one (x : Int) : List Int := [x, 0, 0, 0, 0, 0, 0, 0]
/-- the memory after k rounds -/
structure At (lim k : Nat) (s : Nv) : Prop where
  ok : s.Ok
  n : s.n = 2
  calm : s.calm
  la0 : s.la 0 = lim
  la1 : s.la 1 = -1
  wr0 : s.wr 0 = ((min k lim : Nat) : Int)
  wr1 : s.wr 1 = k
  c : s.c = 2 * k
  h0 : s.h 0 = one ((min k lim : Nat) : Int)
theorem start (lim : Nat) : At lim 0 (newNv 2 [(lim : Int)]) := by
  refine ⟨newNv_ok (by decide) (by decide) _, rfl, newNv_calm _ _, rfl, rfl, ?_, rfl, rfl, ?_⟩
  · simp [newNv]
  · simp [newNv, one, zeros]
theorem At.fst {lim k : Nat} {s : Nv} (h : At lim k s) : ∃ s' x, s.put 0 (one ((k : Int) + 1)) = s' ∧ s.putE 0 = x ∧ (k < lim ∧ x = 0 ∨ ¬ k < lim ∧ x = 3) ∧ s'.Ok ∧ s'.calm ∧ s'.n = 2 ∧ s'.la 0 = lim ∧ s'.la 1 = -1 ∧
    s'.wr 0 = ((min (k + 1) lim : Nat) : Int) ∧ s'.wr 1 = k ∧ s'.c = 2 * k + 1 ∧ s'.h 0 = one ((min (k + 1) lim : Nat) : Int) := by
  have hk : 0 < s.n := by rw [h.n]; decide
  have hk1 : ((k + 1 : Nat) : Int) = (k : Int) + 1 := by simp
  rw [← hk1]
  have hp := h.calm.put h.ok hk (l := one ((k + 1 : Nat) : Int)) rfl
  have he := h.calm.putE hk
  have hO := h.ok.put (l := one ((k + 1 : Nat) : Int)) rfl 0
  have hc := h.calm.put_ 0 (one ((k + 1 : Nat) : Int))
  have hw : s.worn 0 = decide (lim ≤ k) := by
    simp only [Nv.worn, h.la0, h.wr0]
    by_cases hx : lim ≤ k
    · have : min k lim = lim := by omega
      simp [this, hx]
    · have : min k lim = k := by omega
      simp [this, hx]
  rw [hw] at hp he
  refine ⟨_, _, rfl, rfl, ?_, hO, hc, ?_⟩
  · have : s.putE ((0 : Nat) : Int) = s.putE 0 := rfl
    rw [← this, he]
    by_cases hx : lim ≤ k
    · exact .inr ⟨by omega, by simp [hx]⟩
    · exact .inl ⟨by omega, by simp [hx]⟩
  · have e : s.put ((0 : Nat) : Int) (one ((k + 1 : Nat) : Int)) = s.put 0 (one ((k + 1 : Nat) : Int)) := rfl
    rw [← e, hp]
    by_cases hx : lim ≤ k
    · have m1 : min (k + 1) lim = min k lim := by omega
      rw [if_pos (by simpa using hx), m1]
      exact ⟨h.n, h.la0, h.la1, h.wr0, h.wr1, by show s.c + 1 = _; rw [h.c], h.h0⟩
    · have m1 : min (k + 1) lim = k + 1 := by omega
      have m2 : min k lim = k := by omega
      rw [if_neg (by simpa using hx), m1]
      refine ⟨h.n, h.la0, h.la1, ?_, ?_, ?_, ?_⟩
      · show upd s.wr 0 (s.wr 0 + 1) 0 = _
        rw [upd_same, h.wr0, m2]; simp
      · show upd s.wr 0 (s.wr 0 + 1) 1 = _
        rw [upd_other _ _ (by decide), h.wr1]
      · show s.c + 1 = _
        rw [h.c]
      · show upd s.h 0 (one ((k + 1 : Nat) : Int)) 0 = one ((k + 1 : Nat) : Int)
        rw [upd_same]
theorem At.next {lim k : Nat} {s : Nv} (hO : s.Ok) (hc : s.calm) (hn : s.n = 2) (l0 : s.la 0 = lim) (l1 : s.la 1 = -1) (w0 : s.wr 0 = ((min (k + 1) lim : Nat) : Int)) (w1 : s.wr 1 = k) (hcc : s.c = 2 * k + 1) (h0 : s.h 0 = one ((min (k + 1) lim : Nat) : Int)) :
    s.putE 1 = 0 ∧ At lim (k + 1) (s.put 1 (one 7)) := by
  have hk : 1 < s.n := by rw [hn]; decide
  have hp := hc.put hO hk (l := one 7) rfl
  have he := hc.putE hk
  have hO' := hO.put (l := one 7) rfl 1
  have hc' := hc.put_ 1 (one 7)
  have hw : s.worn 1 = false := by simp [Nv.worn, l1]
  rw [hw] at hp he
  refine ⟨he, ?_⟩
  have e : s.put ((1 : Nat) : Int) (one 7) = s.put 1 (one 7) := rfl
  rw [← e] at hO' hc' ⊢
  rw [hp] at hO' hc' ⊢
  refine ⟨hO', hn, hc', l0, l1, ?_, ?_, ?_, ?_⟩
  · show upd s.wr 1 (s.wr 1 + 1) 0 = _
    rw [upd_other _ _ (by decide), w0]
  · show upd s.wr 1 (s.wr 1 + 1) 1 = _
    rw [upd_same, w1]; simp
  · show s.c + 1 = _
    rw [hcc]; simp; omega
  · show upd s.h 1 (one 7) 0 = _
    rw [upd_other _ _ (by decide), h0]

set_option maxRecDepth 100000 in
set_option maxHeartbeats 2000000 in
theorem walk (a0 a1 : Int) (w : World) (_ : (Lit.int .i64 a0).wf = true) (_ : (Lit.int .i64 a1).wf = true) :
    Calls Try.prog 6 #[.int .i64 a0, .int .i64 a1] w fun e w' => e = .returned (.bool true) ∧ Below w.heap.size w w' := by
  obtain ⟨u, hu, _⟩ := u64_nat a0
  obtain ⟨lim, hlim⟩ : ∃ n, n = u % 30 := ⟨_, rfl⟩
  have t1 : (u : Int).tmod 30 = (lim : Int) := by have h := tmod_nat u 30; rw [show ((30 : Nat) : Int) = 30 from rfl] at h; rw [hlim]; omega
  have hl30 : lim < 30 := by omega
  obtain ⟨u', hu', _⟩ := u64_nat a1
  obtain ⟨n, hn⟩ : ∃ n, n = u' % 60 := ⟨_, rfl⟩
  have t2 : (u' : Int).tmod 60 = (n : Int) := by have h := tmod_nat u' 60; rw [show ((60 : Nat) : Int) = 60 from rfl] at h; rw [hn]; omega
  have hn60 : n < 60 := by omega
  have k1 : IntKind.i64.wrap (lim : Int) = lim := IntWalk.i64_in _ (by omega)
  have k2 : IntKind.i64.wrap (n : Int) = n := IntWalk.i64_in _ (by omega)
  have R0 := Lib.hid (ri_one w lim)
  have B0 := Lib.hid (bal (o := .cells #[.int .i64 lim] 3) (Below.refl w.heap.size w))
  have A0 := Lib.hid (start lim)
  obtain ⟨s0, e0⟩ : ∃ s0, newNv 2 [(lim : Int)] = s0 := ⟨_, rfl⟩
  rw [e0] at A0
  clear hlim hn
  go_enter Try.func6, Try.ntmps6
  go_wp2_with fail
  refine (new_yes 2 _ [(lim : Int)] _ (by decide) (by decide) R0.out).mono ?_; rintro e w1 ⟨g, rfl, hg, hN, hb⟩
  rw [e0] at hN
  have hg' : Hid (w.heap.size ≤ g) := Lib.hid (Nat.le_trans (by simp) hg)
  have N0 := Lib.hid hN
  have B1 := Lib.hid (below_more B0.out hb)
  clear hN hg hb
  go_wp2
  go_loopw [22] (fun i wr => ∃ k : Nat, k ≤ n ∧ i = .int .i64 k ∧ Hid (∃ s, Nm wr g s ∧ At lim k s ∧ Below w.heap.size w wr)) (fun i _ => n - (intOf i).toNat)
  case atStart => exact ⟨0, by omega, rfl, Lib.hid ⟨_, N0.out, A0.out, B1.out⟩⟩
  case round =>
    obtain ⟨k, hk, rfl, H⟩ := hrel
    obtain ⟨s, hN, hA, hB⟩ := H.out
    have HN := Lib.hid hN
    have HA := Lib.hid hA
    have HB := Lib.hid hB
    clear hN hA hB H
    by_cases hlt : k < n
    · obtain ⟨s1, x, f1, f2, f3, g1, g2, g3, g4, g5, g6, g7, g8, g9⟩ := HA.out.fst
      obtain ⟨f4, f5⟩ := At.next g1 g2 g3 g4 g5 g6 g7 g8 g9
      have F1 := Lib.hid f1; have F2 := Lib.hid f2; have F4 := Lib.hid f4; have F5 := Lib.hid f5
      have C0 : Hid (s.c < 4611686018427387904) := Lib.hid (by have := HA.out.c; omega)
      have C1 : Hid (s1.c < 4611686018427387904) := Lib.hid (by omega)
      clear f1 f2 f4 f5 g1 g2 g3 g4 g5 g6 g7 g8 g9
      go_wp2_with fail
      refine (put_is F2.out F1.out rfl HN.out HA.out.ok C0.out).mono ?_; rintro e w2 ⟨rfl, hN, hO, hC⟩
      have N2 := Lib.hid hN
      have O2 := Lib.hid hO
      have B2 := Lib.hid (hC.own HB.out hg'.out)
      clear hN hO hC
      rcases f3 with ⟨hx, rfl⟩ | ⟨hx, rfl⟩
      · have i1 : (k : Int) < (lim : Int) ↔ k < lim := by omega
        go_wp2_with fail
        refine (put_is F4.out rfl rfl N2.out O2.out C1.out).mono ?_; rintro e w3 ⟨rfl, hN, hO, hC⟩
        have N3 := Lib.hid hN
        have B3 := Lib.hid (hC.own B2.out hg'.out)
        clear hN hO hC
        go_wp2
        exact ⟨⟨k + 1, by omega, by go_num, Lib.hid ⟨_, N3.out, F5.out, B3.out⟩⟩, by simp [intOf]; omega⟩
      · have i1 : (k : Int) < (lim : Int) ↔ k < lim := by omega
        go_wp2_with fail
        refine (put_is F4.out rfl rfl N2.out O2.out C1.out).mono ?_; rintro e w3 ⟨rfl, hN, hO, hC⟩
        have N3 := Lib.hid hN
        have B3 := Lib.hid (hC.own B2.out hg'.out)
        clear hN hO hC
        go_wp2
        exact ⟨⟨k + 1, by omega, by go_num, Lib.hid ⟨_, N3.out, F5.out, B3.out⟩⟩, by simp [intOf]; omega⟩
    · obtain rfl : k = n := by omega
      have hh : s.get 0 = one ((min k lim : Nat) : Int) := by
        have h1 : s.rdy (s.has 0) = 0 := HA.out.calm.rdy (Nv.has_of (k := 0) (by rw [HA.out.n]; decide))
        simp only [Nv.get, h1, if_true]
        exact HA.out.h0
      have hr : s.rdy (s.has 0) = 0 := HA.out.calm.rdy (Nv.has_of (k := 0) (by rw [HA.out.n]; decide))
      have hw0 : s.wear 0 = ((min k lim : Nat) : Int) := by
        have h1 : s.has 0 = true := Nv.has_of (k := 0) (by rw [HA.out.n]; decide)
        simp only [Nv.wear, h1, if_true]
        exact HA.out.wr0
      have hw1 : s.wear 1 = (k : Int) := by
        have h1 : s.has 1 = true := Nv.has_of (k := 1) (by rw [HA.out.n]; decide)
        simp only [Nv.wear, h1, if_true]
        exact HA.out.wr1
      have E1 := Lib.hid hh; have E2 := Lib.hid hr; have E3 := Lib.hid hw0; have E4 := Lib.hid hw1
      clear hh hr hw0 hw1
      have E5 : Hid (s.c = 2 * (k : Int)) := Lib.hid HA.out.c
      have D1 : (k ≤ lim ∧ min k lim = k) ∨ (lim < k ∧ min k lim = lim) := by omega
      rcases D1 with ⟨hc, hm⟩ | ⟨hc, hm⟩
      · rw [hm] at E1 E3
        have hc1 : if (k ≤ lim : Prop) then (k : Int) ≤ (lim : Int) else (lim : Int) < (k : Int) := by split <;> omega
        first | (rw [if_pos hc] at hc1) | (rw [if_neg (by omega)] at hc1)
        clear hc hm
        go_wp2_with fail
        refine (get_is E1.out E2.out HN.out HA.out.ok).mono ?_; rintro e w2 ⟨rfl, hb⟩
        obtain ⟨W, hW, H⟩ := boxed1 w2 (a := one (k : Int)) rfl
        have N3 := Lib.hid ((HN.out.below hb).below H.out.2)
        have B4 := Lib.hid (below_more (below_more HB.out hb) H.out.2)
        have hq : (one (k : Int)).length = 8 := rfl
        obtain ⟨cm, _⟩ := H.out.1.cell (i := 0) (by decide)
        clear hb
        go_wp2_with fail
        refine (wear_is E3.out N3.out HA.out.ok).mono ?_; rintro e w3 ⟨rfl, rfl⟩
        go_wp2_with fail
        refine (wear_is E4.out N3.out HA.out.ok).mono ?_; rintro e w3 ⟨rfl, rfl⟩
        go_wp2_with fail
        refine (writes_is E5.out N3.out).mono ?_; rintro e w3 ⟨rfl, rfl⟩
        go_wp2_with fail
        refine (awake_any _).mono ?_; rintro e w4 ⟨rfl, hb⟩
        have B5 := Lib.hid (below_more B4.out hb)
        go_wp2
        go_ret
        exact ⟨rfl, B5.out⟩
      · rw [hm] at E1 E3
        have hc1 : if (k ≤ lim : Prop) then (k : Int) ≤ (lim : Int) else (lim : Int) < (k : Int) := by split <;> omega
        first | (rw [if_pos hc] at hc1) | (rw [if_neg (by omega)] at hc1)
        clear hc hm
        go_wp2_with fail
        refine (get_is E1.out E2.out HN.out HA.out.ok).mono ?_; rintro e w2 ⟨rfl, hb⟩
        obtain ⟨W, hW, H⟩ := boxed1 w2 (a := one (lim : Int)) rfl
        have N3 := Lib.hid ((HN.out.below hb).below H.out.2)
        have B4 := Lib.hid (below_more (below_more HB.out hb) H.out.2)
        have hq : (one (lim : Int)).length = 8 := rfl
        obtain ⟨cm, _⟩ := H.out.1.cell (i := 0) (by decide)
        clear hb
        go_wp2_with fail
        refine (wear_is E3.out N3.out HA.out.ok).mono ?_; rintro e w3 ⟨rfl, rfl⟩
        go_wp2_with fail
        refine (wear_is E4.out N3.out HA.out.ok).mono ?_; rintro e w3 ⟨rfl, rfl⟩
        go_wp2_with fail
        refine (writes_is E5.out N3.out).mono ?_; rintro e w3 ⟨rfl, rfl⟩
        go_wp2_with fail
        refine (awake_any _).mono ?_; rintro e w4 ⟨rfl, hb⟩
        have B5 := Lib.hid (below_more B4.out hb)
        go_wp2
        go_ret
        exact ⟨rfl, B5.out⟩

set_option maxRecDepth 100000 in
theorem lifted (os : Os) (started : os.Started) (H : Type) (enc : TypeId × Value → H) :
    ReturnsInHanded {} Try.checked os 6 .any (Rows.nvmLastsSpec.pre6 enc Try.prog Try.f6 Rows.nvmLastsRow.domain false) (Rows.nvmLastsSpec.post enc Try.prog Try.f6 false true false false) := by
  refine returnsInHanded_of_change (C := Try.checked) own started (by kernel_rfl) Try.func6
    (ChangeSpec.witness6 (enc := enc) (C := Try.checked) false ⟨#[], #[.int .i64 0, .int .i64 0], []⟩ 8 (by kernel_rfl) (by kernel_rfl) (by kernel_rfl) (by kernel_rfl)) ?_
  intro W base args ds gs before hval0 hW hcnd _
  have hval : ∀ (j : Nat) t v, Try.f6.params[j]? = some t → args[j]? = some v → Value.okWide Try.prog W .any base t v := hval0
  have hW' := hW
  have hlt := hW.lt
  obtain ⟨p, q, hA0, hV, hpq, hfz, hnd⟩ := hW
  have hA : DataW.TrodAll enc Try.prog W 0 (fun _ => true) true Try.f6.params.toList args.toList ds p := hA0
  rw [Try.params6] at hA hval
  obtain ⟨v0, vs0, d0, ds0, p0, q0, hargs, rfl, hp, h0, r0⟩ := trodAll_cons hA
  obtain ⟨v1, vs1, d1, ds1, p1, q1, rfl, rfl, rfl, h1, r1⟩ := trodAll_cons r0
  obtain ⟨rfl, rfl, rfl⟩ := trodAll_nil r1
  obtain rfl : args = #[v0, v1] := by cases args; simp_all
  obtain ⟨rfl, rfl⟩ := trodVars_none hV
  have hlt' : ∀ x ∈ before, x.block < W.heap.size := fun x hx => hlt x hx
  obtain ⟨a0, rfl, rfl, rfl, w0⟩ := open_int Try.underlying3 (hval 0 3 v0 rfl rfl) h0
  obtain ⟨a1, rfl, rfl, rfl, w1⟩ := open_int Try.underlying3 (hval 1 3 v1 rfl rfl) h1
  refine (walk a0 a1 W w0 w1).mono fun e W' ⟨he, hb⟩ => ?_
  subst he
  exact ⟨_, rfl, law_post rfl (by kernel_rfl) hW' (by rw [Try.params6]; intro t ht; simp only [List.mem_cons, List.not_mem_nil, or_false] at ht; (repeat' (first | (rcases ht with rfl | ht) | subst ht)) <;> exact ⟨by kernel_rfl, of_decide_eq_true (by kernel_rfl)⟩) rfl hb⟩

theorem over : Rows.nvmLastsRow.holds Try.pinned (OpenSpec.ofChange Rows.nvmLastsSpec) :=
  OpenClaim.holds_of_wide 6 Try.f6 rfl rfl rfl rfl rfl rfl rfl ⟨rfl, rfl, rfl, rfl, rfl⟩ rfl rfl rfl rfl rfl (by kernel_rfl) Try.func6 (by kernel_rfl)
    (of_decide_eq_true (by kernel_rfl)) (by unfold Func.isWrapper; first | (rw [if_pos (by decide +kernel)]; kernel_rfl) | (rw [if_neg (by decide +kernel)]; exact ⟨rfl, rfl⟩))
    (fun os started H enc _ => lifted os started H enc)

theorem proved : Rows.NvmLastsSaid := over
end Go.Proofs.Ytomodoofpjgpgaa.nvmLasts
