/-
  A register that says too many is no log that can be recovered; without power nothing is. No conditions.
-/
import Derived.Test.YtjghhcbiaklomaaMgd
namespace Go.Proofs.Ytjghhcbiaklomaa.logRaw
set_option maxRecDepth 100000
open Go.Proofs.Ytjghhcbiaklomaa Go.ChangeShapes Go.WideShapes Go.ChangeAt Go.RowKit

theorem raw_plain (n : Nat) (v : Int) (h1 : 1 ≤ n) (h2 : n ≤ 20) : ∃ s0 s1 s2 s3 : Nv, newNv (16 + n + 1 + 0) [] = s0 ∧ s0.set ((1 : Nat) : Int) v = s1 ∧ s1.cutAt 0 0 = s2 ∧ s2.set 2 1 = s3 ∧
    s0.Ok ∧ s0.c = 0 ∧ s1.Ok ∧ s1.dark = false ∧ s1.rg 1 = v ∧ GOk s1 (16 + n) 0 ∧ th s1 (16 + n) 0 16 = zeros ∧ s2.Ok ∧ s2.c ≤ 1 ∧ s3.dark = true := by
  have NL := newNv_lg (n := 16 + n) (P := 0) (by omega) (by decide) (by omega) []
  have hc : (newNv (16 + n + 1 + 0) []).c = 0 := rfl
  have hd : (newNv (16 + n + 1 + 0) []).dark = false := rfl
  have hm : (newNv (16 + n + 1 + 0) []).comes = false := rfl
  generalize newNv (16 + n + 1 + 0) [] = s0 at *
  obtain ⟨a1, _, a3, _, a5, _, a7, a8⟩ := set1 NL.1.g hd v
  refine ⟨s0, _, _, _, rfl, rfl, rfl, rfl, NL.1.g.ok, hc, a1.ok, ?_⟩
  generalize s0.set ((1 : Nat) : Int) v = s1 at *
  rcases a8 with ⟨_, d1, r1⟩ | ⟨_, e, _⟩
  · refine ⟨d1, r1, a1, (a5 16).trans (NL.2.2.2.1 16), a1.ok.cutAt (by decide) 0, by show s1.c ≤ 1; omega, ?_⟩
    have hr : (s1.cutAt 0 0).rdy (hasR 2) = 0 := by simp [Nv.rdy, hasR, Nv.cutAt, d1]
    unfold Nv.set
    rw [if_pos hr]
    have ht : (s1.cutAt 0 0).tick.dark = true := by simp [Nv.tick, Nv.goes, Nv.cutAt]
    split
    · exact ht
    · exact ht
  · rw [hm] at e; cases e

set_option maxHeartbeats 8000000 in
theorem walk (a0 : Int) (l1 : List Hm) (v1 : Value) (a2 : Int) (w : World) (_ : (Lit.int .u64 a0).wf = true) (h1 : RA homeE w v1 l1) (_ : (Lit.int .i64 a2).wf = true) :
    Calls Try.prog 7 #[.int .u64 a0, v1, .int .i64 a2] w fun e w' => e = .returned (.bool true) ∧ Below w.heap.size w w' := by
  obtain ⟨pv, cap, rfl, _, _⟩ := ra_shape h1
  have HV := Lib.hid h1
  clear h1
  by_cases h30 : 30 < l1.length
  · have i1 : (l1.length : Int) > 30 := by omega
    clear h30 HV
    generalize l1.length = L at *
    go_enter Try.func7, Try.ntmps7
    go_wp2_with fail
    refine (awake_any ctr _).mono ?_; rintro e w' ⟨rfl, hb⟩
    go_wp2_with fail
    go_ret
    exact ⟨rfl, hb⟩
  have i1 : ¬ (l1.length : Int) > 30 := by omega
  have HZ := Lib.hid (sized_any a2 0 0 w)
  clear h30
  go_enter Try.func7, Try.ntmps7
  go_wp2_with fail
  refine (HZ.out).mono ?_; rintro e w' ⟨⟨n, P0, per0, rfl, n1, n2, _, _, _⟩, rfl⟩
  obtain ⟨s0, s1, s2, s3, e0, e1, e2, e3, b0, b1, b2, b3, b4, b5, b6, b7, b8, b9⟩ := raw_plain n a0 n1 n2
  have HM := Lib.hid (made_yes ctr (n := n) (P := 0) (per := 5) (.slice none 0 0) [] w n1 n2 (by decide) (by decide) (by decide) (ri_nil w))
  rw [e0] at HM
  have E1 := Lib.hid e1; have E2 := Lib.hid e2; have E3 := Lib.hid e3
  have BB := Lib.hid (And.intro b0 (And.intro b1 (And.intro b2 (And.intro b3 (And.intro b4 (And.intro b5 (And.intro b6 (And.intro b7 (And.intro b8 b9)))))))))
  have HN : Hid (1 ≤ n ∧ n ≤ 20) := Lib.hid ⟨n1, n2⟩
  clear n1 n2 e0 e1 e2 e3 b0 b1 b2 b3 b4 b5 b6 b7 b8 b9
  go_wp2_with fail
  refine (HM.out).mono ?_; rintro e w1 ⟨x, g, y, q, rfl, _, hg, hy, _, hL, hb⟩
  have L1 := Lib.hid hL
  have B1 := Lib.hid hb
  have PL : Hid (w.heap.size ≤ g ∧ w.heap.size ≤ y) := Lib.hid ⟨hg, hy⟩
  clear hg hy hL hb
  by_cases hv : a0 ≤ 14
  · go_wp2_with fail
    refine (awake_any ctr _).mono ?_; rintro e w' ⟨rfl, hb⟩
    have B2 := Lib.hid (below_more B1.out hb)
    clear hb
    go_wp2_with fail
    go_ret
    exact ⟨rfl, B2.out⟩
  have i2 : ¬ a0 ≤ 14 := hv
  have i3 : decide (a0 ≤ 14) = false := decide_eq_false hv
  have HV14 : Hid (14 < a0) := Lib.hid (by omega)
  have hlg := lg_set (v := a0) L1.out BB.out.1 (by rw [BB.out.2.1]; decide)
  rw [E1.out] at hlg
  have SC := Lib.hid hlg
  clear hlg hv
  go_wp2_with fail
  refine (SC.out).mono ?_; rintro e w2 ⟨rfl, hL, hC⟩
  have L2 := Lib.hid hL
  have B2 := Lib.hid (hC.below B1.out B1.out.size (fun j hj => by simp at hj; rcases hj with rfl | rfl; exact PL.out.1; exact PL.out.2))
  clear hL hC
  go_wp2_with fail
  refine (rcv_raw L2.out BB.out.2.2.2.1 BB.out.2.2.2.2.1 HV14.out).mono ?_; rintro e w' ⟨rfl, rfl⟩
  have GC := gt_raw (a := 16) L2.out BB.out.2.2.2.2.2.1 BB.out.2.2.2.1 (by have := HN.out; omega) (by decide) (by have := HN.out; omega) BB.out.2.2.2.2.1 HV14.out
  rw [BB.out.2.2.2.2.2.2.1] at GC
  have GC := Lib.hid GC
  go_wp2_with fail
  refine (GC.out).mono ?_; rintro e w3 ⟨rfl, hb⟩
  have GH : Hid (w3.heap.size ≠ g) := Lib.hid (by have := L2.out.nm.lt; have := hb.size; omega)
  obtain ⟨W1, hW1, H1⟩ := boxed1 w3 (a := [0, 0, 0, 0, 0, 0, 0, 0]) rfl
  have hst : (lineStore (.pointer (some ⟨w3.heap.size, 0, none⟩)) (.agg (lc zeros))).run Try.prog W1 = .ok () W1 := by rw [← hW1]; exact store_new w3 zeros zeros rfl rfl
  have L3 := Lib.hid ((L2.out.below hb).below H1.out.2)
  have B3 := Lib.hid (below_more (below_more B2.out hb) H1.out.2)
  have LA := Lib.hid H1.out.1
  have PC := Lib.hid (pd_live true L3.out BB.out.2.2.2.1 BB.out.2.2.2.2.1 ⟨fun _ => by have := HV14.out; omega, fun _ => rfl⟩)
  clear hb
  go_wp2_with fail
  refine (PC.out).mono ?_; rintro e w' ⟨rfl, rfl⟩
  have CC := Lib.hid (cut_is E2.out L3.out.nm BB.out.2.2.1 (by decide))
  go_wp2_with fail
  refine (CC.out).mono ?_; rintro e w4 ⟨rfl, hN, _, hC⟩
  have L4 := Lib.hid (L3.out.mem hC hN)
  have B4 := Lib.hid (hC.below B3.out B3.out.size (fun j hj => by rw [List.mem_singleton.1 hj]; exact PL.out.1))
  have LB := Lib.hid (hC.ln LA.out (by simpa using GH.out))
  clear hN hC
  have SD := Lib.hid (set_is (i := 2) (v := 1) rfl E3.out L4.out.nm BB.out.2.2.2.2.2.2.2.1 (by have := BB.out.2.2.2.2.2.2.2.2.1; omega))
  go_wp2_with fail
  refine (SD.out).mono ?_; rintro e w5 ⟨rfl, hN, _, hC⟩
  have L5 := Lib.hid (L4.out.mem hC hN)
  have B5 := Lib.hid (hC.below B4.out B4.out.size (fun j hj => by rw [List.mem_singleton.1 hj]; exact PL.out.1))
  have LD := Lib.hid (hC.ln LB.out (by simpa using GH.out))
  clear hN hC
  have GD := Lib.hid (gt_dark (a := 16) L5.out BB.out.2.2.2.2.2.2.2.2.2 (by decide) (by have := HN.out; omega))
  go_wp2_with fail
  refine (GD.out).mono ?_; rintro e w6 ⟨rfl, hb⟩
  obtain ⟨W2, hW2, H2⟩ := boxed1 w6 (a := [0, 0, 0, 0, 0, 0, 0, 0]) rfl
  have hst2 : (lineStore (.pointer (some ⟨w6.heap.size, 0, none⟩)) (.agg (lc zeros))).run Try.prog W2 = .ok () W2 := by rw [← hW2]; exact store_new w6 zeros zeros rfl rfl
  have L6 := Lib.hid ((L5.out.below hb).below H2.out.2)
  have B6 := Lib.hid (below_more (below_more B5.out hb) H2.out.2)
  have LE := Lib.hid ((LD.out.below hb).below H2.out.2)
  have LF := Lib.hid H2.out.1
  have V6 := Lib.hid (ra_below HV.out B6.out)
  clear hb
  go_wp2_with fail
  refine (rcv_dark L6.out BB.out.2.2.2.2.2.2.2.2.2).mono ?_; rintro e w' ⟨rfl, rfl⟩
  have k0 : IntKind.i64.wrap (16 + (n : Int)) = ((16 + n : Nat) : Int) := by rw [show 16 + (n : Int) = ((16 + n : Nat) : Int) by omega]; exact i64_nat _ (by have := HN.out; omega)
  by_cases hm : MayH ((16 + n : Nat) : Int) l1
  · have CM := Lib.hid (cmt_dark (w := W2) L6.out BB.out.2.2.2.2.2.2.2.2.2 V6.out hm)
    have HMY := Lib.hid hm
    clear hm
    go_wp2_with fail
    refine (CM.out).mono ?_; rintro e w7 ⟨rfl, hb⟩
    have L7 := Lib.hid (L6.out.below hb)
    have B7 := Lib.hid (below_more B6.out hb)
    have la := (LE.out.below hb).load
    have lb := (LF.out.below hb).load
    have MC := Lib.hid (rmayh_some ((16 + n : Nat) : Int) l1 _ true w7 (ra_below HV.out B7.out) ⟨fun _ => HMY.out, fun _ => rfl⟩)
    clear hb
    go_wp2_with fail
    refine (MC.out).mono ?_; rintro e w8 ⟨rfl, hb⟩
    have L8 := Lib.hid (L7.out.below hb)
    have B8 := Lib.hid (below_more B7.out hb)
    clear hb la lb
    go_wp2_with fail
    refine (pd_dark L8.out BB.out.2.2.2.2.2.2.2.2.2).mono ?_; rintro e w' ⟨rfl, rfl⟩
    go_wp2_with fail
    refine (awake_any ctr _).mono ?_; rintro e w9 ⟨rfl, hb⟩
    have B9 := Lib.hid (below_more B8.out hb)
    clear hb
    go_wp2
    go_ret
    exact ⟨rfl, B9.out⟩
  · have CM := Lib.hid (cmt_arg (w := W2) L6.out V6.out hm)
    have HMY := Lib.hid hm
    clear hm
    go_wp2_with fail
    refine (CM.out).mono ?_; rintro e w7 ⟨rfl, hb⟩
    have L7 := Lib.hid (L6.out.below hb)
    have B7 := Lib.hid (below_more B6.out hb)
    have la := (LE.out.below hb).load
    have lb := (LF.out.below hb).load
    have MC := Lib.hid (rmayh_some ((16 + n : Nat) : Int) l1 _ false w7 (ra_below HV.out B7.out) ⟨fun h => (by cases h), fun h => absurd h HMY.out⟩)
    clear hb
    go_wp2_with fail
    refine (MC.out).mono ?_; rintro e w8 ⟨rfl, hb⟩
    have L8 := Lib.hid (L7.out.below hb)
    have B8 := Lib.hid (below_more B7.out hb)
    clear hb la lb
    go_wp2_with fail
    refine (pd_dark L8.out BB.out.2.2.2.2.2.2.2.2.2).mono ?_; rintro e w' ⟨rfl, rfl⟩
    go_wp2_with fail
    refine (awake_any ctr _).mono ?_; rintro e w9 ⟨rfl, hb⟩
    have B9 := Lib.hid (below_more B8.out hb)
    clear hb
    go_wp2
    go_ret
    exact ⟨rfl, B9.out⟩

set_option maxRecDepth 100000 in
theorem lifted (os : Os) (started : os.Started) (H : Type) (enc : TypeId × Value → H) :
    ReturnsInHanded {} Try.checked os 7 .any (Rows.logRawSpec.pre6 enc Try.prog Try.f7 Rows.logRawRow.domain false) (Rows.logRawSpec.post enc Try.prog Try.f7 false true false false) := by
  refine returnsInHanded_of_change (C := Try.checked) own started (by kernel_rfl) Try.func7
    (ChangeSpec.witness6 (enc := enc) (C := Try.checked) false ⟨#[], #[.int .u64 0, .slice none 0 0, .int .i64 0], []⟩ 8 (by kernel_rfl) (by kernel_rfl) (by kernel_rfl) (by kernel_rfl)) ?_
  intro W base args ds gs before hval0 hW hcnd _
  have hval : ∀ (j : Nat) t v, Try.f7.params[j]? = some t → args[j]? = some v → Value.okWide Try.prog W .any base t v := hval0
  have hW' := hW
  have hlt := hW.lt
  obtain ⟨p, q, hA0, hV, hpq, hfz, hnd⟩ := hW
  have hA : DataW.TrodAll enc Try.prog W 0 (fun _ => true) true Try.f7.params.toList args.toList ds p := hA0
  rw [Try.params7] at hA hval
  obtain ⟨v0, vs0, d0, ds0, p0, q0, hargs, rfl, hp, h0, r0⟩ := trodAll_cons hA
  obtain ⟨v1, vs1, d1, ds1, p1, q1, rfl, rfl, rfl, h1, r1⟩ := trodAll_cons r0
  obtain ⟨v2, vs2, d2, ds2, p2, q2, rfl, rfl, rfl, h2, r2⟩ := trodAll_cons r1
  obtain ⟨rfl, rfl, rfl⟩ := trodAll_nil r2
  obtain rfl : args = #[v0, v1, v2] := by cases args; simp_all
  obtain ⟨rfl, rfl⟩ := trodVars_none hV
  have hlt' : ∀ x ∈ before, x.block < W.heap.size := fun x hx => hlt x hx
  obtain ⟨a0, rfl, rfl, rfl, w0⟩ := open_int Try.underlying37 (hval 0 37 v0 rfl rfl) h0
  obtain ⟨l1, w1⟩ := homes_in (hval 1 33 v1 rfl rfl) h1
  obtain ⟨a2, rfl, rfl, rfl, w2⟩ := open_int Try.underlying3 (hval 2 3 v2 rfl rfl) h2
  refine (walk a0 l1 v1 a2 W w0 w1 w2).mono fun e W' ⟨he, hb⟩ => ?_
  subst he
  exact ⟨_, rfl, law_post rfl (by kernel_rfl) hW' (by rw [Try.params7]; intro t ht; simp only [List.mem_cons, List.not_mem_nil, or_false] at ht; (repeat' (first | (rcases ht with rfl | ht) | subst ht)) <;> exact ⟨by kernel_rfl, of_decide_eq_true (by kernel_rfl)⟩) rfl hb⟩

theorem over : Rows.logRawRow.holds Try.pinned (OpenSpec.ofChange Rows.logRawSpec) :=
  OpenClaim.holds_of_wide 7 Try.f7 rfl rfl rfl rfl rfl rfl rfl ⟨rfl, rfl, rfl, rfl, rfl⟩ rfl rfl rfl rfl rfl (by kernel_rfl) Try.func7 (by kernel_rfl)
    (of_decide_eq_true (by kernel_rfl)) (by unfold Func.isWrapper; first | (rw [if_pos (by decide +kernel)]; kernel_rfl) | (rw [if_neg (by decide +kernel)]; exact ⟨rfl, rfl⟩))
    (fun os started H enc _ => lifted os started H enc)

theorem proved : Rows.LogRawSaid := over
end Go.Proofs.Ytjghhcbiaklomaa.logRaw
