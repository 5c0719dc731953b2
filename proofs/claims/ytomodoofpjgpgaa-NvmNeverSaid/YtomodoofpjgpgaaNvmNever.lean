/-
  A Cut below nought never comes; without power nothing is written, nothing counted. No conditions.
-/
import Derived.Test.YtomodoofpjgpgaaNvp
import Derived.Test.YtomodoofpjgpgaaCav
namespace Go.Proofs.Ytomodoofpjgpgaa.nvmNever
open Go.Proofs.Ytomodoofpjgpgaa Go.ChangeShapes Go.WideShapes Go.ChangeAt Go.RowKit

/-- the memory while lines are written -/
structure St (k : Nat) (s : Nv) : Prop where
  ok : s.Ok
  ln : s.n = 6
  calm : s.calm
  c : s.c ≤ (k : Int)
theorem start (q : Int) (hq : 0 ≤ q) (hq2 : q < 100) : ∃ s1 s2, (newNv 6 []).cutAt 0 255 = s1 ∧ s1.Ok ∧ s1.cutAt (-1 - q) 0 = s2 ∧ St 0 s2 := by
  have O0 := newNv_ok (n := 6) (by decide) (by decide) []
  have O1 := O0.cutAt (n := 0) (by decide) 255
  exact ⟨_, _, rfl, O1, rfl, O1.cutAt (by omega) 0, rfl, ⟨rfl, by simp [Nv.cutAt]; omega⟩, Int.le_refl 0⟩
theorem St.put {k : Nat} {s : Nv} (h : St k s) (i : Int) {l : List Int} (hl : l.length = 8) : St (k + 1) (s.put i l) :=
  ⟨h.ok.put hl i, (s.put_n _ _).trans h.ln, h.calm.put_ i l, by have := s.put_c i l; have := h.c; omega⟩
theorem St.more {k : Nat} {s : Nv} (h : St k s) : St (k + 1) s := ⟨h.ok, h.ln, h.calm, by have := h.c; omega⟩
theorem St.putE {k : Nat} {s : Nv} (h : St k s) (i : Int) : (s.putE i == 2) = false := by
  have h1 := h.calm.told
  have h2 := h.calm.goes
  have h3 := h.calm.1
  simp only [Nv.putE, Nv.rdy, h1, h2, h3]
  cases s.has i <;> cases s.worn i.toNat <;> simp
/-- the power goes -/
theorem St.dies {k : Nat} {s : Nv} (h : St k s) (hk : k ≤ 1000) {l : List Int} (hl : l.length = 8) : ∃ s1 s2, s.cutAt 0 0 = s1 ∧ s1.Ok ∧ s1.c < 4611686018427387904 ∧ s1.put 0 l = s2 ∧ s2.Ok ∧ s2.dark = true ∧ s2.n = 6 ∧ s2.c < 4611686018427387904 := by
  have hc := h.c
  have O1 := h.ok.cutAt (n := 0) (by decide) 0
  have hg1 : (s.cutAt 0 0).goes = true := by simp [Nv.goes, Nv.cutAt]
  have hc1 : (s.cutAt 0 0).c = s.c := rfl
  have hp := (s.cutAt 0 0).put_c 0 l
  refine ⟨_, _, rfl, O1, by rw [hc1]; omega, rfl, O1.put hl 0, ?_, (Nv.put_n _ _ _).trans h.ln, by omega⟩
  have hr : (s.cutAt 0 0).rdy ((s.cutAt 0 0).has 0) = 0 := by
    have hb : (s.cutAt 0 0).has 0 = true := Nv.has_of (k := 0) (by show 0 < s.n; rw [h.ln]; decide)
    have hd : (s.cutAt 0 0).dark = false := h.calm.1
    simp [Nv.rdy, hb, hd]
  unfold Nv.put
  rw [hr]
  simp only [if_true]
  split
  · show ((s.cutAt 0 0).dark || (s.cutAt 0 0).goes) = true
    rw [hg1]; simp
  · show ((s.cutAt 0 0).dark || (s.cutAt 0 0).goes) = true
    rw [hg1]; simp

set_option maxRecDepth 100000 in
set_option maxHeartbeats 4000000 in
theorem walk (a0 : Int) (cl : List Cl) (cv : Value) (w : World) (_ : (Lit.int .i64 a0).wf = true) (hcl : RC w cv cl) :
    Calls Try.prog 8 #[.int .i64 a0, cv] w fun e w' => e = .returned (.bool true) ∧ Below w.heap.size w w' := by
  have HC := Lib.hid hcl
  obtain ⟨p, cap, rfl, hlc, _⟩ := rc_shape hcl
  clear hcl hlc
  by_cases hlen : 80 < cl.length
  · have i1 : (80 : Int) < (cl.length : Int) := by omega
    generalize cl.length = L at *
    go_enter Try.func8, Try.ntmps8
    go_wp2_with fail
    refine (awake_any _).mono ?_; rintro e w1 ⟨rfl, hb⟩
    have B1 := Lib.hid hb
    go_wp2
    go_ret
    exact ⟨rfl, B1.out⟩
  have i1 : ¬ (80 : Int) < (cl.length : Int) := by omega
  obtain ⟨u, hu, _⟩ := u64_nat a0
  obtain ⟨q, hq⟩ : ∃ n, n = u % 100 := ⟨_, rfl⟩
  have t1 : (u : Int).tmod 100 = (q : Int) := by have h := tmod_nat u 100; rw [show ((100 : Nat) : Int) = 100 from rfl] at h; rw [hq]; omega
  have hq1 : q < 100 := by omega
  have k1 : IntKind.i64.wrap (q : Int) = q := IntWalk.i64_in _ (by omega)
  obtain ⟨s1, s2, f1, f2, f3, f4⟩ := start q (by omega) (by omega)
  have F1 := Lib.hid f1; have F2 := Lib.hid f2; have F3 := Lib.hid f3; have F4 := Lib.hid f4
  clear f1 f2 f3 f4 hq
  obtain ⟨s0, e0⟩ : ∃ s0, newNv 6 [] = s0 := ⟨_, rfl⟩
  have O0 : Hid (s0.Ok) := Lib.hid (by rw [← e0]; exact newNv_ok (by decide) (by decide) _)
  rw [e0] at F1
  have E0 := Lib.hid e0
  clear e0
  go_enter Try.func8, Try.ntmps8
  go_wp2_with fail
  refine (new_yes 6 _ [] _ (by decide) (by decide) (ri_nil w)).mono ?_; rintro e w1 ⟨g, rfl, hg, hN, hb⟩
  rw [E0.out] at hN
  have hg' : Hid (w.heap.size ≤ g) := Lib.hid hg
  have N0 := Lib.hid hN
  have B1 := Lib.hid hb
  clear hN hg hb
  go_wp2_with fail
  refine (cut_is F1.out N0.out O0.out (by decide)).mono ?_; rintro e w2 ⟨rfl, hN, hO, hC⟩
  have N1 := Lib.hid hN
  have B2 := Lib.hid (hC.own B1.out hg'.out)
  clear hN hO hC
  go_wp2_with fail
  refine (cut_is F3.out N1.out F2.out (by omega)).mono ?_; rintro e w3 ⟨rfl, hN, hO, hC⟩
  have N2 := Lib.hid hN
  have B3 := Lib.hid (hC.own B2.out hg'.out)
  clear hN hO hC N0 N1
  go_wp2
  go_loopw [29] (fun i wr => ∃ k : Nat, k ≤ cl.length ∧ i = .int .i64 k ∧ Hid (∃ s, Nm wr g s ∧ St k s ∧ Below w.heap.size w wr)) (fun i _ => cl.length - (intOf i).toNat)
  case atStart => exact ⟨0, by omega, rfl, Lib.hid ⟨_, N2.out, F4.out, B3.out⟩⟩
  case round =>
    obtain ⟨k, hk, rfl, HR⟩ := hrel
    obtain ⟨s, hN, hA, hB⟩ := HR.out
    have HN := Lib.hid hN
    have HA := Lib.hid hA
    have HB := Lib.hid hB
    clear hN hA hB HR N2 B1 B2 B3 F1 F2 F3 F4 O0 E0
    have C0 : Hid (s.c < 4611686018427387904) := Lib.hid (by have := HA.out.c; omega)
    by_cases hlt : k < cl.length
    · obtain ⟨b, off, rfl, _, hcld, hwf⟩ := rc_at (rc_below HC.out HB.out) hlt
      obtain ⟨W1, hW1⟩ : ∃ W1, wr.alloc (.cells (cc (cl.getD k default)) 33) = W1 := ⟨_, rfl⟩
      have V := Cv.new wr hwf.len
      have N3 := HN.out.alloc (.cells (cc (cl.getD k default)) 33)
      have B3 := HB.out.alloc HB.out.size (.cells (cc (cl.getD k default)) 33)
      rw [hW1] at V N3 B3
      have hl8 := hwf.len
      have N3 := Lib.hid N3
      have B3 := Lib.hid B3
      obtain ⟨d0, d1, d2, d3⟩ := V.nums
      have dl := V.line
      clear V hwf
      obtain ⟨L, hL⟩ : ∃ L, cl.length = L := ⟨_, rfl⟩
      rw [hL] at hlt i1 hk ⊢
      have i2 : (k : Int) < (L : Int) := by omega
      generalize cl.getD k default = c at *
      obtain ⟨d, i, nn, l, vv⟩ := c
      dsimp only at hl8 d0 d1 d2 d3 dl
      clear hL
      have PE := HA.out.putE i
      by_cases h0 : d = 0
      · subst h0
        obtain ⟨x, hx⟩ : ∃ x, s.putE i = x := ⟨_, rfl⟩
        rw [hx] at PE
        have X := Lib.hid hx
        clear hx
        go_wp2_with fail
        refine (put_is X.out rfl hl8 N3.out HA.out.ok C0.out).mono ?_; rintro e w4 ⟨rfl, hN, hO, hC⟩
        have N4 := Lib.hid hN
        have B4 := Lib.hid (hC.own B3.out hg'.out)
        clear hN hO hC d0 d1 d2 d3 dl
        go_wp2
        exact ⟨⟨k + 1, by omega, by go_num, Lib.hid ⟨_, N4.out, HA.out.put i hl8, B4.out⟩⟩, by simp [intOf]; omega⟩
      · have t0 : (d == 0) = false := by simpa using h0
        clear PE
        go_wp2
        exact ⟨⟨k + 1, by omega, by go_num, Lib.hid ⟨_, N3.out, HA.out.more, B3.out⟩⟩, by simp [intOf]; omega⟩
    · obtain ⟨s1, s2, q1, q2, q3, q4, q5, q6, q7, q8⟩ := HA.out.dies (by omega) (l := [9, 0, 0, 0, 0, 0, 0, 0]) rfl
      have Q1 := Lib.hid q1; have Q2 := Lib.hid q2; have Q3 := Lib.hid q3; have Q4 := Lib.hid q4; have Q5 := Lib.hid q5; have Q6 := Lib.hid q6; have Q7 := Lib.hid q7; have Q8 := Lib.hid q8
      clear q1 q2 q3 q4 q5 q6 q7 q8
      have i2 : ¬ (k : Int) < (cl.length : Int) := by omega
      go_wp2_with fail
      refine (cut_is Q1.out HN.out HA.out.ok (by decide)).mono ?_; rintro e w4 ⟨rfl, hN, hO, hC⟩
      have N1 := Lib.hid hN
      have B1 := Lib.hid (hC.own HB.out hg'.out)
      clear hN hO hC
      go_wp2_with fail
      refine (put_is rfl Q4.out rfl N1.out Q2.out Q3.out).mono ?_; rintro e w5 ⟨rfl, hN, hO, hC⟩
      have N2 := Lib.hid hN
      have B2 := Lib.hid (hC.own B1.out hg'.out)
      clear hN hO hC
      obtain ⟨cn, hcn⟩ : ∃ cn, s2.c = cn := ⟨_, rfl⟩
      have CN := Lib.hid hcn
      clear hcn
      go_wp2_with fail
      refine (writes_is CN.out N2.out).mono ?_; rintro e w6 ⟨rfl, rfl⟩
      clear HN HA HB i2 hlt hk
      go_wp2
      go_loopw [55] (fun i wr => ∃ k : Nat, k ≤ cl.length ∧ i = .int .i64 k ∧ Hid (Nm wr g s2 ∧ Below w.heap.size w wr)) (fun i _ => cl.length - (intOf i).toNat)
      case atStart => exact ⟨0, by omega, rfl, Lib.hid ⟨N2.out, B2.out⟩⟩
      case round =>
        obtain ⟨k, hk, rfl, HR⟩ := hrel
        have HN := Lib.hid HR.out.1
        have HB := Lib.hid HR.out.2
        clear HR N2 B2 B1 N1
        by_cases hlt : k < cl.length
        · obtain ⟨b, off, rfl, _, hcld, hwf⟩ := rc_at (rc_below HC.out HB.out) hlt
          obtain ⟨W1, hW1⟩ : ∃ W1, wr.alloc (.cells (cc (cl.getD k default)) 33) = W1 := ⟨_, rfl⟩
          have V := Cv.new wr hwf.len
          have N3 := HN.out.alloc (.cells (cc (cl.getD k default)) 33)
          have B3 := HB.out.alloc HB.out.size (.cells (cc (cl.getD k default)) 33)
          rw [hW1] at V N3 B3
          have hl8 := hwf.len
          have N3 := Lib.hid N3
          have B3 := Lib.hid B3
          obtain ⟨d0, d1, d2, d3⟩ := V.nums
          have dl := V.line
          have VV := Lib.hid V
          clear V hwf
          obtain ⟨L, hL⟩ : ∃ L, cl.length = L := ⟨_, rfl⟩
          rw [hL] at hlt i1 hk ⊢
          have i2 : (k : Int) < (L : Int) := by omega
          generalize cl.getD k default = c at *
          obtain ⟨d, i, nn, l, vv⟩ := c
          dsimp only at hl8 d0 d1 d2 d3 dl
          clear hL
          obtain ⟨ui, hui, _⟩ := u64_nat i
          obtain ⟨q6, hq6⟩ : ∃ n, n = ui % 6 := ⟨_, rfl⟩
          have t6 : (ui : Int).tmod 6 = (q6 : Int) := by have h := tmod_nat ui 6; rw [show ((6 : Nat) : Int) = 6 from rfl] at h; rw [hq6]; omega
          have b6 : q6 < 6 := by omega
          obtain ⟨q35, hq35⟩ : ∃ n, n = ui % 35 := ⟨_, rfl⟩
          have t35 : (ui : Int).tmod 35 = (q35 : Int) := by have h := tmod_nat ui 35; rw [show ((35 : Nat) : Int) = 35 from rfl] at h; rw [hq35]; omega
          have b35 : q35 < 35 := by omega
          have k6 : IntKind.i64.wrap (q6 : Int) = q6 := IntWalk.i64_in _ (by omega)
          have k35 : IntKind.i64.wrap (q35 : Int) = q35 := IntWalk.i64_in _ (by omega)
          clear hq6 hq35
          have E6 := Lib.hid (Nv.putE_dark Q6.out (k := q6) (by rw [Q7.out]; exact b6))
          have E35 := Lib.hid (Nv.setE_dark Q6.out (k := q35) b35)
          have P6 := Lib.hid (Nv.put_dark Q6.out q6 l)
          have P35 := Lib.hid (Nv.set_dark Q6.out q35 vv)
          go_wp2_with fail
          refine (put_is E6.out P6.out hl8 N3.out Q5.out Q8.out).mono ?_; rintro e w4 ⟨rfl, hN, hO, hC⟩
          have N4 := Lib.hid hN
          have B4 := Lib.hid (hC.own B3.out hg'.out)
          have V4 := (VV.out.chg hC (by
            have h1 := HN.out.lt
            simp; omega))
          clear hN hO hC d0 d1 d2 d3 dl
          obtain ⟨d0, d1, d2, d3⟩ := V4.nums
          dsimp only at d0 d1 d2 d3
          clear V4
          go_wp2_with fail
          refine (set_is E35.out P35.out N4.out Q5.out Q8.out).mono ?_; rintro e w5 ⟨rfl, hN, hO, hC⟩
          have N5 := Lib.hid hN
          have B5 := Lib.hid (hC.own B4.out hg'.out)
          clear hN hO hC d0 d1 d2 d3
          go_wp2
          exact ⟨⟨k + 1, by omega, by go_num, Lib.hid ⟨N5.out, B5.out⟩⟩, by simp [intOf]; omega⟩
        · have i2 : ¬ (k : Int) < (cl.length : Int) := by omega
          go_wp2_with fail
          refine (down_is Q6.out HN.out).mono ?_; rintro e w7 ⟨rfl, rfl⟩
          go_wp2_with fail
          refine (writes_is CN.out HN.out).mono ?_; rintro e w7 ⟨rfl, rfl⟩
          go_wp2_with fail
          refine (awake_any _).mono ?_; rintro e w7 ⟨rfl, hb⟩
          have B7 := Lib.hid (below_more HB.out hb)
          go_wp2
          go_ret
          exact ⟨rfl, B7.out⟩

set_option maxRecDepth 100000 in
theorem lifted (os : Os) (started : os.Started) (H : Type) (enc : TypeId × Value → H) :
    ReturnsInHanded {} Try.checked os 8 .any (Rows.nvmNeverSpec.pre6 enc Try.prog Try.f8 Rows.nvmNeverRow.domain false) (Rows.nvmNeverSpec.post enc Try.prog Try.f8 false true false false) := by
  refine returnsInHanded_of_change (C := Try.checked) own started (by kernel_rfl) Try.func8
    (ChangeSpec.witness6 (enc := enc) (C := Try.checked) false ⟨#[], #[.int .i64 0, .slice none 0 0], []⟩ 8 (by kernel_rfl) (by kernel_rfl) (by kernel_rfl) (by kernel_rfl)) ?_
  intro W base args ds gs before hval0 hW hcnd _
  have hval : ∀ (j : Nat) t v, Try.f8.params[j]? = some t → args[j]? = some v → Value.okWide Try.prog W .any base t v := hval0
  have hW' := hW
  have hlt := hW.lt
  obtain ⟨p, q, hA0, hV, hpq, hfz, hnd⟩ := hW
  have hA : DataW.TrodAll enc Try.prog W 0 (fun _ => true) true Try.f8.params.toList args.toList ds p := hA0
  rw [Try.params8] at hA hval
  obtain ⟨v0, vs0, d0, ds0, p0, q0, hargs, rfl, hp, h0, r0⟩ := trodAll_cons hA
  obtain ⟨v1, vs1, d1, ds1, p1, q1, rfl, rfl, rfl, h1, r1⟩ := trodAll_cons r0
  obtain ⟨rfl, rfl, rfl⟩ := trodAll_nil r1
  obtain rfl : args = #[v0, v1] := by cases args; simp_all
  obtain ⟨rfl, rfl⟩ := trodVars_none hV
  have hlt' : ∀ x ∈ before, x.block < W.heap.size := fun x hx => hlt x hx
  obtain ⟨a0, rfl, rfl, rfl, w0⟩ := open_int Try.underlying3 (hval 0 3 v0 rfl rfl) h0
  obtain ⟨l1, w1⟩ := calls_in (hval 1 23 v1 rfl rfl) h1
  refine (walk a0 l1 v1 W w0 w1).mono fun e W' ⟨he, hb⟩ => ?_
  subst he
  exact ⟨_, rfl, law_post rfl (by kernel_rfl) hW' (by rw [Try.params8]; intro t ht; simp only [List.mem_cons, List.not_mem_nil, or_false] at ht; (repeat' (first | (rcases ht with rfl | ht) | subst ht)) <;> exact ⟨by kernel_rfl, of_decide_eq_true (by kernel_rfl)⟩) rfl hb⟩

theorem over : Rows.nvmNeverRow.holds Try.pinned (OpenSpec.ofChange Rows.nvmNeverSpec) :=
  OpenClaim.holds_of_wide 8 Try.f8 rfl rfl rfl rfl rfl rfl rfl ⟨rfl, rfl, rfl, rfl, rfl⟩ rfl rfl rfl rfl rfl (by kernel_rfl) Try.func8 (by kernel_rfl)
    (of_decide_eq_true (by kernel_rfl)) (by unfold Func.isWrapper; first | (rw [if_pos (by decide +kernel)]; kernel_rfl) | (rw [if_neg (by decide +kernel)]; exact ⟨rfl, rfl⟩))
    (fun os started H enc _ => lifted os started H enc)

theorem proved : Rows.NvmNeverSaid := over
end Go.Proofs.Ytomodoofpjgpgaa.nvmNever
