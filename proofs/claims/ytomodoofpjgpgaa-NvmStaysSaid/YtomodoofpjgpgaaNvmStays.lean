/-
  What a line holds stays till it is written; behind a cut in a Put it is what it was, with some words of what was put; registers are one or the other. No conditions.
-/
import Derived.Test.YtomodoofpjgpgaaNvp
import Derived.Test.YtomodoofpjgpgaaCav
import Derived.Deep.RegionHeld3
namespace Go.Proofs.Ytomodoofpjgpgaa.nvmStays
open Go.Proofs.Ytomodoofpjgpgaa Go.ChangeShapes Go.WideShapes Go.ChangeAt Go.RowKit

/-- the memory while others are written -/
structure St (old : List Int) (v : Int) (k : Nat) (s : Nv) : Prop where
  ok : s.Ok
  ln : s.n = 5
  la : ∀ j, j < 5 → s.la j = -1
  h1 : s.h 1 = old
  r3 : s.rg 3 = v
  calm : s.calm
  c : s.c ≤ 2 + (k : Int)
theorem start {old : List Int} (ho : old.length = 8) (v : Int) : ∃ s1 s2, (newNv 5 []).put 1 old = s1 ∧ (newNv 5 []).putE 1 = 0 ∧ s1.set 3 v = s2 ∧ s1.setE 3 = 0 ∧ s1.Ok ∧ s1.c < 4611686018427387904 ∧ St old v 0 s2 := by
  have O0 := newNv_ok (n := 5) (by decide) (by decide) []
  have C0 := newNv_calm 5 []
  have hp := C0.put O0 (k := 1) (by decide) ho
  have he := C0.putE (k := 1) (by decide)
  have O1 := O0.put ho 1
  have C1 := C0.put_ 1 old
  have hw : (newNv 5 []).worn 1 = false := by decide
  rw [hw] at hp he
  have e : (newNv 5 []).put ((1 : Nat) : Int) old = (newNv 5 []).put 1 old := rfl
  rw [e] at hp
  have hs := C1.set (k := 3) (by decide) v
  have hse := C1.setE (k := 3) (by decide)
  have O2 := O1.set 3 v
  have C2 := C1.set_ 3 v
  have e2 : ((newNv 5 []).put 1 old).set ((3 : Nat) : Int) v = ((newNv 5 []).put 1 old).set 3 v := rfl
  rw [e2] at hs
  refine ⟨_, _, rfl, he, rfl, hse, O1, by rw [hp]; simp [newNv], O2, ?_, ?_, ?_, ?_, C2, ?_⟩
  · rw [Nv.set_n, Nv.put_n]; rfl
  · intro j hj
    rw [Nv.set_la, Nv.put_la]; simp [newNv, hj]
  · rw [Nv.set_h, hp]; simp [upd]
  · rw [hs]; simp [upd]
  · rw [hs, hp]; simp [newNv]
theorem St.put {old : List Int} {v : Int} {k : Nat} {s : Nv} (h : St old v k s) {i : Int} (hi : i ≠ 1) {l : List Int} (hl : l.length = 8) : St old v (k + 1) (s.put i l) :=
  ⟨h.ok.put hl i, (s.put_n _ _).trans h.ln, fun j hj => by rw [s.put_la]; exact h.la j hj, (s.put_h i l (k := 1) hi).trans h.h1, by rw [s.put_rg]; exact h.r3, h.calm.put_ i l, by have := s.put_c i l; have := h.c; omega⟩
theorem St.set {old : List Int} {v : Int} {k : Nat} {s : Nv} (h : St old v k s) {i : Int} (hi : i ≠ 3) (x : Int) : St old v (k + 1) (s.set i x) :=
  ⟨h.ok.set i x, (s.set_n _ _).trans h.ln, fun j hj => by rw [s.set_la]; exact h.la j hj, by rw [s.set_h]; exact h.h1, (s.set_rg i x (k := 3) hi).trans h.r3, h.calm.set_ i x, by have := s.set_c i x; have := h.c; omega⟩
theorem St.more {old : List Int} {v : Int} {k : Nat} {s : Nv} (h : St old v k s) : St old v (k + 1) s := ⟨h.ok, h.ln, h.la, h.h1, h.r3, h.calm, by have := h.c; omega⟩
theorem St.get {old : List Int} {v : Int} {k : Nat} {s : Nv} (h : St old v k s) : s.get 1 = old ∧ s.rdy (s.has 1) = 0 ∧ s.rd 3 = v ∧ s.rdy (hasR 3) = 0 := by
  have h1 : s.rdy (s.has 1) = 0 := h.calm.rdy (Nv.has_of (k := 1) (by rw [h.ln]; decide))
  have h2 : s.rdy (hasR 3) = 0 := h.calm.rdy rfl
  refine ⟨?_, h1, ?_, h2⟩
  · simp only [Nv.get, h1, if_true]; exact h.h1
  · simp only [Nv.rd, h2, if_true]; exact h.r3
/-- the two cuts -/
theorem St.cuts {old now : List Int} {v : Int} {k : Nat} {s : Nv} (h : St old v k s) (hk : k ≤ 1000) (m x : Int) :
    ∃ s1 s2 s3 s4 s5 s6 : Nv, ∃ z : List Int, s.cutAt 0 m = s1 ∧ s1.Ok ∧ s1.c < 4611686018427387904 ∧ s1.put 1 now = s2 ∧ s1.putE 1 = 2 ∧ s2.get 1 = z ∧ z.length = 8 ∧ s2.rdy (s2.has 1) = 2 ∧ s2.power = s3 ∧ s3.get 1 = mix old now m ∧ s3.rdy (s3.has 1) = 0 ∧
      s3.cutAt 0 m = s4 ∧ s4.c < 4611686018427387904 ∧ s4.set 3 x = s5 ∧ s4.setE 3 = 2 ∧ s5.power = s6 ∧ s6.rd 3 = (if m % 2 = 1 then x else v) ∧ s6.rdy (hasR 3) = 0 := by
  have hc := h.c
  have hd1 : (s.cutAt 0 m).dark = false := h.calm.1
  have hg1 : (s.cutAt 0 m).goes = true := by simp [Nv.goes, Nv.cutAt]
  have hb1 : (s.cutAt 0 m).by_ = m := by simp [Nv.by_, hg1]; rfl
  have ht1 : (s.cutAt 0 m).told = 2 := by simp [Nv.told, hg1]
  have hw1 : (s.cutAt 0 m).worn 1 = false := by
    show (decide (0 ≤ s.la 1) && _) = false
    rw [h.la 1 (by decide)]; rfl
  obtain ⟨p1, p2⟩ := Nv.put_live hd1 (k := 1) (by show 1 < s.n; rw [h.ln]; decide) hw1 now
  rw [ht1] at p2
  rw [hb1] at p1
  have ep : (s.cutAt 0 m).put ((1 : Nat) : Int) now = (s.cutAt 0 m).put 1 now := rfl
  rw [ep] at p1
  have hd2 : ((s.cutAt 0 m).put 1 now).dark = true := by rw [p1]; show (_ || _) = true; rw [hg1]; simp
  have hn2 : ((s.cutAt 0 m).put 1 now).n = 5 := (Nv.put_n _ _ _).trans h.ln
  have hh2 : ((s.cutAt 0 m).put 1 now).h 1 = mix old now m := by
    rw [p1]
    show upd s.h 1 (mix (s.h 1) now m) 1 = _
    rw [upd_same, h.h1]
  have hr2 : ((s.cutAt 0 m).put 1 now).rg 3 = v := by rw [Nv.put_rg]; exact h.r3
  have hc2 := (s.cutAt 0 m).put_c 1 now
  have hc3 : (s.cutAt 0 m).c = s.c := rfl
  generalize hs2 : (s.cutAt 0 m).put 1 now = s2 at *
  have hb2 : s2.has 1 = true := Nv.has_of (k := 1) (by rw [hn2]; decide)
  have g3 : s2.power.rdy (s2.power.has 1) = 0 := by
    have hb : s2.power.has 1 = true := Nv.has_of (k := 1) (by show 1 < s2.n; rw [hn2]; decide)
    simp [Nv.rdy, hb]; rfl
  have hx4 : s2.power.rdy (hasR 3) = 0 := rfl
  have hg4 : (s2.power.cutAt 0 m).goes = true := by simp [Nv.goes, Nv.cutAt]
  have hb4 : (s2.power.cutAt 0 m).by_ = m := by simp [Nv.by_, hg4]; rfl
  have hr4 : (s2.power.cutAt 0 m).rdy (hasR 3) = 0 := rfl
  have c4 : (s2.power.cutAt 0 m).c = s2.c := rfl
  have r4 : (s2.power.cutAt 0 m).rg 3 = v := hr2
  refine ⟨_, s2, _, _, _, _, zeros, rfl, h.ok.cutAt (by decide) m, ?_, hs2, p2, ?_, rfl, ?_, rfl, ?_, g3, rfl, ?_, rfl, ?_, rfl, ?_, rfl⟩
  · rw [hc3]; omega
  · have : s2.rdy (s2.has 1) = 2 := by simp [Nv.rdy, hb2, hd2]
    simp [Nv.get, this]
  · simp [Nv.rdy, hb2, hd2]
  · simp only [Nv.get, g3, if_true]; exact hh2
  · rw [c4]; omega
  · simp [Nv.setE, hr4, Nv.told, hg4]
  · have hr6 : ((s2.power.cutAt 0 m).set 3 x).power.rdy (hasR 3) = 0 := rfl
    simp only [Nv.rd, hr6, if_true]
    show ((s2.power.cutAt 0 m).set 3 x).rg 3 = _
    unfold Nv.set
    rw [hr4, hb4]
    by_cases hm : m % 2 = 1
    · simp only [hm, if_true]
      show upd (s2.power.cutAt 0 m).tick.rg 3 x 3 = x
      exact upd_same _ _ _
    · simp only [hm, if_true, if_false]; exact r4

set_option maxRecDepth 100000 in
set_option maxHeartbeats 4000000 in
theorem walk (old now : List Int) (v x m : Int) (cl : List Cl) (cv : Value) (w : World) (ho : old.length = 8) (_ : wfu old) (hn : now.length = 8) (_ : wfu now) (_ : (Lit.int .u64 v).wf = true) (_ : (Lit.int .u64 x).wf = true) (_ : (Lit.int .i64 m).wf = true) (hcl : RC w cv cl) :
    Calls Try.prog 5 #[.agg (lc old), .agg (lc now), .int .u64 v, .int .u64 x, .int .i64 m, cv] w fun e w' => e = .returned (.bool true) ∧ Below w.heap.size w w' := by
  obtain ⟨W, hW, H⟩ := boxed2 w ho hn
  have HC := Lib.hid (rc_below hcl H.out.2.2)
  obtain ⟨p, cap, rfl, hlc, _⟩ := rc_shape hcl
  clear hcl hlc
  by_cases hlen : 100 < cl.length
  · have i1 : (100 : Int) < (cl.length : Int) := by omega
    generalize cl.length = L at *
    go_enter Try.func5, Try.ntmps5
    go_wp2_with fail
    refine (awake_any _).mono ?_; rintro e w1 ⟨rfl, hb⟩
    have B1 := Lib.hid (below_more H.out.2.2 hb)
    go_wp2
    go_ret
    exact ⟨rfl, B1.out⟩
  have i1 : ¬ (100 : Int) < (cl.length : Int) := by omega
  obtain ⟨s1, s2, f1, f2, f3, f4, f5, f6, f7⟩ := start ho v
  have F1 := Lib.hid f1; have F2 := Lib.hid f2; have F3 := Lib.hid f3; have F4 := Lib.hid f4; have F5 := Lib.hid f5; have F6 := Lib.hid f6; have F7 := Lib.hid f7
  clear f1 f2 f3 f4 f5 f6 f7
  obtain ⟨s0, e0⟩ : ∃ s0, newNv 5 [] = s0 := ⟨_, rfl⟩
  have O0 : Hid (s0.Ok ∧ s0.c < 4611686018427387904) := Lib.hid (by rw [← e0]; exact ⟨newNv_ok (by decide) (by decide) _, by decide⟩)
  rw [e0] at F1 F2
  have E0 := Lib.hid e0
  clear e0
  have l0 := H.out.1.load
  go_enter Try.func5, Try.ntmps5
  go_wp2_with fail
  refine (new_yes 5 _ [] _ (by decide) (by decide) (ri_nil W)).mono ?_; rintro e w1 ⟨g, rfl, hg, hN, hb⟩
  rw [E0.out] at hN
  have hg' : Hid (W.heap.size ≤ g) := Lib.hid hg
  have N0 := Lib.hid hN
  have B1 := Lib.hid hb
  clear hN hg hb l0
  have l0 := (H.out.1.below B1.out).load
  go_wp2_with fail
  refine (put_is F2.out F1.out ho N0.out O0.out.1 O0.out.2).mono ?_; rintro e w2 ⟨rfl, hN, hO, hC⟩
  have N1 := Lib.hid hN
  have B2 := Lib.hid (hC.own B1.out hg'.out)
  clear hN hO hC l0
  go_wp2_with fail
  refine (set_is F4.out F3.out N1.out F5.out F6.out).mono ?_; rintro e w3 ⟨rfl, hN, hO, hC⟩
  have N2 := Lib.hid hN
  have B3 := Lib.hid (hC.own B2.out hg'.out)
  clear hN hO hC N0 N1
  go_wp2
  go_loopw [45] (fun i wr => ∃ k : Nat, k ≤ cl.length ∧ i = .int .i64 k ∧ Hid (∃ s, Nm wr g s ∧ St old v k s ∧ Below W.heap.size W wr)) (fun i _ => cl.length - (intOf i).toNat)
  case atStart => exact ⟨0, by omega, rfl, Lib.hid ⟨_, N2.out, F7.out, B3.out⟩⟩
  case round =>
    obtain ⟨k, hk, rfl, HR⟩ := hrel
    obtain ⟨s, hN, hA, hB⟩ := HR.out
    have HN := Lib.hid hN
    have HA := Lib.hid hA
    have HB := Lib.hid hB
    clear hN hA hB HR N2 B1 B2 B3 F1 F2 F3 F4 F5 F6 F7 O0 E0
    have C0 : Hid (s.c < 4611686018427387904) := Lib.hid (by have := HA.out.c; omega)
    by_cases hlt : k < cl.length
    · obtain ⟨b, off, rfl, _, hcld, hwf⟩ := rc_at (rc_below HC.out HB.out) hlt
      obtain ⟨W1, hW1⟩ : ∃ W1, wr.alloc (.cells (cc (cl.getD k default)) 33) = W1 := ⟨_, rfl⟩
      have V := Cv.new wr hwf.len
      have N3 := HN.out.alloc (.cells (cc (cl.getD k default)) 33)
      have B3 := HB.out.alloc HB.out.size (.cells (cc (cl.getD k default)) 33)
      rw [hW1] at V N3 B3
      have hl8 := hwf.len
      have N3 := Lib.hid N3
      have B3 := Lib.hid B3
      obtain ⟨d0, d1, d2, d3⟩ := V.nums
      have dl := V.line
      clear V hwf
      obtain ⟨L, hL⟩ : ∃ L, cl.length = L := ⟨_, rfl⟩
      rw [hL] at hlt i1 hk ⊢
      have i2 : (k : Int) < (L : Int) := by omega
      generalize cl.getD k default = c at *
      obtain ⟨d, i, nn, l, vv⟩ := c
      dsimp only at hl8 d0 d1 d2 d3 dl
      clear hL
      have DD : (d = 0 ∧ i ≠ 1) ∨ (d = 0 ∧ i = 1) ∨ (d = 1 ∧ i ≠ 3) ∨ (d = 1 ∧ i = 3) ∨ (d ≠ 0 ∧ d ≠ 1) := by omega
      rcases DD with ⟨rfl, h1⟩ | ⟨rfl, rfl⟩ | ⟨rfl, h1⟩ | ⟨rfl, rfl⟩ | ⟨h1, h2⟩
      · have t0 : (i != 1) = true := by simpa using h1
        go_wp2_with fail
        refine (put_is rfl rfl hl8 N3.out HA.out.ok C0.out).mono ?_; rintro e w4 ⟨rfl, hN, hO, hC⟩
        have N4 := Lib.hid hN
        have B4 := Lib.hid (hC.own B3.out hg'.out)
        clear hN hO hC d0 d1 d2 d3 dl
        have A := Lib.hid (HA.out.put h1 hl8)
        obtain ⟨g1, g2, g3, g4⟩ := A.out.get
        have G1 := Lib.hid g1; have G2 := Lib.hid g2; have G3 := Lib.hid g3; have G4 := Lib.hid g4
        clear g1 g2 g3 g4
        go_wp2_with fail
        refine (get_is G1.out G2.out N4.out A.out.ok).mono ?_; rintro e w5 ⟨rfl, hb⟩
        obtain ⟨W5, hW5, H5⟩ := boxed1 w5 (a := old) ho
        have N5 := Lib.hid ((N4.out.below hb).below H5.out.2)
        have B5 := Lib.hid (below_more (below_more B4.out hb) H5.out.2)
        clear hb
        go_wp2_with fail
        refine (reg_is G3.out G4.out N5.out).mono ?_; rintro e w6 ⟨rfl, rfl⟩
        have l1 := (H.out.1.below B5.out).load
        have l2 := H5.out.1.load
        go_wp2
        exact ⟨⟨k + 1, by omega, by go_num, Lib.hid ⟨_, N5.out, A.out, B5.out⟩⟩, by simp [intOf]; omega⟩
      · skip
        have N4 := N3
        have B4 := B3
        have A := Lib.hid HA.out.more
        obtain ⟨g1, g2, g3, g4⟩ := A.out.get
        have G1 := Lib.hid g1; have G2 := Lib.hid g2; have G3 := Lib.hid g3; have G4 := Lib.hid g4
        clear g1 g2 g3 g4
        go_wp2_with fail
        refine (get_is G1.out G2.out N4.out A.out.ok).mono ?_; rintro e w5 ⟨rfl, hb⟩
        obtain ⟨W5, hW5, H5⟩ := boxed1 w5 (a := old) ho
        have N5 := Lib.hid ((N4.out.below hb).below H5.out.2)
        have B5 := Lib.hid (below_more (below_more B4.out hb) H5.out.2)
        clear hb
        go_wp2_with fail
        refine (reg_is G3.out G4.out N5.out).mono ?_; rintro e w6 ⟨rfl, rfl⟩
        have l1 := (H.out.1.below B5.out).load
        have l2 := H5.out.1.load
        go_wp2
        exact ⟨⟨k + 1, by omega, by go_num, Lib.hid ⟨_, N5.out, A.out, B5.out⟩⟩, by simp [intOf]; omega⟩
      · have t0 : (i != 3) = true := by simpa using h1
        go_wp2_with fail
        refine (set_is rfl rfl N3.out HA.out.ok C0.out).mono ?_; rintro e w4 ⟨rfl, hN, hO, hC⟩
        have N4 := Lib.hid hN
        have B4 := Lib.hid (hC.own B3.out hg'.out)
        clear hN hO hC d0 d1 d2 d3 dl
        have A := Lib.hid (HA.out.set h1 vv)
        obtain ⟨g1, g2, g3, g4⟩ := A.out.get
        have G1 := Lib.hid g1; have G2 := Lib.hid g2; have G3 := Lib.hid g3; have G4 := Lib.hid g4
        clear g1 g2 g3 g4
        go_wp2_with fail
        refine (get_is G1.out G2.out N4.out A.out.ok).mono ?_; rintro e w5 ⟨rfl, hb⟩
        obtain ⟨W5, hW5, H5⟩ := boxed1 w5 (a := old) ho
        have N5 := Lib.hid ((N4.out.below hb).below H5.out.2)
        have B5 := Lib.hid (below_more (below_more B4.out hb) H5.out.2)
        clear hb
        go_wp2_with fail
        refine (reg_is G3.out G4.out N5.out).mono ?_; rintro e w6 ⟨rfl, rfl⟩
        have l1 := (H.out.1.below B5.out).load
        have l2 := H5.out.1.load
        go_wp2
        exact ⟨⟨k + 1, by omega, by go_num, Lib.hid ⟨_, N5.out, A.out, B5.out⟩⟩, by simp [intOf]; omega⟩
      · skip
        have N4 := N3
        have B4 := B3
        have A := Lib.hid HA.out.more
        obtain ⟨g1, g2, g3, g4⟩ := A.out.get
        have G1 := Lib.hid g1; have G2 := Lib.hid g2; have G3 := Lib.hid g3; have G4 := Lib.hid g4
        clear g1 g2 g3 g4
        go_wp2_with fail
        refine (get_is G1.out G2.out N4.out A.out.ok).mono ?_; rintro e w5 ⟨rfl, hb⟩
        obtain ⟨W5, hW5, H5⟩ := boxed1 w5 (a := old) ho
        have N5 := Lib.hid ((N4.out.below hb).below H5.out.2)
        have B5 := Lib.hid (below_more (below_more B4.out hb) H5.out.2)
        clear hb
        go_wp2_with fail
        refine (reg_is G3.out G4.out N5.out).mono ?_; rintro e w6 ⟨rfl, rfl⟩
        have l1 := (H.out.1.below B5.out).load
        have l2 := H5.out.1.load
        go_wp2
        exact ⟨⟨k + 1, by omega, by go_num, Lib.hid ⟨_, N5.out, A.out, B5.out⟩⟩, by simp [intOf]; omega⟩
      · have t0 : (d == 0) = false := by simpa using h1
        have t1 : (d == 1) = false := by simpa using h2
        have N4 := N3
        have B4 := B3
        have A := Lib.hid HA.out.more
        obtain ⟨g1, g2, g3, g4⟩ := A.out.get
        have G1 := Lib.hid g1; have G2 := Lib.hid g2; have G3 := Lib.hid g3; have G4 := Lib.hid g4
        clear g1 g2 g3 g4
        go_wp2_with fail
        refine (get_is G1.out G2.out N4.out A.out.ok).mono ?_; rintro e w5 ⟨rfl, hb⟩
        obtain ⟨W5, hW5, H5⟩ := boxed1 w5 (a := old) ho
        have N5 := Lib.hid ((N4.out.below hb).below H5.out.2)
        have B5 := Lib.hid (below_more (below_more B4.out hb) H5.out.2)
        clear hb
        go_wp2_with fail
        refine (reg_is G3.out G4.out N5.out).mono ?_; rintro e w6 ⟨rfl, rfl⟩
        have l1 := (H.out.1.below B5.out).load
        have l2 := H5.out.1.load
        go_wp2
        exact ⟨⟨k + 1, by omega, by go_num, Lib.hid ⟨_, N5.out, A.out, B5.out⟩⟩, by simp [intOf]; omega⟩
    · obtain ⟨s1, s2, s3, s4, s5, s6, z, q1, q2, q3, q4, q5, q6, q7, q8, q9, q10, q11, q12, q13, q14, q15, q16, q17, q18⟩ := HA.out.cuts (now := now) (by omega) m x
      have Q1 := Lib.hid q1; have Q2 := Lib.hid q2; have Q3 := Lib.hid q3; have Q4 := Lib.hid q4; have Q5 := Lib.hid q5; have Q6 := Lib.hid q6; have Q7 := Lib.hid q7; have Q8 := Lib.hid q8; have Q9 := Lib.hid q9
      have Q10 := Lib.hid q10; have Q11 := Lib.hid q11; have Q12 := Lib.hid q12; have Q13 := Lib.hid q13; have Q14 := Lib.hid q14; have Q15 := Lib.hid q15; have Q16 := Lib.hid q16; have Q17 := Lib.hid q17; have Q18 := Lib.hid q18
      clear q1 q2 q3 q4 q5 q6 q7 q8 q9 q10 q11 q12 q13 q14 q15 q16 q17 q18
      have i2 : ¬ (k : Int) < (cl.length : Int) := by omega
      generalize cl.length = L at *
      go_wp2_with fail
      refine (cut_is Q1.out HN.out HA.out.ok (by decide)).mono ?_; rintro e w4 ⟨rfl, hN, hO, hC⟩
      have N1 := Lib.hid hN
      have B1 := Lib.hid (hC.own HB.out hg'.out)
      clear hN hO hC
      have l1 := (H.out.2.1.below B1.out).load
      go_wp2_with fail
      refine (put_is Q5.out Q4.out hn N1.out Q2.out Q3.out).mono ?_; rintro e w5 ⟨rfl, hN, hO, hC⟩
      have N2 := Lib.hid hN
      have O2 := Lib.hid hO
      have B2 := Lib.hid (hC.own B1.out hg'.out)
      clear hN hO hC l1
      go_wp2_with fail
      refine (get_is Q6.out Q8.out N2.out O2.out).mono ?_; rintro e w6 ⟨rfl, hb⟩
      obtain ⟨W6, hW6, H6⟩ := boxed1 w6 Q7.out
      have N3 := Lib.hid ((N2.out.below hb).below H6.out.2)
      have B3 := Lib.hid (below_more (below_more B2.out hb) H6.out.2)
      have hz := Q7.out
      clear hb
      go_wp2_with fail
      refine (power_is Q9.out N3.out O2.out).mono ?_; rintro e w7 ⟨rfl, hN, hO, hC⟩
      have N4 := Lib.hid hN
      have O4 := Lib.hid hO
      have B4 := Lib.hid (hC.own B3.out hg'.out)
      clear hN hO hC
      have hmx : (mix old now m).length = 8 := by rw [mix_length _ _ _ (by omega)]; exact ho
      have CM := Lib.hid (could_mix old now m (by omega))
      obtain ⟨a, ea⟩ : ∃ a, mix old now m = a := ⟨_, rfl⟩
      rw [ea] at Q10 hmx CM
      have CX := Lib.hid (fun w => mix_is (m := m) ea w ho hn)
      have CC := Lib.hid (fun w => could_is CM.out w ho hn hmx)
      clear ea
      go_wp2_with fail
      refine (get_is Q10.out Q11.out N4.out O4.out).mono ?_; rintro e w8 ⟨rfl, hb⟩
      obtain ⟨W8, hW8, H8⟩ := boxed1 w8 hmx
      have N5 := Lib.hid ((N4.out.below hb).below H8.out.2)
      have B5 := Lib.hid (below_more (below_more B4.out hb) H8.out.2)
      have hne : Hid (g ≠ w8.heap.size) := Lib.hid (Nat.ne_of_lt (N4.out.below hb).lt)
      clear hb
      go_wp2_with fail
      refine (cut_is Q12.out N5.out O4.out (by decide)).mono ?_; rintro e w9 ⟨rfl, hN, hO, hC⟩
      have N6 := Lib.hid hN
      have O6 := Lib.hid hO
      have B6 := Lib.hid (hC.own B5.out hg'.out)
      have L6 := Lib.hid (hC.ln H8.out.1 (by simp; exact fun e => hne.out e.symm))
      clear hN hO hC
      go_wp2_with fail
      refine (set_is Q15.out Q14.out N6.out O6.out Q13.out).mono ?_; rintro e w10 ⟨rfl, hN, hO, hC⟩
      have N7 := Lib.hid hN
      have O7 := Lib.hid hO
      have B7 := Lib.hid (hC.own B6.out hg'.out)
      have L7 := Lib.hid (hC.ln L6.out (by simp; exact fun e => hne.out e.symm))
      clear hN hO hC
      go_wp2_with fail
      refine (power_is Q16.out N7.out O7.out).mono ?_; rintro e w11 ⟨rfl, hN, hO, hC⟩
      have N8 := Lib.hid hN
      have B8 := Lib.hid (hC.own B7.out hg'.out)
      have L8 := Lib.hid (hC.ln L7.out (by simp; exact fun e => hne.out e.symm))
      clear hN hO hC
      go_wp2_with fail
      refine (reg_is Q17.out Q18.out N8.out).mono ?_; rintro e w12 ⟨rfl, rfl⟩
      have l0 := (H.out.1.below B8.out).later
      have l1 := (H.out.2.1.below B8.out).later
      have l2 := L8.out.later
      have BF := Lib.hid (below_more H.out.2.2 B8.out)
      have DM : (m % 2 = 1 ∧ (if m % 2 = 1 then x else v) = x) ∨ (m % 2 = 0 ∧ (if m % 2 = 1 then x else v) = v) := by
        by_cases hm : m % 2 = 1
        · exact .inl ⟨hm, if_pos hm⟩
        · exact .inr ⟨by omega, if_neg hm⟩
      generalize (if m % 2 = 1 then x else v) = y at *
      rcases DM with ⟨hm, rfl⟩ | ⟨hm, rfl⟩
      · go_wp2
        refine wp_region_held_drew (S := fun w' => Below w11.heap.size w11 w') (by kernel_rfl) ((Below.refl _ _).drew) (fun hHeld => ?_)
        refine wpAnyH_take (i := 0) (oi := ⟨some 129, _, _, _, _, _⟩) (v := ?_) rfl (by kernel_rfl) (by kernel_rfl) (by kernel_rfl) (fun _ _ _ h => h) (Or.inl ⟨by rfl, ?_⟩) (by assumption) ?_
        rotate_left
        focus (intro w hSw; (try dsimp only at hSw); go_simp; try with_reducible rfl)
        try simp only [Act.put, List.setIfInBounds_toArray, List.set_cons_zero, List.set_cons_succ]
        refine wpAnyH_take (i := 1) (oi := ⟨some 130, _, _, _, _, _⟩) (v := ?_) rfl (by kernel_rfl) (by kernel_rfl) (by kernel_rfl) (fun _ _ _ h => h) (Or.inl ⟨by rfl, ?_⟩) (by assumption) ?_
        rotate_left
        focus (intro w hSw; (try dsimp only at hSw); go_simp; try with_reducible rfl)
        try simp only [Act.put, List.setIfInBounds_toArray, List.set_cons_zero, List.set_cons_succ]
        refine wpAnyH_take (i := 2) (oi := ⟨some 131, _, _, _, _, _⟩) (v := ?_) rfl (by kernel_rfl) (by kernel_rfl) (by kernel_rfl) (fun _ _ _ h => h) (Or.inl ⟨by rfl, ?_⟩) (by assumption) ?_
        rotate_left
        focus (intro w hSw; (try dsimp only at hSw); go_simp; try with_reducible rfl)
        try simp only [Act.put, List.setIfInBounds_toArray, List.set_cons_zero, List.set_cons_succ]
        refine wpAnyH_take (i := 3) (oi := ⟨some 132, _, _, _, _, _⟩) (v := ?_) rfl (by kernel_rfl) (by kernel_rfl) (by kernel_rfl) (fun _ _ _ h => h) (Or.inl ⟨by rfl, ?_⟩) (by assumption) ?_
        rotate_left
        focus (intro w hSw; (try dsimp only at hSw); go_simp; try with_reducible rfl)
        try simp only [Act.put, List.setIfInBounds_toArray, List.set_cons_zero, List.set_cons_succ]
        refine wpAnyH_take (i := 4) (oi := ⟨some 133, _, _, _, _, _⟩) (v := ?_) rfl (by kernel_rfl) (by kernel_rfl) (by kernel_rfl) (fun _ _ _ h => h) (Or.inl ⟨by rfl, ?_⟩) (by assumption) ?_
        rotate_left
        focus (intro w hSw; (try dsimp only at hSw); go_simp; try with_reducible rfl)
        try simp only [Act.put, List.setIfInBounds_toArray, List.set_cons_zero, List.set_cons_succ]
        refine wpAnyH_take (i := 5) (oi := ⟨some 134, _, _, _, _, _⟩) (v := ?_) rfl (by kernel_rfl) (by kernel_rfl) (by kernel_rfl) (fun _ _ _ h => h) (Or.inl ⟨by rfl, ?_⟩) (by assumption) ?_
        rotate_left
        focus (intro w hSw; (try dsimp only at hSw); go_simp; try with_reducible rfl)
        try simp only [Act.put, List.setIfInBounds_toArray, List.set_cons_zero, List.set_cons_succ]
        refine wpAnyH_take (i := 6) (oi := ⟨some 135, _, _, _, _, _⟩) (v := ?_) rfl (by kernel_rfl) (by kernel_rfl) (by kernel_rfl) (fun _ _ _ h => h) (Or.inl ⟨by rfl, ?_⟩) (by assumption) ?_
        rotate_left
        focus (intro w hSw; (try dsimp only at hSw); go_simp; try with_reducible rfl)
        try simp only [Act.put, List.setIfInBounds_toArray, List.set_cons_zero, List.set_cons_succ]
        refine wpAnyH_take (i := 7) (oi := ⟨some 136, _, _, _, _, _⟩) (v := ?_) rfl (by kernel_rfl) (by kernel_rfl) (by kernel_rfl) (fun _ _ _ h => h) (Or.inl ⟨by rfl, ?_⟩) (by assumption) ?_
        rotate_left
        focus (intro w hSw; (try dsimp only at hSw); go_simp; try with_reducible rfl)
        try simp only [Act.put, List.setIfInBounds_toArray, List.set_cons_zero, List.set_cons_succ]
        refine wpAnyH_take (i := 8) (oi := ⟨some 137, _, _, _, _, _⟩) (v := ?_) rfl (by kernel_rfl) (by kernel_rfl) (by kernel_rfl) (fun _ _ _ h => h) (Or.inl ⟨by rfl, ?_⟩) (by assumption) ?_
        rotate_left
        focus (intro w hSw; (try dsimp only at hSw); go_simp; try with_reducible rfl)
        try simp only [Act.put, List.setIfInBounds_toArray, List.set_cons_zero, List.set_cons_succ]
        refine wpAnyH_take (i := 9) (oi := ⟨some 138, _, _, _, _, _⟩) (v := ?_) rfl (by kernel_rfl) (by kernel_rfl) (by kernel_rfl) (fun _ _ _ h => h) (Or.inl ⟨by rfl, ?_⟩) (by assumption) ?_
        rotate_left
        focus (intro w hSw; (try dsimp only at hSw); go_simp; try with_reducible rfl)
        try simp only [Act.put, List.setIfInBounds_toArray, List.set_cons_zero, List.set_cons_succ]
        refine wpAnyH_take (i := 10) (oi := ⟨some 139, _, _, _, _, _⟩) (v := ?_) rfl (by kernel_rfl) (by kernel_rfl) (by kernel_rfl) (fun _ _ _ h => h) (Or.inl ⟨by rfl, ?_⟩) (by assumption) ?_
        rotate_left
        focus (intro w hSw; (try dsimp only at hSw); go_simp; try with_reducible rfl)
        try simp only [Act.put, List.setIfInBounds_toArray, List.set_cons_zero, List.set_cons_succ]
        refine wpAnyH_take (i := 11) (oi := ⟨some 140, _, _, _, _, _⟩) (v := ?_) rfl (by kernel_rfl) (by kernel_rfl) (by kernel_rfl) (fun _ _ _ h => h) (Or.inl ⟨by rfl, ?_⟩) (by assumption) ?_
        rotate_left
        focus (intro w hSw; (try dsimp only at hSw); go_simp; try with_reducible rfl)
        try simp only [Act.put, List.setIfInBounds_toArray, List.set_cons_zero, List.set_cons_succ]
        refine wpAnyH_take (i := 12) (oi := ⟨some 141, _, _, _, _, _⟩) (v := ?_) rfl (by kernel_rfl) (by kernel_rfl) (by kernel_rfl) (fun _ _ _ h => h) (Or.inl ⟨by rfl, ?_⟩) (by assumption) ?_
        rotate_left
        focus (intro w hSw; (try dsimp only at hSw); go_simp; try with_reducible rfl)
        try simp only [Act.put, List.setIfInBounds_toArray, List.set_cons_zero, List.set_cons_succ]
        refine wpAnyH_take (i := 13) (oi := ⟨some 142, _, _, _, _, _⟩) (v := ?_) rfl (by kernel_rfl) (by kernel_rfl) (by kernel_rfl) (fun _ _ _ h => h) (Or.inl ⟨by rfl, ?_⟩) (by assumption) ?_
        rotate_left
        focus (intro w hSw; (try dsimp only at hSw); go_simp; try with_reducible rfl)
        try simp only [Act.put, List.setIfInBounds_toArray, List.set_cons_zero, List.set_cons_succ]
        refine wpAnyH_ready (rs := [14]) (by kernel_rfl) (by simp) ?_
        refine AllReadyH.cons (o := ⟨some 143, _, _, _, _, _⟩) rfl (fun K hK => ?_) AllReadyH.nil
        go_simp
        go_at_call 28; refine (CC.out _).mono ?_; rintro e wa ⟨rfl, hbq⟩
        refine hK.out _ _ ?_ (fun hHeld => ?_)
        focus (exact below_more (by assumption) hbq)
        clear hK K hbq
        try simp only [Act.put, List.setIfInBounds_toArray, List.set_cons_zero, List.set_cons_succ]
        refine wpAnyH_take (i := 15) (oi := ⟨some 144, _, _, _, _, _⟩) (v := ?_) rfl (by kernel_rfl) (by kernel_rfl) (by kernel_rfl) (fun _ _ _ h => h) (Or.inl ⟨by rfl, ?_⟩) (by assumption) ?_
        rotate_left
        focus (intro w hSw; (try dsimp only at hSw); go_simp; try with_reducible rfl)
        try simp only [Act.put, List.setIfInBounds_toArray, List.set_cons_zero, List.set_cons_succ]
        refine wpAnyH_take (i := 16) (oi := ⟨some 145, _, _, _, _, _⟩) (v := ?_) rfl (by kernel_rfl) (by kernel_rfl) (by kernel_rfl) (fun _ _ _ h => h) (Or.inl ⟨by rfl, ?_⟩) (by assumption) ?_
        rotate_left
        focus (intro w hSw; (try dsimp only at hSw); go_simp; try with_reducible rfl)
        try simp only [Act.put, List.setIfInBounds_toArray, List.set_cons_zero, List.set_cons_succ]
        refine wpAnyH_take (i := 17) (oi := ⟨some 146, _, _, _, _, _⟩) (v := ?_) rfl (by kernel_rfl) (by kernel_rfl) (by kernel_rfl) (fun _ _ _ h => h) (Or.inl ⟨by rfl, ?_⟩) (by assumption) ?_
        rotate_left
        focus (intro w hSw; (try dsimp only at hSw); go_simp; try with_reducible rfl)
        try simp only [Act.put, List.setIfInBounds_toArray, List.set_cons_zero, List.set_cons_succ]
        refine wpAnyH_take (i := 18) (oi := ⟨some 147, _, _, _, _, _⟩) (v := ?_) rfl (by kernel_rfl) (by kernel_rfl) (by kernel_rfl) (fun _ _ _ h => h) (Or.inl ⟨by rfl, ?_⟩) (by assumption) ?_
        rotate_left
        focus (intro w hSw; (try dsimp only at hSw); go_simp; try with_reducible rfl)
        try simp only [Act.put, List.setIfInBounds_toArray, List.set_cons_zero, List.set_cons_succ]
        refine wpAnyH_take (i := 19) (oi := ⟨some 148, _, _, _, _, _⟩) (v := ?_) rfl (by kernel_rfl) (by kernel_rfl) (by kernel_rfl) (fun _ _ _ h => h) (Or.inl ⟨by rfl, ?_⟩) (by assumption) ?_
        rotate_left
        focus (intro w hSw; (try dsimp only at hSw); go_simp; try with_reducible rfl)
        try simp only [Act.put, List.setIfInBounds_toArray, List.set_cons_zero, List.set_cons_succ]
        refine wpAnyH_take (i := 20) (oi := ⟨some 149, _, _, _, _, _⟩) (v := ?_) rfl (by kernel_rfl) (by kernel_rfl) (by kernel_rfl) (fun _ _ _ h => h) (Or.inl ⟨by rfl, ?_⟩) (by assumption) ?_
        rotate_left
        focus (intro w hSw; (try dsimp only at hSw); go_simp; try with_reducible rfl)
        try simp only [Act.put, List.setIfInBounds_toArray, List.set_cons_zero, List.set_cons_succ]
        refine wpAnyH_ready (rs := [21]) (by kernel_rfl) (by simp) ?_
        refine AllReadyH.cons (o := ⟨some 150, _, _, _, _, _⟩) rfl (fun K hK => ?_) AllReadyH.nil
        go_simp
        go_at_call 29; refine (CX.out _).mono ?_; rintro e wb ⟨rfl, hbq⟩
        refine hK.out _ _ ?_ (fun hHeld => ?_)
        focus (exact below_more (by assumption) hbq)
        clear hK K hbq
        try simp only [Act.put, List.setIfInBounds_toArray, List.set_cons_zero, List.set_cons_succ]
        refine wpAnyH_take (i := 22) (oi := ⟨some 151, _, _, _, _, _⟩) (v := ?_) rfl (by kernel_rfl) (by kernel_rfl) (by kernel_rfl) (fun _ _ _ h => h) (Or.inl ⟨by rfl, ?_⟩) (by assumption) ?_
        rotate_left
        focus (intro w hSw; (try dsimp only at hSw); go_simp; try with_reducible rfl)
        try simp only [Act.put, List.setIfInBounds_toArray, List.set_cons_zero, List.set_cons_succ]
        refine wpAnyH_take (i := 23) (oi := ⟨some 152, _, _, _, _, _⟩) (v := ?_) rfl (by kernel_rfl) (by kernel_rfl) (by kernel_rfl) (fun _ _ _ h => h) (Or.inl ⟨by rfl, ?_⟩) (by assumption) ?_
        rotate_left
        focus (intro w hSw; (try dsimp only at hSw); go_simp; try with_reducible rfl)
        try simp only [Act.put, List.setIfInBounds_toArray, List.set_cons_zero, List.set_cons_succ]
        refine wpAnyH_take (i := 24) (oi := ⟨some 153, _, _, _, _, _⟩) (v := ?_) rfl (by kernel_rfl) (by kernel_rfl) (by kernel_rfl) (fun _ _ _ h => h) (Or.inl ⟨by rfl, ?_⟩) (by assumption) ?_
        rotate_left
        focus (intro w hSw; (try dsimp only at hSw); go_simp; try with_reducible rfl)
        try simp only [Act.put, List.setIfInBounds_toArray, List.set_cons_zero, List.set_cons_succ]
        refine wpAnyH_take (i := 25) (oi := ⟨some 154, _, _, _, _, _⟩) (v := ?_) rfl (by kernel_rfl) (by kernel_rfl) (by kernel_rfl) (fun _ _ _ h => h) (Or.inl ⟨by rfl, ?_⟩) (by assumption) ?_
        rotate_left
        focus (intro w hSw; (try dsimp only at hSw); go_simp; try with_reducible rfl)
        try simp only [Act.put, List.setIfInBounds_toArray, List.set_cons_zero, List.set_cons_succ]
        refine wpAnyH_take (i := 26) (oi := ⟨some 155, _, _, _, _, _⟩) (v := ?_) rfl (by kernel_rfl) (by kernel_rfl) (by kernel_rfl) (fun _ _ _ h => h) (Or.inl ⟨by rfl, ?_⟩) (by assumption) ?_
        rotate_left
        focus (intro w hSw; (try dsimp only at hSw); go_simp; try with_reducible rfl)
        try simp only [Act.put, List.setIfInBounds_toArray, List.set_cons_zero, List.set_cons_succ]
        refine wpAnyH_take (i := 27) (oi := ⟨some 156, _, _, _, _, _⟩) (v := ?_) rfl (by kernel_rfl) (by kernel_rfl) (by kernel_rfl) (fun _ _ _ h => h) (Or.inl ⟨by rfl, ?_⟩) (by assumption) ?_
        rotate_left
        focus (intro w hSw; (try dsimp only at hSw); go_simp; try with_reducible rfl)
        try simp only [Act.put, List.setIfInBounds_toArray, List.set_cons_zero, List.set_cons_succ]
        refine wpAnyH_take (i := 28) (oi := ⟨some 157, _, _, _, _, _⟩) (v := ?_) rfl (by kernel_rfl) (by kernel_rfl) (by kernel_rfl) (fun _ _ _ h => h) (Or.inl ⟨by rfl, ?_⟩) (by assumption) ?_
        rotate_left
        focus (intro w hSw; (try dsimp only at hSw); go_simp; try with_reducible rfl)
        try simp only [Act.put, List.setIfInBounds_toArray, List.set_cons_zero, List.set_cons_succ]
        refine wpAnyH_take (i := 29) (oi := ⟨some 158, _, _, _, _, _⟩) (v := ?_) rfl (by kernel_rfl) (by kernel_rfl) (by kernel_rfl) (fun _ _ _ h => h) (Or.inl ⟨by rfl, ?_⟩) (by assumption) ?_
        rotate_left
        focus (intro w hSw; (try dsimp only at hSw); go_simp; try with_reducible rfl)
        try simp only [Act.put, List.setIfInBounds_toArray, List.set_cons_zero, List.set_cons_succ]
        refine wpAnyH_take (i := 30) (oi := ⟨some 159, _, _, _, _, _⟩) (v := ?_) rfl (by kernel_rfl) (by kernel_rfl) (by kernel_rfl) (fun _ _ _ h => h) (Or.inl ⟨by rfl, ?_⟩) (by assumption) ?_
        rotate_left
        focus (intro w hSw; (try dsimp only at hSw); go_simp; try with_reducible rfl)
        try simp only [Act.put, List.setIfInBounds_toArray, List.set_cons_zero, List.set_cons_succ]
        refine wpAnyH_take (i := 31) (oi := ⟨some 160, _, _, _, _, _⟩) (v := ?_) rfl (by kernel_rfl) (by kernel_rfl) (by kernel_rfl) (fun _ _ _ h => h) (Or.inl ⟨by rfl, ?_⟩) (by assumption) ?_
        rotate_left
        focus (intro w hSw; (try dsimp only at hSw); go_simp; try with_reducible rfl)
        try simp only [Act.put, List.setIfInBounds_toArray, List.set_cons_zero, List.set_cons_succ]
        refine wpAnyH_take (i := 32) (oi := ⟨some 161, _, _, _, _, _⟩) (v := ?_) rfl (by kernel_rfl) (by kernel_rfl) (by kernel_rfl) (fun _ _ _ h => h) (Or.inl ⟨by rfl, ?_⟩) (by assumption) ?_
        rotate_left
        focus (intro w hSw; (try dsimp only at hSw); go_simp; try with_reducible rfl)
        try simp only [Act.put, List.setIfInBounds_toArray, List.set_cons_zero, List.set_cons_succ]
        refine wpAnyH_take (i := 33) (oi := ⟨some 162, _, _, _, _, _⟩) (v := ?_) rfl (by kernel_rfl) (by kernel_rfl) (by kernel_rfl) (fun _ _ _ h => h) (Or.inl ⟨by rfl, ?_⟩) (by assumption) ?_
        rotate_left
        focus (intro w hSw; (try dsimp only at hSw); go_simp; try with_reducible rfl)
        try simp only [Act.put, List.setIfInBounds_toArray, List.set_cons_zero, List.set_cons_succ]
        refine wpAnyH_take (i := 34) (oi := ⟨some 163, _, _, _, _, _⟩) (v := undef) rfl (by kernel_rfl) (by kernel_rfl) (by kernel_rfl) (fun _ _ _ h => h) (Or.inr ⟨by rfl, rfl⟩) (by assumption) ?_
        try simp only [Act.put, List.setIfInBounds_toArray, List.set_cons_zero, List.set_cons_succ]
        refine wpAnyH_take (i := 35) (oi := ⟨some 164, _, _, _, _, _⟩) (v := undef) rfl (by kernel_rfl) (by kernel_rfl) (by kernel_rfl) (fun _ _ _ h => h) (Or.inr ⟨by rfl, rfl⟩) (by assumption) ?_
        try simp only [Act.put, List.setIfInBounds_toArray, List.set_cons_zero, List.set_cons_succ]
        refine wpAnyH_take (i := 36) (oi := ⟨some 165, _, _, _, _, _⟩) (v := undef) rfl (by kernel_rfl) (by kernel_rfl) (by kernel_rfl) (fun _ _ _ h => h) (Or.inr ⟨by rfl, rfl⟩) (by assumption) ?_
        try simp only [Act.put, List.setIfInBounds_toArray, List.set_cons_zero, List.set_cons_succ]
        refine wpAnyH_take (i := 37) (oi := ⟨some 166, _, _, _, _, _⟩) (v := undef) rfl (by kernel_rfl) (by kernel_rfl) (by kernel_rfl) (fun _ _ _ h => h) (Or.inr ⟨by rfl, rfl⟩) (by assumption) ?_
        try simp only [Act.put, List.setIfInBounds_toArray, List.set_cons_zero, List.set_cons_succ]
        refine wpAnyH_take (i := 38) (oi := ⟨some 167, _, _, _, _, _⟩) (v := undef) rfl (by kernel_rfl) (by kernel_rfl) (by kernel_rfl) (fun _ _ _ h => h) (Or.inr ⟨by rfl, rfl⟩) (by assumption) ?_
        try simp only [Act.put, List.setIfInBounds_toArray, List.set_cons_zero, List.set_cons_succ]
        refine wpAnyH_take (i := 39) (oi := ⟨some 168, _, _, _, _, _⟩) (v := undef) rfl (by kernel_rfl) (by kernel_rfl) (by kernel_rfl) (fun _ _ _ h => h) (Or.inr ⟨by rfl, rfl⟩) (by assumption) ?_
        try simp only [Act.put, List.setIfInBounds_toArray, List.set_cons_zero, List.set_cons_succ]
        refine wpAnyH_take (i := 40) (oi := ⟨some 169, _, _, _, _, _⟩) (v := undef) rfl (by kernel_rfl) (by kernel_rfl) (by kernel_rfl) (fun _ _ _ h => h) (Or.inr ⟨by rfl, rfl⟩) (by assumption) ?_
        try simp only [Act.put, List.setIfInBounds_toArray, List.set_cons_zero, List.set_cons_succ]
        refine wpAnyH_take (i := 41) (oi := ⟨some 170, _, _, _, _, _⟩) (v := undef) rfl (by kernel_rfl) (by kernel_rfl) (by kernel_rfl) (fun _ _ _ h => h) (Or.inr ⟨by rfl, rfl⟩) (by assumption) ?_
        try simp only [Act.put, List.setIfInBounds_toArray, List.set_cons_zero, List.set_cons_succ]
        refine wpAnyH_take (i := 42) (oi := ⟨some 171, _, _, _, _, _⟩) (v := ?_) rfl (by kernel_rfl) (by kernel_rfl) (by kernel_rfl) (fun _ _ _ h => h) (Or.inl ⟨by rfl, ?_⟩) (by assumption) ?_
        rotate_left
        focus (intro w hSw; (try dsimp only at hSw); go_simp; try with_reducible rfl)
        try simp only [Act.put, List.setIfInBounds_toArray, List.set_cons_zero, List.set_cons_succ]
        refine wpAnyH_take (i := 43) (oi := ⟨some 172, _, _, _, _, _⟩) (v := ?_) rfl (by kernel_rfl) (by kernel_rfl) (by kernel_rfl) (fun _ _ _ h => h) (Or.inl ⟨by rfl, ?_⟩) (by assumption) ?_
        rotate_left
        focus (intro w hSw; (try dsimp only at hSw); go_simp; try with_reducible rfl)
        try simp only [Act.put, List.setIfInBounds_toArray, List.set_cons_zero, List.set_cons_succ]
        refine wpAnyH_take (i := 44) (oi := ⟨some 173, _, _, _, _, _⟩) (v := ?_) rfl (by kernel_rfl) (by kernel_rfl) (by kernel_rfl) (fun _ _ _ h => h) (Or.inl ⟨by rfl, ?_⟩) (by assumption) ?_
        rotate_left
        focus (intro w hSw; (try dsimp only at hSw); go_simp; try with_reducible rfl)
        try simp only [Act.put, List.setIfInBounds_toArray, List.set_cons_zero, List.set_cons_succ]
        refine wpAnyH_ready (rs := [45]) (by kernel_rfl) (by simp) ?_
        refine AllReadyH.cons (o := ⟨some 174, _, _, _, _, _⟩) rfl (fun K hK => ?_) AllReadyH.nil
        go_simp
        go_at_call 9; refine (awake_any _).mono ?_; rintro e wq ⟨rfl, hbq⟩
        refine hK.out _ _ ?_ (fun hHeld => ?_)
        focus (exact below_more (by assumption) hbq)
        clear hK K hbq
        try simp only [Act.put, List.setIfInBounds_toArray, List.set_cons_zero, List.set_cons_succ]
        refine wpAnyH_take (i := 46) (oi := ⟨some 175, _, _, _, _, _⟩) (v := ?_) rfl (by kernel_rfl) (by kernel_rfl) (by kernel_rfl) (fun _ _ _ h => h) (Or.inl ⟨by rfl, ?_⟩) (by assumption) ?_
        rotate_left
        focus (intro w hSw; (try dsimp only at hSw); go_simp; try with_reducible rfl)
        try simp only [Act.put, List.setIfInBounds_toArray, List.set_cons_zero, List.set_cons_succ]
        refine wpAnyH_take (i := 47) (oi := ⟨some 12, _, _, _, _, _⟩) (v := ?_) rfl (by kernel_rfl) (by kernel_rfl) (by kernel_rfl) (fun _ _ _ h => h) (Or.inl ⟨by rfl, ?_⟩) (by assumption) ?_
        rotate_left
        focus (intro w hSw; (try dsimp only at hSw); go_simp; try with_reducible rfl)
        try simp only [Act.put, List.setIfInBounds_toArray, List.set_cons_zero, List.set_cons_succ]
        refine wpAnyH_done (by kernel_rfl) ?_ _
        have HBF := Lib.hid (below_more BF.out ‹Below w11.heap.size w11 wq›)
        go_wp2
        go_ret
        exact ⟨rfl, HBF.out⟩
      · go_wp2
        refine wp_region_held_drew (S := fun w' => Below w11.heap.size w11 w') (by kernel_rfl) ((Below.refl _ _).drew) (fun hHeld => ?_)
        refine wpAnyH_take (i := 0) (oi := ⟨some 129, _, _, _, _, _⟩) (v := ?_) rfl (by kernel_rfl) (by kernel_rfl) (by kernel_rfl) (fun _ _ _ h => h) (Or.inl ⟨by rfl, ?_⟩) (by assumption) ?_
        rotate_left
        focus (intro w hSw; (try dsimp only at hSw); go_simp; try with_reducible rfl)
        try simp only [Act.put, List.setIfInBounds_toArray, List.set_cons_zero, List.set_cons_succ]
        refine wpAnyH_take (i := 1) (oi := ⟨some 130, _, _, _, _, _⟩) (v := ?_) rfl (by kernel_rfl) (by kernel_rfl) (by kernel_rfl) (fun _ _ _ h => h) (Or.inl ⟨by rfl, ?_⟩) (by assumption) ?_
        rotate_left
        focus (intro w hSw; (try dsimp only at hSw); go_simp; try with_reducible rfl)
        try simp only [Act.put, List.setIfInBounds_toArray, List.set_cons_zero, List.set_cons_succ]
        refine wpAnyH_take (i := 2) (oi := ⟨some 131, _, _, _, _, _⟩) (v := ?_) rfl (by kernel_rfl) (by kernel_rfl) (by kernel_rfl) (fun _ _ _ h => h) (Or.inl ⟨by rfl, ?_⟩) (by assumption) ?_
        rotate_left
        focus (intro w hSw; (try dsimp only at hSw); go_simp; try with_reducible rfl)
        try simp only [Act.put, List.setIfInBounds_toArray, List.set_cons_zero, List.set_cons_succ]
        refine wpAnyH_take (i := 3) (oi := ⟨some 132, _, _, _, _, _⟩) (v := ?_) rfl (by kernel_rfl) (by kernel_rfl) (by kernel_rfl) (fun _ _ _ h => h) (Or.inl ⟨by rfl, ?_⟩) (by assumption) ?_
        rotate_left
        focus (intro w hSw; (try dsimp only at hSw); go_simp; try with_reducible rfl)
        try simp only [Act.put, List.setIfInBounds_toArray, List.set_cons_zero, List.set_cons_succ]
        refine wpAnyH_take (i := 4) (oi := ⟨some 133, _, _, _, _, _⟩) (v := ?_) rfl (by kernel_rfl) (by kernel_rfl) (by kernel_rfl) (fun _ _ _ h => h) (Or.inl ⟨by rfl, ?_⟩) (by assumption) ?_
        rotate_left
        focus (intro w hSw; (try dsimp only at hSw); go_simp; try with_reducible rfl)
        try simp only [Act.put, List.setIfInBounds_toArray, List.set_cons_zero, List.set_cons_succ]
        refine wpAnyH_take (i := 5) (oi := ⟨some 134, _, _, _, _, _⟩) (v := ?_) rfl (by kernel_rfl) (by kernel_rfl) (by kernel_rfl) (fun _ _ _ h => h) (Or.inl ⟨by rfl, ?_⟩) (by assumption) ?_
        rotate_left
        focus (intro w hSw; (try dsimp only at hSw); go_simp; try with_reducible rfl)
        try simp only [Act.put, List.setIfInBounds_toArray, List.set_cons_zero, List.set_cons_succ]
        refine wpAnyH_take (i := 6) (oi := ⟨some 135, _, _, _, _, _⟩) (v := ?_) rfl (by kernel_rfl) (by kernel_rfl) (by kernel_rfl) (fun _ _ _ h => h) (Or.inl ⟨by rfl, ?_⟩) (by assumption) ?_
        rotate_left
        focus (intro w hSw; (try dsimp only at hSw); go_simp; try with_reducible rfl)
        try simp only [Act.put, List.setIfInBounds_toArray, List.set_cons_zero, List.set_cons_succ]
        refine wpAnyH_take (i := 7) (oi := ⟨some 136, _, _, _, _, _⟩) (v := ?_) rfl (by kernel_rfl) (by kernel_rfl) (by kernel_rfl) (fun _ _ _ h => h) (Or.inl ⟨by rfl, ?_⟩) (by assumption) ?_
        rotate_left
        focus (intro w hSw; (try dsimp only at hSw); go_simp; try with_reducible rfl)
        try simp only [Act.put, List.setIfInBounds_toArray, List.set_cons_zero, List.set_cons_succ]
        refine wpAnyH_take (i := 8) (oi := ⟨some 137, _, _, _, _, _⟩) (v := ?_) rfl (by kernel_rfl) (by kernel_rfl) (by kernel_rfl) (fun _ _ _ h => h) (Or.inl ⟨by rfl, ?_⟩) (by assumption) ?_
        rotate_left
        focus (intro w hSw; (try dsimp only at hSw); go_simp; try with_reducible rfl)
        try simp only [Act.put, List.setIfInBounds_toArray, List.set_cons_zero, List.set_cons_succ]
        refine wpAnyH_take (i := 9) (oi := ⟨some 138, _, _, _, _, _⟩) (v := ?_) rfl (by kernel_rfl) (by kernel_rfl) (by kernel_rfl) (fun _ _ _ h => h) (Or.inl ⟨by rfl, ?_⟩) (by assumption) ?_
        rotate_left
        focus (intro w hSw; (try dsimp only at hSw); go_simp; try with_reducible rfl)
        try simp only [Act.put, List.setIfInBounds_toArray, List.set_cons_zero, List.set_cons_succ]
        refine wpAnyH_take (i := 10) (oi := ⟨some 139, _, _, _, _, _⟩) (v := ?_) rfl (by kernel_rfl) (by kernel_rfl) (by kernel_rfl) (fun _ _ _ h => h) (Or.inl ⟨by rfl, ?_⟩) (by assumption) ?_
        rotate_left
        focus (intro w hSw; (try dsimp only at hSw); go_simp; try with_reducible rfl)
        try simp only [Act.put, List.setIfInBounds_toArray, List.set_cons_zero, List.set_cons_succ]
        refine wpAnyH_take (i := 11) (oi := ⟨some 140, _, _, _, _, _⟩) (v := ?_) rfl (by kernel_rfl) (by kernel_rfl) (by kernel_rfl) (fun _ _ _ h => h) (Or.inl ⟨by rfl, ?_⟩) (by assumption) ?_
        rotate_left
        focus (intro w hSw; (try dsimp only at hSw); go_simp; try with_reducible rfl)
        try simp only [Act.put, List.setIfInBounds_toArray, List.set_cons_zero, List.set_cons_succ]
        refine wpAnyH_take (i := 12) (oi := ⟨some 141, _, _, _, _, _⟩) (v := ?_) rfl (by kernel_rfl) (by kernel_rfl) (by kernel_rfl) (fun _ _ _ h => h) (Or.inl ⟨by rfl, ?_⟩) (by assumption) ?_
        rotate_left
        focus (intro w hSw; (try dsimp only at hSw); go_simp; try with_reducible rfl)
        try simp only [Act.put, List.setIfInBounds_toArray, List.set_cons_zero, List.set_cons_succ]
        refine wpAnyH_take (i := 13) (oi := ⟨some 142, _, _, _, _, _⟩) (v := ?_) rfl (by kernel_rfl) (by kernel_rfl) (by kernel_rfl) (fun _ _ _ h => h) (Or.inl ⟨by rfl, ?_⟩) (by assumption) ?_
        rotate_left
        focus (intro w hSw; (try dsimp only at hSw); go_simp; try with_reducible rfl)
        try simp only [Act.put, List.setIfInBounds_toArray, List.set_cons_zero, List.set_cons_succ]
        refine wpAnyH_ready (rs := [14]) (by kernel_rfl) (by simp) ?_
        refine AllReadyH.cons (o := ⟨some 143, _, _, _, _, _⟩) rfl (fun K hK => ?_) AllReadyH.nil
        go_simp
        go_at_call 28; refine (CC.out _).mono ?_; rintro e wa ⟨rfl, hbq⟩
        refine hK.out _ _ ?_ (fun hHeld => ?_)
        focus (exact below_more (by assumption) hbq)
        clear hK K hbq
        try simp only [Act.put, List.setIfInBounds_toArray, List.set_cons_zero, List.set_cons_succ]
        refine wpAnyH_take (i := 15) (oi := ⟨some 144, _, _, _, _, _⟩) (v := ?_) rfl (by kernel_rfl) (by kernel_rfl) (by kernel_rfl) (fun _ _ _ h => h) (Or.inl ⟨by rfl, ?_⟩) (by assumption) ?_
        rotate_left
        focus (intro w hSw; (try dsimp only at hSw); go_simp; try with_reducible rfl)
        try simp only [Act.put, List.setIfInBounds_toArray, List.set_cons_zero, List.set_cons_succ]
        refine wpAnyH_take (i := 16) (oi := ⟨some 145, _, _, _, _, _⟩) (v := ?_) rfl (by kernel_rfl) (by kernel_rfl) (by kernel_rfl) (fun _ _ _ h => h) (Or.inl ⟨by rfl, ?_⟩) (by assumption) ?_
        rotate_left
        focus (intro w hSw; (try dsimp only at hSw); go_simp; try with_reducible rfl)
        try simp only [Act.put, List.setIfInBounds_toArray, List.set_cons_zero, List.set_cons_succ]
        refine wpAnyH_take (i := 17) (oi := ⟨some 146, _, _, _, _, _⟩) (v := ?_) rfl (by kernel_rfl) (by kernel_rfl) (by kernel_rfl) (fun _ _ _ h => h) (Or.inl ⟨by rfl, ?_⟩) (by assumption) ?_
        rotate_left
        focus (intro w hSw; (try dsimp only at hSw); go_simp; try with_reducible rfl)
        try simp only [Act.put, List.setIfInBounds_toArray, List.set_cons_zero, List.set_cons_succ]
        refine wpAnyH_take (i := 18) (oi := ⟨some 147, _, _, _, _, _⟩) (v := ?_) rfl (by kernel_rfl) (by kernel_rfl) (by kernel_rfl) (fun _ _ _ h => h) (Or.inl ⟨by rfl, ?_⟩) (by assumption) ?_
        rotate_left
        focus (intro w hSw; (try dsimp only at hSw); go_simp; try with_reducible rfl)
        try simp only [Act.put, List.setIfInBounds_toArray, List.set_cons_zero, List.set_cons_succ]
        refine wpAnyH_take (i := 19) (oi := ⟨some 148, _, _, _, _, _⟩) (v := ?_) rfl (by kernel_rfl) (by kernel_rfl) (by kernel_rfl) (fun _ _ _ h => h) (Or.inl ⟨by rfl, ?_⟩) (by assumption) ?_
        rotate_left
        focus (intro w hSw; (try dsimp only at hSw); go_simp; try with_reducible rfl)
        try simp only [Act.put, List.setIfInBounds_toArray, List.set_cons_zero, List.set_cons_succ]
        refine wpAnyH_take (i := 20) (oi := ⟨some 149, _, _, _, _, _⟩) (v := ?_) rfl (by kernel_rfl) (by kernel_rfl) (by kernel_rfl) (fun _ _ _ h => h) (Or.inl ⟨by rfl, ?_⟩) (by assumption) ?_
        rotate_left
        focus (intro w hSw; (try dsimp only at hSw); go_simp; try with_reducible rfl)
        try simp only [Act.put, List.setIfInBounds_toArray, List.set_cons_zero, List.set_cons_succ]
        refine wpAnyH_ready (rs := [21]) (by kernel_rfl) (by simp) ?_
        refine AllReadyH.cons (o := ⟨some 150, _, _, _, _, _⟩) rfl (fun K hK => ?_) AllReadyH.nil
        go_simp
        go_at_call 29; refine (CX.out _).mono ?_; rintro e wb ⟨rfl, hbq⟩
        refine hK.out _ _ ?_ (fun hHeld => ?_)
        focus (exact below_more (by assumption) hbq)
        clear hK K hbq
        try simp only [Act.put, List.setIfInBounds_toArray, List.set_cons_zero, List.set_cons_succ]
        refine wpAnyH_take (i := 22) (oi := ⟨some 151, _, _, _, _, _⟩) (v := ?_) rfl (by kernel_rfl) (by kernel_rfl) (by kernel_rfl) (fun _ _ _ h => h) (Or.inl ⟨by rfl, ?_⟩) (by assumption) ?_
        rotate_left
        focus (intro w hSw; (try dsimp only at hSw); go_simp; try with_reducible rfl)
        try simp only [Act.put, List.setIfInBounds_toArray, List.set_cons_zero, List.set_cons_succ]
        refine wpAnyH_take (i := 23) (oi := ⟨some 152, _, _, _, _, _⟩) (v := ?_) rfl (by kernel_rfl) (by kernel_rfl) (by kernel_rfl) (fun _ _ _ h => h) (Or.inl ⟨by rfl, ?_⟩) (by assumption) ?_
        rotate_left
        focus (intro w hSw; (try dsimp only at hSw); go_simp; try with_reducible rfl)
        try simp only [Act.put, List.setIfInBounds_toArray, List.set_cons_zero, List.set_cons_succ]
        refine wpAnyH_take (i := 24) (oi := ⟨some 153, _, _, _, _, _⟩) (v := ?_) rfl (by kernel_rfl) (by kernel_rfl) (by kernel_rfl) (fun _ _ _ h => h) (Or.inl ⟨by rfl, ?_⟩) (by assumption) ?_
        rotate_left
        focus (intro w hSw; (try dsimp only at hSw); go_simp; try with_reducible rfl)
        try simp only [Act.put, List.setIfInBounds_toArray, List.set_cons_zero, List.set_cons_succ]
        refine wpAnyH_take (i := 25) (oi := ⟨some 154, _, _, _, _, _⟩) (v := ?_) rfl (by kernel_rfl) (by kernel_rfl) (by kernel_rfl) (fun _ _ _ h => h) (Or.inl ⟨by rfl, ?_⟩) (by assumption) ?_
        rotate_left
        focus (intro w hSw; (try dsimp only at hSw); go_simp; try with_reducible rfl)
        try simp only [Act.put, List.setIfInBounds_toArray, List.set_cons_zero, List.set_cons_succ]
        refine wpAnyH_take (i := 26) (oi := ⟨some 155, _, _, _, _, _⟩) (v := ?_) rfl (by kernel_rfl) (by kernel_rfl) (by kernel_rfl) (fun _ _ _ h => h) (Or.inl ⟨by rfl, ?_⟩) (by assumption) ?_
        rotate_left
        focus (intro w hSw; (try dsimp only at hSw); go_simp; try with_reducible rfl)
        try simp only [Act.put, List.setIfInBounds_toArray, List.set_cons_zero, List.set_cons_succ]
        refine wpAnyH_take (i := 27) (oi := ⟨some 156, _, _, _, _, _⟩) (v := ?_) rfl (by kernel_rfl) (by kernel_rfl) (by kernel_rfl) (fun _ _ _ h => h) (Or.inl ⟨by rfl, ?_⟩) (by assumption) ?_
        rotate_left
        focus (intro w hSw; (try dsimp only at hSw); go_simp; try with_reducible rfl)
        try simp only [Act.put, List.setIfInBounds_toArray, List.set_cons_zero, List.set_cons_succ]
        refine wpAnyH_take (i := 28) (oi := ⟨some 157, _, _, _, _, _⟩) (v := ?_) rfl (by kernel_rfl) (by kernel_rfl) (by kernel_rfl) (fun _ _ _ h => h) (Or.inl ⟨by rfl, ?_⟩) (by assumption) ?_
        rotate_left
        focus (intro w hSw; (try dsimp only at hSw); go_simp; try with_reducible rfl)
        try simp only [Act.put, List.setIfInBounds_toArray, List.set_cons_zero, List.set_cons_succ]
        refine wpAnyH_take (i := 29) (oi := ⟨some 158, _, _, _, _, _⟩) (v := undef) rfl (by kernel_rfl) (by kernel_rfl) (by kernel_rfl) (fun _ _ _ h => h) (Or.inr ⟨by rfl, rfl⟩) (by assumption) ?_
        try simp only [Act.put, List.setIfInBounds_toArray, List.set_cons_zero, List.set_cons_succ]
        refine wpAnyH_take (i := 30) (oi := ⟨some 159, _, _, _, _, _⟩) (v := undef) rfl (by kernel_rfl) (by kernel_rfl) (by kernel_rfl) (fun _ _ _ h => h) (Or.inr ⟨by rfl, rfl⟩) (by assumption) ?_
        try simp only [Act.put, List.setIfInBounds_toArray, List.set_cons_zero, List.set_cons_succ]
        refine wpAnyH_take (i := 31) (oi := ⟨some 160, _, _, _, _, _⟩) (v := undef) rfl (by kernel_rfl) (by kernel_rfl) (by kernel_rfl) (fun _ _ _ h => h) (Or.inr ⟨by rfl, rfl⟩) (by assumption) ?_
        try simp only [Act.put, List.setIfInBounds_toArray, List.set_cons_zero, List.set_cons_succ]
        refine wpAnyH_take (i := 32) (oi := ⟨some 161, _, _, _, _, _⟩) (v := ?_) rfl (by kernel_rfl) (by kernel_rfl) (by kernel_rfl) (fun _ _ _ h => h) (Or.inl ⟨by rfl, ?_⟩) (by assumption) ?_
        rotate_left
        focus (intro w hSw; (try dsimp only at hSw); go_simp; try with_reducible rfl)
        try simp only [Act.put, List.setIfInBounds_toArray, List.set_cons_zero, List.set_cons_succ]
        refine wpAnyH_take (i := 33) (oi := ⟨some 162, _, _, _, _, _⟩) (v := ?_) rfl (by kernel_rfl) (by kernel_rfl) (by kernel_rfl) (fun _ _ _ h => h) (Or.inl ⟨by rfl, ?_⟩) (by assumption) ?_
        rotate_left
        focus (intro w hSw; (try dsimp only at hSw); go_simp; try with_reducible rfl)
        try simp only [Act.put, List.setIfInBounds_toArray, List.set_cons_zero, List.set_cons_succ]
        refine wpAnyH_take (i := 34) (oi := ⟨some 163, _, _, _, _, _⟩) (v := ?_) rfl (by kernel_rfl) (by kernel_rfl) (by kernel_rfl) (fun _ _ _ h => h) (Or.inl ⟨by rfl, ?_⟩) (by assumption) ?_
        rotate_left
        focus (intro w hSw; (try dsimp only at hSw); go_simp; try with_reducible rfl)
        try simp only [Act.put, List.setIfInBounds_toArray, List.set_cons_zero, List.set_cons_succ]
        refine wpAnyH_take (i := 35) (oi := ⟨some 164, _, _, _, _, _⟩) (v := ?_) rfl (by kernel_rfl) (by kernel_rfl) (by kernel_rfl) (fun _ _ _ h => h) (Or.inl ⟨by rfl, ?_⟩) (by assumption) ?_
        rotate_left
        focus (intro w hSw; (try dsimp only at hSw); go_simp; try with_reducible rfl)
        try simp only [Act.put, List.setIfInBounds_toArray, List.set_cons_zero, List.set_cons_succ]
        refine wpAnyH_take (i := 36) (oi := ⟨some 165, _, _, _, _, _⟩) (v := ?_) rfl (by kernel_rfl) (by kernel_rfl) (by kernel_rfl) (fun _ _ _ h => h) (Or.inl ⟨by rfl, ?_⟩) (by assumption) ?_
        rotate_left
        focus (intro w hSw; (try dsimp only at hSw); go_simp; try with_reducible rfl)
        try simp only [Act.put, List.setIfInBounds_toArray, List.set_cons_zero, List.set_cons_succ]
        refine wpAnyH_take (i := 37) (oi := ⟨some 166, _, _, _, _, _⟩) (v := ?_) rfl (by kernel_rfl) (by kernel_rfl) (by kernel_rfl) (fun _ _ _ h => h) (Or.inl ⟨by rfl, ?_⟩) (by assumption) ?_
        rotate_left
        focus (intro w hSw; (try dsimp only at hSw); go_simp; try with_reducible rfl)
        try simp only [Act.put, List.setIfInBounds_toArray, List.set_cons_zero, List.set_cons_succ]
        refine wpAnyH_take (i := 38) (oi := ⟨some 167, _, _, _, _, _⟩) (v := ?_) rfl (by kernel_rfl) (by kernel_rfl) (by kernel_rfl) (fun _ _ _ h => h) (Or.inl ⟨by rfl, ?_⟩) (by assumption) ?_
        rotate_left
        focus (intro w hSw; (try dsimp only at hSw); go_simp; try with_reducible rfl)
        try simp only [Act.put, List.setIfInBounds_toArray, List.set_cons_zero, List.set_cons_succ]
        refine wpAnyH_take (i := 39) (oi := ⟨some 168, _, _, _, _, _⟩) (v := ?_) rfl (by kernel_rfl) (by kernel_rfl) (by kernel_rfl) (fun _ _ _ h => h) (Or.inl ⟨by rfl, ?_⟩) (by assumption) ?_
        rotate_left
        focus (intro w hSw; (try dsimp only at hSw); go_simp; try with_reducible rfl)
        try simp only [Act.put, List.setIfInBounds_toArray, List.set_cons_zero, List.set_cons_succ]
        refine wpAnyH_take (i := 40) (oi := ⟨some 169, _, _, _, _, _⟩) (v := ?_) rfl (by kernel_rfl) (by kernel_rfl) (by kernel_rfl) (fun _ _ _ h => h) (Or.inl ⟨by rfl, ?_⟩) (by assumption) ?_
        rotate_left
        focus (intro w hSw; (try dsimp only at hSw); go_simp; try with_reducible rfl)
        try simp only [Act.put, List.setIfInBounds_toArray, List.set_cons_zero, List.set_cons_succ]
        refine wpAnyH_take (i := 41) (oi := ⟨some 170, _, _, _, _, _⟩) (v := ?_) rfl (by kernel_rfl) (by kernel_rfl) (by kernel_rfl) (fun _ _ _ h => h) (Or.inl ⟨by rfl, ?_⟩) (by assumption) ?_
        rotate_left
        focus (intro w hSw; (try dsimp only at hSw); go_simp; try with_reducible rfl)
        try simp only [Act.put, List.setIfInBounds_toArray, List.set_cons_zero, List.set_cons_succ]
        refine wpAnyH_take (i := 42) (oi := ⟨some 171, _, _, _, _, _⟩) (v := ?_) rfl (by kernel_rfl) (by kernel_rfl) (by kernel_rfl) (fun _ _ _ h => h) (Or.inl ⟨by rfl, ?_⟩) (by assumption) ?_
        rotate_left
        focus (intro w hSw; (try dsimp only at hSw); go_simp; try with_reducible rfl)
        try simp only [Act.put, List.setIfInBounds_toArray, List.set_cons_zero, List.set_cons_succ]
        refine wpAnyH_take (i := 43) (oi := ⟨some 172, _, _, _, _, _⟩) (v := ?_) rfl (by kernel_rfl) (by kernel_rfl) (by kernel_rfl) (fun _ _ _ h => h) (Or.inl ⟨by rfl, ?_⟩) (by assumption) ?_
        rotate_left
        focus (intro w hSw; (try dsimp only at hSw); go_simp; try with_reducible rfl)
        try simp only [Act.put, List.setIfInBounds_toArray, List.set_cons_zero, List.set_cons_succ]
        refine wpAnyH_take (i := 44) (oi := ⟨some 173, _, _, _, _, _⟩) (v := ?_) rfl (by kernel_rfl) (by kernel_rfl) (by kernel_rfl) (fun _ _ _ h => h) (Or.inl ⟨by rfl, ?_⟩) (by assumption) ?_
        rotate_left
        focus (intro w hSw; (try dsimp only at hSw); go_simp; try with_reducible rfl)
        try simp only [Act.put, List.setIfInBounds_toArray, List.set_cons_zero, List.set_cons_succ]
        refine wpAnyH_ready (rs := [45]) (by kernel_rfl) (by simp) ?_
        refine AllReadyH.cons (o := ⟨some 174, _, _, _, _, _⟩) rfl (fun K hK => ?_) AllReadyH.nil
        go_simp
        go_at_call 9; refine (awake_any _).mono ?_; rintro e wq ⟨rfl, hbq⟩
        refine hK.out _ _ ?_ (fun hHeld => ?_)
        focus (exact below_more (by assumption) hbq)
        clear hK K hbq
        try simp only [Act.put, List.setIfInBounds_toArray, List.set_cons_zero, List.set_cons_succ]
        refine wpAnyH_take (i := 46) (oi := ⟨some 175, _, _, _, _, _⟩) (v := ?_) rfl (by kernel_rfl) (by kernel_rfl) (by kernel_rfl) (fun _ _ _ h => h) (Or.inl ⟨by rfl, ?_⟩) (by assumption) ?_
        rotate_left
        focus (intro w hSw; (try dsimp only at hSw); go_simp; try with_reducible rfl)
        try simp only [Act.put, List.setIfInBounds_toArray, List.set_cons_zero, List.set_cons_succ]
        refine wpAnyH_take (i := 47) (oi := ⟨some 12, _, _, _, _, _⟩) (v := ?_) rfl (by kernel_rfl) (by kernel_rfl) (by kernel_rfl) (fun _ _ _ h => h) (Or.inl ⟨by rfl, ?_⟩) (by assumption) ?_
        rotate_left
        focus (intro w hSw; (try dsimp only at hSw); go_simp; try with_reducible rfl)
        try simp only [Act.put, List.setIfInBounds_toArray, List.set_cons_zero, List.set_cons_succ]
        refine wpAnyH_done (by kernel_rfl) ?_ _
        have HBF := Lib.hid (below_more BF.out ‹Below w11.heap.size w11 wq›)
        go_wp2
        go_ret
        exact ⟨rfl, HBF.out⟩

set_option maxRecDepth 100000 in
theorem lifted (os : Os) (started : os.Started) (H : Type) (enc : TypeId × Value → H) :
    ReturnsInHanded {} Try.checked os 5 .any (Rows.nvmStaysSpec.pre6 enc Try.prog Try.f5 Rows.nvmStaysRow.domain false) (Rows.nvmStaysSpec.post enc Try.prog Try.f5 false true false false) := by
  refine returnsInHanded_of_change (C := Try.checked) own started (by kernel_rfl) Try.func5
    (ChangeSpec.witness6 (enc := enc) (C := Try.checked) false ⟨#[], #[.agg #[.int .u64 0, .int .u64 0, .int .u64 0, .int .u64 0, .int .u64 0, .int .u64 0, .int .u64 0, .int .u64 0], .agg #[.int .u64 0, .int .u64 0, .int .u64 0, .int .u64 0, .int .u64 0, .int .u64 0, .int .u64 0, .int .u64 0], .int .u64 0, .int .u64 0, .int .i64 0, .slice none 0 0], []⟩ 8 (by kernel_rfl) (by kernel_rfl) (by kernel_rfl) (by kernel_rfl)) ?_
  intro W base args ds gs before hval0 hW hcnd _
  have hval : ∀ (j : Nat) t v, Try.f5.params[j]? = some t → args[j]? = some v → Value.okWide Try.prog W .any base t v := hval0
  have hW' := hW
  have hlt := hW.lt
  obtain ⟨p, q, hA0, hV, hpq, hfz, hnd⟩ := hW
  have hA : DataW.TrodAll enc Try.prog W 0 (fun _ => true) true Try.f5.params.toList args.toList ds p := hA0
  rw [Try.params5] at hA hval
  obtain ⟨v0, vs0, d0, ds0, p0, q0, hargs, rfl, hp, h0, r0⟩ := trodAll_cons hA
  obtain ⟨v1, vs1, d1, ds1, p1, q1, rfl, rfl, rfl, h1, r1⟩ := trodAll_cons r0
  obtain ⟨v2, vs2, d2, ds2, p2, q2, rfl, rfl, rfl, h2, r2⟩ := trodAll_cons r1
  obtain ⟨v3, vs3, d3, ds3, p3, q3, rfl, rfl, rfl, h3, r3⟩ := trodAll_cons r2
  obtain ⟨v4, vs4, d4, ds4, p4, q4, rfl, rfl, rfl, h4, r4⟩ := trodAll_cons r3
  obtain ⟨v5, vs5, d5, ds5, p5, q5, rfl, rfl, rfl, h5, r5⟩ := trodAll_cons r4
  obtain ⟨rfl, rfl, rfl⟩ := trodAll_nil r5
  obtain rfl : args = #[v0, v1, v2, v3, v4, v5] := by cases args; simp_all
  obtain ⟨rfl, rfl⟩ := trodVars_none hV
  have hlt' : ∀ x ∈ before, x.block < W.heap.size := fun x hx => hlt x hx
  obtain ⟨l0, rfl, n0, w0⟩ := line_in (hval 0 31 v0 rfl rfl) h0
  obtain ⟨l1, rfl, n1, w1⟩ := line_in (hval 1 31 v1 rfl rfl) h1
  obtain ⟨a2, rfl, rfl, rfl, w2⟩ := open_int Try.underlying29 (hval 2 29 v2 rfl rfl) h2
  obtain ⟨a3, rfl, rfl, rfl, w3⟩ := open_int Try.underlying29 (hval 3 29 v3 rfl rfl) h3
  obtain ⟨a4, rfl, rfl, rfl, w4⟩ := open_int Try.underlying3 (hval 4 3 v4 rfl rfl) h4
  obtain ⟨l5, w5⟩ := calls_in (hval 5 23 v5 rfl rfl) h5
  refine (walk l0 l1 a2 a3 a4 l5 v5 W n0 w0 n1 w1 w2 w3 w4 w5).mono fun e W' ⟨he, hb⟩ => ?_
  subst he
  exact ⟨_, rfl, law_post rfl (by kernel_rfl) hW' (by rw [Try.params5]; intro t ht; simp only [List.mem_cons, List.not_mem_nil, or_false] at ht; (repeat' (first | (rcases ht with rfl | ht) | subst ht)) <;> exact ⟨by kernel_rfl, of_decide_eq_true (by kernel_rfl)⟩) rfl hb⟩

theorem over : Rows.nvmStaysRow.holds Try.pinned (OpenSpec.ofChange Rows.nvmStaysSpec) :=
  OpenClaim.holds_of_wide 5 Try.f5 rfl rfl rfl rfl rfl rfl rfl ⟨rfl, rfl, rfl, rfl, rfl⟩ rfl rfl rfl rfl rfl (by kernel_rfl) Try.func5 (by kernel_rfl)
    (of_decide_eq_true (by kernel_rfl)) (by unfold Func.isWrapper; first | (rw [if_pos (by decide +kernel)]; kernel_rfl) | (rw [if_neg (by decide +kernel)]; exact ⟨rfl, rfl⟩))
    (fun os started H enc _ => lifted os started H enc)

theorem proved : Rows.NvmStaysSaid := over
end Go.Proofs.Ytomodoofpjgpgaa.nvmStays
