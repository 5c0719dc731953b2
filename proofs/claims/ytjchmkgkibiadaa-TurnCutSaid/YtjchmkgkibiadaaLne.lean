/-
  Contract of package lines' replace.
-/
import Derived.Test.YtjchmkgkibiadaaLnd
namespace Go.Proofs.Ytjchmkgkibiadaa
open Go.RowKit

theorem OwnU.chg {B : Nat} {D : List Nat} {w w' : World} {v : Value} {l : List Int} (h : OwnU B w v l) (hc : Chg D w w') (hD : ∀ k ∈ D, k < B) : OwnU B w' v l := by
  refine ⟨h.1, h.2.imp id ?_⟩
  rintro ⟨g, cap, cur, hv, h1, hg, r⟩
  exact ⟨g, cap, cur, hv, h1, (hc.block g (Array.getElem?_eq_some_iff.1 hg).1 (fun hk => by have := hD g hk; omega)).trans hg, r⟩
theorem OwnU.drew {B : Nat} {w : World} {v : Value} {l : List Int} (h : OwnU B w v l) : OwnU B w.drew v l := h.below (Below.refl _ _).drew

/-- how it stands ahead of each try: w0 is the world of Put's start -/
structure RInv (w0 wr : World) (q g b : Nat) (v : Value) (S P : Nat) (a : Int) (d : List Int) (R : Int × Nv) (n : Nat) (t : List Int) (s : Nv) : Prop where
  own : OwnU w0.heap.size wr v t
  len : t.length = P
  nm : Nm wr g s
  lq : Lq wr q g S P
  ln : Ln wr b d
  chg : Chg [g] w0 wr
  ok : s.Ok
  c : s.c + 2 * n < 4611686018427387904
  fuel : P < n + zeroT t
  eq : repl S a d n t s = R
theorem RInv.more {w0 wr : World} {q g b : Nat} {v : Value} {S P : Nat} {a : Int} {d : List Int} {R : Int × Nv} {n : Nat} {t : List Int} {s : Nv} (h : RInv w0 wr q g b v S P a d R n t s) : ∃ m, n = m + 1 := by
  have := h.fuel; have := zeroT_le t; have := h.len
  exact ⟨n - 1, by omega⟩

/-- one try -/
theorem repl_none {S n : Nat} {a : Int} {d t : List Int} {s : Nv} (h : ¬ zeroT t < t.length) : repl S a d n t s = (3, s) := by
  cases n
  · rfl
  · rw [repl, if_neg h]
theorem repl_ok {S n k : Nat} {a : Int} {d t : List Int} {s : Nv} (hz : zeroT t = k) (h : k < t.length) (he : s.putE ((S + k : Nat) : Int) = 0) :
    repl S a d (n + 1) t s = ((s.put ((S + k : Nat) : Int) d).setE ((3 + k : Nat) : Int), (s.put ((S + k : Nat) : Int) d).set ((3 + k : Nat) : Int) (a + 1)) := by
  have e1 : (S : Int) + (k : Int) = ((S + k : Nat) : Int) := by omega
  have e2 : (3 : Int) + (k : Int) = ((3 + k : Nat) : Int) := by omega
  rw [repl, hz, if_pos h, e1, e2, if_pos he]
theorem repl_worn {S n k : Nat} {a : Int} {d t : List Int} {s : Nv} (hz : zeroT t = k) (h : k < t.length) (he : s.putE ((S + k : Nat) : Int) = 3) (he2 : (s.put ((S + k : Nat) : Int) d).setE ((3 + k : Nat) : Int) = 0) :
    repl S a d (n + 1) t s = repl S a d n (t.set k ((S : Int) + 1)) ((s.put ((S + k : Nat) : Int) d).set ((3 + k : Nat) : Int) ((S : Int) + 1)) := by
  have e1 : (S : Int) + (k : Int) = ((S + k : Nat) : Int) := by omega
  have e2 : (3 : Int) + (k : Int) = ((3 + k : Nat) : Int) := by omega
  rw [repl, hz, if_pos h, e1, e2, if_neg (by rw [he]; decide), if_pos he, if_pos he2]
theorem repl_wornE {S n k : Nat} {a : Int} {d t : List Int} {s : Nv} (hz : zeroT t = k) (h : k < t.length) (he : s.putE ((S + k : Nat) : Int) = 3) (he2 : ¬ (s.put ((S + k : Nat) : Int) d).setE ((3 + k : Nat) : Int) = 0) :
    repl S a d (n + 1) t s = ((s.put ((S + k : Nat) : Int) d).setE ((3 + k : Nat) : Int), (s.put ((S + k : Nat) : Int) d).set ((3 + k : Nat) : Int) ((S : Int) + 1)) := by
  have e1 : (S : Int) + (k : Int) = ((S + k : Nat) : Int) := by omega
  have e2 : (3 : Int) + (k : Int) = ((3 + k : Nat) : Int) := by omega
  rw [repl, hz, if_pos h, e1, e2, if_neg (by rw [he]; decide), if_pos he, if_neg he2]
theorem repl_else {S n k : Nat} {a : Int} {d t : List Int} {s : Nv} (hz : zeroT t = k) (h : k < t.length) (he : ¬ s.putE ((S + k : Nat) : Int) = 0) (he3 : ¬ s.putE ((S + k : Nat) : Int) = 3) :
    repl S a d (n + 1) t s = (s.putE ((S + k : Nat) : Int), s.put ((S + k : Nat) : Int) d) := by
  have e1 : (S : Int) + (k : Int) = ((S + k : Nat) : Int) := by omega
  rw [repl, hz, if_pos h, e1, if_neg he, if_neg he3]

set_option maxHeartbeats 2000000 in
theorem replace_any (q g S P : Nat) (s : Nv) (a : Int) (d t : List Int) (v : Value) (w0 w : World) (h : Lq w q g S P) (hN : Nm w g s) (hO : OwnU w0.heap.size w v t) (ht : t.length = P) (hC : Chg [g] w0 w) (hq : q < w0.heap.size) (hg : g < w0.heap.size) (hqg : q ≠ g)
    (hP : P ≤ 16) (hS : S ≤ 1000) (hS1 : 1 ≤ S) (ha : 0 ≤ a) (has : a < S) (ho : s.Ok) (hc : s.c + 100 < 4611686018427387904) (hd : d.length = 8) :
    Calls Try.prog 44 #[.pointer (some ⟨q, 0, none⟩), v, .int .i64 a, .agg (lc d)] w fun e w' => e = .returned (.int .i64 (repl S a d (P + 1) t s).1) ∧ Nm w' g (repl S a d (P + 1) t s).2 ∧ Chg [g] w0 w' := by
  obtain ⟨R, hR⟩ : ∃ R, repl S a d (P + 1) t s = R := ⟨_, rfl⟩
  have hB := hC.size
  have OD := hO.below (bal (o := .cells (lc d) 33) (Below.refl w.heap.size w))
  have NX := Lib.hid (next_any v t _ OD.ru)
  have I0 : Hid (RInv w0 (w.alloc (.cells (lc d) 33)) q g w.heap.size v S P a d R (P + 1) t s) :=
    Lib.hid ⟨OD, ht, hN.alloc _, h.alloc _, Ln.new w hd, hC.alloc _, ho, by push_cast; omega, by omega, hR⟩
  have bq : Hid (q ≠ w.heap.size ∧ g ≠ w.heap.size) := Lib.hid ⟨by omega, by omega⟩
  have bw : Hid (w0.heap.size ≤ w.heap.size) := Lib.hid hB
  rw [hR]
  have u1 : IntKind.u64.wrap a = a := by simp [IntKind.wrap, IntKind.signed, IntKind.bits]; omega
  have u2 : IntKind.u64.wrap (a + 1) = a + 1 := by simp [IntKind.wrap, IntKind.signed, IntKind.bits]; omega
  have wS : (Lit.int .i64 (S : Int)).wf = true := i64_of (by omega) (by omega)
  have DD := Lib.hid (fun w => dead_any (S : Int) w wS)
  rw [deadT_pos (by omega)] at DD
  have KK : Hid (g < w0.heap.size ∧ q ≠ g ∧ q < w0.heap.size) := Lib.hid ⟨hg, hqg, hq⟩
  have VB : Hid (∀ x n c, v = .slice (some ⟨x, 0, none⟩) n c → x < w.heap.size) := Lib.hid fun x n c e => by
    rcases hO.2 with ⟨e2, _⟩ | ⟨x2, cap, cur, e2, _, hh, _⟩ <;> rw [e2] at e <;> cases e
    exact (Array.getElem?_eq_some_iff.1 hh).1
  clear h hN hO hR hC ho hc hB OD wS hg hqg hq
  go_enter Try.func44, Try.ntmps44
  go_wp2_with fail
  refine (NX.out).mono ?_; rintro e w' ⟨rfl, rfl⟩
  go_wp2
  go_loopw [9] (fun p wr => ∃ n t' s', p = .int .i64 (nextT t') ∧ Hid (RInv w0 wr q g w.heap.size v S P a d R n t' s')) (fun p _ => if intOf p < 0 then 0 else P + 1 - (intOf p).toNat)
  case atStart => exact ⟨_, _, _, rfl, I0⟩
  case round =>
    obtain ⟨n, t', s', rfl, I⟩ := hrel
    by_cases hz : zeroT t' < t'.length
    · obtain ⟨m, rfl⟩ := I.out.more
      obtain ⟨x, cp, hv, hx0, hxl, hxc, hxm⟩ := I.out.own.block (by omega)
      rw [I.out.len] at hv
      subst hv
      obtain ⟨k, hk⟩ : ∃ k, zeroT t' = k := ⟨_, rfl⟩
      have hnx : nextT t' = (k : Int) := by rw [nextT, if_pos hz, hk]
      have ZS := Lib.hid (fun y hy => zeroT_set (x := y) hz hy)
      rw [hk] at hz ZS
      have HZ := Lib.hid hk
      have HL := Lib.hid hz
      have hkP : k < P := by have := I.out.len; omega
      rw [hnx]
      have i0 : (0 : Int) ≤ (k : Int) := by omega
      have i1 : (k : Int) < (P : Int) := by omega
      have k1 : IntKind.i64.wrap ((S : Int) + (k : Int)) = ((S + k : Nat) : Int) := by rw [show (S : Int) + (k : Int) = ((S + k : Nat) : Int) by omega]; exact IntWalk.i64_in _ (by omega)
      have k2 : IntKind.i64.wrap (3 + (k : Int)) = ((3 + k : Nat) : Int) := by rw [show 3 + (k : Int) = ((3 + k : Nat) : Int) by omega]; exact IntWalk.i64_in _ (by omega)
      have Q0 : Lq wr.drew q g S P := I.out.lq
      obtain ⟨d0, d1, _⟩ := Q0.cells
      have Ld : Ln wr.drew w.heap.size d := I.out.ln
      have ll := Ld.load
      have hcs := I.out.c
      have nmd : Nm wr.drew g s' := I.out.nm
      have PC := Lib.hid (put_any g s' ((S + k : Nat) : Int) d wr.drew nmd I.out.ok (by omega) hd)
      have OK1 := Lib.hid (I.out.ok.put hd ((S + k : Nat) : Int))
      have c1s := s'.put_c ((S + k : Nat) : Int) d
      have C1S : Hid ((s'.put ((S + k : Nat) : Int) d).c < 4611686018427387904) := Lib.hid (by omega)
      have hgx : Hid (g ≠ x) := Lib.hid (by have := KK.out.1; omega)
      have hqx : Hid (q ≠ x) := Lib.hid (by have := KK.out.2.2; omega)
      have hbx : Hid (w.heap.size ≠ x) := Lib.hid (Nat.ne_of_gt (VB.out _ _ _ rfl))
      clear hcs nmd hk hz Q0 Ld c1s hnx
      by_cases he0 : s'.putE ((S + k : Nat) : Int) = 0
      · rw [he0] at PC
        go_wp2
        refine wp_region_still_tail 11 (by kernel_rfl) (by kernel_rfl) ?_
        simp only [List.take_succ_cons, List.take_zero, List.drop_succ_cons, List.drop_zero]
        change wpStill _ _ (World.drew _) _ _ _
        repeat still_step
        refine wpStill_nil ?_
        change wpList _ _ _ _ _ (World.drew _)
        go_wp2_with fail
        refine (PC.out).mono ?_; rintro e w2 ⟨rfl, hN2, hC2⟩
        have N2 := Lib.hid hN2
        have C2 := Lib.hid (I.out.chg.drew.trans hC2)
        have O2 := Lib.hid (OwnU.chg I.out.own.drew hC2 (by simpa using KK.out.1))
        have V2 := Lib.hid (Lq.chg (show Lq wr.drew q g S P from I.out.lq) hC2 (by simpa using KK.out.2.1))
        have L2 := Lib.hid (Chg.ln hC2 (show Ln wr.drew w.heap.size d from I.out.ln) (by simpa using fun e => bq.out.2 e.symm))
        clear hN2 hC2 PC
        have own3 := OwnU.stored O2.out k (a + 1)
        have nm3 := N2.out.other (g' := x) (i := k) hgx.out (.int .u64 (a + 1))
        have cg3 := C2.out.setCell (p := ⟨x, k, none⟩) (.inr hx0) (.int .u64 (a + 1))
        have lq3 : Lq (w2.setCell ⟨x, k, none⟩ (.int .u64 (a + 1))) q g S P := Whole.other (p := ⟨x, k, none⟩) V2.out hqx.out _
        have ln3 := L2.out.other (g' := x) (i := k) hbx.out (.int .u64 (a + 1))
        obtain ⟨c1, f1⟩ := OwnU.cells O2.out (j := k) HL.out
        obtain ⟨W3, hW3⟩ : ∃ W3, w2.setCell ⟨x, k, none⟩ (.int .u64 (a + 1)) = W3 := ⟨_, rfl⟩
        rw [hW3] at own3 nm3 cg3 lq3 ln3
        have O3 := Lib.hid own3
        have N3 := Lib.hid nm3
        have C3 := Lib.hid cg3
        have V3 := Lib.hid lq3
        have L3 := Lib.hid ln3
        generalize t'.getD k 0 = z at c1
        have nmd : Nm W3.drew g (s'.put ((S + k : Nat) : Int) d) := nm3
        have SC := Lib.hid (set_any g (s'.put ((S + k : Nat) : Int) d) ((3 + k : Nat) : Int) (a + 1) W3.drew nmd OK1.out C1S.out)
        have Q3 : Lq W3.drew q g S P := lq3
        obtain ⟨g0, _, _⟩ := Q3.cells
        obtain ⟨g1, _⟩ := OwnU.cells own3.drew (j := k) (by rw [List.length_set]; exact HL.out)
        rw [getD_setT HL.out, if_pos rfl] at g1
        clear own3 nm3 cg3 lq3 ln3 nmd Q3
        go_wp2
        refine wp_region_still_tail 10 (by kernel_rfl) (by kernel_rfl) ?_
        simp only [List.take_succ_cons, List.take_zero, List.drop_succ_cons, List.drop_zero]
        change wpStill _ _ (World.drew _) _ _ _
        repeat still_step
        refine wpStill_nil ?_
        change wpList _ _ _ _ _ (World.drew _)
        go_wp2_with fail
        refine (SC.out).mono ?_; rintro e w5 ⟨rfl, hN5, hC5⟩
        have E := Lib.hid ((repl_ok HZ.out HL.out he0).symm.trans I.out.eq)
        have N5 := Lib.hid hN5
        have C5 := Lib.hid (C3.out.drew.trans hC5)
        clear hN5 hC5
        generalize (s'.put ((S + k : Nat) : Int) d).setE ((3 + k : Nat) : Int) = se at *
        by_cases hse : se = 0
        · subst hse
          go_wp2
          go_ret
          rw [← E.out]
          exact ⟨rfl, N5.out, C5.out⟩
        · have tse : (se != 0) = true := by simpa using hse
          go_wp2
          go_ret
          rw [← E.out]
          exact ⟨rfl, N5.out, C5.out⟩
      by_cases he3 : s'.putE ((S + k : Nat) : Int) = 3
      · rw [he3] at PC
        go_wp2
        refine wp_region_still_tail 11 (by kernel_rfl) (by kernel_rfl) ?_
        simp only [List.take_succ_cons, List.take_zero, List.drop_succ_cons, List.drop_zero]
        change wpStill _ _ (World.drew _) _ _ _
        repeat still_step
        refine wpStill_nil ?_
        change wpList _ _ _ _ _ (World.drew _)
        go_wp2_with fail
        refine (PC.out).mono ?_; rintro e w2 ⟨rfl, hN2, hC2⟩
        have N2 := Lib.hid hN2
        have C2 := Lib.hid (I.out.chg.drew.trans hC2)
        have O2 := Lib.hid (OwnU.chg I.out.own.drew hC2 (by simpa using KK.out.1))
        have V2 := Lib.hid (Lq.chg (show Lq wr.drew q g S P from I.out.lq) hC2 (by simpa using KK.out.2.1))
        have L2 := Lib.hid (Chg.ln hC2 (show Ln wr.drew w.heap.size d from I.out.ln) (by simpa using fun e => bq.out.2 e.symm))
        clear hN2 hC2 PC
        obtain ⟨_, v1, _⟩ := V2.out.cells
        have own3 := OwnU.stored O2.out k ((S : Int) + 1)
        have nm3 := N2.out.other (g' := x) (i := k) hgx.out (.int .u64 ((S : Int) + 1))
        have cg3 := C2.out.setCell (p := ⟨x, k, none⟩) (.inr hx0) (.int .u64 ((S : Int) + 1))
        have lq3 : Lq (w2.setCell ⟨x, k, none⟩ (.int .u64 ((S : Int) + 1))) q g S P := Whole.other (p := ⟨x, k, none⟩) V2.out hqx.out _
        have ln3 := L2.out.other (g' := x) (i := k) hbx.out (.int .u64 ((S : Int) + 1))
        obtain ⟨c1, f1⟩ := OwnU.cells O2.out (j := k) HL.out
        obtain ⟨W3, hW3⟩ : ∃ W3, w2.setCell ⟨x, k, none⟩ (.int .u64 ((S : Int) + 1)) = W3 := ⟨_, rfl⟩
        rw [hW3] at own3 nm3 cg3 lq3 ln3
        have O3 := Lib.hid own3
        have N3 := Lib.hid nm3
        have C3 := Lib.hid cg3
        have V3 := Lib.hid lq3
        have L3 := Lib.hid ln3
        generalize t'.getD k 0 = z at c1
        have nmd : Nm W3.drew g (s'.put ((S + k : Nat) : Int) d) := nm3
        have SC := Lib.hid (set_any g (s'.put ((S + k : Nat) : Int) d) ((3 + k : Nat) : Int) ((S : Int) + 1) W3.drew nmd OK1.out C1S.out)
        have Q3 : Lq W3.drew q g S P := lq3
        obtain ⟨g0, _, _⟩ := Q3.cells
        obtain ⟨g1, _⟩ := OwnU.cells own3.drew (j := k) (by rw [List.length_set]; exact HL.out)
        rw [getD_setT HL.out, if_pos rfl] at g1
        clear own3 nm3 cg3 lq3 ln3 nmd Q3
        go_wp2_with fail
        refine (DD.out _).mono ?_; rintro e w' ⟨rfl, rfl⟩
        go_wp2
        refine wp_region_still_tail 10 (by kernel_rfl) (by kernel_rfl) ?_
        simp only [List.take_succ_cons, List.take_zero, List.drop_succ_cons, List.drop_zero]
        change wpStill _ _ (World.drew _) _ _ _
        repeat still_step
        refine wpStill_nil ?_
        change wpList _ _ _ _ _ (World.drew _)
        go_wp2_with fail
        refine (SC.out).mono ?_; rintro e w5 ⟨rfl, hN5, hC5⟩
        have N5 := Lib.hid hN5
        have C5 := Lib.hid (C3.out.drew.trans hC5)
        have O5 := Lib.hid (OwnU.chg O3.out.drew hC5 (by simpa using KK.out.1))
        have V5 := Lib.hid (Lq.chg (show Lq W3.drew q g S P from V3.out) hC5 (by simpa using KK.out.2.1))
        have L5 := Lib.hid (Chg.ln hC5 (show Ln W3.drew w.heap.size d from L3.out) (by simpa using fun e => bq.out.2 e.symm))
        have OK5 := Lib.hid (OK1.out.set ((3 + k : Nat) : Int) ((S : Int) + 1))
        have s5c := (s'.put ((S + k : Nat) : Int) d).set_c ((3 + k : Nat) : Int) ((S : Int) + 1)
        have S5C := Lib.hid s5c
        clear hN5 hC5 s5c
        by_cases hse : (s'.put ((S + k : Nat) : Int) d).setE ((3 + k : Nat) : Int) = 0
        · have E := Lib.hid ((repl_worn HZ.out HL.out he3 hse).symm.trans I.out.eq)
          have NX5 := Lib.hid (next_any _ _ w5 O5.out.ru)
          rw [hse]
          go_wp2_with fail
          refine (NX5.out).mono ?_; rintro e w' ⟨rfl, rfl⟩
          have c5s := S5C.out
          have c6s := s'.put_c ((S + k : Nat) : Int) d
          have c7s := I.out.c
          have f5 := I.out.fuel
          have z5 := ZS.out ((S : Int) + 1) (by omega)
          have hzk := HZ.out
          have I5 : RInv w0 w5 q g w.heap.size (.slice (some ⟨x, 0, none⟩) P cp) S P a d R m (t'.set k ((S : Int) + 1)) ((s'.put ((S + k : Nat) : Int) d).set ((3 + k : Nat) : Int) ((S : Int) + 1)) :=
            ⟨O5.out, by rw [List.length_set]; exact I.out.len, N5.out, V5.out, L5.out, C5.out, OK5.out, by push_cast at c7s; omega, by omega, E.out⟩
          have HI := Lib.hid I5
          have HM : Hid ((if intOf (.int .i64 (nextT (t'.set k ((S : Int) + 1)))) < 0 then 0 else P + 1 - (intOf (.int .i64 (nextT (t'.set k ((S : Int) + 1))))).toNat) < (if intOf (.int .i64 (k : Int)) < 0 then 0 else P + 1 - (intOf (.int .i64 (k : Int))).toNat)) := Lib.hid (by
            have h1 : intOf (.int .i64 (k : Int)) = (k : Int) := rfl
            have h2 : intOf (.int .i64 (nextT (t'.set k ((S : Int) + 1)))) = nextT (t'.set k ((S : Int) + 1)) := rfl
            rw [h1, h2, if_neg (by omega : ¬ (k : Int) < 0)]
            unfold nextT
            by_cases hzz : zeroT (t'.set k ((S : Int) + 1)) < (t'.set k ((S : Int) + 1)).length
            · rw [if_pos hzz, if_neg (by omega)]; omega
            · rw [if_neg hzz, if_pos (by omega)]; omega)
          clear c5s c6s c7s f5 z5 hzk I5
          go_wp2
          exact ⟨⟨m, _, _, rfl, HI⟩, HM.out⟩
        · have E := Lib.hid ((repl_wornE HZ.out HL.out he3 hse).symm.trans I.out.eq)
          generalize (s'.put ((S + k : Nat) : Int) d).setE ((3 + k : Nat) : Int) = se at *
          have tse : (se != 0) = true := by simpa using hse
          go_wp2
          go_ret
          rw [← E.out]
          exact ⟨rfl, N5.out, C5.out⟩
      · have E := Lib.hid ((repl_else HZ.out HL.out he0 he3).symm.trans I.out.eq)
        generalize s'.putE ((S + k : Nat) : Int) = pe at *
        have te0 : (pe == 0) = false := by simpa using he0
        have te3 : (pe == 3) = false := by simpa using he3
        go_wp2
        refine wp_region_still_tail 11 (by kernel_rfl) (by kernel_rfl) ?_
        simp only [List.take_succ_cons, List.take_zero, List.drop_succ_cons, List.drop_zero]
        change wpStill _ _ (World.drew _) _ _ _
        repeat still_step
        refine wpStill_nil ?_
        change wpList _ _ _ _ _ (World.drew _)
        go_wp2_with fail
        refine (PC.out).mono ?_; rintro e w2 ⟨rfl, hN2, hC2⟩
        have N2 := Lib.hid hN2
        have C2 := Lib.hid (I.out.chg.drew.trans hC2)
        have O2 := Lib.hid (OwnU.chg I.out.own.drew hC2 (by simpa using KK.out.1))
        have V2 := Lib.hid (Lq.chg (show Lq wr.drew q g S P from I.out.lq) hC2 (by simpa using KK.out.2.1))
        have L2 := Lib.hid (Chg.ln hC2 (show Ln wr.drew w.heap.size d from I.out.ln) (by simpa using fun e => bq.out.2 e.symm))
        clear hN2 hC2 PC
        go_wp2
        go_ret
        rw [← E.out]
        exact ⟨rfl, N2.out, C2.out⟩
    · have hr : (3, s') = R := (repl_none hz).symm.trans I.out.eq
      have hnx : nextT t' = -1 := by rw [nextT, if_neg hz]
      rw [hnx]
      have NN := Lib.hid I.out.nm
      have CC := Lib.hid I.out.chg
      subst hr
      clear I
      go_wp2
      go_ret
      exact ⟨rfl, NN.out, CC.out⟩
end Go.Proofs.Ytjchmkgkibiadaa
