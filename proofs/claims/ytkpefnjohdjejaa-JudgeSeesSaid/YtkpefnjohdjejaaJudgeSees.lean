/-
  Whatever is told, a judge says as the reference's does, and its blocks, its root and its wear are the same. No conditions.
-/
import Derived.Test.YtkpefnjohdjejaaJgw
import Derived.Test.YtkpefnjohdjejaaZma
namespace Go.Proofs.Ytkpefnjohdjejaa.judgeSees
set_option maxRecDepth 100000
open Go.Proofs.Ytkpefnjohdjejaa Go.ChangeShapes Go.WideShapes Go.ChangeAt Go.RowKit

theorem built_rj (p : Option Addr) : Try.prog.built 30 [(0, .pointer p)] = some #[.pointer p, .bool false] := by kernel_rfl
def rjBuild (ps : Array (Nat × Value)) : Sem Value := Instr.build 30 ps
@[go_sem ↓] theorem build_rj (ps : Array (Nat × Value)) : Instr.build 30 ps = rjBuild ps := rfl
@[go_sem] theorem run_rjBuild (w : World) (p : Option Addr) : (rjBuild #[(0, .pointer p)]).run Try.prog w = .ok (.agg #[.pointer p, .bool false]) w := run_build w _ _ _ (built_rj p)
def rjStore (p v : Value) : Sem Unit := Instr.storeAt 30 p v
@[go_sem ↓] theorem storeAt_rj (p v : Value) : Instr.storeAt 30 p v = rjStore p v := rfl
theorem info_rj : (Try.prog.info? 30).map (·.size) = some 2 := by kernel_rfl
theorem run_rjStore (w : World) {z : Array Value} (hz : z.size = 2) (a b : Value) (h1 : a.oneCell' = true) (h2 : b.oneCell' = true) :
    (rjStore (.pointer (some ⟨w.heap.size, 0, none⟩)) (.agg #[a, b])).run Try.prog (w.alloc (.cells z 30)) = .ok () (w.alloc (.cells #[a, b] 30)) := by
  unfold rjStore
  simp only [Instr.storeAt, Instr.sureAddr, Sem.run_bind, Sem.run_pure, Result.andThen]
  rw [run_storeVar_row _ _ 30 30 z #[a, b] (heap_alloc_new w _) (by rw [info_rj]; rfl) (by rw [hz]; rfl) (by simp [h1, h2]), World.setRow_alloc_new]
set_option maxRecDepth 100000 in
set_option maxHeartbeats 8000000 in
theorem walk (a0 : Int) (l1 : List Tx) (v1 : Value) (w : World) (_ : (Lit.int .i64 a0).wf = true) (w1 : RA (tlE w) w v1 l1) :
    Calls Try.prog 3 #[.int .i64 a0, v1] w fun e w' => e = .returned (.bool true) ∧ Below w.heap.size w w' := by
  obtain ⟨p1, q1, rfl, _⟩ := ra_shape w1
  have W1 := Lib.hid w1
  clear w1
  by_cases hL : (l1.length : Int) > 100
  · have i1 : 100 < l1.length := by omega
    generalize l1.length = L at *
    go_enter Try.func3, Try.ntmps3
    go_wp2_with fail
    refine (awake_any _).mono ?_; rintro e w' ⟨rfl, hb⟩
    go_wp2_with fail
    go_ret
    exact ⟨rfl, hb⟩
  have i1 : ¬ 100 < l1.length := by omega
  have HL := Lib.hid i1
  by_cases hM : Mw a0
  rotate_left
  · have C1 := Lib.hid (jnew_no a0 hM w)
    have C2 := Lib.hid (fun w' => rnew_no a0 hM w')
    clear hM
    generalize l1.length = L at *
    go_enter Try.func3, Try.ntmps3
    go_wp2_with fail
    refine (C1.out).mono ?_; rintro e w2 ⟨rfl, b2⟩
    have B2 := Lib.hid b2
    clear b2
    go_wp2_with fail
    refine (C2.out _).mono ?_; rintro e w3 ⟨rfl, rfl⟩
    go_wp2_with fail
    refine (awake_any _).mono ?_; rintro e w4 ⟨rfl, b4⟩
    have B4 := Lib.hid (below_more B2.out b4)
    go_wp2_with fail
    go_ret
    exact ⟨rfl, B4.out⟩
  obtain ⟨n, rfl⟩ : ∃ n : Nat, a0 = n := ⟨a0.toNat, by have := hM.1; omega⟩
  have C1 := Lib.hid (jnew_yes n hM w)
  have C2 := Lib.hid (fun w' => rnew_yes n hM w')
  clear hM
  go_enter Try.func3, Try.ntmps3
  go_wp2_with fail
  refine (C1.out).mono ?_; rintro e w2 ⟨⟨j, g, rfl, hj, hg, hJ⟩, b2⟩
  have B2 := Lib.hid b2
  have HJ := Lib.hid (And.intro hj (And.intro hg hJ))
  clear b2 hj hg hJ C1
  go_wp2_with fail
  refine (C2.out _).mono ?_; rintro e w3 ⟨⟨g2, rfl, hg2, hg3, hR⟩, b3⟩
  have B3 := Lib.hid b3
  have HR := Lib.hid (And.intro hg2 (And.intro hg3 hR))
  clear b3 hg2 hg3 hR C2
  obtain ⟨W, hW⟩ : ∃ W, w3.alloc (.cells #[.pointer (some ⟨g2, 0, none⟩), .bool false] 30) = W := ⟨_, rfl⟩
  have hst := run_rjStore w3 (z := #[.pointer none, .bool false]) rfl (.pointer (some ⟨g2, 0, none⟩)) (.bool false) rfl rfl
  rw [hW] at hst
  have PR : Hid (∃ s g g2 D, Pr w W j w3.heap.size g g2 D s s) := Lib.hid (by
    have hb : Below w3.heap.size w3 W := by rw [← hW]; exact bal (Below.refl _ _)
    have hsz : W.heap.size = w3.heap.size + 1 := by rw [← hW, size_alloc]
    obtain ⟨j1, j2, j3⟩ := HJ.out
    obtain ⟨r1, r2, r3⟩ := HR.out
    have J1 := j3 [] (fun _ h => by cases h)
    have R1 := r3 [j, g] (fun k hk => by
      rcases List.mem_cons.1 hk with rfl | hk
      · exact J1.top.lt
      · rw [List.mem_singleton.1 hk]; exact J1.m.dlt g J1.m.gD)
    have hlt : j < w2.heap.size ∧ g < w2.heap.size := ⟨J1.top.lt, J1.m.dlt g J1.m.gD⟩
    have hs2 := B2.out.size
    have hs3 := B3.out.size
    have Bw3 := below_more B2.out B3.out
    have J2 : Jo W (w3.heap.size :: g2 :: j :: g :: []) j g _ := J1.wide (E := []) (Chg.of_below (below_more B3.out hb) []) (fun _ h => by cases h) (fun h => by cases h) (fun h => by cases h) (D' := w3.heap.size :: g2 :: j :: g :: []) (fun k hk => by simp at hk ⊢; omega) (fun k hk => by
      simp at hk ⊢
      omega) (fun k hk => by simp at hk; omega)
    have R2 : Rm W (w3.heap.size :: g2 :: j :: g :: []) g2 _ _ _ := R1.wide (E := []) (Chg.of_below hb []) (fun _ h => by cases h) (fun h => by cases h) (D' := w3.heap.size :: g2 :: j :: g :: []) (fun k hk => by simp at hk ⊢; omega) (fun k hk => by
      simp at hk ⊢
      omega) (fun k hk => by simp at hk; omega)
    refine ⟨⟨firstL n, [⟨0, n, false⟩], 0, false⟩, g, g2, _, J2, ⟨?_, R2, by simp, by omega⟩, by omega, by omega, below_more Bw3 hb⟩
    rw [← hW]; exact heap_alloc_new w3 _)
  obtain ⟨j2, hj2⟩ : ∃ j2, w3.heap.size = j2 := ⟨_, rfl⟩
  rw [hj2] at PR
  have HLT := Lib.hid HL.out
  clear HJ HR B2
  go_wp2
  go_loopw [31] (fun i wr => ∃ k : Nat, k ≤ l1.length ∧ i = .int .i64 k ∧ Hid (∃ s g g2 D, Pr w wr j j2 g g2 D s s)) (fun i _ => l1.length - (intOf i).toNat)
  case atStart => exact ⟨0, Nat.zero_le _, rfl, PR⟩
  case round =>
    clear PR
    obtain ⟨k, hk, rfl, H⟩ := hrel
    by_cases hlt : k < l1.length
    · obtain ⟨s, g, g2, D, hpr⟩ := H.out
      obtain ⟨bb, off, hpp, _, hx⟩ := tx_at (ra_below W1.out hpr.b) (by omega)
      subst hpp
      obtain ⟨hld, hwf⟩ := hx k hlt
      have i0 : (0 : Int) ≤ (k : Int) := by omega
      have i2 : (k : Int) < (l1.length : Int) := by omega
      have i3 : ¬ (k : Int) < 0 := by omega
      have i4 : IntKind.i64.wrap ((k : Int) + 1) = ((k + 1 : Nat) : Int) := by rw [show (k : Int) + 1 = ((k + 1 : Nat) : Int) by omega]; exact i64_nat _ (by have := HL.out; omega)
      have HK := Lib.hid hlt
      clear hx hk hlt
      generalize l1.getD k default = t at *
      obtain ⟨W9, hW9, hst, H9⟩ := tx_boxed wr t hwf.x.one hwf.one
      have T9 := Lib.hid H9.out.1
      have PR9 := Lib.hid (hpr.below H9.out.2)
      obtain ⟨q4, n4, e4, _⟩ := ra_shape hwf.x.rv
      obtain ⟨q7, n7, e7, _⟩ := ra_shape hwf.rv
      have HX := Lib.hid (ra_below hwf.x.rv (hpr.below H9.out.2).b)
      have HV := Lib.hid (ra_below hwf.rv (hpr.below H9.out.2).b)
      have HO := Lib.hid (And.intro (i64_wf hwf.x.wo) (i64_wf hwf.x.wn))
      have c4 := H9.out.1.c4
      have c7 := H9.out.1.c7
      rw [e4] at c4
      rw [e7] at c7
      have LT := Lib.hid hpr.lt
      have WF := Lib.hid hwf
      have HL4 : Hid (t.x.bl.length ≤ 500 → t.x.bl.length ≤ 100000) := Lib.hid (by omega)
      clear hpr hwf H H9
      by_cases hl4 : (t.x.bl.length : Int) > 500
      · have i5 : 500 < t.x.bl.length := by omega
        have B9 := Lib.hid PR9.out.b
        generalize t.x.bl.length = L4 at *
        generalize t.l.length = L7 at *
        go_wp2_with fail
        refine (awake_any _).mono ?_; rintro e w4 ⟨rfl, b4⟩
        have B4 := Lib.hid (below_more B9.out b4)
        go_wp2_with fail
        go_ret
        exact ⟨rfl, B4.out⟩
      have i5 : ¬ 500 < t.x.bl.length := by omega
      have HXL := Lib.hid (HL4.out (by omega))
      by_cases hl7 : (t.l.length : Int) > 500
      · have i6 : 500 < t.l.length := by omega
        have B9 := Lib.hid PR9.out.b
        generalize t.x.bl.length = L4 at *
        generalize t.l.length = L7 at *
        go_wp2_with fail
        refine (awake_any _).mono ?_; rintro e w4 ⟨rfl, b4⟩
        have B4 := Lib.hid (below_more B9.out b4)
        go_wp2_with fail
        go_ret
        exact ⟨rfl, B4.out⟩
      have i6 : ¬ 500 < t.l.length := by omega
      clear HL4
      have S1 := Lib.hid (PR9.out.below (Below.refl _ _).drew)
      have C1 := Lib.hid (S1.out.see1 t.x t.e t.o (ra_below HX.out (Below.refl _ _).drew) HXL.out (ra_below HV.out (Below.refl _ _).drew))
      have lo : ∀ w', Txv w' wr.heap.size t → (pxLoad (.pointer (some ⟨wr.heap.size, 0, none⟩))).run Try.prog w' = .ok (.agg (pxc t.x)) w' := fun w' h => h.op
      have la : ∀ w', Txv w' wr.heap.size t → (anLoad (.pointer (some ⟨wr.heap.size, 5, none⟩))).run Try.prog w' = .ok (.agg (anc t.e t.o t.v)) w' := fun w' h => h.ans
      clear e4 e7
      have NJ : Hid (wr.heap.size ∉ [j, g] ∧ wr.heap.size ∉ [j2]) := Lib.hid (by have := LT.out; simp; omega)
      have t9d : Txv W9.drew wr.heap.size t := T9.out.below (Below.refl _ _).drew
      go_wp2
      refine wp_region_held_drew (S := fun w' => Txv w' wr.heap.size t) (by kernel_rfl) t9d (fun hHeld => ?_)
      refine wpAnyH_take (i := 0) (oi := ⟨some 48, _, _, _, _, _⟩) (v := ?_) rfl (by kernel_rfl) (by kernel_rfl) (by kernel_rfl) (fun _ _ _ h => h) (Or.inl ⟨by rfl, ?_⟩) (by assumption) ?_
      rotate_left
      focus (intro w hSw; (try dsimp only at hSw); go_simp; try with_reducible rfl)
      try simp only [Act.put, List.setIfInBounds_toArray, List.set_cons_zero, List.set_cons_succ]
      refine wpAnyH_take (i := 1) (oi := ⟨some 49, _, _, _, _, _⟩) (v := ?_) rfl (by kernel_rfl) (by kernel_rfl) (by kernel_rfl) (fun _ _ _ h => h) (Or.inl ⟨by rfl, ?_⟩) (by assumption) ?_
      rotate_left
      focus (intro w hSw; (try dsimp only at hSw); go_simp; try with_reducible rfl)
      try simp only [Act.put, List.setIfInBounds_toArray, List.set_cons_zero, List.set_cons_succ]
      refine wpAnyH_take (i := 2) (oi := ⟨some 50, _, _, _, _, _⟩) (v := ?_) rfl (by kernel_rfl) (by kernel_rfl) (by kernel_rfl) (fun _ _ _ h => h) (Or.inl ⟨by rfl, ?_⟩) (by assumption) ?_
      rotate_left
      focus (intro w hSw; (try dsimp only at hSw); go_simp; try with_reducible rfl)
      try simp only [Act.put, List.setIfInBounds_toArray, List.set_cons_zero, List.set_cons_succ]
      refine wpAnyH_take (i := 3) (oi := ⟨some 51, _, _, _, _, _⟩) (v := ?_) rfl (by kernel_rfl) (by kernel_rfl) (by kernel_rfl) (fun _ _ _ h => h) (Or.inl ⟨by rfl, ?_⟩) (by assumption) ?_
      rotate_left
      focus (intro w hSw; (try dsimp only at hSw); go_simp; try with_reducible rfl)
      try simp only [Act.put, List.setIfInBounds_toArray, List.set_cons_zero, List.set_cons_succ]
      refine wpAnyH_take (i := 4) (oi := ⟨some 52, _, _, _, _, _⟩) (v := ?_) rfl (by kernel_rfl) (by kernel_rfl) (by kernel_rfl) (fun _ _ _ h => h) (Or.inl ⟨by rfl, ?_⟩) (by assumption) ?_
      rotate_left
      focus (intro w hSw; (try dsimp only at hSw); go_simp; try with_reducible rfl)
      try simp only [Act.put, List.setIfInBounds_toArray, List.set_cons_zero, List.set_cons_succ]
      refine wpAnyH_take (i := 6) (oi := ⟨some 54, _, _, _, _, _⟩) (v := ?_) rfl (by kernel_rfl) (by kernel_rfl) (by kernel_rfl) (fun _ _ _ h => h) (Or.inl ⟨by rfl, ?_⟩) (by assumption) ?_
      rotate_left
      focus (intro w hSw; (try dsimp only at hSw); go_simp; try with_reducible rfl)
      try simp only [Act.put, List.setIfInBounds_toArray, List.set_cons_zero, List.set_cons_succ]
      refine wpAnyH_take (i := 7) (oi := ⟨some 55, _, _, _, _, _⟩) (v := ?_) rfl (by kernel_rfl) (by kernel_rfl) (by kernel_rfl) (fun _ _ _ h => h) (Or.inl ⟨by rfl, ?_⟩) (by assumption) ?_
      rotate_left
      focus (intro w hSw; (try dsimp only at hSw); go_simp; try with_reducible rfl)
      try simp only [Act.put, List.setIfInBounds_toArray, List.set_cons_zero, List.set_cons_succ]
      refine wpAnyH_take (i := 8) (oi := ⟨some 56, _, _, _, _, _⟩) (v := ?_) rfl (by kernel_rfl) (by kernel_rfl) (by kernel_rfl) (fun _ _ _ h => h) (Or.inl ⟨by rfl, ?_⟩) (by assumption) ?_
      rotate_left
      focus (intro w hSw; (try dsimp only at hSw); go_simp; try with_reducible rfl)
      try simp only [Act.put, List.setIfInBounds_toArray, List.set_cons_zero, List.set_cons_succ]
      refine wpAnyH_take (i := 9) (oi := ⟨some 57, _, _, _, _, _⟩) (v := ?_) rfl (by kernel_rfl) (by kernel_rfl) (by kernel_rfl) (fun _ _ _ h => h) (Or.inl ⟨by rfl, ?_⟩) (by assumption) ?_
      rotate_left
      focus (intro w hSw; (try dsimp only at hSw); go_simp; try with_reducible rfl)
      try simp only [Act.put, List.setIfInBounds_toArray, List.set_cons_zero, List.set_cons_succ]
      refine wpAnyH_take (i := 10) (oi := ⟨some 58, _, _, _, _, _⟩) (v := ?_) rfl (by kernel_rfl) (by kernel_rfl) (by kernel_rfl) (fun _ _ _ h => h) (Or.inl ⟨by rfl, ?_⟩) (by assumption) ?_
      rotate_left
      focus (intro w hSw; (try dsimp only at hSw); go_simp; try with_reducible rfl)
      try simp only [Act.put, List.setIfInBounds_toArray, List.set_cons_zero, List.set_cons_succ]
      refine wpAnyH_ready (rs := [5]) (by kernel_rfl) (by simp) ?_
      refine AllReadyH.cons (o := ⟨some 53, _, _, _, _, _⟩) rfl (fun K hK => ?_) AllReadyH.nil
      go_simp
      go_at_call 10; refine (C1.out).mono ?_; rintro f wa ⟨b, s', g', D', rfl, hq, p1, k1⟩
      have ta : Txv wa wr.heap.size t := t9d.chg k1 NJ.out.1
      have P1 := Lib.hid p1
      have C2 := Lib.hid (p1.see2 t.x t.e t.o (ra_below WF.out.x.rv p1.b) HXL.out HO.out.1 HO.out.2 (ra_below WF.out.rv p1.b) hq)
      clear hq p1 k1 C1
      refine hK.out _ _ ?_ (fun hHeld => ?_)
      focus (exact ta)
      clear hK K
      try simp only [Act.put, List.setIfInBounds_toArray, List.set_cons_zero, List.set_cons_succ]
      refine wpAnyH_ready (rs := [11]) (by kernel_rfl) (by simp) ?_
      refine AllReadyH.cons (o := ⟨some 59, _, _, _, _, _⟩) rfl (fun K hK => ?_) AllReadyH.nil
      go_simp
      go_at_call 11; refine (C2.out).mono ?_; rintro f wb ⟨rfl, gb, Db, p2, k2⟩
      have tb : Txv wb wr.heap.size t := ta.chg k2 NJ.out.2
      have P2 := Lib.hid p2
      have jw : ∀ w', Below wb.heap.size wb w' → w'.cell? ⟨j2, 1, none⟩ = some (.bool s'.w) := fun w' hb => (P2.out.ro.below hb).c1
      have jm : ∀ w', Below wb.heap.size wb w' → w'.cell? ⟨j2, 0, none⟩ = some (.pointer (some ⟨gb, 0, none⟩)) := fun w' hb => (P2.out.ro.below hb).c0
      have jr : ∀ w', Below wb.heap.size wb w' → w'.cell? ⟨gb, 1, none⟩ = some (.int .i64 s'.r) := fun w' hb => by
        obtain ⟨mv, mW, _⟩ := (P2.out.ro.below hb).m.rows
        rw [Whole.at_ mW]; rfl
      have CW := Lib.hid (jworn_is P2.out.jo)
      have CR := Lib.hid (jroot_is P2.out.jo)
      have CB := Lib.hid (jblk_is P2.out.jo)
      have CM := Lib.hid (fun w' (hb : Below wb.heap.size wb w') => rmblk_is w' (P2.out.ro.m.below hb))
      have bb0 : Below wb.heap.size wb wb := Below.refl _ _
      have HN1 := Lib.hid (fun w' (hb : Below wb.heap.size wb w') => (show ∃ s g g2 D, Pr w w' j j2 g g2 D s s from ⟨_, _, _, _, P2.out.below hb⟩))
      clear p2 k2 C2
      refine hK.out _ _ ?_ (fun hHeld => ?_)
      focus (exact tb)
      clear hK K
      try simp only [Act.put, List.setIfInBounds_toArray, List.set_cons_zero, List.set_cons_succ]
      refine wpAnyH_sub (S' := fun w' => Below wb.heap.size wb w') (fun w' h => tb.below h) _ _ _ _ ?_
      clear lo la t9d ta
      generalize s'.w = sw at *
      generalize s'.r = sr at *
      generalize s'.l = sl at *
      refine wpAnyH_take (i := 12) (oi := ⟨some 60, _, _, _, _, _⟩) (v := ?_) rfl (by kernel_rfl) (by kernel_rfl) (by kernel_rfl) (fun _ _ _ h => h) (Or.inl ⟨by rfl, ?_⟩) (by assumption) ?_
      rotate_left
      focus (intro w hSw; (try dsimp only at hSw); go_simp; try with_reducible rfl)
      try simp only [Act.put, List.setIfInBounds_toArray, List.set_cons_zero, List.set_cons_succ]
      refine wpAnyH_take (i := 13) (oi := ⟨some 61, _, _, _, _, _⟩) (v := ?_) rfl (by kernel_rfl) (by kernel_rfl) (by kernel_rfl) (fun _ _ _ h => h) (Or.inl ⟨by rfl, ?_⟩) (by assumption) ?_
      rotate_left
      focus (intro w hSw; (try dsimp only at hSw); go_simp; try with_reducible rfl)
      try simp only [Act.put, List.setIfInBounds_toArray, List.set_cons_zero, List.set_cons_succ]
      refine wpAnyH_take (i := 14) (oi := ⟨some 62, _, _, _, _, _⟩) (v := ?_) rfl (by kernel_rfl) (by kernel_rfl) (by kernel_rfl) (fun _ _ _ h => h) (Or.inl ⟨by rfl, ?_⟩) (by assumption) ?_
      rotate_left
      focus (intro w hSw; (try dsimp only at hSw); go_simp; try with_reducible rfl)
      try simp only [Act.put, List.setIfInBounds_toArray, List.set_cons_zero, List.set_cons_succ]
      refine wpAnyH_take (i := 16) (oi := ⟨some 64, _, _, _, _, _⟩) (v := ?_) rfl (by kernel_rfl) (by kernel_rfl) (by kernel_rfl) (fun _ _ _ h => h) (Or.inl ⟨by rfl, ?_⟩) (by assumption) ?_
      rotate_left
      focus (intro w hSw; (try dsimp only at hSw); go_simp; try with_reducible rfl)
      try simp only [Act.put, List.setIfInBounds_toArray, List.set_cons_zero, List.set_cons_succ]
      refine wpAnyH_take (i := 17) (oi := ⟨some 65, _, _, _, _, _⟩) (v := ?_) rfl (by kernel_rfl) (by kernel_rfl) (by kernel_rfl) (fun _ _ _ h => h) (Or.inl ⟨by rfl, ?_⟩) (by assumption) ?_
      rotate_left
      focus (intro w hSw; (try dsimp only at hSw); go_simp; try with_reducible rfl)
      try simp only [Act.put, List.setIfInBounds_toArray, List.set_cons_zero, List.set_cons_succ]
      refine wpAnyH_take (i := 18) (oi := ⟨some 66, _, _, _, _, _⟩) (v := ?_) rfl (by kernel_rfl) (by kernel_rfl) (by kernel_rfl) (fun _ _ _ h => h) (Or.inl ⟨by rfl, ?_⟩) (by assumption) ?_
      rotate_left
      focus (intro w hSw; (try dsimp only at hSw); go_simp; try with_reducible rfl)
      try simp only [Act.put, List.setIfInBounds_toArray, List.set_cons_zero, List.set_cons_succ]
      refine wpAnyH_take (i := 19) (oi := ⟨some 67, _, _, _, _, _⟩) (v := ?_) rfl (by kernel_rfl) (by kernel_rfl) (by kernel_rfl) (fun _ _ _ h => h) (Or.inl ⟨by rfl, ?_⟩) (by assumption) ?_
      rotate_left
      focus (intro w hSw; (try dsimp only at hSw); go_simp; try with_reducible rfl)
      try simp only [Act.put, List.setIfInBounds_toArray, List.set_cons_zero, List.set_cons_succ]
      refine wpAnyH_ready (rs := [15]) (by kernel_rfl) (by simp) ?_
      refine AllReadyH.cons (o := ⟨some 63, _, _, _, _, _⟩) rfl (fun K hK => ?_) AllReadyH.nil
      go_simp
      go_at_call 12; refine (CW.out).mono ?_; rintro f wc ⟨rfl, rfl⟩
      skip
      refine hK.out _ _ ?_ (fun hHeld => ?_)
      focus (exact bb0)
      clear hK K
      try simp only [Act.put, List.setIfInBounds_toArray, List.set_cons_zero, List.set_cons_succ]
      refine wpAnyH_take (i := 20) (oi := ⟨some 68, _, _, _, _, _⟩) (v := ?_) rfl (by kernel_rfl) (by kernel_rfl) (by kernel_rfl) (fun _ _ _ h => h) (Or.inl ⟨by rfl, ?_⟩) (by assumption) ?_
      rotate_left
      focus (intro w hSw; (try dsimp only at hSw); go_simp; try with_reducible rfl)
      try simp only [Act.put, List.setIfInBounds_toArray, List.set_cons_zero, List.set_cons_succ]
      refine wpAnyH_take (i := 21) (oi := ⟨some 69, _, _, _, _, _⟩) (v := ?_) rfl (by kernel_rfl) (by kernel_rfl) (by kernel_rfl) (fun _ _ _ h => h) (Or.inl ⟨by rfl, ?_⟩) (by assumption) ?_
      rotate_left
      focus (intro w hSw; (try dsimp only at hSw); go_simp; try with_reducible rfl)
      try simp only [Act.put, List.setIfInBounds_toArray, List.set_cons_zero, List.set_cons_succ]
      refine wpAnyH_take (i := 22) (oi := ⟨some 70, _, _, _, _, _⟩) (v := ?_) rfl (by kernel_rfl) (by kernel_rfl) (by kernel_rfl) (fun _ _ _ h => h) (Or.inl ⟨by rfl, ?_⟩) (by assumption) ?_
      rotate_left
      focus (intro w hSw; (try dsimp only at hSw); go_simp; try with_reducible rfl)
      try simp only [Act.put, List.setIfInBounds_toArray, List.set_cons_zero, List.set_cons_succ]
      refine wpAnyH_take (i := 23) (oi := ⟨some 71, _, _, _, _, _⟩) (v := ?_) rfl (by kernel_rfl) (by kernel_rfl) (by kernel_rfl) (fun _ _ _ h => h) (Or.inl ⟨by rfl, ?_⟩) (by assumption) ?_
      rotate_left
      focus (intro w hSw; (try dsimp only at hSw); go_simp; try with_reducible rfl)
      try simp only [Act.put, List.setIfInBounds_toArray, List.set_cons_zero, List.set_cons_succ]
      refine wpAnyH_take (i := 25) (oi := ⟨some 73, _, _, _, _, _⟩) (v := ?_) rfl (by kernel_rfl) (by kernel_rfl) (by kernel_rfl) (fun _ _ _ h => h) (Or.inl ⟨by rfl, ?_⟩) (by assumption) ?_
      rotate_left
      focus (intro w hSw; (try dsimp only at hSw); go_simp; try with_reducible rfl)
      try simp only [Act.put, List.setIfInBounds_toArray, List.set_cons_zero, List.set_cons_succ]
      refine wpAnyH_take (i := 26) (oi := ⟨some 74, _, _, _, _, _⟩) (v := ?_) rfl (by kernel_rfl) (by kernel_rfl) (by kernel_rfl) (fun _ _ _ h => h) (Or.inl ⟨by rfl, ?_⟩) (by assumption) ?_
      rotate_left
      focus (intro w hSw; (try dsimp only at hSw); go_simp; try with_reducible rfl)
      try simp only [Act.put, List.setIfInBounds_toArray, List.set_cons_zero, List.set_cons_succ]
      refine wpAnyH_take (i := 27) (oi := ⟨some 75, _, _, _, _, _⟩) (v := ?_) rfl (by kernel_rfl) (by kernel_rfl) (by kernel_rfl) (fun _ _ _ h => h) (Or.inl ⟨by rfl, ?_⟩) (by assumption) ?_
      rotate_left
      focus (intro w hSw; (try dsimp only at hSw); go_simp; try with_reducible rfl)
      try simp only [Act.put, List.setIfInBounds_toArray, List.set_cons_zero, List.set_cons_succ]
      refine wpAnyH_take (i := 28) (oi := ⟨some 76, _, _, _, _, _⟩) (v := ?_) rfl (by kernel_rfl) (by kernel_rfl) (by kernel_rfl) (fun _ _ _ h => h) (Or.inl ⟨by rfl, ?_⟩) (by assumption) ?_
      rotate_left
      focus (intro w hSw; (try dsimp only at hSw); go_simp; try with_reducible rfl)
      try simp only [Act.put, List.setIfInBounds_toArray, List.set_cons_zero, List.set_cons_succ]
      refine wpAnyH_take (i := 29) (oi := ⟨some 77, _, _, _, _, _⟩) (v := ?_) rfl (by kernel_rfl) (by kernel_rfl) (by kernel_rfl) (fun _ _ _ h => h) (Or.inl ⟨by rfl, ?_⟩) (by assumption) ?_
      rotate_left
      focus (intro w hSw; (try dsimp only at hSw); go_simp; try with_reducible rfl)
      try simp only [Act.put, List.setIfInBounds_toArray, List.set_cons_zero, List.set_cons_succ]
      refine wpAnyH_take (i := 30) (oi := ⟨some 78, _, _, _, _, _⟩) (v := ?_) rfl (by kernel_rfl) (by kernel_rfl) (by kernel_rfl) (fun _ _ _ h => h) (Or.inl ⟨by rfl, ?_⟩) (by assumption) ?_
      rotate_left
      focus (intro w hSw; (try dsimp only at hSw); go_simp; try with_reducible rfl)
      try simp only [Act.put, List.setIfInBounds_toArray, List.set_cons_zero, List.set_cons_succ]
      refine wpAnyH_take (i := 31) (oi := ⟨some 79, _, _, _, _, _⟩) (v := ?_) rfl (by kernel_rfl) (by kernel_rfl) (by kernel_rfl) (fun _ _ _ h => h) (Or.inl ⟨by rfl, ?_⟩) (by assumption) ?_
      rotate_left
      focus (intro w hSw; (try dsimp only at hSw); go_simp; try with_reducible rfl)
      try simp only [Act.put, List.setIfInBounds_toArray, List.set_cons_zero, List.set_cons_succ]
      refine wpAnyH_ready (rs := [24]) (by kernel_rfl) (by simp) ?_
      refine AllReadyH.cons (o := ⟨some 72, _, _, _, _, _⟩) rfl (fun K hK => ?_) AllReadyH.nil
      go_simp
      go_at_call 13; refine (CR.out).mono ?_; rintro f wc ⟨rfl, rfl⟩
      skip
      refine hK.out _ _ ?_ (fun hHeld => ?_)
      focus (exact bb0)
      clear hK K
      try simp only [Act.put, List.setIfInBounds_toArray, List.set_cons_zero, List.set_cons_succ]
      refine wpAnyH_take (i := 32) (oi := ⟨some 80, _, _, _, _, _⟩) (v := ?_) rfl (by kernel_rfl) (by kernel_rfl) (by kernel_rfl) (fun _ _ _ h => h) (Or.inl ⟨by rfl, ?_⟩) (by assumption) ?_
      rotate_left
      focus (intro w hSw; (try dsimp only at hSw); go_simp; try with_reducible rfl)
      try simp only [Act.put, List.setIfInBounds_toArray, List.set_cons_zero, List.set_cons_succ]
      refine wpAnyH_take (i := 33) (oi := ⟨some 81, _, _, _, _, _⟩) (v := ?_) rfl (by kernel_rfl) (by kernel_rfl) (by kernel_rfl) (fun _ _ _ h => h) (Or.inl ⟨by rfl, ?_⟩) (by assumption) ?_
      rotate_left
      focus (intro w hSw; (try dsimp only at hSw); go_simp; try with_reducible rfl)
      try simp only [Act.put, List.setIfInBounds_toArray, List.set_cons_zero, List.set_cons_succ]
      refine wpAnyH_take (i := 34) (oi := ⟨some 82, _, _, _, _, _⟩) (v := ?_) rfl (by kernel_rfl) (by kernel_rfl) (by kernel_rfl) (fun _ _ _ h => h) (Or.inl ⟨by rfl, ?_⟩) (by assumption) ?_
      rotate_left
      focus (intro w hSw; (try dsimp only at hSw); go_simp; try with_reducible rfl)
      try simp only [Act.put, List.setIfInBounds_toArray, List.set_cons_zero, List.set_cons_succ]
      refine wpAnyH_take (i := 35) (oi := ⟨some 83, _, _, _, _, _⟩) (v := ?_) rfl (by kernel_rfl) (by kernel_rfl) (by kernel_rfl) (fun _ _ _ h => h) (Or.inl ⟨by rfl, ?_⟩) (by assumption) ?_
      rotate_left
      focus (intro w hSw; (try dsimp only at hSw); go_simp; try with_reducible rfl)
      try simp only [Act.put, List.setIfInBounds_toArray, List.set_cons_zero, List.set_cons_succ]
      refine wpAnyH_take (i := 37) (oi := ⟨some 85, _, _, _, _, _⟩) (v := ?_) rfl (by kernel_rfl) (by kernel_rfl) (by kernel_rfl) (fun _ _ _ h => h) (Or.inl ⟨by rfl, ?_⟩) (by assumption) ?_
      rotate_left
      focus (intro w hSw; (try dsimp only at hSw); go_simp; try with_reducible rfl)
      try simp only [Act.put, List.setIfInBounds_toArray, List.set_cons_zero, List.set_cons_succ]
      refine wpAnyH_take (i := 38) (oi := ⟨some 86, _, _, _, _, _⟩) (v := ?_) rfl (by kernel_rfl) (by kernel_rfl) (by kernel_rfl) (fun _ _ _ h => h) (Or.inl ⟨by rfl, ?_⟩) (by assumption) ?_
      rotate_left
      focus (intro w hSw; (try dsimp only at hSw); go_simp; try with_reducible rfl)
      try simp only [Act.put, List.setIfInBounds_toArray, List.set_cons_zero, List.set_cons_succ]
      refine wpAnyH_take (i := 39) (oi := ⟨some 87, _, _, _, _, _⟩) (v := ?_) rfl (by kernel_rfl) (by kernel_rfl) (by kernel_rfl) (fun _ _ _ h => h) (Or.inl ⟨by rfl, ?_⟩) (by assumption) ?_
      rotate_left
      focus (intro w hSw; (try dsimp only at hSw); go_simp; try with_reducible rfl)
      try simp only [Act.put, List.setIfInBounds_toArray, List.set_cons_zero, List.set_cons_succ]
      refine wpAnyH_take (i := 40) (oi := ⟨some 88, _, _, _, _, _⟩) (v := ?_) rfl (by kernel_rfl) (by kernel_rfl) (by kernel_rfl) (fun _ _ _ h => h) (Or.inl ⟨by rfl, ?_⟩) (by assumption) ?_
      rotate_left
      focus (intro w hSw; (try dsimp only at hSw); go_simp; try with_reducible rfl)
      try simp only [Act.put, List.setIfInBounds_toArray, List.set_cons_zero, List.set_cons_succ]
      refine wpAnyH_ready (rs := [36]) (by kernel_rfl) (by simp) ?_
      refine AllReadyH.cons (o := ⟨some 84, _, _, _, _, _⟩) rfl (fun K hK => ?_) AllReadyH.nil
      go_simp
      go_at_call 15; refine (CB.out).mono ?_; rintro f wd ⟨⟨v5, rfl, o5⟩, b5⟩
      have B5 := Lib.hid b5
      have O5 := Lib.hid o5.ra
      have CN := Lib.hid (CM.out wd b5)
      obtain ⟨q5, n5, rfl, _⟩ := ra_shape o5.ra
      clear o5
      refine hK.out _ _ ?_ (fun hHeld => ?_)
      focus (exact b5)
      clear hK K
      try simp only [Act.put, List.setIfInBounds_toArray, List.set_cons_zero, List.set_cons_succ]
      refine wpAnyH_ready (rs := [41]) (by kernel_rfl) (by simp) ?_
      refine AllReadyH.cons (o := ⟨some 89, _, _, _, _, _⟩) rfl (fun K hK => ?_) AllReadyH.nil
      go_simp
      go_at_call 16; refine (CN.out).mono ?_; rintro f we ⟨⟨v6, rfl, o6⟩, b6⟩
      have B6 := Lib.hid (below_more B5.out b6)
      have SB := Lib.hid (blks_same (w := we) (ra_below O5.out b6) o6.ra)
      obtain ⟨q6, n6, rfl, _⟩ := ra_shape o6.ra
      clear o6
      refine hK.out _ _ ?_ (fun hHeld => ?_)
      focus (exact B6.out)
      clear hK K
      try simp only [Act.put, List.setIfInBounds_toArray, List.set_cons_zero, List.set_cons_succ]
      refine wpAnyH_ready (rs := [42]) (by kernel_rfl) (by simp) ?_
      refine AllReadyH.cons (o := ⟨some 90, _, _, _, _, _⟩) rfl (fun K hK => ?_) AllReadyH.nil
      go_simp
      go_at_call 14; refine (SB.out).mono ?_; rintro f wf ⟨rfl, nf, rfl⟩
      have b7 : Below wb.heap.size wb (we.drewN nf) := below_drewN B6.out nf
      have HN2 := Lib.hid (HN1.out _ b7)
      refine hK.out _ _ ?_ (fun hHeld => ?_)
      focus (exact b7)
      clear hK K
      try simp only [Act.put, List.setIfInBounds_toArray, List.set_cons_zero, List.set_cons_succ]
      refine wpAnyH_take (i := 43) (oi := ⟨some 91, _, _, _, _, _⟩) (v := ?_) rfl (by kernel_rfl) (by kernel_rfl) (by kernel_rfl) (fun _ _ _ h => h) (Or.inl ⟨by rfl, ?_⟩) (by assumption) ?_
      rotate_left
      focus (intro w hSw; (try dsimp only at hSw); go_simp; try with_reducible rfl)
      try simp only [Act.put, List.setIfInBounds_toArray, List.set_cons_zero, List.set_cons_succ]
      refine wpAnyH_take (i := 44) (oi := ⟨some 92, _, _, _, _, _⟩) (v := ?_) rfl (by kernel_rfl) (by kernel_rfl) (by kernel_rfl) (fun _ _ _ h => h) (Or.inl ⟨by rfl, ?_⟩) (by assumption) ?_
      rotate_left
      focus (intro w hSw; (try dsimp only at hSw); go_simp; try with_reducible rfl)
      try simp only [Act.put, List.setIfInBounds_toArray, List.set_cons_zero, List.set_cons_succ]
      refine wpAnyH_done (by kernel_rfl) ?_ _
      clear jw jm jr
      go_wp2_with fail
      go_roundw
      case rel => exact ⟨k + 1, by have := HK.out; omega, by go_num, HN2⟩
      case measure => have := HK.out; simp [intOf]; omega
    · obtain rfl : k = l1.length := by omega
      obtain ⟨s, g, g2, D, hpr⟩ := H.out
      have B9 := Lib.hid hpr.b
      clear hpr H hk hlt
      generalize l1.length = L at *
      go_wp2_with fail
      refine (awake_any _).mono ?_; rintro e w4 ⟨rfl, b4⟩
      have B4 := Lib.hid (below_more B9.out b4)
      go_wp2_with fail
      go_ret
      exact ⟨rfl, B4.out⟩
set_option maxRecDepth 100000 in
theorem lifted (os : Os) (started : os.Started) (H : Type) (enc : TypeId × Value → H) :
    ReturnsInHanded {} Try.checked os 3 .any (Rows.judgeSeesSpec.pre6 enc Try.prog Try.f3 Rows.judgeSeesRow.domain false) (Rows.judgeSeesSpec.post enc Try.prog Try.f3 false true false false) := by
  refine returnsInHanded_of_change (C := Try.checked) own started (by kernel_rfl) Try.func3
    (ChangeSpec.witness6 (enc := enc) (C := Try.checked) false ⟨#[], #[.int .i64 0, .slice none 0 0], []⟩ 8 (by kernel_rfl) (by kernel_rfl) (by kernel_rfl) (by kernel_rfl)) ?_
  intro W base args ds gs before hval0 hW hcnd _
  have hval : ∀ (j : Nat) t v, Try.f3.params[j]? = some t → args[j]? = some v → Value.okWide Try.prog W .any base t v := hval0
  have hW' := hW
  have hlt := hW.lt
  obtain ⟨p, q, hA0, hV, hpq, hfz, hnd⟩ := hW
  have hA : DataW.TrodAll enc Try.prog W 0 (fun _ => true) true Try.f3.params.toList args.toList ds p := hA0
  rw [Try.params3] at hA hval
  obtain ⟨v0, vs0, d0, ds0, p0, q0, hargs, rfl, hp, h0, r0⟩ := trodAll_cons hA
  obtain ⟨v1, vs1, d1, ds1, p1, q1, rfl, rfl, rfl, h1, r1⟩ := trodAll_cons r0
  obtain ⟨rfl, rfl, rfl⟩ := trodAll_nil r1
  obtain rfl : args = #[v0, v1] := by cases args; simp_all
  obtain ⟨rfl, rfl⟩ := trodVars_none hV
  have hlt' : ∀ x ∈ before, x.block < W.heap.size := fun x hx => hlt x hx
  obtain ⟨a0, rfl, rfl, rfl, w0⟩ := open_int Try.underlying3 (hval 0 3 v0 rfl rfl) h0
  obtain ⟨l1, w1⟩ := tolds_in (hval 1 22 v1 rfl rfl) h1
  refine (walk a0 l1 v1 W w0 w1).mono fun e W' ⟨he, hb⟩ => ?_
  subst he
  exact ⟨_, rfl, law_post rfl (by kernel_rfl) hW' (by rw [Try.params3]; intro t ht; simp only [List.mem_cons, List.not_mem_nil, or_false] at ht; (repeat' (first | (rcases ht with rfl | ht) | subst ht)) <;> exact ⟨by kernel_rfl, of_decide_eq_true (by kernel_rfl)⟩) rfl hb⟩

theorem over : Rows.judgeSeesRow.holds Try.pinned (OpenSpec.ofChange Rows.judgeSeesSpec) :=
  OpenClaim.holds_of_wide 3 Try.f3 rfl rfl rfl rfl rfl rfl rfl ⟨rfl, rfl, rfl, rfl, rfl⟩ rfl rfl rfl rfl rfl (by kernel_rfl) Try.func3 (by kernel_rfl)
    (of_decide_eq_true (by kernel_rfl)) (by unfold Func.isWrapper; first | (rw [if_pos (by decide +kernel)]; kernel_rfl) | (rw [if_neg (by decide +kernel)]; exact ⟨rfl, rfl⟩))
    (fun os started H enc _ => lifted os started H enc)

theorem proved : Rows.JudgeSeesSaid := over
end Go.Proofs.Ytkpefnjohdjejaa.judgeSees
