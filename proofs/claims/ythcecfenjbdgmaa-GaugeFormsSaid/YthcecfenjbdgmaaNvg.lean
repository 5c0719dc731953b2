/-
  Contract of package nvm's Put.
-/
import Derived.Test.YthcecfenjbdgmaaNvf
import Derived.Deep.RegionHeld3
import Derived.Deep.DeepCutAuto
import Derived.Deep.RegionLaw
namespace Go.Proofs.Ythcecfenjbdgmaa
set_option maxRecDepth 100000
open Go.RowKit

theorem put_no (g : Nat) (s : Nv) (i : Int) (l : List Int) (w : World) (h : Nm w g s) (hr : s.rdy (s.has i) ≠ 0) : Calls Try.prog 15 #[.pointer (some ⟨g, 0, none⟩), .int .i64 i, .agg (lc l)] w fun e w' => e = .returned (.int .i64 (s.rdy (s.has i))) ∧ w' = w.alloc (.cells (lc l) 36) := by
  have h1 := h.alloc (.cells (lc l) 36)
  have C := Lib.hid (hasLine_any g s i _ h1)
  have C1 := Lib.hid (ready_any g s (s.has i) _ h1)
  have t0 : (s.rdy (s.has i) != 0) = true := by simpa using hr
  clear h h1 hr
  generalize s.has i = b at *
  generalize s.rdy b = x at *
  go_enter Try.func15, Try.ntmps15
  go_wp2_with fail
  refine (C.out).mono ?_; rintro e w' ⟨rfl, rfl⟩
  go_wp2_with fail
  refine (C1.out).mono ?_; rintro e w' ⟨rfl, rfl⟩
  go_wp2
  go_ret
  exact ⟨rfl, rfl⟩

theorem put_worn (g : Nat) (s : Nv) (k : Nat) (l : List Int) (w : World) (h : Nm w g s) (hc : 0 ≤ s.c) (hc2 : s.c < 4611686018427387904) (ha : s.ahead ≤ 9223372036854775807) (hk : k < 200) (hr : s.rdy (s.has k) = 0) (hw : s.worn k = true) :
    Calls Try.prog 15 #[.pointer (some ⟨g, 0, none⟩), .int .i64 k, .agg (lc l)] w fun e w' => e = .returned (.int .i64 (if s.told = 0 then 3 else s.told)) ∧ Nm w' g s.tick ∧ Chg [g] w w' := by
  have h1 := h.alloc (.cells (lc l) 36)
  have C := Lib.hid (hasLine_any g s k _ h1)
  have C1 := Lib.hid (ready_any g s (s.has k) _ h1)
  have C2 := Lib.hid (write_any g s _ h1 hc hc2 ha)
  have HA := Lib.hid ((Chg.refl [g] w).alloc (.cells (lc l) 36))
  have C3 := Lib.hid (fun w1 (hN : Nm w1 g s.tick) => worn_any g s.tick k w1 hN hk)
  have e : s.tick.worn k = true := hw
  rw [e] at C3
  rw [hr] at C1
  clear h h1 hr hc hc2 ha hw e
  generalize s.has (k : Int) = b at *
  generalize s.by_ = m at *
  generalize s.tick = s1 at *
  have t1 : s.told = 0 ∨ s.told = 2 := by unfold Nv.told; split <;> simp
  generalize s.told = t at *
  clear s
  rcases t1 with rfl | rfl
  · go_enter Try.func15, Try.ntmps15
    go_wp2_with fail
    refine (C.out).mono ?_; rintro e w' ⟨rfl, rfl⟩
    go_wp2_with fail
    refine (C1.out).mono ?_; rintro e w' ⟨rfl, rfl⟩
    go_wp2_with fail
    refine C2.out.mono ?_; rintro e w1 ⟨rfl, hN, hC⟩
    have HN := Lib.hid hN
    have HC := Lib.hid (HA.out.trans hC)
    clear hN hC
    go_wp2_with fail
    refine (C3.out w1 HN.out).mono ?_; rintro e w2 ⟨rfl, n, rfl⟩
    go_wp2
    go_ret
    exact ⟨rfl, HN.out, HC.out.drewN _⟩
  · go_enter Try.func15, Try.ntmps15
    go_wp2_with fail
    refine (C.out).mono ?_; rintro e w' ⟨rfl, rfl⟩
    go_wp2_with fail
    refine (C1.out).mono ?_; rintro e w' ⟨rfl, rfl⟩
    go_wp2_with fail
    refine C2.out.mono ?_; rintro e w1 ⟨rfl, hN, hC⟩
    have HN := Lib.hid hN
    have HC := Lib.hid (HA.out.trans hC)
    clear hN hC
    go_wp2_with fail
    refine (C3.out w1 HN.out).mono ?_; rintro e w2 ⟨rfl, n, rfl⟩
    go_wp2
    go_ret
    exact ⟨rfl, HN.out, HC.out.drewN _⟩

theorem Nv.lay_eq (s : Nv) (k : Nat) (l : List Int) (m : Int) : ({ { s with wr := upd s.wr k (s.wr k + 1) } with h := upd s.h k (mix (s.h k) l m) } : Nv) = s.lay k l m := rfl

set_option maxHeartbeats 1000000 in
theorem put_yes (g : Nat) (s : Nv) (k : Nat) (l : List Int) (w : World) (h : Nm w g s) (ho : s.Ok) (hc2 : s.c < 4611686018427387904) (hl : l.length = 8) (hk : k < 200) (hr : s.rdy (s.has k) = 0) (hw : s.worn k = false) :
    Calls Try.prog 15 #[.pointer (some ⟨g, 0, none⟩), .int .i64 k, .agg (lc l)] w fun e w' => e = .returned (.int .i64 s.told) ∧ Nm w' g (s.tick.lay k l s.by_) ∧ Chg [g] w w' := by
  have hc := Int.le_trans (ho.wr0 0) (ho.wr1 0)
  have h1 := h.alloc (.cells (lc l) 36)
  have C := Lib.hid (hasLine_any g s k _ h1)
  have C1 := Lib.hid (ready_any g s (s.has k) _ h1)
  have C2 := Lib.hid (write_any g s _ h1 hc hc2 ho.ah)
  have HL := Lib.hid (Ln.new w hl)
  have HG := Lib.hid (Nat.ne_of_gt h.lt)
  have HA := Lib.hid ((Chg.refl [g] w).alloc (.cells (lc l) 36))
  have C3 := Lib.hid (fun w1 (hN : Nm w1 g s.tick) => worn_any g s.tick k w1 hN hk)
  have e : s.tick.worn k = false := hw
  rw [e] at C3
  rw [hr] at C1
  have hx := ho.line k
  have hx1 : (s.tick.h k).length = 8 := hx
  have q0 : 0 ≤ s.tick.wr k := ho.wr0 k
  have q1 : s.tick.wr k < 4611686018427387904 := Int.lt_of_le_of_lt (ho.wr1 k) hc2
  have hm := mix_length (s.tick.h k) l s.by_ (hx1.trans hl.symm)
  rw [hx1] at hm
  have t1 : s.told = 0 ∨ s.told = 2 := by unfold Nv.told; split <;> simp
  have hD : g ∈ [g] := List.mem_singleton.2 rfl
  clear h h1 hr hc hc2 ho hw e hx
  generalize s.has (k : Int) = b at *
  generalize s.by_ = m at *
  generalize s.tick = s1 at *
  generalize s.told = t at *
  clear s
  go_enter Try.func15, Try.ntmps15
  go_wp2_with fail
  refine (C.out).mono ?_; rintro e w' ⟨rfl, rfl⟩
  go_wp2_with fail
  refine (C1.out).mono ?_; rintro e w' ⟨rfl, rfl⟩
  go_wp2_with fail
  refine C2.out.mono ?_; rintro e w1 ⟨rfl, hN, hC⟩
  have HN := Lib.hid hN
  have L1 := Lib.hid (hC.ln HL.out (by simp [HG.out]))
  have HC := Lib.hid (HA.out.trans hC)
  clear hN hC
  have c8 := HN.out.at_ (k := k * 10 + 8) (by omega)
  rw [s1.val_wr hk] at c8
  have z8 := HN.out.free (k * 10 + 8)
  go_wp2_with fail
  refine (C3.out w1 HN.out).mono ?_; rintro e w2 ⟨rfl, n, rfl⟩
  obtain ⟨W, hW⟩ : ∃ W, (w1.drewN n).setCell ⟨g, k * 10 + 8, none⟩ (.int .i64 (s1.wr k + 1)) = W := ⟨_, rfl⟩
  have NW := (HN.out.drewN n).setWear hk (s1.wr k + 1)
  rw [hW] at NW
  have CW := (HC.out.drewN n).setCell (p := ⟨g, k * 10 + 8, none⟩) (.inl hD) (.int .i64 (s1.wr k + 1))
  rw [hW] at CW
  have LW := (L1.out.drewN n).other HG.out (i := k * 10 + 8) (.int .i64 (s1.wr k + 1))
  rw [hW] at LW
  have HNW := Lib.hid NW
  have HCW := Lib.hid CW
  have ll := LW.later
  have lm : ∀ w' : World, Below W.heap.size W w' → (lineLoad (.pointer (some ⟨g, k * 10, none⟩))).run Try.prog w' = .ok (.agg (lc (s1.h k))) w' := fun w' hb => (NW.below hb).loadLine hk hx1
  have HST := Lib.hid (fun (w' : World) (hb : Below W.heap.size W w') => (NW.below hb).storeLine hk hm)
  have HSE : Hid (∀ (w' : World), Below W.heap.size W w' → Nm (w'.setCells g (k * 10) ((mix (s1.h k) l m).map uv)) g (s1.lay k l m)) := Lib.hid (fun (w' : World) (hb : Below W.heap.size W w') => ((NW.below hb).setLine hk hm).as (Nv.lay_eq s1 k l m))
  clear NW CW LW
  have hmix : mix (s1.h k) l m = mix (s1.h k) l m := rfl
  obtain ⟨x, ex⟩ : ∃ x, mix (s1.h k) l m = x := ⟨_, rfl⟩
  rw [ex] at HST HSE hm
  have CM := Lib.hid (fun w => mix_is (m := m) ex w hx1 hl)
  have hbd : Below W.heap.size W W.drew := (Below.refl _ _).drew
  go_wp2
  go_region_law (first
    | (go_simp; go_at_call 35; refine (CM.out _).mono ?_; rintro e wq ⟨rfl, hbq⟩
       have hst := HST.out wq (hbd.trans hbq)
       have HQ := Lib.hid (hbd.trans hbq)
       clear hbq))
  all_goals
    have HN3 := Lib.hid (HSE.out wq HQ.out)
    have HC3 := Lib.hid (Chg.setCells (D := [g]) (w := w) (b := g) (.inl hD) (x.map uv) (k * 10) wq (HCW.out.trans (Chg.of_below HQ.out [g])))
    go_wp2
    go_ret
    exact ⟨rfl, HN3.out, HC3.out⟩

theorem put_any (g : Nat) (s : Nv) (i : Int) (l : List Int) (w : World) (h : Nm w g s) (ho : s.Ok) (hc2 : s.c < 4611686018427387904) (hl : l.length = 8) :
    Calls Try.prog 15 #[.pointer (some ⟨g, 0, none⟩), .int .i64 i, .agg (lc l)] w fun e w' => e = .returned (.int .i64 (s.putE i)) ∧ Nm w' g (s.put i l) ∧ Chg [g] w w' := by
  have hc := Int.le_trans (ho.wr0 0) (ho.wr1 0)
  by_cases hr : s.rdy (s.has i) = 0
  · obtain ⟨k, rfl, hk, _⟩ := has_nat (rdy_zero hr).1 ho
    cases hw : s.worn k
    · refine (put_yes g s k l w h ho hc2 hl hk hr hw).mono ?_
      rintro e w' ⟨rfl, hN, hC⟩
      exact ⟨by simp [Nv.putE, hr, hw], hN.as (by simp [Nv.put, hr, hw]), hC⟩
    · refine (put_worn g s k l w h hc hc2 ho.ah hk hr hw).mono ?_
      rintro e w' ⟨rfl, hN, hC⟩
      refine ⟨ret_i64 ?_, hN.as (by simp [Nv.put, hr, hw]), hC⟩
      unfold Nv.putE Nv.told
      cases hg : s.goes <;> simp [hr, hw]
  · refine (put_no g s i l w h hr).mono ?_
    rintro e w' ⟨rfl, rfl⟩
    exact ⟨by simp [Nv.putE, hr], (h.alloc _).as (by simp [Nv.put, hr]), (Chg.refl _ _).alloc _⟩
theorem put_nil (i : Int) (l : List Int) (w : World) : Calls Try.prog 15 #[.pointer none, .int .i64 i, .agg (lc l)] w fun e w' => e = .returned (.int .i64 1) ∧ Below w.heap.size w w' := by
  have HB := Lib.hid (bal (o := .cells (lc l) 36) (Below.refl w.heap.size w))
  go_enter Try.func15, Try.ntmps15
  go_wp2_with fail
  refine (hasLine_nil i _).mono ?_; rintro e w' ⟨rfl, rfl⟩
  go_wp2_with fail
  refine (ready_nil _).mono ?_; rintro e w' ⟨rfl, rfl⟩
  go_wp2
  go_ret
  exact ⟨rfl, HB.out⟩
end Go.Proofs.Ythcecfenjbdgmaa
