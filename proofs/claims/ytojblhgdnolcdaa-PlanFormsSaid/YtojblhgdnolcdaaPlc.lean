/-
  A plan in a variable; contracts of package plan and of the reference's Pages, Device.
-/
import Derived.Test.YtojblhgdnolcdaaPln
import Derived.Deep.WholeRow
namespace Go.Proofs.Ytojblhgdnolcdaa
open Go.RowKit

theorem info_plan : (Try.prog.info? 23).map (·.size) = some 4 := by kernel_rfl
/-- a whole one loaded -/
def planLoad (p : Value) : Sem Value := Instr.loadAt 23 p
@[go_sem ↓] theorem loadAt_plan (p : Value) : Instr.loadAt 23 p = planLoad p := rfl

/-- block g holds a plan -/
def Pq (w : World) (g : Nat) (l s p b : Int) : Prop := Whole w g 23 #[Value.int IntKind.i64 l, Value.int IntKind.i64 s, Value.int IntKind.i64 p, Value.int IntKind.i64 b]
theorem Pq.c0 {w : World} {g : Nat} {l s p b : Int} (h : Pq w g l s p b) : w.cell? ⟨g, 0, none⟩ = some (.int .i64 l) := Whole.at_ h 0
theorem Pq.c1 {w : World} {g : Nat} {l s p b : Int} (h : Pq w g l s p b) : w.cell? ⟨g, 1, none⟩ = some (.int .i64 s) := Whole.at_ h 1
theorem Pq.load {w : World} {g : Nat} {l s p b : Int} (h : Pq w g l s p b) : (planLoad (.pointer (some ⟨g, 0, none⟩))).run Try.prog w = .ok (Value.agg #[Value.int IntKind.i64 l, Value.int IntKind.i64 s, Value.int IntKind.i64 p, Value.int IntKind.i64 b]) w :=
  run_loadAt_mid (P := Try.prog) w g 0 23 [.int .i64 l, .int .i64 s, .int .i64 p, .int .i64 b] _ (fun j v hv => by
    rw [Whole.at_ h, Nat.zero_add, ← hv]; simp) Try.underlying23 rfl (by rw [info_plan]; rfl)
theorem Pq.below {w w' : World} {g : Nat} {l s p b : Int} (h : Pq w g l s p b) (hb : Below w.heap.size w w') : Pq w' g l s p b := (hb.block g (Whole.lt h)).trans h
theorem plan_boxed (w : World) (l s p b : Int) : ∃ W, w.alloc (.cells #[Value.int IntKind.i64 l, Value.int IntKind.i64 s, Value.int IntKind.i64 p, Value.int IntKind.i64 b] 23) = W ∧ Hid (Pq W w.heap.size l s p b ∧ Below w.heap.size w W) :=
  ⟨_, rfl, Lib.hid ⟨heap_alloc_last w _, bal (Below.refl _ _)⟩⟩

theorem words_no {l s p b : Int} (h : ¬ May l s p b) (w : World) : Calls Try.prog 9 #[(Value.agg #[Value.int IntKind.i64 l, Value.int IntKind.i64 s, Value.int IntKind.i64 p, Value.int IntKind.i64 b])] w fun e w' => e = .returned (.int .i64 0) ∧ Below w.heap.size w w' := by
  obtain ⟨W, hW, H⟩ := plan_boxed w l s p b
  have l0 := H.out.1.load
  have C := Lib.hid (pmay_no h W)
  clear h
  go_enter Try.func9, Try.ntmps9
  go_wp2_with fail
  refine (C.out).mono ?_; rintro e w' ⟨rfl, hb⟩
  have HB := Lib.hid (below_more H.out.2 hb)
  clear hb
  go_wp2_with fail
  go_ret
  exact ⟨rfl, HB.out⟩
theorem pages_no {l s p b : Int} (h : ¬ May l s p b) (w : World) : Calls Try.prog 10 #[(Value.agg #[Value.int IntKind.i64 l, Value.int IntKind.i64 s, Value.int IntKind.i64 p, Value.int IntKind.i64 b])] w fun e w' => e = .returned (.int .i64 0) ∧ Below w.heap.size w w' := by
  obtain ⟨W, hW, H⟩ := plan_boxed w l s p b
  have l0 := H.out.1.load
  have C := Lib.hid (pmay_no h W)
  clear h
  go_enter Try.func10, Try.ntmps10
  go_wp2_with fail
  refine (C.out).mono ?_; rintro e w' ⟨rfl, hb⟩
  have HB := Lib.hid (below_more H.out.2 hb)
  clear hb
  go_wp2_with fail
  go_ret
  exact ⟨rfl, HB.out⟩
theorem logical_no {l s p b : Int} (h : ¬ May l s p b) (w : World) : Calls Try.prog 12 #[(Value.agg #[Value.int IntKind.i64 l, Value.int IntKind.i64 s, Value.int IntKind.i64 p, Value.int IntKind.i64 b])] w fun e w' => e = .returned (.int .i64 0) ∧ Below w.heap.size w w' := by
  obtain ⟨W, hW, H⟩ := plan_boxed w l s p b
  have l0 := H.out.1.load
  have C := Lib.hid (pmay_no h W)
  clear h
  go_enter Try.func12, Try.ntmps12
  go_wp2_with fail
  refine (C.out).mono ?_; rintro e w' ⟨rfl, hb⟩
  have HB := Lib.hid (below_more H.out.2 hb)
  clear hb
  go_wp2_with fail
  go_ret
  exact ⟨rfl, HB.out⟩
theorem device_no {l s p b : Int} (h : ¬ May l s p b) (w : World) : Calls Try.prog 13 #[(Value.agg #[Value.int IntKind.i64 l, Value.int IntKind.i64 s, Value.int IntKind.i64 p, Value.int IntKind.i64 b])] w fun e w' => e = .returned (.int .i64 0) ∧ Below w.heap.size w w' := by
  obtain ⟨W, hW, H⟩ := plan_boxed w l s p b
  have l0 := H.out.1.load
  have C := Lib.hid (pmay_no h W)
  clear h
  go_enter Try.func13, Try.ntmps13
  go_wp2_with fail
  refine (C.out).mono ?_; rintro e w' ⟨rfl, hb⟩
  have HB := Lib.hid (below_more H.out.2 hb)
  clear hb
  go_wp2_with fail
  go_ret
  exact ⟨rfl, HB.out⟩
theorem rpages_no {l s p b : Int} (h : ¬ May l s p b) (w : World) : Calls Try.prog 11 #[(Value.agg #[Value.int IntKind.i64 l, Value.int IntKind.i64 s, Value.int IntKind.i64 p, Value.int IntKind.i64 b])] w fun e w' => e = .returned (.int .i64 0) ∧ Below w.heap.size w w' := by
  obtain ⟨W, hW, H⟩ := plan_boxed w l s p b
  have l0 := H.out.1.load
  have C := Lib.hid (rmay_no h W)
  clear h
  go_enter Try.func11, Try.ntmps11
  go_wp2_with fail
  refine (C.out).mono ?_; rintro e w' ⟨rfl, hb⟩
  have HB := Lib.hid (below_more H.out.2 hb)
  clear hb
  go_wp2_with fail
  go_ret
  exact ⟨rfl, HB.out⟩
theorem rdevice_no {l s p b : Int} (h : ¬ May l s p b) (w : World) : Calls Try.prog 14 #[(Value.agg #[Value.int IntKind.i64 l, Value.int IntKind.i64 s, Value.int IntKind.i64 p, Value.int IntKind.i64 b])] w fun e w' => e = .returned (.int .i64 0) ∧ Below w.heap.size w w' := by
  obtain ⟨W, hW, H⟩ := plan_boxed w l s p b
  have l0 := H.out.1.load
  have C := Lib.hid (rmay_no h W)
  clear h
  go_enter Try.func14, Try.ntmps14
  go_wp2_with fail
  refine (C.out).mono ?_; rintro e w' ⟨rfl, hb⟩
  have HB := Lib.hid (below_more H.out.2 hb)
  clear hb
  go_wp2_with fail
  go_ret
  exact ⟨rfl, HB.out⟩

/-- such a plan, in whole numbers -/
def MayN (l s p b : Nat) : Prop := (1 ≤ l ∧ l ≤ 64) ∧ s ≤ 16 ∧ (1 ≤ p ∧ p ≤ 1000) ∧ 1 ≤ b ∧ b ≤ 100
theorem MayN.may {l s p b : Nat} (h : MayN l s p b) : May (l : Int) (s : Int) (p : Int) (b : Int) := by unfold MayN at h; unfold May; omega
theorem May.nat {l s p b : Int} (h : May l s p b) : ∃ L S P B : Nat, l = L ∧ s = S ∧ p = P ∧ b = B ∧ MayN L S P B := by
  unfold May at h
  exact ⟨l.toNat, s.toNat, p.toNat, b.toNat, by omega, by omega, by omega, by omega, by unfold MayN; omega⟩

theorem words_yes {l s p b v : Nat} (h : MayN l s p b) (hv : l * 8 = v) (w : World) : Calls Try.prog 9 #[(Value.agg #[Value.int IntKind.i64 (l : Int), Value.int IntKind.i64 (s : Int), Value.int IntKind.i64 (p : Int), Value.int IntKind.i64 (b : Int)])] w fun e w' => e = .returned (.int .i64 (v : Int)) ∧ Below w.heap.size w w' := by
  obtain ⟨W, hW, H⟩ := plan_boxed w l s p b
  have l0 := H.out.1.load
  have C := Lib.hid (pmay_yes h.may W)
  obtain ⟨⟨h1, h2⟩, h4, _⟩ := h
  have k0 : IntKind.i64.wrap ((l : Int) * 8) = v := by rw [show (l : Int) * 8 = (v : Int) by omega]; exact i64_nat _ (by omega)
  clear h1 h2 h4 hv
  go_enter Try.func9, Try.ntmps9
  go_wp2_with fail
  refine (C.out).mono ?_; rintro e w' ⟨rfl, hb⟩
  have HB := Lib.hid (below_more H.out.2 hb)
  have c0 := (H.out.1.below hb).c0
  have c1 := (H.out.1.below hb).c1
  clear hb
  go_wp2_with fail
  go_ret
  exact ⟨rfl, HB.out⟩
theorem logical_yes {l s p b v : Nat} (h : MayN l s p b) (hv : 16 + l = v) (w : World) : Calls Try.prog 12 #[(Value.agg #[Value.int IntKind.i64 (l : Int), Value.int IntKind.i64 (s : Int), Value.int IntKind.i64 (p : Int), Value.int IntKind.i64 (b : Int)])] w fun e w' => e = .returned (.int .i64 (v : Int)) ∧ Below w.heap.size w w' := by
  obtain ⟨W, hW, H⟩ := plan_boxed w l s p b
  have l0 := H.out.1.load
  have C := Lib.hid (pmay_yes h.may W)
  obtain ⟨⟨h1, h2⟩, h4, _⟩ := h
  have k0 : IntKind.i64.wrap (16 + (l : Int)) = v := by rw [show 16 + (l : Int) = (v : Int) by omega]; exact i64_nat _ (by omega)
  clear h1 h2 h4 hv
  go_enter Try.func12, Try.ntmps12
  go_wp2_with fail
  refine (C.out).mono ?_; rintro e w' ⟨rfl, hb⟩
  have HB := Lib.hid (below_more H.out.2 hb)
  have c0 := (H.out.1.below hb).c0
  have c1 := (H.out.1.below hb).c1
  clear hb
  go_wp2_with fail
  go_ret
  exact ⟨rfl, HB.out⟩
theorem pages_yes {l s p b v : Nat} (h : MayN l s p b) (hv : (l + 3) / 4 = v) (w : World) : Calls Try.prog 10 #[(Value.agg #[Value.int IntKind.i64 (l : Int), Value.int IntKind.i64 (s : Int), Value.int IntKind.i64 (p : Int), Value.int IntKind.i64 (b : Int)])] w fun e w' => e = .returned (.int .i64 (v : Int)) ∧ Below w.heap.size w w' := by
  obtain ⟨W, hW, H⟩ := plan_boxed w l s p b
  have l0 := H.out.1.load
  have C := Lib.hid (pmay_yes h.may W)
  obtain ⟨⟨h1, h2⟩, h4, _⟩ := h
  obtain ⟨m, hm⟩ : ∃ m, l - 1 = m := ⟨_, rfl⟩
  have k0 : IntKind.i64.wrap ((l : Int) - 1) = m := by rw [show (l : Int) - 1 = (m : Int) by omega]; exact i64_nat _ (by omega)
  have k1 : IntKind.i64.wrap (((m / 4 : Nat) : Int) + 1) = v := by rw [show ((m / 4 : Nat) : Int) + 1 = (v : Int) by omega]; exact i64_nat _ (by omega)
  have P := Lib.hid (page_is m (by omega))
  generalize m / 4 = q at *
  clear hm
  clear h1 h2 h4 hv
  go_enter Try.func10, Try.ntmps10
  go_wp2_with fail
  refine (C.out).mono ?_; rintro e w' ⟨rfl, hb⟩
  have HB := Lib.hid (below_more H.out.2 hb)
  have c0 := (H.out.1.below hb).c0
  have c1 := (H.out.1.below hb).c1
  clear hb
  go_wp2_with fail
  refine (P.out _).mono ?_; rintro e w' ⟨rfl, rfl⟩
  go_wp2_with fail
  go_ret
  exact ⟨rfl, HB.out⟩
theorem rpages_yes {l s p b v : Nat} (h : MayN l s p b) (hv : (l + 3) / 4 = v) (w : World) : Calls Try.prog 11 #[(Value.agg #[Value.int IntKind.i64 (l : Int), Value.int IntKind.i64 (s : Int), Value.int IntKind.i64 (p : Int), Value.int IntKind.i64 (b : Int)])] w fun e w' => e = .returned (.int .i64 (v : Int)) ∧ Below w.heap.size w w' := by
  obtain ⟨W, hW, H⟩ := plan_boxed w l s p b
  have l0 := H.out.1.load
  have C := Lib.hid (rmay_yes h.may W)
  obtain ⟨⟨h1, h2⟩, h4, _⟩ := h
  have k0 : IntKind.i64.wrap ((l : Int) + 4) = ((l + 4 : Nat) : Int) := by rw [show (l : Int) + 4 = ((l + 4 : Nat) : Int) by omega]; exact i64_nat _ (by omega)
  have k1 : IntKind.i64.wrap (((l + 4 : Nat) : Int) - 1) = ((l + 3 : Nat) : Int) := by rw [show ((l + 4 : Nat) : Int) - 1 = ((l + 3 : Nat) : Int) by omega]; exact i64_nat _ (by omega)
  have k2 : ((l + 3 : Nat) : Int).tdiv 4 = (v : Int) := by rw [← hv]; exact tdiv_nat (l + 3) 4
  have k3 : IntKind.i64.wrap (v : Int) = v := i64_nat _ (by omega)
  generalize l + 4 = x at *
  generalize l + 3 = y at *
  clear h1 h2 h4 hv
  go_enter Try.func11, Try.ntmps11
  go_wp2_with fail
  refine (C.out).mono ?_; rintro e w' ⟨rfl, hb⟩
  have HB := Lib.hid (below_more H.out.2 hb)
  have c0 := (H.out.1.below hb).c0
  have c1 := (H.out.1.below hb).c1
  clear hb
  go_wp2_with fail
  go_ret
  exact ⟨rfl, HB.out⟩
theorem rdevice_yes {l s p b v : Nat} (h : MayN l s p b) (hv : 17 + l + s = v) (w : World) : Calls Try.prog 14 #[(Value.agg #[Value.int IntKind.i64 (l : Int), Value.int IntKind.i64 (s : Int), Value.int IntKind.i64 (p : Int), Value.int IntKind.i64 (b : Int)])] w fun e w' => e = .returned (.int .i64 (v : Int)) ∧ Below w.heap.size w w' := by
  obtain ⟨W, hW, H⟩ := plan_boxed w l s p b
  have l0 := H.out.1.load
  have C := Lib.hid (rmay_yes h.may W)
  obtain ⟨⟨h1, h2⟩, h4, _⟩ := h
  have k0 : IntKind.i64.wrap (16 + (l : Int)) = ((16 + l : Nat) : Int) := by rw [show 16 + (l : Int) = ((16 + l : Nat) : Int) by omega]; exact i64_nat _ (by omega)
  have k1 : IntKind.i64.wrap (((16 + l : Nat) : Int) + 1) = ((17 + l : Nat) : Int) := by rw [show ((16 + l : Nat) : Int) + 1 = ((17 + l : Nat) : Int) by omega]; exact i64_nat _ (by omega)
  have k2 : IntKind.i64.wrap (((17 + l : Nat) : Int) + (s : Int)) = v := by rw [show ((17 + l : Nat) : Int) + (s : Int) = (v : Int) by omega]; exact i64_nat _ (by omega)
  generalize 16 + l = x at *
  generalize 17 + l = y at *
  clear h1 h2 h4 hv
  go_enter Try.func14, Try.ntmps14
  go_wp2_with fail
  refine (C.out).mono ?_; rintro e w' ⟨rfl, hb⟩
  have HB := Lib.hid (below_more H.out.2 hb)
  have c0 := (H.out.1.below hb).c0
  have c1 := (H.out.1.below hb).c1
  clear hb
  go_wp2_with fail
  go_ret
  exact ⟨rfl, HB.out⟩
theorem device_yes {l s p b v : Nat} (h : MayN l s p b) (hv : 17 + l + s = v) (w : World) : Calls Try.prog 13 #[(Value.agg #[Value.int IntKind.i64 (l : Int), Value.int IntKind.i64 (s : Int), Value.int IntKind.i64 (p : Int), Value.int IntKind.i64 (b : Int)])] w fun e w' => e = .returned (.int .i64 (v : Int)) ∧ Below w.heap.size w w' := by
  obtain ⟨W, hW, H⟩ := plan_boxed w l s p b
  have l0 := H.out.1.load
  have C := Lib.hid (pmay_yes h.may W)
  have LG := Lib.hid (logical_yes h rfl)
  obtain ⟨⟨h1, h2⟩, h4, _⟩ := h
  have k1 : IntKind.i64.wrap (((16 + l : Nat) : Int) + 1) = ((17 + l : Nat) : Int) := by rw [show ((16 + l : Nat) : Int) + 1 = ((17 + l : Nat) : Int) by omega]; exact i64_nat _ (by omega)
  have k2 : IntKind.i64.wrap (((17 + l : Nat) : Int) + (s : Int)) = v := by rw [show ((17 + l : Nat) : Int) + (s : Int) = (v : Int) by omega]; exact i64_nat _ (by omega)
  generalize 16 + l = x at *
  generalize 17 + l = y at *
  clear h1 h2 h4 hv
  go_enter Try.func13, Try.ntmps13
  go_wp2_with fail
  refine (C.out).mono ?_; rintro e w' ⟨rfl, hb⟩
  have B1 := Lib.hid (below_more H.out.2 hb)
  have r0 : ∀ w1 : World, Below w'.heap.size w' w1 → (planLoad (.pointer (some ⟨w.heap.size, 0, none⟩))).run Try.prog w1 = .ok (Value.agg #[Value.int IntKind.i64 (l : Int), Value.int IntKind.i64 (s : Int), Value.int IntKind.i64 (p : Int), Value.int IntKind.i64 (b : Int)]) w1 := fun _ hc => ((H.out.1.below hb).below hc).load
  have r1 : ∀ w1 : World, Below w'.heap.size w' w1 → w1.cell? ⟨w.heap.size, 1, none⟩ = some (.int .i64 (s : Int)) := fun _ hc => ((H.out.1.below hb).below hc).c1
  clear hb
  go_wp2_with fail
  go_region_held3 (fun w1 => Below w'.heap.size w' w1)
    (first | assumption | exact (Below.refl _ _).drew | exact below_more ‹Below w'.heap.size w' _› hbq)
    ((go_at_call 12; refine (LG.out _).mono ?_; rintro e wq ⟨rfl, hbq⟩))
  have HB := Lib.hid (below_more B1.out ‹Below w'.heap.size w' wq›)
  go_wp2
  go_ret
  exact ⟨rfl, HB.out⟩

theorem home_yes {l s p b i v : Nat} (h : MayN l s p b) (hi : i < l) (hv : 16 + i = v) (w : World) : Calls Try.prog 15 #[(Value.agg #[Value.int IntKind.i64 (l : Int), Value.int IntKind.i64 (s : Int), Value.int IntKind.i64 (p : Int), Value.int IntKind.i64 (b : Int)]), .int .i64 (i : Int)] w fun e w' => e = .returned (.int .i64 (v : Int)) ∧ Below w.heap.size w w' := by
  obtain ⟨W, hW, H⟩ := plan_boxed w l s p b
  have l0 := H.out.1.load
  have C := Lib.hid (pmay_yes h.may W)
  obtain ⟨⟨h1, h2⟩, h4, _⟩ := h
  obtain ⟨m, hm⟩ : ∃ m, l - 1 = m := ⟨_, rfl⟩
  have k0 : IntKind.i64.wrap ((l : Int) - 1) = m := by rw [show (l : Int) - 1 = (m : Int) by omega]; exact i64_nat _ (by omega)
  have k1 : IntKind.i64.wrap (16 + (i : Int)) = v := by rw [show 16 + (i : Int) = (v : Int) by omega]; exact i64_nat _ (by omega)
  have D := Lib.hid (within_yes (n := (i : Int)) (a := 0) (b := (m : Int)) (by omega) (by omega))
  clear h1 h2 h4 hv hm hi
  go_enter Try.func15, Try.ntmps15
  go_wp2_with fail
  refine (C.out).mono ?_; rintro e w' ⟨rfl, hb⟩
  have HB := Lib.hid (below_more H.out.2 hb)
  have c0 := (H.out.1.below hb).c0
  clear hb
  go_wp2_with fail
  refine (D.out _).mono ?_; rintro e w' ⟨rfl, rfl⟩
  go_wp2_with fail
  go_ret
  exact ⟨rfl, HB.out⟩
theorem home_off {l s p b : Nat} {i : Int} (h : MayN l s p b) (hi : i < 0 ∨ (l : Int) ≤ i) (w : World) : Calls Try.prog 15 #[(Value.agg #[Value.int IntKind.i64 (l : Int), Value.int IntKind.i64 (s : Int), Value.int IntKind.i64 (p : Int), Value.int IntKind.i64 (b : Int)]), .int .i64 i] w fun e w' => e = .returned (.int .i64 (-1)) ∧ Below w.heap.size w w' := by
  obtain ⟨W, hW, H⟩ := plan_boxed w l s p b
  have l0 := H.out.1.load
  have C := Lib.hid (pmay_yes h.may W)
  obtain ⟨⟨h1, h2⟩, h4, _⟩ := h
  obtain ⟨m, hm⟩ : ∃ m, l - 1 = m := ⟨_, rfl⟩
  have k0 : IntKind.i64.wrap ((l : Int) - 1) = m := by rw [show (l : Int) - 1 = (m : Int) by omega]; exact i64_nat _ (by omega)
  have D := Lib.hid (within_no (n := i) (a := 0) (b := (m : Int)) (by omega))
  clear h1 h2 h4 hm hi
  go_enter Try.func15, Try.ntmps15
  go_wp2_with fail
  refine (C.out).mono ?_; rintro e w' ⟨rfl, hb⟩
  have HB := Lib.hid (below_more H.out.2 hb)
  have c0 := (H.out.1.below hb).c0
  clear hb
  go_wp2_with fail
  refine (D.out _).mono ?_; rintro e w' ⟨rfl, rfl⟩
  go_wp2_with fail
  go_ret
  exact ⟨rfl, HB.out⟩
theorem home_no {l s p b i : Int} (h : ¬ May l s p b) (w : World) : Calls Try.prog 15 #[(Value.agg #[Value.int IntKind.i64 l, Value.int IntKind.i64 s, Value.int IntKind.i64 p, Value.int IntKind.i64 b]), .int .i64 i] w fun e w' => e = .returned (.int .i64 (-1)) ∧ Below w.heap.size w w' := by
  obtain ⟨W, hW, H⟩ := plan_boxed w l s p b
  have l0 := H.out.1.load
  have C := Lib.hid (pmay_no h W)
  clear h
  go_enter Try.func15, Try.ntmps15
  go_wp2_with fail
  refine (C.out).mono ?_; rintro e w' ⟨rfl, hb⟩
  have HB := Lib.hid (below_more H.out.2 hb)
  clear hb
  go_wp2_with fail
  go_ret
  exact ⟨rfl, HB.out⟩
end Go.Proofs.Ytojblhgdnolcdaa
