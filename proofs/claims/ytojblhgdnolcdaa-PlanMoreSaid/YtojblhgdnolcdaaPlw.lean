/-
  Package plan by plain functions of the plan; a plan that comes in; 'awake' of layer 11's statements.
-/
import Derived.Test.YtojblhgdnolcdaaPlc
namespace Go.Proofs.Ytojblhgdnolcdaa
open Go.ChangeShapes Go.WideShapes Go.ChangeAt Go.RowKit


/-- words, pages, logical lines, lines of the device, where a line is -/
def wdM (l : Int) : Int := l * 8
def pgM (l : Int) : Int := (l + 3) / 4
def lgM (l : Int) : Int := 16 + l
def dvM (l s : Int) : Int := 17 + l + s
def hmM (l i : Int) : Int := if 0 ≤ i ∧ i < l then 16 + i else -1
def pageM (i : Int) : Int := i / 4

theorem words_any {l s p b v : Int} (h : May l s p b) (hv : wdM l = v) (w : World) : Calls Try.prog 9 #[(Value.agg #[Value.int IntKind.i64 l, Value.int IntKind.i64 s, Value.int IntKind.i64 p, Value.int IntKind.i64 b])] w fun e w' => e = .returned (.int .i64 v) ∧ Below w.heap.size w w' := by
  obtain ⟨L, S, P, B, rfl, rfl, rfl, rfl, hN⟩ := h.nat
  unfold wdM at hv
  obtain rfl : ((L * 8 : Nat) : Int) = v := by omega
  exact words_yes hN rfl w
theorem pages_any {l s p b v : Int} (h : May l s p b) (hv : pgM l = v) (w : World) : Calls Try.prog 10 #[(Value.agg #[Value.int IntKind.i64 l, Value.int IntKind.i64 s, Value.int IntKind.i64 p, Value.int IntKind.i64 b])] w fun e w' => e = .returned (.int .i64 v) ∧ Below w.heap.size w w' := by
  obtain ⟨L, S, P, B, rfl, rfl, rfl, rfl, hN⟩ := h.nat
  unfold pgM at hv
  obtain rfl : (((L + 3) / 4 : Nat) : Int) = v := by omega
  exact pages_yes hN rfl w
theorem rpages_any {l s p b v : Int} (h : May l s p b) (hv : pgM l = v) (w : World) : Calls Try.prog 11 #[(Value.agg #[Value.int IntKind.i64 l, Value.int IntKind.i64 s, Value.int IntKind.i64 p, Value.int IntKind.i64 b])] w fun e w' => e = .returned (.int .i64 v) ∧ Below w.heap.size w w' := by
  obtain ⟨L, S, P, B, rfl, rfl, rfl, rfl, hN⟩ := h.nat
  unfold pgM at hv
  obtain rfl : (((L + 3) / 4 : Nat) : Int) = v := by omega
  exact rpages_yes hN rfl w
theorem logical_any {l s p b v : Int} (h : May l s p b) (hv : lgM l = v) (w : World) : Calls Try.prog 12 #[(Value.agg #[Value.int IntKind.i64 l, Value.int IntKind.i64 s, Value.int IntKind.i64 p, Value.int IntKind.i64 b])] w fun e w' => e = .returned (.int .i64 v) ∧ Below w.heap.size w w' := by
  obtain ⟨L, S, P, B, rfl, rfl, rfl, rfl, hN⟩ := h.nat
  unfold lgM at hv
  obtain rfl : ((16 + L : Nat) : Int) = v := by omega
  exact logical_yes hN rfl w
theorem device_any {l s p b v : Int} (h : May l s p b) (hv : dvM l s = v) (w : World) : Calls Try.prog 13 #[(Value.agg #[Value.int IntKind.i64 l, Value.int IntKind.i64 s, Value.int IntKind.i64 p, Value.int IntKind.i64 b])] w fun e w' => e = .returned (.int .i64 v) ∧ Below w.heap.size w w' := by
  obtain ⟨L, S, P, B, rfl, rfl, rfl, rfl, hN⟩ := h.nat
  unfold dvM at hv
  obtain rfl : ((17 + L + S : Nat) : Int) = v := by omega
  exact device_yes hN rfl w
theorem rdevice_any {l s p b v : Int} (h : May l s p b) (hv : dvM l s = v) (w : World) : Calls Try.prog 14 #[(Value.agg #[Value.int IntKind.i64 l, Value.int IntKind.i64 s, Value.int IntKind.i64 p, Value.int IntKind.i64 b])] w fun e w' => e = .returned (.int .i64 v) ∧ Below w.heap.size w w' := by
  obtain ⟨L, S, P, B, rfl, rfl, rfl, rfl, hN⟩ := h.nat
  unfold dvM at hv
  obtain rfl : ((17 + L + S : Nat) : Int) = v := by omega
  exact rdevice_yes hN rfl w
theorem home_any {l s p b i v : Int} (h : May l s p b) (hv : hmM l i = v) (w : World) : Calls Try.prog 15 #[(Value.agg #[Value.int IntKind.i64 l, Value.int IntKind.i64 s, Value.int IntKind.i64 p, Value.int IntKind.i64 b]), .int .i64 i] w fun e w' => e = .returned (.int .i64 v) ∧ Below w.heap.size w w' := by
  obtain ⟨L, S, P, B, rfl, rfl, rfl, rfl, hN⟩ := h.nat
  unfold hmM at hv
  by_cases hi : 0 ≤ i ∧ i < (L : Int)
  · rw [if_pos hi] at hv
    obtain ⟨I, rfl⟩ : ∃ I : Nat, i = I := ⟨i.toNat, by omega⟩
    obtain rfl : ((16 + I : Nat) : Int) = v := by omega
    exact home_yes hN (by omega) rfl w
  · rw [if_neg hi] at hv
    subst hv
    exact home_off hN (by omega) w
theorem page_any {i v : Int} (h : 0 ≤ i ∧ i < 9223372036854775808) (hv : pageM i = v) (w : World) : Calls Try.prog 17 #[.int .i64 i] w fun e w' => e = .returned (.int .i64 v) ∧ w = w' := by
  obtain ⟨I, rfl⟩ : ∃ I : Nat, i = I := ⟨i.toNat, by omega⟩
  unfold pageM at hv
  obtain rfl : ((I / 4 : Nat) : Int) = v := by omega
  exact page_is I (by omega) w
theorem words_none {l s p b v : Int} (h : ¬ May l s p b) (hv : 0 = v) (w : World) : Calls Try.prog 9 #[(Value.agg #[Value.int IntKind.i64 l, Value.int IntKind.i64 s, Value.int IntKind.i64 p, Value.int IntKind.i64 b])] w fun e w' => e = .returned (.int .i64 v) ∧ Below w.heap.size w w' := by
  subst hv; exact words_no h w
theorem pages_none {l s p b v : Int} (h : ¬ May l s p b) (hv : 0 = v) (w : World) : Calls Try.prog 10 #[(Value.agg #[Value.int IntKind.i64 l, Value.int IntKind.i64 s, Value.int IntKind.i64 p, Value.int IntKind.i64 b])] w fun e w' => e = .returned (.int .i64 v) ∧ Below w.heap.size w w' := by
  subst hv; exact pages_no h w
theorem rpages_none {l s p b v : Int} (h : ¬ May l s p b) (hv : 0 = v) (w : World) : Calls Try.prog 11 #[(Value.agg #[Value.int IntKind.i64 l, Value.int IntKind.i64 s, Value.int IntKind.i64 p, Value.int IntKind.i64 b])] w fun e w' => e = .returned (.int .i64 v) ∧ Below w.heap.size w w' := by
  subst hv; exact rpages_no h w
theorem logical_none {l s p b v : Int} (h : ¬ May l s p b) (hv : 0 = v) (w : World) : Calls Try.prog 12 #[(Value.agg #[Value.int IntKind.i64 l, Value.int IntKind.i64 s, Value.int IntKind.i64 p, Value.int IntKind.i64 b])] w fun e w' => e = .returned (.int .i64 v) ∧ Below w.heap.size w w' := by
  subst hv; exact logical_no h w
theorem device_none {l s p b v : Int} (h : ¬ May l s p b) (hv : 0 = v) (w : World) : Calls Try.prog 13 #[(Value.agg #[Value.int IntKind.i64 l, Value.int IntKind.i64 s, Value.int IntKind.i64 p, Value.int IntKind.i64 b])] w fun e w' => e = .returned (.int .i64 v) ∧ Below w.heap.size w w' := by
  subst hv; exact device_no h w
theorem rdevice_none {l s p b v : Int} (h : ¬ May l s p b) (hv : 0 = v) (w : World) : Calls Try.prog 14 #[(Value.agg #[Value.int IntKind.i64 l, Value.int IntKind.i64 s, Value.int IntKind.i64 p, Value.int IntKind.i64 b])] w fun e w' => e = .returned (.int .i64 v) ∧ Below w.heap.size w w' := by
  subst hv; exact rdevice_no h w
theorem home_none {l s p b i v : Int} (h : ¬ May l s p b) (hv : -1 = v) (w : World) : Calls Try.prog 15 #[(Value.agg #[Value.int IntKind.i64 l, Value.int IntKind.i64 s, Value.int IntKind.i64 p, Value.int IntKind.i64 b]), .int .i64 i] w fun e w' => e = .returned (.int .i64 v) ∧ Below w.heap.size w w' := by
  subst hv; exact home_no h w

/-- a plan's variable, read in every later world -/
theorem Pq.later {w : World} {g : Nat} {l s p b : Int} (h : Pq w g l s p b) : ∀ w' : World, Below w.heap.size w w' → (planLoad (.pointer (some ⟨g, 0, none⟩))).run Try.prog w' = .ok (Value.agg #[Value.int IntKind.i64 l, Value.int IntKind.i64 s, Value.int IntKind.i64 p, Value.int IntKind.i64 b]) w' := fun _ hb => (h.below hb).load
theorem Pq.later0 {w : World} {g : Nat} {l s p b : Int} (h : Pq w g l s p b) : ∀ w' : World, Below w.heap.size w w' → w'.cell? ⟨g, 0, none⟩ = some (.int .i64 l) := fun _ hb => (h.below hb).c0
theorem Pq.later1 {w : World} {g : Nat} {l s p b : Int} (h : Pq w g l s p b) : ∀ w' : World, Below w.heap.size w w' → w'.cell? ⟨g, 1, none⟩ = some (.int .i64 s) := fun _ hb => (h.below hb).c1

theorem awake_any (w : World) : Calls Try.prog 16 #[] w fun e w' => e = .returned (.bool true) ∧ Below w.heap.size w w' := by
  obtain ⟨W, hW, H⟩ := plan_boxed w 4 2 1 1
  have l0 := H.out.1.load
  have hM : May 4 2 1 1 := by decide
  have D1 := Lib.hid (pmay_yes hM); have D2 := Lib.hid (words_any (v := 32) hM (by decide)); have D3 := Lib.hid (pages_any (v := 1) hM (by decide)); have D4 := Lib.hid (logical_any (v := 20) hM (by decide)); have D5 := Lib.hid (device_any (v := 23) hM (by decide))
  have D6 := Lib.hid (home_any (i := 3) (v := 19) hM (by decide)); have D7 := Lib.hid (home_any (i := 4) (v := -1) hM (by decide))
  clear hM
  go_enter Try.func16, Try.ntmps16
  go_wp2_with fail
  refine (D1.out _).mono ?_; rintro e w' ⟨rfl, hb⟩
  have H := Lib.hid (And.intro (H.out.1.below hb) (below_more H.out.2 hb))
  have l0 := H.out.1.load
  clear hb
  go_wp2_with fail
  refine (D2.out _).mono ?_; rintro e w' ⟨rfl, hb⟩
  have H := Lib.hid (And.intro (H.out.1.below hb) (below_more H.out.2 hb))
  have l0 := H.out.1.load
  clear hb
  go_wp2_with fail
  refine (D3.out _).mono ?_; rintro e w' ⟨rfl, hb⟩
  have H := Lib.hid (And.intro (H.out.1.below hb) (below_more H.out.2 hb))
  have l0 := H.out.1.load
  clear hb
  go_wp2_with fail
  refine (D4.out _).mono ?_; rintro e w' ⟨rfl, hb⟩
  have H := Lib.hid (And.intro (H.out.1.below hb) (below_more H.out.2 hb))
  have l0 := H.out.1.load
  clear hb
  go_wp2_with fail
  refine (D5.out _).mono ?_; rintro e w' ⟨rfl, hb⟩
  have H := Lib.hid (And.intro (H.out.1.below hb) (below_more H.out.2 hb))
  have l0 := H.out.1.load
  clear hb
  go_wp2_with fail
  refine (D6.out _).mono ?_; rintro e w' ⟨rfl, hb⟩
  have H := Lib.hid (And.intro (H.out.1.below hb) (below_more H.out.2 hb))
  have l0 := H.out.1.load
  clear hb
  go_wp2_with fail
  refine (D7.out _).mono ?_; rintro e w' ⟨rfl, hb⟩
  have H := Lib.hid (And.intro (H.out.1.below hb) (below_more H.out.2 hb))
  have l0 := H.out.1.load
  clear hb
  go_wp2_with fail
  go_ret
  exact ⟨rfl, H.out.2⟩

theorem trod_struct4 {H : Type} {enc : TypeId × Value → H} {P : Program} {w : World} {base : Nat} {spare : Nat → Bool} {held : Bool} {t : TypeId} {f0 f1 f2 f3 : Field} {fuel : Nat} {cs : List Value} {x : DataW H × List MemPlace}
    (ht : P.underlying t = some (.struct #[f0, f1, f2, f3])) (h : DataW.trod enc P w base spare held fuel t cs = some x) :
    ∃ y0 y1 y2 y3 n, cs.length = P.cellsOf t ∧ DataW.trod enc P w base spare held n f0.type ((cs.drop f0.offset).take (P.cellsOf f0.type)) = some y0 ∧
      DataW.trod enc P w base spare held n f1.type ((cs.drop f1.offset).take (P.cellsOf f1.type)) = some y1 ∧ DataW.trod enc P w base spare held n f2.type ((cs.drop f2.offset).take (P.cellsOf f2.type)) = some y2 ∧
      DataW.trod enc P w base spare held n f3.type ((cs.drop f3.offset).take (P.cellsOf f3.type)) = some y3 := by
  obtain ⟨xs, n, _, rfl, hl, hlen, hf⟩ := DataW.trod_struct ht h
  match xs, hlen with
  | [y0, y1, y2, y3], _ => exact ⟨y0, y1, y2, y3, n, hl, by simpa using hf 0 f0 rfl, by simpa using hf 1 f1 rfl, by simpa using hf 2 f2 rfl, by simpa using hf 3 f3 rfl⟩

theorem cells_plan : Try.prog.cellsOf 23 = 4 := by kernel_rfl
theorem cells_int1 : Try.prog.cellsOf 3 = 1 := by kernel_rfl
/-- a plan that came in -/
theorem plan_in {H : Type} {enc : TypeId × Value → H} {W : World} {base : Nat} {v : Value} {d : DataW H} {q : List MemPlace}
    (hval : Value.okWide Try.prog W .any base 23 v) (h : DataW.Trod enc Try.prog W 0 (fun _ => true) true 23 v d q) :
    ∃ l s p b : Int, v = (Value.agg #[Value.int IntKind.i64 l, Value.int IntKind.i64 s, Value.int IntKind.i64 p, Value.int IntKind.i64 b]) ∧ (Lit.int .i64 l).wf = true ∧ (Lit.int .i64 s).wf = true ∧ (Lit.int .i64 p).wf = true ∧ (Lit.int .i64 b).wf = true := by
  obtain ⟨cs, rfl, hsz, _⟩ : ∃ cs, v = .agg cs ∧ cs.size = Try.prog.cellsOf 23 ∧ Row.okWide Try.prog W .any base 23 cs := by
    simpa [Value.okWide, Try.underlying23] using hval
  obtain ⟨fuel, hf⟩ := h
  obtain ⟨y0, y1, y2, y3, k, hl, g0, g1, g2, g3⟩ := trod_struct4 Try.underlying23 hf
  rw [cells_plan] at hl
  dsimp only at g0 g1 g2 g3
  rw [cells_int1] at g0 g1 g2 g3
  obtain ⟨l, e0, _, w0⟩ := DataW.trod_int Try.underlying3 g0
  obtain ⟨s, e1, _, w1⟩ := DataW.trod_int Try.underlying3 g1
  obtain ⟨p, e2, _, w2⟩ := DataW.trod_int Try.underlying3 g2
  obtain ⟨b, e3, _, w3⟩ := DataW.trod_int Try.underlying3 g3
  refine ⟨l, s, p, b, ?_, w0, w1, w2, w3⟩
  obtain ⟨cl⟩ := cs
  simp [Value.cells] at hl e0 e1 e2 e3
  match cl, hl with
  | [c0, c1, c2, c3], _ =>
    simp at e0 e1 e2 e3
    simp [e0, e1, e2, e3]
end Go.Proofs.Ytojblhgdnolcdaa
