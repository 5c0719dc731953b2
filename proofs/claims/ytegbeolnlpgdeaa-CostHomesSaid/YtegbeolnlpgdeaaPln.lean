/-
  Contracts of package plan and of the reference's MayPlan, Pages, Device.
-/
import Derived.Test.YtegbeolnlpgdeaaPge
import Derived.Test.YtegbeolnlpgdeaaZma
import Derived.BigQuiet
import Derived.Deep.RegionHeld3
namespace Go.Proofs.Ytegbeolnlpgdeaa
set_option maxRecDepth 100000
open Go.RowKit

/-- may a heap be so? -/
def May (l s p b : Int) : Prop := (1 ≤ l ∧ l ≤ 64) ∧ (0 ≤ s ∧ s ≤ 16) ∧ (1 ≤ p ∧ p ≤ 1000) ∧ 1 ≤ b ∧ b ≤ 100
instance (l s p b : Int) : Decidable (May l s p b) := by unfold May; infer_instance

theorem within_yes {n a b : Int} (h1 : a ≤ n) (h2 : n ≤ b) (w : World) : Calls Try.prog 39 #[.int .i64 n, .int .i64 a, .int .i64 b] w fun e w' => e = .returned (.bool true) ∧ w = w' := by
  have i1 : n ≥ a := h1
  go_enter Try.func39, Try.ntmps39
  go_wp2_with fail
  go_ret
  exact ⟨rfl, rfl⟩
theorem within_no {n a b : Int} (h : n < a ∨ b < n) (w : World) : Calls Try.prog 39 #[.int .i64 n, .int .i64 a, .int .i64 b] w fun e w' => e = .returned (.bool false) ∧ w = w' := by
  by_cases h1 : n < a
  · have i1 : ¬ n ≥ a := by omega
    have i2 : ¬ a ≤ n := by omega
    clear h
    go_enter Try.func39, Try.ntmps39
    go_wp2_with fail
    go_ret
    exact ⟨rfl, rfl⟩
  · have i1 : n ≥ a := by omega
    have i2 : ¬ n ≤ b := by omega
    have i3 : a ≤ n := by omega
    clear h h1
    go_enter Try.func39, Try.ntmps39
    go_wp2_with fail
    go_ret
    exact ⟨rfl, rfl⟩

theorem pmay_yes {l s p b : Int} (h : May l s p b) (w : World) : Calls Try.prog 23 #[(Value.agg #[Value.int IntKind.i64 l, Value.int IntKind.i64 s, Value.int IntKind.i64 p, Value.int IntKind.i64 b])] w fun e w' => e = .returned (.bool true) ∧ Below w.heap.size w w' := by
  obtain ⟨⟨h1, h2⟩, ⟨h3, h4⟩, ⟨h5, h6⟩, h7, h8⟩ := h
  have HB := Lib.hid (bal (o := .cells #[.int .i64 l, .int .i64 s, .int .i64 p, .int .i64 b] 26) (Below.refl w.heap.size w))
  go_enter Try.func23, Try.ntmps23
  go_wp2_with fail
  refine (within_yes h1 h2 _).mono ?_; rintro e w' ⟨rfl, rfl⟩
  go_wp2_with fail
  refine (within_yes h3 h4 _).mono ?_; rintro e w' ⟨rfl, rfl⟩
  go_wp2_with fail
  refine (within_yes h5 h6 _).mono ?_; rintro e w' ⟨rfl, rfl⟩
  go_wp2_with fail
  refine (within_yes h7 h8 _).mono ?_; rintro e w' ⟨rfl, rfl⟩
  go_wp2_with fail
  go_ret
  exact ⟨rfl, HB.out⟩
theorem pmay_no {l s p b : Int} (h : ¬ May l s p b) (w : World) : Calls Try.prog 23 #[(Value.agg #[Value.int IntKind.i64 l, Value.int IntKind.i64 s, Value.int IntKind.i64 p, Value.int IntKind.i64 b])] w fun e w' => e = .returned (.bool false) ∧ Below w.heap.size w w' := by
  have HB := Lib.hid (bal (o := .cells #[.int .i64 l, .int .i64 s, .int .i64 p, .int .i64 b] 26) (Below.refl w.heap.size w))
  by_cases g1 : 1 ≤ l ∧ l ≤ 64
  · by_cases g2 : 0 ≤ s ∧ s ≤ 16
    · by_cases g3 : 1 ≤ p ∧ p ≤ 1000
      · have g4 : b < 1 ∨ 100 < b := by unfold May at h; omega
        clear h
        have C1 := Lib.hid (within_yes g1.1 g1.2); have C2 := Lib.hid (within_yes g2.1 g2.2); have C3 := Lib.hid (within_yes g3.1 g3.2); have C4 := Lib.hid (within_no g4)
        clear g1 g2 g3 g4
        go_enter Try.func23, Try.ntmps23
        go_wp2_with fail
        refine (C1.out _).mono ?_; rintro e w' ⟨rfl, rfl⟩
        go_wp2_with fail
        refine (C2.out _).mono ?_; rintro e w' ⟨rfl, rfl⟩
        go_wp2_with fail
        refine (C3.out _).mono ?_; rintro e w' ⟨rfl, rfl⟩
        go_wp2_with fail
        refine (C4.out _).mono ?_; rintro e w' ⟨rfl, rfl⟩
        go_wp2_with fail
        go_ret
        exact ⟨rfl, HB.out⟩
      · have g4 : p < 1 ∨ 1000 < p := by omega
        clear h
        have C1 := Lib.hid (within_yes g1.1 g1.2); have C2 := Lib.hid (within_yes g2.1 g2.2); have C3 := Lib.hid (within_no g4)
        clear g1 g2 g3 g4
        go_enter Try.func23, Try.ntmps23
        go_wp2_with fail
        refine (C1.out _).mono ?_; rintro e w' ⟨rfl, rfl⟩
        go_wp2_with fail
        refine (C2.out _).mono ?_; rintro e w' ⟨rfl, rfl⟩
        go_wp2_with fail
        refine (C3.out _).mono ?_; rintro e w' ⟨rfl, rfl⟩
        go_wp2_with fail
        go_ret
        exact ⟨rfl, HB.out⟩
    · have g4 : s < 0 ∨ 16 < s := by omega
      clear h
      have C1 := Lib.hid (within_yes g1.1 g1.2); have C2 := Lib.hid (within_no g4)
      clear g1 g2 g4
      go_enter Try.func23, Try.ntmps23
      go_wp2_with fail
      refine (C1.out _).mono ?_; rintro e w' ⟨rfl, rfl⟩
      go_wp2_with fail
      refine (C2.out _).mono ?_; rintro e w' ⟨rfl, rfl⟩
      go_wp2_with fail
      go_ret
      exact ⟨rfl, HB.out⟩
  · have g4 : l < 1 ∨ 64 < l := by omega
    clear h
    have C1 := Lib.hid (within_no g4)
    clear g1 g4
    go_enter Try.func23, Try.ntmps23
    go_wp2_with fail
    refine (C1.out _).mono ?_; rintro e w' ⟨rfl, rfl⟩
    go_wp2_with fail
    go_ret
    exact ⟨rfl, HB.out⟩
theorem rmay_yes {l s p b : Int} (h : May l s p b) (w : World) : Calls Try.prog 8 #[(Value.agg #[Value.int IntKind.i64 l, Value.int IntKind.i64 s, Value.int IntKind.i64 p, Value.int IntKind.i64 b])] w fun e w' => e = .returned (.bool true) ∧ Below w.heap.size w w' := by
  obtain ⟨⟨h1, h2⟩, ⟨h3, h4⟩, ⟨h5, h6⟩, h7, h8⟩ := h
  have i1 : l ≥ 1 := h1
  have i3 : s ≥ 0 := h3
  have i5 : p ≥ 1 := h5
  have i7 : b ≥ 1 := h7
  have HB := Lib.hid (bal (o := .cells #[.int .i64 l, .int .i64 s, .int .i64 p, .int .i64 b] 26) (Below.refl w.heap.size w))
  go_enter Try.func8, Try.ntmps8
  go_wp2_with fail
  go_ret
  exact ⟨rfl, HB.out⟩
theorem rmay_no {l s p b : Int} (h : ¬ May l s p b) (w : World) : Calls Try.prog 8 #[(Value.agg #[Value.int IntKind.i64 l, Value.int IntKind.i64 s, Value.int IntKind.i64 p, Value.int IntKind.i64 b])] w fun e w' => e = .returned (.bool false) ∧ Below w.heap.size w w' := by
  have HB := Lib.hid (bal (o := .cells #[.int .i64 l, .int .i64 s, .int .i64 p, .int .i64 b] 26) (Below.refl w.heap.size w))
  unfold May at h
  by_cases g1 : 1 ≤ l
  · have i1 : l ≥ 1 := g1
    by_cases g2 : l ≤ 64
    · by_cases g3 : 0 ≤ s
      · have i3 : s ≥ 0 := g3
        by_cases g4 : s ≤ 16
        · by_cases g5 : 1 ≤ p
          · have i5 : p ≥ 1 := g5
            by_cases g6 : p ≤ 1000
            · by_cases g7 : 1 ≤ b
              · have i7 : b ≥ 1 := g7
                have g8 : ¬ b ≤ 100 := by omega
                clear h
                go_enter Try.func8, Try.ntmps8
                go_wp2_with fail
                go_ret
                exact ⟨rfl, HB.out⟩
              · have i7 : ¬ b ≥ 1 := g7
                clear h
                go_enter Try.func8, Try.ntmps8
                go_wp2_with fail
                go_ret
                exact ⟨rfl, HB.out⟩
            · clear h
              go_enter Try.func8, Try.ntmps8
              go_wp2_with fail
              go_ret
              exact ⟨rfl, HB.out⟩
          · have i5 : ¬ p ≥ 1 := g5
            clear h
            go_enter Try.func8, Try.ntmps8
            go_wp2_with fail
            go_ret
            exact ⟨rfl, HB.out⟩
        · clear h
          go_enter Try.func8, Try.ntmps8
          go_wp2_with fail
          go_ret
          exact ⟨rfl, HB.out⟩
      · have i3 : ¬ s ≥ 0 := g3
        clear h
        go_enter Try.func8, Try.ntmps8
        go_wp2_with fail
        go_ret
        exact ⟨rfl, HB.out⟩
    · clear h
      go_enter Try.func8, Try.ntmps8
      go_wp2_with fail
      go_ret
      exact ⟨rfl, HB.out⟩
  · have i1 : ¬ l ≥ 1 := g1
    clear h
    go_enter Try.func8, Try.ntmps8
    go_wp2_with fail
    go_ret
    exact ⟨rfl, HB.out⟩
end Go.Proofs.Ytegbeolnlpgdeaa
