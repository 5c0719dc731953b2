/-
  Contracts of package code: the fields that numbers are; which operations may be; a copy of bytes.
-/
import Derived.Test.YtdnijdbhdlengaaCdo
namespace Go.Proofs.Ytdnijdbhdlengaa
set_option maxRecDepth 100000
open Go.RowKit

theorem kinds (d : Int) : d = 1 ∨ d = 2 ∨ d = 3 ∨ d = 4 ∨ d = 5 ∨ d = 6 ∨ d = 7 ∨ d = 8 ∨ (Hid (¬ (1 ≤ d ∧ d ≤ 8)) ∧ (d == 1) = false ∧ (d == 2) = false ∧ (d == 3) = false ∧ (d == 4) = false ∧ (d == 5) = false ∧ (d == 6) = false ∧ (d == 7) = false ∧ (d == 8) = false) := by
  by_cases h : 1 ≤ d ∧ d ≤ 8
  · omega
  · refine .inr (.inr (.inr (.inr (.inr (.inr (.inr (.inr ⟨Lib.hid h, ?_, ?_, ?_, ?_, ?_, ?_, ?_, ?_⟩))))))) <;> exact beq_eq_false_iff_ne.2 (by omega)
/-- the place of the wide number's field, of the narrow one's -/
def wdA (d : Int) (g : Nat) : Option Addr := if d = 1 ∨ d = 7 then some ⟨g, 2, none⟩ else if d = 2 ∨ d = 3 ∨ d = 4 ∨ d = 5 then some ⟨g, 1, none⟩ else none
def nwA (d : Int) (g : Nat) : Option Addr := if d = 3 then some ⟨g, 2, none⟩ else if d = 7 then some ⟨g, 3, none⟩ else none
theorem wdA_not {d : Int} (h : ¬ (1 ≤ d ∧ d ≤ 8)) (g : Nat) : wdA d g = none := by unfold wdA; rw [if_neg (by omega), if_neg (by omega)]
theorem nwA_not {d : Int} (h : ¬ (1 ≤ d ∧ d ≤ 8)) (g : Nat) : nwA d g = none := by unfold nwA; rw [if_neg (by omega), if_neg (by omega)]
set_option maxHeartbeats 1000000 in
theorem wide_is {w : World} {g : Nat} {x : Px} (V : Pxv w g x) : Calls Try.prog 24 #[.pointer (some ⟨g, 0, none⟩)] w fun e w' => e = .returned (.pointer (wdA x.d g)) ∧ w = w' := by
  have c0 := V.c0
  obtain ⟨d, o, n, m, v, bl⟩ := x
  dsimp only at c0 ⊢
  clear V
  rcases kinds d with rfl | rfl | rfl | rfl | rfl | rfl | rfl | rfl | ⟨h, e1, e2, e3, e4, e5, e6, e7, e8⟩
  iterate 8
    · go_enter Try.func24, Try.ntmps24
      go_wp2_with fail
      go_ret
      exact ⟨rfl, rfl⟩
  · rw [wdA_not h.out]
    go_enter Try.func24, Try.ntmps24
    go_wp2_with fail
    go_ret
    exact ⟨rfl, rfl⟩
set_option maxHeartbeats 1000000 in
theorem narrow_is {w : World} {g : Nat} {x : Px} (V : Pxv w g x) : Calls Try.prog 25 #[.pointer (some ⟨g, 0, none⟩)] w fun e w' => e = .returned (.pointer (nwA x.d g)) ∧ w = w' := by
  have c0 := V.c0
  obtain ⟨d, o, n, m, v, bl⟩ := x
  dsimp only at c0 ⊢
  clear V
  rcases kinds d with rfl | rfl | rfl | rfl | rfl | rfl | rfl | rfl | ⟨h, e1, e2, e3, e4, e5, e6, e7, e8⟩
  iterate 8
    · go_enter Try.func25, Try.ntmps25
      go_wp2_with fail
      go_ret
      exact ⟨rfl, rfl⟩
  · rw [nwA_not h.out]
    go_enter Try.func25, Try.ntmps25
    go_wp2_with fail
    go_ret
    exact ⟨rfl, rfl⟩
theorem Pxv.c3 {w : World} {g : Nat} {x : Px} (h : Pxv w g x) : w.cell? ⟨g, 3, none⟩ = some (.int .i64 x.msk) := Whole.at_ h 3
theorem Pxv.seto {w : World} {g : Nat} {d o n m : Int} {v : Value} {l : List Int} (h : Pxv w g ⟨d, o, n, m, v, l⟩) (x : Int) : Pxv (w.setCell ⟨g, 1, none⟩ (.int .i64 x)) g ⟨d, x, n, m, v, l⟩ := Whole.set_ h 1 (.int .i64 x)
theorem Pxv.setm {w : World} {g : Nat} {d o n m : Int} {v : Value} {l : List Int} (h : Pxv w g ⟨d, o, n, m, v, l⟩) (x : Int) : Pxv (w.setCell ⟨g, 3, none⟩ (.int .i64 x)) g ⟨d, o, n, x, v, l⟩ := Whole.set_ h 3 (.int .i64 x)
/-- the narrow number itself (0 where it is the length) -/
def nOf (x : Cx) : Int := if x.d = 3 then x.n else if x.d = 7 then x.m else 0
theorem getn_none (w : World) : Calls Try.prog 23 #[.pointer none] w fun e w' => e = .returned (.int .i64 0) ∧ w = w' := by
  go_enter Try.func23, Try.ntmps23
  go_wp2_with fail
  go_ret
  exact ⟨rfl, rfl⟩
theorem getn_some {w : World} {g i : Nat} {n : Int} (c0 : w.cell? ⟨g, i, none⟩ = some (.int .i64 n)) : Calls Try.prog 23 #[.pointer (some ⟨g, i, none⟩)] w fun e w' => e = .returned (.int .i64 n) ∧ w = w' := by
  go_enter Try.func23, Try.ntmps23
  go_wp2_with fail
  go_ret
  exact ⟨rfl, rfl⟩
theorem getw_is {w : World} {g : Nat} {x : Px} (V : Pxv w g x) : Calls Try.prog 23 #[.pointer (wdA x.d g)] w fun e w' => e = .returned (.int .i64 (vOf (toC x))) ∧ w = w' := by
  by_cases h : x.d = 1 ∨ x.d = 7
  · have e : wdA x.d g = some ⟨g, 2, none⟩ := if_pos h
    have e' : vOf (toC x) = x.nn := if_pos h
    rw [e, e']; exact getn_some V.c2
  · by_cases h2 : x.d = 2 ∨ x.d = 3 ∨ x.d = 4 ∨ x.d = 5
    · have e : wdA x.d g = some ⟨g, 1, none⟩ := by unfold wdA; rw [if_neg h, if_pos h2]
      have e' : vOf (toC x) = x.o := (if_neg h).trans (if_pos h2)
      rw [e, e']; exact getn_some V.c1
    · have e : wdA x.d g = none := by unfold wdA; rw [if_neg h, if_neg h2]
      have e' : vOf (toC x) = 0 := (if_neg h).trans (if_neg h2)
      rw [e, e']; exact getn_none w
theorem getz_is {w : World} {g : Nat} {x : Px} (V : Pxv w g x) : Calls Try.prog 23 #[.pointer (nwA x.d g)] w fun e w' => e = .returned (.int .i64 (nOf (toC x))) ∧ w = w' := by
  by_cases h : x.d = 3
  · have e : nwA x.d g = some ⟨g, 2, none⟩ := if_pos h
    have e' : nOf (toC x) = x.nn := if_pos h
    rw [e, e']; exact getn_some V.c2
  · by_cases h2 : x.d = 7
    · have e : nwA x.d g = some ⟨g, 3, none⟩ := by unfold nwA; rw [if_neg h, if_pos h2]
      have e' : nOf (toC x) = x.msk := (if_neg h).trans (if_pos h2)
      rw [e, e']; exact getn_some V.c3
    · have e : nwA x.d g = none := by unfold nwA; rw [if_neg h, if_neg h2]
      have e' : nOf (toC x) = 0 := (if_neg h).trans (if_neg h2)
      rw [e, e']; exact getn_none w
/-- a number set -/
def setW (x : Px) (n : Int) : Px := if x.d = 1 ∨ x.d = 7 then { x with nn := n } else if x.d = 2 ∨ x.d = 3 ∨ x.d = 4 ∨ x.d = 5 then { x with o := n } else x
def setZ (x : Px) (n : Int) : Px := if x.d = 3 then { x with nn := n } else if x.d = 7 then { x with msk := n } else x
theorem setW_d (x : Px) (n : Int) : (setW x n).d = x.d := by unfold setW; split <;> first | rfl | (split <;> rfl)
theorem setZ_d (x : Px) (n : Int) : (setZ x n).d = x.d := by unfold setZ; split <;> first | rfl | (split <;> rfl)
theorem set_none (n : Int) (w : World) : Calls Try.prog 26 #[.pointer none, .int .i64 n] w fun e w' => e = .returned (.tuple #[]) ∧ w = w' := by
  go_enter Try.func26, Try.ntmps26
  go_wp2_with fail
  go_end0
  exact ⟨rfl, rfl⟩
theorem set_some {w : World} {g i : Nat} {k n : Int} (c0 : w.cell? ⟨g, i, none⟩ = some (.int .i64 k)) (f0 : w.frozen? ⟨g, i, none⟩ = false) : Calls Try.prog 26 #[.pointer (some ⟨g, i, none⟩), .int .i64 n] w fun e w' => e = .returned (.tuple #[]) ∧ w.setCell ⟨g, i, none⟩ (.int .i64 n) = w' := by
  go_enter Try.func26, Try.ntmps26
  go_wp2_with fail
  go_end0
  exact ⟨rfl, rfl⟩
theorem setw_is {w : World} {g : Nat} {x : Px} (V : Pxv w g x) (n : Int) : Calls Try.prog 26 #[.pointer (wdA x.d g), .int .i64 n] w fun e w' => e = .returned (.tuple #[]) ∧ Pxv w' g (setW x n) ∧ Chg [g] w w' := by
  obtain ⟨d, o, k, m, v, bl⟩ := x
  by_cases h : d = 1 ∨ d = 7
  · have e : wdA d g = some ⟨g, 2, none⟩ := if_pos h
    have e' : setW ⟨d, o, k, m, v, bl⟩ n = ⟨d, o, n, m, v, bl⟩ := if_pos h
    rw [show (Px.mk d o k m v bl).d = d from rfl, e, e']
    exact (set_some V.c2 (V.free 2)).mono fun e w' ⟨h1, h2⟩ => ⟨h1, h2 ▸ V.setn n, h2 ▸ (Chg.refl [g] w).setCell (p := ⟨g, 2, none⟩) (.inl (by simp)) _⟩
  · by_cases h2 : d = 2 ∨ d = 3 ∨ d = 4 ∨ d = 5
    · have e : wdA d g = some ⟨g, 1, none⟩ := (if_neg h).trans (if_pos h2)
      have e' : setW ⟨d, o, k, m, v, bl⟩ n = ⟨d, n, k, m, v, bl⟩ := (if_neg h).trans (if_pos h2)
      rw [show (Px.mk d o k m v bl).d = d from rfl, e, e']
      exact (set_some V.c1 (V.free 1)).mono fun e w' ⟨h1, h2⟩ => ⟨h1, h2 ▸ V.seto n, h2 ▸ (Chg.refl [g] w).setCell (p := ⟨g, 1, none⟩) (.inl (by simp)) _⟩
    · have e : wdA d g = none := (if_neg h).trans (if_neg h2)
      have e' : setW ⟨d, o, k, m, v, bl⟩ n = ⟨d, o, k, m, v, bl⟩ := (if_neg h).trans (if_neg h2)
      rw [show (Px.mk d o k m v bl).d = d from rfl, e, e']
      exact (set_none n w).mono fun e w' ⟨h1, h2⟩ => ⟨h1, h2 ▸ V, h2 ▸ Chg.refl [g] w⟩
theorem setz_is {w : World} {g : Nat} {x : Px} (V : Pxv w g x) (n : Int) : Calls Try.prog 26 #[.pointer (nwA x.d g), .int .i64 n] w fun e w' => e = .returned (.tuple #[]) ∧ Pxv w' g (setZ x n) ∧ Chg [g] w w' := by
  obtain ⟨d, o, k, m, v, bl⟩ := x
  by_cases h : d = 3
  · have e : nwA d g = some ⟨g, 2, none⟩ := if_pos h
    have e' : setZ ⟨d, o, k, m, v, bl⟩ n = ⟨d, o, n, m, v, bl⟩ := if_pos h
    rw [show (Px.mk d o k m v bl).d = d from rfl, e, e']
    exact (set_some V.c2 (V.free 2)).mono fun e w' ⟨h1, h2⟩ => ⟨h1, h2 ▸ V.setn n, h2 ▸ (Chg.refl [g] w).setCell (p := ⟨g, 2, none⟩) (.inl (by simp)) _⟩
  · by_cases h2 : d = 7
    · have e : nwA d g = some ⟨g, 3, none⟩ := (if_neg h).trans (if_pos h2)
      have e' : setZ ⟨d, o, k, m, v, bl⟩ n = ⟨d, o, k, n, v, bl⟩ := (if_neg h).trans (if_pos h2)
      rw [show (Px.mk d o k m v bl).d = d from rfl, e, e']
      exact (set_some V.c3 (V.free 3)).mono fun e w' ⟨h1, h2⟩ => ⟨h1, h2 ▸ V.setm n, h2 ▸ (Chg.refl [g] w).setCell (p := ⟨g, 3, none⟩) (.inl (by simp)) _⟩
    · have e : nwA d g = none := (if_neg h).trans (if_neg h2)
      have e' : setZ ⟨d, o, k, m, v, bl⟩ n = ⟨d, o, k, m, v, bl⟩ := (if_neg h).trans (if_neg h2)
      rw [show (Px.mk d o k m v bl).d = d from rfl, e, e']
      exact (set_none n w).mono fun e w' ⟨h1, h2⟩ => ⟨h1, h2 ▸ V, h2 ▸ Chg.refl [g] w⟩
theorem kind_is (d : Int) (b : Bool) (h : decide (1 ≤ d ∧ d ≤ 8) = b) (w : World) : Calls Try.prog 17 #[.int .i64 d] w fun e w' => e = .returned (.bool b) ∧ w = w' := by
  subst h
  by_cases h1 : d ≥ 1
  · by_cases h2 : d ≤ 8
    · rw [decide_eq_true ⟨h1, h2⟩]
      go_enter Try.func17, Try.ntmps17
      go_wp2_with fail
      go_ret
      exact ⟨rfl, rfl⟩
    · rw [decide_eq_false (fun h => h2 h.2)]
      go_enter Try.func17, Try.ntmps17
      go_wp2_with fail
      go_ret
      exact ⟨rfl, rfl⟩
  · rw [decide_eq_false (fun h => h1 h.1)]
    go_enter Try.func17, Try.ntmps17
    go_wp2_with fail
    go_ret
    exact ⟨rfl, rfl⟩
theorem upto_is (n t : Int) (b : Bool) (h : decide (0 ≤ n ∧ n ≤ t) = b) (w : World) : Calls Try.prog 27 #[.int .i64 n, .int .i64 t] w fun e w' => e = .returned (.bool b) ∧ w = w' := by
  subst h
  by_cases h1 : n ≥ 0
  · by_cases h2 : n ≤ t
    · rw [decide_eq_true ⟨h1, h2⟩]
      go_enter Try.func27, Try.ntmps27
      go_wp2_with fail
      go_ret
      exact ⟨rfl, rfl⟩
    · rw [decide_eq_false (fun h => h2 h.2)]
      go_enter Try.func27, Try.ntmps27
      go_wp2_with fail
      go_ret
      exact ⟨rfl, rfl⟩
  · rw [decide_eq_false (fun h => h1 h.1)]
    go_enter Try.func27, Try.ntmps27
    go_wp2_with fail
    go_ret
    exact ⟨rfl, rfl⟩
@[go_sem] theorem run_bySlice0 (w : World) : (bySlice 0 #[]).run Try.prog w = .ok (.slice (some ⟨w.heap.size, 0, none⟩) 0 0) (w.alloc (.cells #[] 5)) := built_by0 w
@[go_sem] theorem eql_by_nil (w : World) (c : Nat) : (binOp .eql 22 (.slice none 0 c) (.slice none 0 0)).run Try.prog w = .ok (.bool true) w := Lib.run_eql_slice_nil_nil w _ _ Try.underlying22
@[go_sem] theorem eql_by_some (w : World) (a : Addr) (n c : Nat) : (binOp .eql 22 (.slice (some a) n c) (.slice none 0 0)).run Try.prog w = .ok (.bool false) w := Lib.run_eql_slice_some_nil w _ _ _ Try.underlying22
theorem by_zero (w : World) : OwnA byE w.heap.size (w.alloc (.cells #[] 5)) (.slice (some ⟨w.heap.size, 0, none⟩) 0 0) [] := by
  have := own_lit_a byE w (l := []) (fun x hx => by cases hx) (by unfold maxLen; simp)
  simpa [byE] using this
theorem clone_is (l : List Int) (v : Value) (w : World) (h : RA byE w v l) (hl : l.length ≤ 4000) : Calls Try.prog 28 #[v] w fun e w' => (∃ u, e = .returned u ∧ OwnA byE w.heap.size w' u l) ∧ Below w.heap.size w w' := by
  obtain ⟨p, c, rfl, h1, _, _, hr⟩ := id h
  cases p with
  | none =>
    obtain rfl : l = [] := by
      rcases hr with h | ⟨_, _, h, _⟩
      · exact h
      · cases h
    clear h h1 hr
    go_enter Try.func28, Try.ntmps28
    go_wp2_with fail
    go_ret
    exact ⟨⟨_, rfl, own_nil_a _ _ _⟩, Below.refl _ _⟩
  | some a =>
    obtain ⟨W, hW⟩ : ∃ W, w.alloc (.cells #[] 5) = W := ⟨_, rfl⟩
    have O := Lib.hid (hW ▸ by_zero w)
    have B0 : Hid (Below w.heap.size w W) := Lib.hid (hW ▸ bal (Below.refl _ _))
    have R := Lib.hid (ra_below h B0.out)
    have hlen : Hid (([] : List Int).length + l.length ≤ 140737488355328) := Lib.hid (by simp; omega)
    clear h h1 hr hl
    go_enter Try.func28, Try.ntmps28
    go_wp2_with (at_builtin; refine app_bys rfl _ _ rfl _ _ _ rfl O.out _ l rfl R.out hlen B0.out.size ?_)
    intro v' w' ho hg hx
    have HB := Lib.hid (below_app B0.out B0.out.size O.out hg)
    have HR := Lib.hid ho
    obtain ⟨q, d, rfl, _⟩ := HR.out.shape
    clear ho hg hx
    go_wp2
    go_ret
    exact ⟨⟨_, rfl, HR.out⟩, HB.out⟩
end Go.Proofs.Ytdnijdbhdlengaa
