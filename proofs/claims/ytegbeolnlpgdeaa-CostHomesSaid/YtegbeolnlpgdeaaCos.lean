/-
  How many lines a call may change, how many writes it has at most, plainly; contracts of package cost and of the reference.
-/
import Derived.Test.YtegbeolnlpgdeaaOpl
import Derived.Test.YtegbeolnlpgdeaaPlw
namespace Go.Proofs.Ytegbeolnlpgdeaa
set_option maxRecDepth 100000
open Go.ChangeShapes Go.WideShapes Go.ChangeAt Go.RowKit

/-- so many bytes fill lines, and some more -/
def filC (n b : Int) : Int := if n < 0 ∨ 448 < n then 0 else n / 64 + b
/-- lines of a call: kind d, N n, k bytes -/
def lnC (d n k : Int) : Int := if d = 1 then filC n 4 else if d = 4 then filC k 2 else if d = 2 then 1 else 0
def opC (d n k r : Int) : Int := if 0 ≤ r ∧ r ≤ 16 then (if d = 5 then 1 else if lnC d n k = 0 then 0 else 12 * lnC d n k + 24 + 4 * r) else 0
def recC (r : Int) : Int := if 0 ≤ r ∧ r ≤ 16 then 192 + 4 * r else 0
theorem filC_in (n b : Int) (h : 0 ≤ b ∧ b ≤ 4) : 0 ≤ filC n b ∧ filC n b ≤ 11 := by
  unfold filC; split <;> omega
theorem lnC_in (d n k : Int) : 0 ≤ lnC d n k ∧ lnC d n k ≤ 11 := by
  unfold lnC
  split
  · exact filC_in n 4 (by omega)
  · split
    · exact filC_in k 2 (by omega)
    · split <;> omega
theorem wr64 (n : Int) (h1 : -1000000 ≤ n) (h2 : n ≤ 1000000) : IntKind.i64.wrap n = n := IntWalk.i64_in _ ⟨by omega, by omega⟩
theorem quo64 {n : Int} (h : 0 ≤ n) : n.tdiv 64 = n / 64 := Int.tdiv_eq_ediv_of_nonneg h

theorem filled_is (n b : Int) (w : World) (hb : 0 ≤ b ∧ b ≤ 4) : Calls Try.prog 24 #[.int .i64 n, .int .i64 b] w fun e w' => e = .returned (.int .i64 (filC n b)) ∧ w = w' := by
  by_cases h1 : n < 0
  · have E := Lib.hid (show filC n b = 0 by unfold filC; rw [if_pos (.inl h1)])
    clear hb
    go_enter Try.func24, Try.ntmps24
    go_wp2
    go_ret
    exact ⟨ret_i64 E.out.symm, rfl⟩
  · by_cases h2 : 448 < n
    · have E := Lib.hid (show filC n b = 0 by unfold filC; rw [if_pos (.inr h2)])
      clear hb
      go_enter Try.func24, Try.ntmps24
      go_wp2
      go_ret
      exact ⟨ret_i64 E.out.symm, rfl⟩
    · have E := Lib.hid (show filC n b = n / 64 + b by unfold filC; rw [if_neg (by omega)])
      have q := quo64 (n := n) (by omega)
      have k0 : 0 ≤ n / 64 ∧ n / 64 ≤ 7 := by omega
      generalize n / 64 = y at *
      have k1 := wr64 y (by omega) (by omega)
      have k2 := wr64 (y + b) (by omega) (by omega)
      clear hb k0
      go_enter Try.func24, Try.ntmps24
      go_wp2
      go_ret
      exact ⟨ret_i64 E.out.symm, rfl⟩
theorem cmay_is (r : Int) (w : World) (z : Bool) (hz : decide (0 ≤ r ∧ r ≤ 16) = z) : Calls Try.prog 25 #[.int .i64 r] w fun e w' => e = .returned (.bool z) ∧ w = w' := by
  subst hz
  by_cases h1 : 0 ≤ r
  · by_cases h2 : r ≤ 16
    · rw [decide_eq_true ⟨h1, h2⟩]
      go_enter Try.func25, Try.ntmps25
      go_wp2
      go_ret
      exact ⟨rfl, rfl⟩
    · rw [decide_eq_false (fun h => h2 h.2)]
      go_enter Try.func25, Try.ntmps25
      go_wp2
      go_ret
      exact ⟨rfl, rfl⟩
  · rw [decide_eq_false (fun h => h1 h.1)]
    go_enter Try.func25, Try.ntmps25
    go_wp2
    go_ret
    exact ⟨rfl, rfl⟩
theorem rcmay_is (r : Int) (w : World) (z : Bool) (hz : decide (0 ≤ r ∧ r ≤ 16) = z) : Calls Try.prog 27 #[.int .i64 r] w fun e w' => e = .returned (.bool z) ∧ w = w' := by
  subst hz
  by_cases h1 : 0 ≤ r
  · by_cases h2 : r ≤ 16
    · rw [decide_eq_true ⟨h1, h2⟩]
      go_enter Try.func27, Try.ntmps27
      go_wp2
      go_ret
      exact ⟨rfl, rfl⟩
    · rw [decide_eq_false (fun h => h2 h.2)]
      go_enter Try.func27, Try.ntmps27
      go_wp2
      go_ret
      exact ⟨rfl, rfl⟩
  · rw [decide_eq_false (fun h => h1 h.1)]
    go_enter Try.func27, Try.ntmps27
    go_wp2
    go_ret
    exact ⟨rfl, rfl⟩
theorem cwrites_is (n r : Int) (w : World) (hn : 0 ≤ n ∧ n ≤ 14) (hr : 0 ≤ r ∧ r ≤ 16) : Calls Try.prog 26 #[.int .i64 n, .int .i64 r] w fun e w' => e = .returned (.int .i64 (12 * n + 24 + 4 * r)) ∧ w = w' := by
  have k1 := wr64 (12 * n) (by omega) (by omega)
  have k2 := wr64 (12 * n + 24) (by omega) (by omega)
  have k3 := wr64 (4 * r) (by omega) (by omega)
  have k4 := wr64 (12 * n + 24 + 4 * r) (by omega) (by omega)
  clear hn hr
  go_enter Try.func26, Try.ntmps26
  go_wp2
  go_ret
  exact ⟨rfl, rfl⟩

theorem clines_is (d o n m : Int) (p : Option Addr) (k c : Nat) (bl : List Int) (w : World) :
    Calls Try.prog 9 #[.agg (pxc ⟨d, o, n, m, .slice p k c, bl⟩)] w fun e w' => e = .returned (.int .i64 (lnC d n k)) ∧ Below w.heap.size w w' := by
  obtain ⟨W, hW⟩ : ∃ W, w.alloc (.cells (pxc ⟨d, o, n, m, .slice p k c, bl⟩) 24) = W := ⟨_, rfl⟩
  have V := Pxv.new w ⟨d, o, n, m, .slice p k c, bl⟩
  have B0 := bal (o := .cells (pxc ⟨d, o, n, m, .slice p k c, bl⟩) 24) (Below.refl w.heap.size w)
  rw [hW] at V B0
  have c0 := V.c0
  have c2 := V.c2
  have c4 := V.c4
  dsimp only at c0 c2 c4
  have HB := Lib.hid B0
  clear V B0
  have F1 := Lib.hid (filled_is n 4 W (by omega))
  have F2 := Lib.hid (filled_is (k : Int) 2 W (by omega))
  by_cases h1 : d = 1
  · have E := Lib.hid (show lnC d n k = filC n 4 by unfold lnC; rw [if_pos h1])
    subst h1
    go_enter Try.func9, Try.ntmps9
    go_wp2_with fail
    refine (F1.out).mono ?_; rintro e w' ⟨rfl, rfl⟩
    go_wp2_with fail
    go_ret
    exact ⟨ret_i64 E.out.symm, HB.out⟩
  · have e1 : (d == 1) = false := beq_eq_false_iff_ne.2 h1
    by_cases h4 : d = 4
    · have E := Lib.hid (show lnC d n k = filC k 2 by unfold lnC; rw [if_neg h1, if_pos h4])
      subst h4
      clear h1
      go_enter Try.func9, Try.ntmps9
      go_wp2_with fail
      refine (F2.out).mono ?_; rintro e w' ⟨rfl, rfl⟩
      go_wp2_with fail
      go_ret
      exact ⟨ret_i64 E.out.symm, HB.out⟩
    · have e4 : (d == 4) = false := beq_eq_false_iff_ne.2 h4
      by_cases h2 : d = 2
      · have E := Lib.hid (show lnC d n k = 1 by unfold lnC; rw [if_neg h1, if_neg h4, if_pos h2])
        subst h2
        clear h1 h4
        go_enter Try.func9, Try.ntmps9
        go_wp2
        go_ret
        exact ⟨ret_i64 E.out.symm, HB.out⟩
      · have e2 : (d == 2) = false := beq_eq_false_iff_ne.2 h2
        have E := Lib.hid (show lnC d n k = 0 by unfold lnC; rw [if_neg h1, if_neg h4, if_neg h2])
        go_enter Try.func9, Try.ntmps9
        go_wp2
        go_ret
        exact ⟨ret_i64 E.out.symm, HB.out⟩

theorem rclines_is (d o n m : Int) (p : Option Addr) (k c : Nat) (bl : List Int) (w : World) :
    Calls Try.prog 10 #[.agg (pxc ⟨d, o, n, m, .slice p k c, bl⟩)] w fun e w' => e = .returned (.int .i64 (lnC d n k)) ∧ Below w.heap.size w w' := by
  obtain ⟨W, hW⟩ : ∃ W, w.alloc (.cells (pxc ⟨d, o, n, m, .slice p k c, bl⟩) 24) = W := ⟨_, rfl⟩
  have V := Pxv.new w ⟨d, o, n, m, .slice p k c, bl⟩
  have B0 := bal (o := .cells (pxc ⟨d, o, n, m, .slice p k c, bl⟩) 24) (Below.refl w.heap.size w)
  rw [hW] at V B0
  have c0 := V.c0
  have c2 := V.c2
  have c4 := V.c4
  dsimp only at c0 c2 c4
  have HB := Lib.hid B0
  clear V B0
  by_cases h1 : d = 1
  · subst h1
    by_cases g1 : n < 0
    · have E := Lib.hid (show lnC 1 n k = 0 by unfold lnC filC; rw [if_pos rfl, if_pos (.inl g1)])
      have g2 : ¬ 0 ≤ n := by omega
      go_enter Try.func10, Try.ntmps10
      go_wp2
      go_ret
      exact ⟨ret_i64 E.out.symm, HB.out⟩
    · by_cases g2 : 448 < n
      · have E := Lib.hid (show lnC 1 n k = 0 by unfold lnC filC; rw [if_pos rfl, if_pos (.inr g2)])
        have g3 : ¬ n ≤ 448 := by omega
        go_enter Try.func10, Try.ntmps10
        go_wp2
        go_ret
        exact ⟨ret_i64 E.out.symm, HB.out⟩
      · have E := Lib.hid (show lnC 1 n k = n / 64 + 4 by unfold lnC filC; rw [if_pos rfl, if_neg (by omega)])
        have q := quo64 (n := n) (by omega)
        have k0 : 0 ≤ n / 64 ∧ n / 64 ≤ 7 := by omega
        have g3 : 0 ≤ n := by omega
        have g4 : n ≤ 448 := by omega
        generalize n / 64 = y at *
        have k1 := wr64 y (by omega) (by omega)
        have k2 := wr64 (y + 4) (by omega) (by omega)
        clear k0
        go_enter Try.func10, Try.ntmps10
        go_wp2
        go_ret
        exact ⟨ret_i64 E.out.symm, HB.out⟩
  · have e1 : (d == 1) = false := beq_eq_false_iff_ne.2 h1
    by_cases h4 : d = 4
    · subst h4
      by_cases g1 : 448 < k
      · have E := Lib.hid (show lnC 4 n k = 0 by unfold lnC filC; rw [if_neg (by decide), if_pos rfl, if_pos (.inr (by omega))])
        have g3 : ¬ (k : Int) ≤ 448 := by omega
        clear h1
        go_enter Try.func10, Try.ntmps10
        go_wp2
        go_ret
        exact ⟨ret_i64 E.out.symm, HB.out⟩
      · have E := Lib.hid (show lnC 4 n k = (k : Int) / 64 + 2 by unfold lnC filC; rw [if_neg (by decide), if_pos rfl, if_neg (by omega)])
        have q := quo64 (n := (k : Int)) (by omega)
        have k0 : 0 ≤ (k : Int) / 64 ∧ (k : Int) / 64 ≤ 7 := by omega
        have g3 : (k : Int) ≤ 448 := by omega
        generalize (k : Int) / 64 = y at *
        have k1 := wr64 y (by omega) (by omega)
        have k2 := wr64 (y + 2) (by omega) (by omega)
        clear k0 h1
        go_enter Try.func10, Try.ntmps10
        go_wp2
        go_ret
        exact ⟨ret_i64 E.out.symm, HB.out⟩
    · have e4 : (d == 4) = false := beq_eq_false_iff_ne.2 h4
      by_cases h2 : d = 2
      · have E := Lib.hid (show lnC d n k = 1 by unfold lnC; rw [if_neg h1, if_neg h4, if_pos h2])
        subst h2
        clear h1 h4
        go_enter Try.func10, Try.ntmps10
        go_wp2
        go_ret
        exact ⟨ret_i64 E.out.symm, HB.out⟩
      · have e2 : (d == 2) = false := beq_eq_false_iff_ne.2 h2
        have E := Lib.hid (show lnC d n k = 0 by unfold lnC; rw [if_neg h1, if_neg h4, if_neg h2])
        go_enter Try.func10, Try.ntmps10
        go_wp2
        go_ret
        exact ⟨ret_i64 E.out.symm, HB.out⟩

theorem Pxv.whole {w : World} {g : Nat} {x : Px} (h : Pxv w g x) : (pxLoad (.pointer (some ⟨g, 0, none⟩))).run Try.prog w = .ok (.agg (pxc x)) w :=
  run_pxLoad fun j v hv => by rw [Whole.at_ h, Nat.zero_add, ← hv]; simp [pxc]
theorem cop_is (d o n m : Int) (p : Option Addr) (k c : Nat) (bl : List Int) (r : Int) (w : World) :
    Calls Try.prog 11 #[.agg (pxc ⟨d, o, n, m, .slice p k c, bl⟩), .int .i64 r] w fun e w' => e = .returned (.int .i64 (opC d n k r)) ∧ Below w.heap.size w w' := by
  obtain ⟨W, hW⟩ : ∃ W, w.alloc (.cells (pxc ⟨d, o, n, m, .slice p k c, bl⟩) 24) = W := ⟨_, rfl⟩
  have V := Pxv.new w ⟨d, o, n, m, .slice p k c, bl⟩
  have B0 := bal (o := .cells (pxc ⟨d, o, n, m, .slice p k c, bl⟩) 24) (Below.refl w.heap.size w)
  rw [hW] at V B0
  have L := V.whole
  have F := Lib.hid (clines_is d o n m p k c bl W)
  have HV := Lib.hid V
  have HB := Lib.hid B0
  have hi := lnC_in d n k
  have hE : opC d n k r = if 0 ≤ r ∧ r ≤ 16 then (if d = 5 then 1 else if lnC d n k = 0 then 0 else 12 * lnC d n k + 24 + 4 * r) else 0 := rfl
  obtain ⟨z, hz⟩ : ∃ z, decide (0 ≤ r ∧ r ≤ 16) = z := ⟨_, rfl⟩
  have Z := Lib.hid (fun w => cmay_is r w z hz)
  generalize lnC d n k = y at *
  clear V B0
  cases z
  · have E := Lib.hid (show opC d n k r = 0 by rw [hE, if_neg (of_decide_eq_false hz)])
    clear hE hz hi
    go_enter Try.func11, Try.ntmps11
    go_wp2_with fail
    refine F.out.mono ?_; rintro e w1 ⟨rfl, hb⟩
    have B1 := Lib.hid (below_more HB.out hb)
    clear hb
    go_wp2_with fail
    refine (Z.out _).mono ?_; rintro e w' ⟨rfl, rfl⟩
    go_wp2
    go_ret
    exact ⟨ret_i64 E.out.symm, B1.out⟩
  · have hr := of_decide_eq_true hz
    rw [if_pos hr] at hE
    by_cases h5 : d = 5
    · have E := Lib.hid (show opC d n k r = 1 by rw [hE, if_pos h5])
      subst h5
      clear hE hz hi hr
      go_enter Try.func11, Try.ntmps11
      go_wp2_with fail
      refine F.out.mono ?_; rintro e w1 ⟨rfl, hb⟩
      have c0 := (HV.out.below hb).c0
      dsimp only at c0
      have B1 := Lib.hid (below_more HB.out hb)
      clear hb
      go_wp2_with fail
      refine (Z.out _).mono ?_; rintro e w' ⟨rfl, rfl⟩
      go_wp2
      go_ret
      exact ⟨ret_i64 E.out.symm, B1.out⟩
    · have e5 : (d == 5) = false := beq_eq_false_iff_ne.2 h5
      rw [if_neg h5] at hE
      by_cases h0 : y = 0
      · have E := Lib.hid (show opC d n k r = 0 by rw [hE, if_pos h0])
        subst h0
        clear hE hz hi hr
        go_enter Try.func11, Try.ntmps11
        go_wp2_with fail
        refine F.out.mono ?_; rintro e w1 ⟨rfl, hb⟩
        have c0 := (HV.out.below hb).c0
        dsimp only at c0
        have B1 := Lib.hid (below_more HB.out hb)
        clear hb
        go_wp2_with fail
        refine (Z.out _).mono ?_; rintro e w' ⟨rfl, rfl⟩
        go_wp2
        go_ret
        exact ⟨ret_i64 E.out.symm, B1.out⟩
      · have e0 : (y == 0) = false := beq_eq_false_iff_ne.2 h0
        have E := Lib.hid (show opC d n k r = 12 * y + 24 + 4 * r by rw [hE, if_neg h0])
        have WR := Lib.hid (fun w => cwrites_is y r w ⟨hi.1, by omega⟩ hr)
        have k1 := wr64 (12 * y) (by omega) (by omega)
        have k2 := wr64 (12 * y + 24) (by omega) (by omega)
        have k3 := wr64 (4 * r) (by omega) (by omega)
        have k4 := wr64 (12 * y + 24 + 4 * r) (by omega) (by omega)
        clear hE hz hi hr
        go_enter Try.func11, Try.ntmps11
        go_wp2_with fail
        refine F.out.mono ?_; rintro e w1 ⟨rfl, hb⟩
        have c0 := (HV.out.below hb).c0
        dsimp only at c0
        have B1 := Lib.hid (below_more HB.out hb)
        clear hb
        go_wp2_with fail
        refine (Z.out _).mono ?_; rintro e w' ⟨rfl, rfl⟩
        go_wp2_with fail
        first
          | (refine (WR.out _).mono ?_
             rintro e w' ⟨rfl, rfl⟩
             go_wp2_with fail
             go_ret
             exact ⟨ret_i64 E.out.symm, B1.out⟩)
          | (go_ret
             exact ⟨ret_i64 E.out.symm, B1.out⟩)
theorem rcop_is (d o n m : Int) (p : Option Addr) (k c : Nat) (bl : List Int) (r : Int) (w : World) :
    Calls Try.prog 12 #[.agg (pxc ⟨d, o, n, m, .slice p k c, bl⟩), .int .i64 r] w fun e w' => e = .returned (.int .i64 (opC d n k r)) ∧ Below w.heap.size w w' := by
  obtain ⟨W, hW⟩ : ∃ W, w.alloc (.cells (pxc ⟨d, o, n, m, .slice p k c, bl⟩) 24) = W := ⟨_, rfl⟩
  have V := Pxv.new w ⟨d, o, n, m, .slice p k c, bl⟩
  have B0 := bal (o := .cells (pxc ⟨d, o, n, m, .slice p k c, bl⟩) 24) (Below.refl w.heap.size w)
  rw [hW] at V B0
  have L := V.whole
  have F := Lib.hid (rclines_is d o n m p k c bl W)
  have HV := Lib.hid V
  have HB := Lib.hid B0
  have hi := lnC_in d n k
  have hE : opC d n k r = if 0 ≤ r ∧ r ≤ 16 then (if d = 5 then 1 else if lnC d n k = 0 then 0 else 12 * lnC d n k + 24 + 4 * r) else 0 := rfl
  obtain ⟨z, hz⟩ : ∃ z, decide (0 ≤ r ∧ r ≤ 16) = z := ⟨_, rfl⟩
  have Z := Lib.hid (fun w => rcmay_is r w z hz)
  generalize lnC d n k = y at *
  clear V B0
  cases z
  · have E := Lib.hid (show opC d n k r = 0 by rw [hE, if_neg (of_decide_eq_false hz)])
    clear hE hz hi
    go_enter Try.func12, Try.ntmps12
    go_wp2_with fail
    refine F.out.mono ?_; rintro e w1 ⟨rfl, hb⟩
    have B1 := Lib.hid (below_more HB.out hb)
    clear hb
    go_wp2_with fail
    refine (Z.out _).mono ?_; rintro e w' ⟨rfl, rfl⟩
    go_wp2
    go_ret
    exact ⟨ret_i64 E.out.symm, B1.out⟩
  · have hr := of_decide_eq_true hz
    rw [if_pos hr] at hE
    by_cases h5 : d = 5
    · have E := Lib.hid (show opC d n k r = 1 by rw [hE, if_pos h5])
      subst h5
      clear hE hz hi hr
      go_enter Try.func12, Try.ntmps12
      go_wp2_with fail
      refine F.out.mono ?_; rintro e w1 ⟨rfl, hb⟩
      have c0 := (HV.out.below hb).c0
      dsimp only at c0
      have B1 := Lib.hid (below_more HB.out hb)
      clear hb
      go_wp2_with fail
      refine (Z.out _).mono ?_; rintro e w' ⟨rfl, rfl⟩
      go_wp2
      go_ret
      exact ⟨ret_i64 E.out.symm, B1.out⟩
    · have e5 : (d == 5) = false := beq_eq_false_iff_ne.2 h5
      rw [if_neg h5] at hE
      by_cases h0 : y = 0
      · have E := Lib.hid (show opC d n k r = 0 by rw [hE, if_pos h0])
        subst h0
        clear hE hz hi hr
        go_enter Try.func12, Try.ntmps12
        go_wp2_with fail
        refine F.out.mono ?_; rintro e w1 ⟨rfl, hb⟩
        have c0 := (HV.out.below hb).c0
        dsimp only at c0
        have B1 := Lib.hid (below_more HB.out hb)
        clear hb
        go_wp2_with fail
        refine (Z.out _).mono ?_; rintro e w' ⟨rfl, rfl⟩
        go_wp2
        go_ret
        exact ⟨ret_i64 E.out.symm, B1.out⟩
      · have e0 : (y == 0) = false := beq_eq_false_iff_ne.2 h0
        have E := Lib.hid (show opC d n k r = 12 * y + 24 + 4 * r by rw [hE, if_neg h0])
        have WR := Lib.hid (fun w => cwrites_is y r w ⟨hi.1, by omega⟩ hr)
        have k1 := wr64 (12 * y) (by omega) (by omega)
        have k2 := wr64 (12 * y + 24) (by omega) (by omega)
        have k3 := wr64 (4 * r) (by omega) (by omega)
        have k4 := wr64 (12 * y + 24 + 4 * r) (by omega) (by omega)
        clear hE hz hi hr
        go_enter Try.func12, Try.ntmps12
        go_wp2_with fail
        refine F.out.mono ?_; rintro e w1 ⟨rfl, hb⟩
        have c0 := (HV.out.below hb).c0
        dsimp only at c0
        have B1 := Lib.hid (below_more HB.out hb)
        clear hb
        go_wp2_with fail
        refine (Z.out _).mono ?_; rintro e w' ⟨rfl, rfl⟩
        go_wp2_with fail
        first
          | (refine (WR.out _).mono ?_
             rintro e w' ⟨rfl, rfl⟩
             go_wp2_with fail
             go_ret
             exact ⟨ret_i64 E.out.symm, B1.out⟩)
          | (go_ret
             exact ⟨ret_i64 E.out.symm, B1.out⟩)
theorem crec_is (r : Int) (w : World) : Calls Try.prog 13 #[.int .i64 r] w fun e w' => e = .returned (.int .i64 (recC r)) ∧ w = w' := by
  obtain ⟨z, hz⟩ : ∃ z, decide (0 ≤ r ∧ r ≤ 16) = z := ⟨_, rfl⟩
  have Z := Lib.hid (fun w => cmay_is r w z hz)
  cases z
  · have E := Lib.hid (show recC r = 0 by unfold recC; rw [if_neg (of_decide_eq_false hz)])
    clear hz
    go_enter Try.func13, Try.ntmps13
    go_wp2_with fail
    refine (Z.out _).mono ?_; rintro e w' ⟨rfl, rfl⟩
    go_wp2
    go_ret
    exact ⟨ret_i64 E.out.symm, rfl⟩
  · have hr := of_decide_eq_true hz
    have E := Lib.hid (show recC r = 192 + 4 * r by unfold recC; rw [if_pos hr])
    have WR := Lib.hid (fun w => (cwrites_is 14 r w (by omega) hr).mono (R' := fun e w' => e = .returned (.int .i64 (192 + 4 * r)) ∧ w = w') fun e w' ⟨h1, h2⟩ => ⟨h1.trans rfl, h2⟩)
    have k3 := wr64 (4 * r) (by omega) (by omega)
    have k4 := wr64 (192 + 4 * r) (by omega) (by omega)
    clear hz hr
    go_enter Try.func13, Try.ntmps13
    go_wp2_with fail
    refine (Z.out _).mono ?_; rintro e w' ⟨rfl, rfl⟩
    go_wp2_with fail
    first
      | (refine (WR.out _).mono ?_
         rintro e w' ⟨rfl, rfl⟩
         go_wp2_with fail
         go_ret
         exact ⟨ret_i64 E.out.symm, rfl⟩)
      | (go_ret
         exact ⟨ret_i64 E.out.symm, rfl⟩)
theorem rcrec_is (r : Int) (w : World) : Calls Try.prog 14 #[.int .i64 r] w fun e w' => e = .returned (.int .i64 (recC r)) ∧ w = w' := by
  obtain ⟨z, hz⟩ : ∃ z, decide (0 ≤ r ∧ r ≤ 16) = z := ⟨_, rfl⟩
  have Z := Lib.hid (fun w => rcmay_is r w z hz)
  cases z
  · have E := Lib.hid (show recC r = 0 by unfold recC; rw [if_neg (of_decide_eq_false hz)])
    clear hz
    go_enter Try.func14, Try.ntmps14
    go_wp2_with fail
    refine (Z.out _).mono ?_; rintro e w' ⟨rfl, rfl⟩
    go_wp2
    go_ret
    exact ⟨ret_i64 E.out.symm, rfl⟩
  · have hr := of_decide_eq_true hz
    have E := Lib.hid (show recC r = 192 + 4 * r by unfold recC; rw [if_pos hr])
    have WR := Lib.hid (fun w => (cwrites_is 14 r w (by omega) hr).mono (R' := fun e w' => e = .returned (.int .i64 (192 + 4 * r)) ∧ w = w') fun e w' ⟨h1, h2⟩ => ⟨h1.trans rfl, h2⟩)
    have k3 := wr64 (4 * r) (by omega) (by omega)
    have k4 := wr64 (192 + 4 * r) (by omega) (by omega)
    clear hz hr
    go_enter Try.func14, Try.ntmps14
    go_wp2_with fail
    refine (Z.out _).mono ?_; rintro e w' ⟨rfl, rfl⟩
    go_wp2_with fail
    first
      | (refine (WR.out _).mono ?_
         rintro e w' ⟨rfl, rfl⟩
         go_wp2_with fail
         go_ret
         exact ⟨ret_i64 E.out.symm, rfl⟩)
      | (go_ret
         exact ⟨ret_i64 E.out.symm, rfl⟩)
theorem cfmt_yes {l s p b : Int} (h : May l s p b) (w : World) : Calls Try.prog 15 #[(Value.agg #[Value.int IntKind.i64 l, Value.int IntKind.i64 s, Value.int IntKind.i64 p, Value.int IntKind.i64 b])] w fun e w' => e = .returned (.int .i64 200) ∧ Below w.heap.size w w' := by
  obtain ⟨W, hW, H⟩ := plan_boxed w l s p b
  have L := H.out.1.load
  have M := Lib.hid (pmay_yes h W)
  have HB := Lib.hid H.out.2
  clear h H
  go_enter Try.func15, Try.ntmps15
  go_wp2_with fail
  refine M.out.mono ?_; rintro e w1 ⟨rfl, hb⟩
  go_wp2_with fail
  go_ret
  exact ⟨rfl, below_more HB.out hb⟩
theorem cfmt_no {l s p b : Int} (h : ¬ May l s p b) (w : World) : Calls Try.prog 15 #[(Value.agg #[Value.int IntKind.i64 l, Value.int IntKind.i64 s, Value.int IntKind.i64 p, Value.int IntKind.i64 b])] w fun e w' => e = .returned (.int .i64 0) ∧ Below w.heap.size w w' := by
  obtain ⟨W, hW, H⟩ := plan_boxed w l s p b
  have L := H.out.1.load
  have M := Lib.hid (pmay_no h W)
  have HB := Lib.hid H.out.2
  clear h H
  go_enter Try.func15, Try.ntmps15
  go_wp2_with fail
  refine M.out.mono ?_; rintro e w1 ⟨rfl, hb⟩
  go_wp2_with fail
  go_ret
  exact ⟨rfl, below_more HB.out hb⟩
end Go.Proofs.Ytegbeolnlpgdeaa
