/-
  Any row, any places, any steps: package guard's answers are the chapter's own. No conditions.
-/
import Derived.Test.YtlgjfhjnfimahaaAwg
import Derived.Test.YtlgjfhjnfimahaaIns
import Derived.Test.YtlgjfhjnfimahaaInts
import Derived.Test.YtlgjfhjnfimahaaRRun
namespace Go.Proofs.Ytlgjfhjnfimahaa.guardForms
open Go.Proofs.Ytlgjfhjnfimahaa Go.ChangeShapes Go.WideShapes Go.ChangeAt Go.RowKit

theorem slice2_in (p : Option Addr) (n cap a b : Nat) (h1 : a ≤ b) (h2 : b ≤ cap) (w : World) :
    (Instr.slice 22 (.slice p n cap) (some (.int .i64 (a : Int))) (some (.int .i64 (b : Int))) none).run Try.prog w =
      .ok (.slice (if cap = a then p else p.map (·.add a)) (b - a) (cap - a)) w := by
  obtain ⟨i0, hinf, hz0, hz1, hz2⟩ := info_parts info_int
  have e2 : ∀ w, (Instr.sliceBound (.int .i64 (b : Int)) cap .sliceAcap).run Try.prog w = .ok b w := fun w => by rw [run_sliceBound (P := Try.prog) (w := w) .i64 b cap .sliceAcap (by omega) (by omega)]; simp
  have e3 : ∀ w, (Instr.sliceBound (.int .i64 (a : Int)) b .sliceB).run Try.prog w = .ok a w := fun w => by rw [run_sliceBound (P := Try.prog) (w := w) .i64 a b .sliceB (by omega) (by omega)]; simp
  unfold Instr.slice
  simp only [Sem.run_bind, run_underlying Try.underlying22, Result.andThen_ok]
  unfold Instr.sliceBounds sizeOf typeInfo
  simp [hinf, hz1, e2, e3]

theorem alike_self (a : List Int) : alike a a = true := by unfold alike; exact decide_eq_true rfl

set_option maxRecDepth 100000 in
theorem long (p q : Option Addr) (n cap m c2 : Nat) (i j a b : Int) (w : World) (h : 200 < n ∨ 1500 < m) :
    Calls Try.prog 3 #[.slice p n cap, .int .i64 i, .int .i64 j, .int .i64 a, .int .i64 b, .slice q m c2] w fun e w' => e = .returned (.bool true) ∧ Below w.heap.size w w' := by
  by_cases h1 : 200 < n
  · go_enter Try.func3, Try.ntmps3
    go_wp2_with fail
    refine (awake_any _).mono ?_; rintro e w' ⟨rfl, hb⟩
    go_wp2_with fail
    go_ret
    exact ⟨rfl, hb⟩
  · have h2 : 1500 < m := by omega
    go_enter Try.func3, Try.ntmps3
    go_wp2_with fail
    refine (awake_any _).mono ?_; rintro e w' ⟨rfl, hb⟩
    go_wp2_with fail
    go_ret
    exact ⟨rfl, hb⟩

/-- the end: both runs, whether they are alike, awake -/
structure Runs (w : World) (rv lv : Value) (row : List Int) (l : List (Int × Int)) : Prop where
  r : RI w rv row
  l : RL w lv l
set_option maxRecDepth 100000 in
set_option maxHeartbeats 1000000 in
theorem short_yyy (p q : Option Addr) (cap c2 : Nat) (row : List Int) (l : List (Int × Int)) (i j a b : Int) (w : World) (hr : RI w (.slice p row.length cap) row) (hl : RL w (.slice q l.length c2) l) (hn : row.length ≤ 200) (hm : l.length ≤ 1500) (hi0 : 0 ≤ i) (hi1 : i < row.length) (hs0 : 0 ≤ i) (hs1 : i ≤ j) (hs2 : j ≤ row.length) (hb : ¬ b = 0) :
    Calls Try.prog 3 #[.slice p row.length cap, .int .i64 i, .int .i64 j, .int .i64 a, .int .i64 b, .slice q l.length c2] w fun e w' => e = .returned (.bool true) ∧ Below w.heap.size w w' := by
  have R := Lib.hid hr
  have L := Lib.hid hl
  have hcap : row.length ≤ cap := by obtain ⟨_, _, e, h1, _⟩ := hr; cases e; exact h1
  have C1 := Lib.hid (index_in _ row i w hr hi0 hi1)
  have C2 := Lib.hid fun w' (hb : Below w.heap.size w w') => slice_in _ row i j w' (ri_below hr hb) hs0 hs1 hs2 (by omega)
  have RP := Lib.hid fun w' (hb : Below w.heap.size w w') => ri_part (m := cap) (ri_below hr hb) hs0 hs1 hs2 hcap (Nat.le_refl _)
  have PL := Lib.hid (part_length hs0 hs1 hs2)
  have C3 := Lib.hid fun w' => div_in a b w' hb
  have C4 := Lib.hid fun w' (hb : Below w.heap.size w w') => run_walk _ _ row l w' (ri_below hr hb) (rl_below hl hb) (by omega)
  have C5 := Lib.hid fun w' (hb : Below w.heap.size w w') => rrun_walk _ _ row l w' (ri_below hr hb) (rl_below hl hb) (by omega)
  generalize (run row [] 0 l).1.reverse = T at *
  generalize (run row [] 0 l).2.2 = okv at *
  generalize (run row [] 0 l).2.1 = dn at *
  obtain ⟨x, rfl⟩ : ∃ x : Nat, i = x := ⟨i.toNat, by omega⟩
  have hxl : x < row.length := by omega
  obtain ⟨g, off, rfl, hgl, hc⟩ := ri_some hr (by omega)
  have hcell := hc x hxl
  rw [Int.toNat_natCast] at C1
  generalize row.getD x 0 = y at *
  clear hc
  obtain ⟨z, rfl⟩ : ∃ z : Nat, j = z := ⟨j.toNat, by omega⟩
  simp only [Int.toNat_natCast] at RP PL
  have hs3 := slice2_in (some ⟨g, off, none⟩ : Option Addr) row.length cap x z (by omega) (by omega)
  have hs4 : ∀ w, (Instr.sliceAt 22 (.slice (some ⟨g, off, none⟩ : Option Addr) row.length cap) (some (.int .i64 (x : Int))) (some (.int .i64 (z : Int))) none).run Try.prog w = _ := fun w => (run_sliceAt_slice (h := Try.underlying22) ..).trans (hs3 w)
  generalize (if cap = x then (some ⟨g, off, none⟩ : Option Addr) else Option.map (fun A : Addr => A.add x) (some ⟨g, off, none⟩ : Option Addr)) = qq at *
  generalize cap - x = cx at *
  generalize part row (x : Int) (z : Int) = pl at *
  have hx1 : x ≤ z := by omega
  have hx2 : z ≤ row.length := by omega
  have hx3 : (z : Int) ≤ (row.length : Int) := by omega
  have hx4 : (x : Int) ≤ (z : Int) := by omega
  clear hr hl
  have hb1 : (b != 0) = true := by simpa using hb
  have hb2 : (b == 0) = false := by simpa using hb
  go_enter Try.func3, Try.ntmps3
  go_wp2_with fail
  all_goals
    refine C1.out.mono ?_; rintro e w1 ⟨rfl, h1⟩
    have B1 := Lib.hid h1
    have k1 : w1.cell? ⟨g, off + x, none⟩ = some (.int .i64 y) := (h1.cell hgl).trans hcell
    clear h1
    go_wp2_with fail
    all_goals
      refine (C2.out w1 B1.out).mono ?_; rintro e w2 ⟨v2, rfl, ho2, h2⟩
      have B2 := Lib.hid (below_more B1.out h2)
      have O2 := Lib.hid ho2.ri
      have IN := Lib.hid (ints_any _ _ _ _ w2 ho2.ri (RP.out w2 B2.out))
      obtain ⟨p2, c3, rfl⟩ := ho2.shape
      clear ho2 h2
      go_wp2_with fail
      all_goals
        refine IN.out.mono ?_; rintro e w3 ⟨rfl, n3, rfl⟩
        rw [alike_self]
        have B3 := Lib.hid (below_drewN B2.out n3)
        go_wp2_with fail
        all_goals
          refine (C3.out (w2.drewN n3)).mono ?_; rintro e w4 ⟨rfl, h4⟩
          have B4 := Lib.hid (below_more B3.out h4)
          clear h4
          go_wp2_with fail
          all_goals
            refine (C4.out w4 B4.out).mono ?_; rintro e w5 ⟨v5, rfl, ho5, h5⟩
            have B5 := Lib.hid (below_more B4.out h5)
            have O5 := Lib.hid ho5.ri
            obtain ⟨p5, c5, rfl⟩ := ho5.shape
            clear ho5 h5
            go_wp2_with fail
            all_goals
              refine (C5.out w5 B5.out).mono ?_; rintro e w6 ⟨v6, rfl, ho6, h6⟩
              have B6 := Lib.hid (below_more B5.out h6)
              have IT := Lib.hid (ints_any _ _ _ _ w6 (ri_below O5.out h6) ho6.ri)
              obtain ⟨p6, c6, rfl⟩ := ho6.shape
              clear ho6 h6
              go_wp2_with fail
              all_goals
                refine IT.out.mono ?_; rintro e w7 ⟨rfl, n7, rfl⟩
                rw [alike_self]
                have B7 := Lib.hid (below_drewN B6.out n7)
                go_wp2_with fail
                all_goals
                  refine (awake_any _).mono ?_; rintro e w8 ⟨rfl, h8⟩
                  go_wp2_with fail
                  all_goals
                    go_ret
                    exact ⟨rfl, below_more B7.out h8⟩

set_option maxRecDepth 100000 in
set_option maxHeartbeats 1000000 in
theorem short_yyn (p q : Option Addr) (cap c2 : Nat) (row : List Int) (l : List (Int × Int)) (i j a b : Int) (w : World) (hr : RI w (.slice p row.length cap) row) (hl : RL w (.slice q l.length c2) l) (hn : row.length ≤ 200) (hm : l.length ≤ 1500) (hi0 : 0 ≤ i) (hi1 : i < row.length) (hs0 : 0 ≤ i) (hs1 : i ≤ j) (hs2 : j ≤ row.length) (hb : b = 0) :
    Calls Try.prog 3 #[.slice p row.length cap, .int .i64 i, .int .i64 j, .int .i64 a, .int .i64 b, .slice q l.length c2] w fun e w' => e = .returned (.bool true) ∧ Below w.heap.size w w' := by
  have R := Lib.hid hr
  have L := Lib.hid hl
  have hcap : row.length ≤ cap := by obtain ⟨_, _, e, h1, _⟩ := hr; cases e; exact h1
  have C1 := Lib.hid (index_in _ row i w hr hi0 hi1)
  have C2 := Lib.hid fun w' (hb : Below w.heap.size w w') => slice_in _ row i j w' (ri_below hr hb) hs0 hs1 hs2 (by omega)
  have RP := Lib.hid fun w' (hb : Below w.heap.size w w') => ri_part (m := cap) (ri_below hr hb) hs0 hs1 hs2 hcap (Nat.le_refl _)
  have PL := Lib.hid (part_length hs0 hs1 hs2)
  have C3 := Lib.hid fun w' => div_out a w'
  have C4 := Lib.hid fun w' (hb : Below w.heap.size w w') => run_walk _ _ row l w' (ri_below hr hb) (rl_below hl hb) (by omega)
  have C5 := Lib.hid fun w' (hb : Below w.heap.size w w') => rrun_walk _ _ row l w' (ri_below hr hb) (rl_below hl hb) (by omega)
  generalize (run row [] 0 l).1.reverse = T at *
  generalize (run row [] 0 l).2.2 = okv at *
  generalize (run row [] 0 l).2.1 = dn at *
  obtain ⟨x, rfl⟩ : ∃ x : Nat, i = x := ⟨i.toNat, by omega⟩
  have hxl : x < row.length := by omega
  obtain ⟨g, off, rfl, hgl, hc⟩ := ri_some hr (by omega)
  have hcell := hc x hxl
  rw [Int.toNat_natCast] at C1
  generalize row.getD x 0 = y at *
  clear hc
  obtain ⟨z, rfl⟩ : ∃ z : Nat, j = z := ⟨j.toNat, by omega⟩
  simp only [Int.toNat_natCast] at RP PL
  have hs3 := slice2_in (some ⟨g, off, none⟩ : Option Addr) row.length cap x z (by omega) (by omega)
  have hs4 : ∀ w, (Instr.sliceAt 22 (.slice (some ⟨g, off, none⟩ : Option Addr) row.length cap) (some (.int .i64 (x : Int))) (some (.int .i64 (z : Int))) none).run Try.prog w = _ := fun w => (run_sliceAt_slice (h := Try.underlying22) ..).trans (hs3 w)
  generalize (if cap = x then (some ⟨g, off, none⟩ : Option Addr) else Option.map (fun A : Addr => A.add x) (some ⟨g, off, none⟩ : Option Addr)) = qq at *
  generalize cap - x = cx at *
  generalize part row (x : Int) (z : Int) = pl at *
  have hx1 : x ≤ z := by omega
  have hx2 : z ≤ row.length := by omega
  have hx3 : (z : Int) ≤ (row.length : Int) := by omega
  have hx4 : (x : Int) ≤ (z : Int) := by omega
  clear hr hl
  subst hb
  go_enter Try.func3, Try.ntmps3
  go_wp2_with fail
  all_goals
    refine C1.out.mono ?_; rintro e w1 ⟨rfl, h1⟩
    have B1 := Lib.hid h1
    have k1 : w1.cell? ⟨g, off + x, none⟩ = some (.int .i64 y) := (h1.cell hgl).trans hcell
    clear h1
    go_wp2_with fail
    all_goals
      refine (C2.out w1 B1.out).mono ?_; rintro e w2 ⟨v2, rfl, ho2, h2⟩
      have B2 := Lib.hid (below_more B1.out h2)
      have O2 := Lib.hid ho2.ri
      have IN := Lib.hid (ints_any _ _ _ _ w2 ho2.ri (RP.out w2 B2.out))
      obtain ⟨p2, c3, rfl⟩ := ho2.shape
      clear ho2 h2
      go_wp2_with fail
      all_goals
        refine IN.out.mono ?_; rintro e w3 ⟨rfl, n3, rfl⟩
        rw [alike_self]
        have B3 := Lib.hid (below_drewN B2.out n3)
        go_wp2_with fail
        all_goals
          refine (C3.out (w2.drewN n3)).mono ?_; rintro e w4 ⟨rfl, h4⟩
          have B4 := Lib.hid (below_more B3.out h4)
          clear h4
          go_wp2_with fail
          all_goals
            refine (C4.out w4 B4.out).mono ?_; rintro e w5 ⟨v5, rfl, ho5, h5⟩
            have B5 := Lib.hid (below_more B4.out h5)
            have O5 := Lib.hid ho5.ri
            obtain ⟨p5, c5, rfl⟩ := ho5.shape
            clear ho5 h5
            go_wp2_with fail
            all_goals
              refine (C5.out w5 B5.out).mono ?_; rintro e w6 ⟨v6, rfl, ho6, h6⟩
              have B6 := Lib.hid (below_more B5.out h6)
              have IT := Lib.hid (ints_any _ _ _ _ w6 (ri_below O5.out h6) ho6.ri)
              obtain ⟨p6, c6, rfl⟩ := ho6.shape
              clear ho6 h6
              go_wp2_with fail
              all_goals
                refine IT.out.mono ?_; rintro e w7 ⟨rfl, n7, rfl⟩
                rw [alike_self]
                have B7 := Lib.hid (below_drewN B6.out n7)
                go_wp2_with fail
                all_goals
                  refine (awake_any _).mono ?_; rintro e w8 ⟨rfl, h8⟩
                  go_wp2_with fail
                  all_goals
                    go_ret
                    exact ⟨rfl, below_more B7.out h8⟩

set_option maxRecDepth 100000 in
set_option maxHeartbeats 1000000 in
theorem short_yny (p q : Option Addr) (cap c2 : Nat) (row : List Int) (l : List (Int × Int)) (i j a b : Int) (w : World) (hr : RI w (.slice p row.length cap) row) (hl : RL w (.slice q l.length c2) l) (hn : row.length ≤ 200) (hm : l.length ≤ 1500) (hi0 : 0 ≤ i) (hi1 : i < row.length) (hs : ¬ (0 ≤ i ∧ i ≤ j ∧ j ≤ row.length)) (hb : ¬ b = 0) :
    Calls Try.prog 3 #[.slice p row.length cap, .int .i64 i, .int .i64 j, .int .i64 a, .int .i64 b, .slice q l.length c2] w fun e w' => e = .returned (.bool true) ∧ Below w.heap.size w w' := by
  have R := Lib.hid hr
  have L := Lib.hid hl
  have hcap : row.length ≤ cap := by obtain ⟨_, _, e, h1, _⟩ := hr; cases e; exact h1
  have C1 := Lib.hid (index_in _ row i w hr hi0 hi1)
  have C2 := Lib.hid fun w' (hb : Below w.heap.size w w') => slice_out _ row i j w' (ri_below hr hb) hs
  have C3 := Lib.hid fun w' => div_in a b w' hb
  have C4 := Lib.hid fun w' (hb : Below w.heap.size w w') => run_walk _ _ row l w' (ri_below hr hb) (rl_below hl hb) (by omega)
  have C5 := Lib.hid fun w' (hb : Below w.heap.size w w') => rrun_walk _ _ row l w' (ri_below hr hb) (rl_below hl hb) (by omega)
  generalize (run row [] 0 l).1.reverse = T at *
  generalize (run row [] 0 l).2.2 = okv at *
  generalize (run row [] 0 l).2.1 = dn at *
  obtain ⟨x, rfl⟩ : ∃ x : Nat, i = x := ⟨i.toNat, by omega⟩
  have hxl : x < row.length := by omega
  obtain ⟨g, off, rfl, hgl, hc⟩ := ri_some hr (by omega)
  have hcell := hc x hxl
  rw [Int.toNat_natCast] at C1
  generalize row.getD x 0 = y at *
  clear hc
  clear hr hl
  have hb1 : (b != 0) = true := by simpa using hb
  have hb2 : (b == 0) = false := by simpa using hb
  go_enter Try.func3, Try.ntmps3
  go_wp2_with fail
  all_goals
    refine C1.out.mono ?_; rintro e w1 ⟨rfl, h1⟩
    have B1 := Lib.hid h1
    have k1 : w1.cell? ⟨g, off + x, none⟩ = some (.int .i64 y) := (h1.cell hgl).trans hcell
    clear h1
    go_wp2_with fail
    all_goals
      refine (C2.out w1 B1.out).mono ?_; rintro e w2 ⟨rfl, h2⟩
      have B3 := Lib.hid (below_more B1.out h2)
      clear h2
      go_wp2_with fail
      all_goals
        refine (C3.out w2).mono ?_; rintro e w4 ⟨rfl, h4⟩
        have B4 := Lib.hid (below_more B3.out h4)
        clear h4
        go_wp2_with fail
        all_goals
          refine (C4.out w4 B4.out).mono ?_; rintro e w5 ⟨v5, rfl, ho5, h5⟩
          have B5 := Lib.hid (below_more B4.out h5)
          have O5 := Lib.hid ho5.ri
          obtain ⟨p5, c5, rfl⟩ := ho5.shape
          clear ho5 h5
          go_wp2_with fail
          all_goals
            refine (C5.out w5 B5.out).mono ?_; rintro e w6 ⟨v6, rfl, ho6, h6⟩
            have B6 := Lib.hid (below_more B5.out h6)
            have IT := Lib.hid (ints_any _ _ _ _ w6 (ri_below O5.out h6) ho6.ri)
            obtain ⟨p6, c6, rfl⟩ := ho6.shape
            clear ho6 h6
            go_wp2_with fail
            all_goals
              refine IT.out.mono ?_; rintro e w7 ⟨rfl, n7, rfl⟩
              rw [alike_self]
              have B7 := Lib.hid (below_drewN B6.out n7)
              go_wp2_with fail
              all_goals
                refine (awake_any _).mono ?_; rintro e w8 ⟨rfl, h8⟩
                go_wp2_with fail
                all_goals
                  go_ret
                  exact ⟨rfl, below_more B7.out h8⟩

set_option maxRecDepth 100000 in
set_option maxHeartbeats 1000000 in
theorem short_ynn (p q : Option Addr) (cap c2 : Nat) (row : List Int) (l : List (Int × Int)) (i j a b : Int) (w : World) (hr : RI w (.slice p row.length cap) row) (hl : RL w (.slice q l.length c2) l) (hn : row.length ≤ 200) (hm : l.length ≤ 1500) (hi0 : 0 ≤ i) (hi1 : i < row.length) (hs : ¬ (0 ≤ i ∧ i ≤ j ∧ j ≤ row.length)) (hb : b = 0) :
    Calls Try.prog 3 #[.slice p row.length cap, .int .i64 i, .int .i64 j, .int .i64 a, .int .i64 b, .slice q l.length c2] w fun e w' => e = .returned (.bool true) ∧ Below w.heap.size w w' := by
  have R := Lib.hid hr
  have L := Lib.hid hl
  have hcap : row.length ≤ cap := by obtain ⟨_, _, e, h1, _⟩ := hr; cases e; exact h1
  have C1 := Lib.hid (index_in _ row i w hr hi0 hi1)
  have C2 := Lib.hid fun w' (hb : Below w.heap.size w w') => slice_out _ row i j w' (ri_below hr hb) hs
  have C3 := Lib.hid fun w' => div_out a w'
  have C4 := Lib.hid fun w' (hb : Below w.heap.size w w') => run_walk _ _ row l w' (ri_below hr hb) (rl_below hl hb) (by omega)
  have C5 := Lib.hid fun w' (hb : Below w.heap.size w w') => rrun_walk _ _ row l w' (ri_below hr hb) (rl_below hl hb) (by omega)
  generalize (run row [] 0 l).1.reverse = T at *
  generalize (run row [] 0 l).2.2 = okv at *
  generalize (run row [] 0 l).2.1 = dn at *
  obtain ⟨x, rfl⟩ : ∃ x : Nat, i = x := ⟨i.toNat, by omega⟩
  have hxl : x < row.length := by omega
  obtain ⟨g, off, rfl, hgl, hc⟩ := ri_some hr (by omega)
  have hcell := hc x hxl
  rw [Int.toNat_natCast] at C1
  generalize row.getD x 0 = y at *
  clear hc
  clear hr hl
  subst hb
  go_enter Try.func3, Try.ntmps3
  go_wp2_with fail
  all_goals
    refine C1.out.mono ?_; rintro e w1 ⟨rfl, h1⟩
    have B1 := Lib.hid h1
    have k1 : w1.cell? ⟨g, off + x, none⟩ = some (.int .i64 y) := (h1.cell hgl).trans hcell
    clear h1
    go_wp2_with fail
    all_goals
      refine (C2.out w1 B1.out).mono ?_; rintro e w2 ⟨rfl, h2⟩
      have B3 := Lib.hid (below_more B1.out h2)
      clear h2
      go_wp2_with fail
      all_goals
        refine (C3.out w2).mono ?_; rintro e w4 ⟨rfl, h4⟩
        have B4 := Lib.hid (below_more B3.out h4)
        clear h4
        go_wp2_with fail
        all_goals
          refine (C4.out w4 B4.out).mono ?_; rintro e w5 ⟨v5, rfl, ho5, h5⟩
          have B5 := Lib.hid (below_more B4.out h5)
          have O5 := Lib.hid ho5.ri
          obtain ⟨p5, c5, rfl⟩ := ho5.shape
          clear ho5 h5
          go_wp2_with fail
          all_goals
            refine (C5.out w5 B5.out).mono ?_; rintro e w6 ⟨v6, rfl, ho6, h6⟩
            have B6 := Lib.hid (below_more B5.out h6)
            have IT := Lib.hid (ints_any _ _ _ _ w6 (ri_below O5.out h6) ho6.ri)
            obtain ⟨p6, c6, rfl⟩ := ho6.shape
            clear ho6 h6
            go_wp2_with fail
            all_goals
              refine IT.out.mono ?_; rintro e w7 ⟨rfl, n7, rfl⟩
              rw [alike_self]
              have B7 := Lib.hid (below_drewN B6.out n7)
              go_wp2_with fail
              all_goals
                refine (awake_any _).mono ?_; rintro e w8 ⟨rfl, h8⟩
                go_wp2_with fail
                all_goals
                  go_ret
                  exact ⟨rfl, below_more B7.out h8⟩

set_option maxRecDepth 100000 in
set_option maxHeartbeats 1000000 in
theorem short_nyy (p q : Option Addr) (cap c2 : Nat) (row : List Int) (l : List (Int × Int)) (i j a b : Int) (w : World) (hr : RI w (.slice p row.length cap) row) (hl : RL w (.slice q l.length c2) l) (hn : row.length ≤ 200) (hm : l.length ≤ 1500) (hi : ¬ (0 ≤ i ∧ i < row.length)) (hs0 : 0 ≤ i) (hs1 : i ≤ j) (hs2 : j ≤ row.length) (hb : ¬ b = 0) :
    Calls Try.prog 3 #[.slice p row.length cap, .int .i64 i, .int .i64 j, .int .i64 a, .int .i64 b, .slice q l.length c2] w fun e w' => e = .returned (.bool true) ∧ Below w.heap.size w w' := by
  have R := Lib.hid hr
  have L := Lib.hid hl
  have hcap : row.length ≤ cap := by obtain ⟨_, _, e, h1, _⟩ := hr; cases e; exact h1
  have C1 := Lib.hid (index_out _ row i w hr (by omega))
  have C2 := Lib.hid fun w' (hb : Below w.heap.size w w') => slice_in _ row i j w' (ri_below hr hb) hs0 hs1 hs2 (by omega)
  have RP := Lib.hid fun w' (hb : Below w.heap.size w w') => ri_part (m := cap) (ri_below hr hb) hs0 hs1 hs2 hcap (Nat.le_refl _)
  have PL := Lib.hid (part_length hs0 hs1 hs2)
  have C3 := Lib.hid fun w' => div_in a b w' hb
  have C4 := Lib.hid fun w' (hb : Below w.heap.size w w') => run_walk _ _ row l w' (ri_below hr hb) (rl_below hl hb) (by omega)
  have C5 := Lib.hid fun w' (hb : Below w.heap.size w w') => rrun_walk _ _ row l w' (ri_below hr hb) (rl_below hl hb) (by omega)
  generalize (run row [] 0 l).1.reverse = T at *
  generalize (run row [] 0 l).2.2 = okv at *
  generalize (run row [] 0 l).2.1 = dn at *
  obtain ⟨x, rfl⟩ : ∃ x : Nat, i = x := ⟨i.toNat, by omega⟩
  obtain ⟨z, rfl⟩ : ∃ z : Nat, j = z := ⟨j.toNat, by omega⟩
  simp only [Int.toNat_natCast] at RP PL
  have hs3 := slice2_in (p : Option Addr) row.length cap x z (by omega) (by omega)
  have hs4 : ∀ w, (Instr.sliceAt 22 (.slice (p : Option Addr) row.length cap) (some (.int .i64 (x : Int))) (some (.int .i64 (z : Int))) none).run Try.prog w = _ := fun w => (run_sliceAt_slice (h := Try.underlying22) ..).trans (hs3 w)
  generalize (if cap = x then (p : Option Addr) else Option.map (fun A : Addr => A.add x) (p : Option Addr)) = qq at *
  generalize cap - x = cx at *
  generalize part row (x : Int) (z : Int) = pl at *
  have hx1 : x ≤ z := by omega
  have hx2 : z ≤ row.length := by omega
  have hx3 : (z : Int) ≤ (row.length : Int) := by omega
  have hx4 : (x : Int) ≤ (z : Int) := by omega
  have ti : (decide (0 ≤ (x : Int)) && decide ((x : Int) < (row.length : Int))) = false := by rw [Bool.and_eq_false_iff]; simp only [decide_eq_false_iff_not]; omega
  clear hr hl
  have hb1 : (b != 0) = true := by simpa using hb
  have hb2 : (b == 0) = false := by simpa using hb
  go_enter Try.func3, Try.ntmps3
  go_wp2_with fail
  all_goals
    refine C1.out.mono ?_; rintro e w1 ⟨rfl, h1⟩
    have B1 := Lib.hid h1
    clear h1
    go_wp2_with fail
    all_goals
      refine (C2.out w1 B1.out).mono ?_; rintro e w2 ⟨v2, rfl, ho2, h2⟩
      have B2 := Lib.hid (below_more B1.out h2)
      have O2 := Lib.hid ho2.ri
      have IN := Lib.hid (ints_any _ _ _ _ w2 ho2.ri (RP.out w2 B2.out))
      obtain ⟨p2, c3, rfl⟩ := ho2.shape
      clear ho2 h2
      go_wp2_with fail
      all_goals
        refine IN.out.mono ?_; rintro e w3 ⟨rfl, n3, rfl⟩
        rw [alike_self]
        have B3 := Lib.hid (below_drewN B2.out n3)
        go_wp2_with fail
        all_goals
          refine (C3.out (w2.drewN n3)).mono ?_; rintro e w4 ⟨rfl, h4⟩
          have B4 := Lib.hid (below_more B3.out h4)
          clear h4
          go_wp2_with fail
          all_goals
            refine (C4.out w4 B4.out).mono ?_; rintro e w5 ⟨v5, rfl, ho5, h5⟩
            have B5 := Lib.hid (below_more B4.out h5)
            have O5 := Lib.hid ho5.ri
            obtain ⟨p5, c5, rfl⟩ := ho5.shape
            clear ho5 h5
            go_wp2_with fail
            all_goals
              refine (C5.out w5 B5.out).mono ?_; rintro e w6 ⟨v6, rfl, ho6, h6⟩
              have B6 := Lib.hid (below_more B5.out h6)
              have IT := Lib.hid (ints_any _ _ _ _ w6 (ri_below O5.out h6) ho6.ri)
              obtain ⟨p6, c6, rfl⟩ := ho6.shape
              clear ho6 h6
              go_wp2_with fail
              all_goals
                refine IT.out.mono ?_; rintro e w7 ⟨rfl, n7, rfl⟩
                rw [alike_self]
                have B7 := Lib.hid (below_drewN B6.out n7)
                go_wp2_with fail
                all_goals
                  refine (awake_any _).mono ?_; rintro e w8 ⟨rfl, h8⟩
                  go_wp2_with fail
                  all_goals
                    go_ret
                    exact ⟨rfl, below_more B7.out h8⟩

set_option maxRecDepth 100000 in
set_option maxHeartbeats 1000000 in
theorem short_nyn (p q : Option Addr) (cap c2 : Nat) (row : List Int) (l : List (Int × Int)) (i j a b : Int) (w : World) (hr : RI w (.slice p row.length cap) row) (hl : RL w (.slice q l.length c2) l) (hn : row.length ≤ 200) (hm : l.length ≤ 1500) (hi : ¬ (0 ≤ i ∧ i < row.length)) (hs0 : 0 ≤ i) (hs1 : i ≤ j) (hs2 : j ≤ row.length) (hb : b = 0) :
    Calls Try.prog 3 #[.slice p row.length cap, .int .i64 i, .int .i64 j, .int .i64 a, .int .i64 b, .slice q l.length c2] w fun e w' => e = .returned (.bool true) ∧ Below w.heap.size w w' := by
  have R := Lib.hid hr
  have L := Lib.hid hl
  have hcap : row.length ≤ cap := by obtain ⟨_, _, e, h1, _⟩ := hr; cases e; exact h1
  have C1 := Lib.hid (index_out _ row i w hr (by omega))
  have C2 := Lib.hid fun w' (hb : Below w.heap.size w w') => slice_in _ row i j w' (ri_below hr hb) hs0 hs1 hs2 (by omega)
  have RP := Lib.hid fun w' (hb : Below w.heap.size w w') => ri_part (m := cap) (ri_below hr hb) hs0 hs1 hs2 hcap (Nat.le_refl _)
  have PL := Lib.hid (part_length hs0 hs1 hs2)
  have C3 := Lib.hid fun w' => div_out a w'
  have C4 := Lib.hid fun w' (hb : Below w.heap.size w w') => run_walk _ _ row l w' (ri_below hr hb) (rl_below hl hb) (by omega)
  have C5 := Lib.hid fun w' (hb : Below w.heap.size w w') => rrun_walk _ _ row l w' (ri_below hr hb) (rl_below hl hb) (by omega)
  generalize (run row [] 0 l).1.reverse = T at *
  generalize (run row [] 0 l).2.2 = okv at *
  generalize (run row [] 0 l).2.1 = dn at *
  obtain ⟨x, rfl⟩ : ∃ x : Nat, i = x := ⟨i.toNat, by omega⟩
  obtain ⟨z, rfl⟩ : ∃ z : Nat, j = z := ⟨j.toNat, by omega⟩
  simp only [Int.toNat_natCast] at RP PL
  have hs3 := slice2_in (p : Option Addr) row.length cap x z (by omega) (by omega)
  have hs4 : ∀ w, (Instr.sliceAt 22 (.slice (p : Option Addr) row.length cap) (some (.int .i64 (x : Int))) (some (.int .i64 (z : Int))) none).run Try.prog w = _ := fun w => (run_sliceAt_slice (h := Try.underlying22) ..).trans (hs3 w)
  generalize (if cap = x then (p : Option Addr) else Option.map (fun A : Addr => A.add x) (p : Option Addr)) = qq at *
  generalize cap - x = cx at *
  generalize part row (x : Int) (z : Int) = pl at *
  have hx1 : x ≤ z := by omega
  have hx2 : z ≤ row.length := by omega
  have hx3 : (z : Int) ≤ (row.length : Int) := by omega
  have hx4 : (x : Int) ≤ (z : Int) := by omega
  have ti : (decide (0 ≤ (x : Int)) && decide ((x : Int) < (row.length : Int))) = false := by rw [Bool.and_eq_false_iff]; simp only [decide_eq_false_iff_not]; omega
  clear hr hl
  subst hb
  go_enter Try.func3, Try.ntmps3
  go_wp2_with fail
  all_goals
    refine C1.out.mono ?_; rintro e w1 ⟨rfl, h1⟩
    have B1 := Lib.hid h1
    clear h1
    go_wp2_with fail
    all_goals
      refine (C2.out w1 B1.out).mono ?_; rintro e w2 ⟨v2, rfl, ho2, h2⟩
      have B2 := Lib.hid (below_more B1.out h2)
      have O2 := Lib.hid ho2.ri
      have IN := Lib.hid (ints_any _ _ _ _ w2 ho2.ri (RP.out w2 B2.out))
      obtain ⟨p2, c3, rfl⟩ := ho2.shape
      clear ho2 h2
      go_wp2_with fail
      all_goals
        refine IN.out.mono ?_; rintro e w3 ⟨rfl, n3, rfl⟩
        rw [alike_self]
        have B3 := Lib.hid (below_drewN B2.out n3)
        go_wp2_with fail
        all_goals
          refine (C3.out (w2.drewN n3)).mono ?_; rintro e w4 ⟨rfl, h4⟩
          have B4 := Lib.hid (below_more B3.out h4)
          clear h4
          go_wp2_with fail
          all_goals
            refine (C4.out w4 B4.out).mono ?_; rintro e w5 ⟨v5, rfl, ho5, h5⟩
            have B5 := Lib.hid (below_more B4.out h5)
            have O5 := Lib.hid ho5.ri
            obtain ⟨p5, c5, rfl⟩ := ho5.shape
            clear ho5 h5
            go_wp2_with fail
            all_goals
              refine (C5.out w5 B5.out).mono ?_; rintro e w6 ⟨v6, rfl, ho6, h6⟩
              have B6 := Lib.hid (below_more B5.out h6)
              have IT := Lib.hid (ints_any _ _ _ _ w6 (ri_below O5.out h6) ho6.ri)
              obtain ⟨p6, c6, rfl⟩ := ho6.shape
              clear ho6 h6
              go_wp2_with fail
              all_goals
                refine IT.out.mono ?_; rintro e w7 ⟨rfl, n7, rfl⟩
                rw [alike_self]
                have B7 := Lib.hid (below_drewN B6.out n7)
                go_wp2_with fail
                all_goals
                  refine (awake_any _).mono ?_; rintro e w8 ⟨rfl, h8⟩
                  go_wp2_with fail
                  all_goals
                    go_ret
                    exact ⟨rfl, below_more B7.out h8⟩

set_option maxRecDepth 100000 in
set_option maxHeartbeats 1000000 in
theorem short_nny (p q : Option Addr) (cap c2 : Nat) (row : List Int) (l : List (Int × Int)) (i j a b : Int) (w : World) (hr : RI w (.slice p row.length cap) row) (hl : RL w (.slice q l.length c2) l) (hn : row.length ≤ 200) (hm : l.length ≤ 1500) (hi : ¬ (0 ≤ i ∧ i < row.length)) (hs : ¬ (0 ≤ i ∧ i ≤ j ∧ j ≤ row.length)) (hb : ¬ b = 0) :
    Calls Try.prog 3 #[.slice p row.length cap, .int .i64 i, .int .i64 j, .int .i64 a, .int .i64 b, .slice q l.length c2] w fun e w' => e = .returned (.bool true) ∧ Below w.heap.size w w' := by
  have R := Lib.hid hr
  have L := Lib.hid hl
  have hcap : row.length ≤ cap := by obtain ⟨_, _, e, h1, _⟩ := hr; cases e; exact h1
  have C1 := Lib.hid (index_out _ row i w hr (by omega))
  have C2 := Lib.hid fun w' (hb : Below w.heap.size w w') => slice_out _ row i j w' (ri_below hr hb) hs
  have C3 := Lib.hid fun w' => div_in a b w' hb
  have C4 := Lib.hid fun w' (hb : Below w.heap.size w w') => run_walk _ _ row l w' (ri_below hr hb) (rl_below hl hb) (by omega)
  have C5 := Lib.hid fun w' (hb : Below w.heap.size w w') => rrun_walk _ _ row l w' (ri_below hr hb) (rl_below hl hb) (by omega)
  generalize (run row [] 0 l).1.reverse = T at *
  generalize (run row [] 0 l).2.2 = okv at *
  generalize (run row [] 0 l).2.1 = dn at *
  have ti : (decide (0 ≤ i) && decide (i < (row.length : Int))) = false := by rw [Bool.and_eq_false_iff]; simp only [decide_eq_false_iff_not]; omega
  clear hr hl
  have hb1 : (b != 0) = true := by simpa using hb
  have hb2 : (b == 0) = false := by simpa using hb
  go_enter Try.func3, Try.ntmps3
  go_wp2_with fail
  all_goals
    refine C1.out.mono ?_; rintro e w1 ⟨rfl, h1⟩
    have B1 := Lib.hid h1
    clear h1
    go_wp2_with fail
    all_goals
      refine (C2.out w1 B1.out).mono ?_; rintro e w2 ⟨rfl, h2⟩
      have B3 := Lib.hid (below_more B1.out h2)
      clear h2
      go_wp2_with fail
      all_goals
        refine (C3.out w2).mono ?_; rintro e w4 ⟨rfl, h4⟩
        have B4 := Lib.hid (below_more B3.out h4)
        clear h4
        go_wp2_with fail
        all_goals
          refine (C4.out w4 B4.out).mono ?_; rintro e w5 ⟨v5, rfl, ho5, h5⟩
          have B5 := Lib.hid (below_more B4.out h5)
          have O5 := Lib.hid ho5.ri
          obtain ⟨p5, c5, rfl⟩ := ho5.shape
          clear ho5 h5
          go_wp2_with fail
          all_goals
            refine (C5.out w5 B5.out).mono ?_; rintro e w6 ⟨v6, rfl, ho6, h6⟩
            have B6 := Lib.hid (below_more B5.out h6)
            have IT := Lib.hid (ints_any _ _ _ _ w6 (ri_below O5.out h6) ho6.ri)
            obtain ⟨p6, c6, rfl⟩ := ho6.shape
            clear ho6 h6
            go_wp2_with fail
            all_goals
              refine IT.out.mono ?_; rintro e w7 ⟨rfl, n7, rfl⟩
              rw [alike_self]
              have B7 := Lib.hid (below_drewN B6.out n7)
              go_wp2_with fail
              all_goals
                refine (awake_any _).mono ?_; rintro e w8 ⟨rfl, h8⟩
                go_wp2_with fail
                all_goals
                  go_ret
                  exact ⟨rfl, below_more B7.out h8⟩

set_option maxRecDepth 100000 in
set_option maxHeartbeats 1000000 in
theorem short_nnn (p q : Option Addr) (cap c2 : Nat) (row : List Int) (l : List (Int × Int)) (i j a b : Int) (w : World) (hr : RI w (.slice p row.length cap) row) (hl : RL w (.slice q l.length c2) l) (hn : row.length ≤ 200) (hm : l.length ≤ 1500) (hi : ¬ (0 ≤ i ∧ i < row.length)) (hs : ¬ (0 ≤ i ∧ i ≤ j ∧ j ≤ row.length)) (hb : b = 0) :
    Calls Try.prog 3 #[.slice p row.length cap, .int .i64 i, .int .i64 j, .int .i64 a, .int .i64 b, .slice q l.length c2] w fun e w' => e = .returned (.bool true) ∧ Below w.heap.size w w' := by
  have R := Lib.hid hr
  have L := Lib.hid hl
  have hcap : row.length ≤ cap := by obtain ⟨_, _, e, h1, _⟩ := hr; cases e; exact h1
  have C1 := Lib.hid (index_out _ row i w hr (by omega))
  have C2 := Lib.hid fun w' (hb : Below w.heap.size w w') => slice_out _ row i j w' (ri_below hr hb) hs
  have C3 := Lib.hid fun w' => div_out a w'
  have C4 := Lib.hid fun w' (hb : Below w.heap.size w w') => run_walk _ _ row l w' (ri_below hr hb) (rl_below hl hb) (by omega)
  have C5 := Lib.hid fun w' (hb : Below w.heap.size w w') => rrun_walk _ _ row l w' (ri_below hr hb) (rl_below hl hb) (by omega)
  generalize (run row [] 0 l).1.reverse = T at *
  generalize (run row [] 0 l).2.2 = okv at *
  generalize (run row [] 0 l).2.1 = dn at *
  have ti : (decide (0 ≤ i) && decide (i < (row.length : Int))) = false := by rw [Bool.and_eq_false_iff]; simp only [decide_eq_false_iff_not]; omega
  clear hr hl
  subst hb
  go_enter Try.func3, Try.ntmps3
  go_wp2_with fail
  all_goals
    refine C1.out.mono ?_; rintro e w1 ⟨rfl, h1⟩
    have B1 := Lib.hid h1
    clear h1
    go_wp2_with fail
    all_goals
      refine (C2.out w1 B1.out).mono ?_; rintro e w2 ⟨rfl, h2⟩
      have B3 := Lib.hid (below_more B1.out h2)
      clear h2
      go_wp2_with fail
      all_goals
        refine (C3.out w2).mono ?_; rintro e w4 ⟨rfl, h4⟩
        have B4 := Lib.hid (below_more B3.out h4)
        clear h4
        go_wp2_with fail
        all_goals
          refine (C4.out w4 B4.out).mono ?_; rintro e w5 ⟨v5, rfl, ho5, h5⟩
          have B5 := Lib.hid (below_more B4.out h5)
          have O5 := Lib.hid ho5.ri
          obtain ⟨p5, c5, rfl⟩ := ho5.shape
          clear ho5 h5
          go_wp2_with fail
          all_goals
            refine (C5.out w5 B5.out).mono ?_; rintro e w6 ⟨v6, rfl, ho6, h6⟩
            have B6 := Lib.hid (below_more B5.out h6)
            have IT := Lib.hid (ints_any _ _ _ _ w6 (ri_below O5.out h6) ho6.ri)
            obtain ⟨p6, c6, rfl⟩ := ho6.shape
            clear ho6 h6
            go_wp2_with fail
            all_goals
              refine IT.out.mono ?_; rintro e w7 ⟨rfl, n7, rfl⟩
              rw [alike_self]
              have B7 := Lib.hid (below_drewN B6.out n7)
              go_wp2_with fail
              all_goals
                refine (awake_any _).mono ?_; rintro e w8 ⟨rfl, h8⟩
                go_wp2_with fail
                all_goals
                  go_ret
                  exact ⟨rfl, below_more B7.out h8⟩

theorem walk (l0 : List Int) (v0 : Value) (a1 a2 a3 a4 : Int) (l5 : List (Int × Int)) (v5 : Value) (w : World) (w0 : IntsIn .i64 w v0 l0) (_ : (Lit.int .i64 a1).wf = true) (_ : (Lit.int .i64 a2).wf = true) (_ : (Lit.int .i64 a3).wf = true) (_ : (Lit.int .i64 a4).wf = true) (w5 : RL w v5 l5) :
    Calls Try.prog 3 #[v0, .int .i64 a1, .int .i64 a2, .int .i64 a3, .int .i64 a4, v5] w fun e w' => e = .returned (.bool true) ∧ Below w.heap.size w w' := by
  have hr := ri_in w0
  obtain ⟨p, cap, rfl, _⟩ := w0
  have hl := w5
  obtain ⟨q, c2, rfl, _⟩ := w5
  by_cases h : 200 < l0.length ∨ 1500 < l5.length
  · exact long p q _ cap _ c2 a1 a2 a3 a4 w h
  · have hn : l0.length ≤ 200 := by omega
    have hm : l5.length ≤ 1500 := by omega
    by_cases hi : 0 ≤ a1 ∧ a1 < l0.length <;> by_cases hs : 0 ≤ a1 ∧ a1 ≤ a2 ∧ a2 ≤ l0.length <;> by_cases hb : a4 = 0
    · exact short_yyn p q cap c2 l0 l5 a1 a2 a3 a4 w hr hl hn hm hi.1 hi.2 hs.1 hs.2.1 hs.2.2 hb
    · exact short_yyy p q cap c2 l0 l5 a1 a2 a3 a4 w hr hl hn hm hi.1 hi.2 hs.1 hs.2.1 hs.2.2 hb
    · exact short_ynn p q cap c2 l0 l5 a1 a2 a3 a4 w hr hl hn hm hi.1 hi.2 hs hb
    · exact short_yny p q cap c2 l0 l5 a1 a2 a3 a4 w hr hl hn hm hi.1 hi.2 hs hb
    · exact short_nyn p q cap c2 l0 l5 a1 a2 a3 a4 w hr hl hn hm hi hs.1 hs.2.1 hs.2.2 hb
    · exact short_nyy p q cap c2 l0 l5 a1 a2 a3 a4 w hr hl hn hm hi hs.1 hs.2.1 hs.2.2 hb
    · exact short_nnn p q cap c2 l0 l5 a1 a2 a3 a4 w hr hl hn hm hi hs hb
    · exact short_nny p q cap c2 l0 l5 a1 a2 a3 a4 w hr hl hn hm hi hs hb

set_option maxRecDepth 100000 in
theorem lifted (os : Os) (started : os.Started) (H : Type) (enc : TypeId × Value → H) :
    ReturnsInHanded {} Try.checked os 3 .any (Rows.guardFormsSpec.pre6 enc Try.prog Try.f3 Rows.guardFormsRow.domain false) (Rows.guardFormsSpec.post enc Try.prog Try.f3 false true false false) := by
  refine returnsInHanded_of_change (C := Try.checked) own started (by kernel_rfl) Try.func3
    (ChangeSpec.witness6 (enc := enc) (C := Try.checked) false ⟨#[], #[.slice none 0 0, .int .i64 0, .int .i64 0, .int .i64 0, .int .i64 0, .slice none 0 0], []⟩ 8 (by kernel_rfl) (by kernel_rfl) (by kernel_rfl) (by kernel_rfl)) ?_
  intro W base args ds gs before hval0 hW hcnd _
  have hval : ∀ (j : Nat) t v, Try.f3.params[j]? = some t → args[j]? = some v → Value.okWide Try.prog W .any base t v := hval0
  have hW' := hW
  have hlt := hW.lt
  obtain ⟨p, q, hA0, hV, hpq, hfz, hnd⟩ := hW
  have hA : DataW.TrodAll enc Try.prog W 0 (fun _ => true) true Try.f3.params.toList args.toList ds p := hA0
  rw [Try.params3] at hA hval
  obtain ⟨v0, vs0, d0, ds0, p0, q0, hargs, rfl, hp, h0, r0⟩ := trodAll_cons hA
  obtain ⟨v1, vs1, d1, ds1, p1, q1, rfl, rfl, rfl, h1, r1⟩ := trodAll_cons r0
  obtain ⟨v2, vs2, d2, ds2, p2, q2, rfl, rfl, rfl, h2, r2⟩ := trodAll_cons r1
  obtain ⟨v3, vs3, d3, ds3, p3, q3, rfl, rfl, rfl, h3, r3⟩ := trodAll_cons r2
  obtain ⟨v4, vs4, d4, ds4, p4, q4, rfl, rfl, rfl, h4, r4⟩ := trodAll_cons r3
  obtain ⟨v5, vs5, d5, ds5, p5, q5, rfl, rfl, rfl, h5, r5⟩ := trodAll_cons r4
  obtain ⟨rfl, rfl, rfl⟩ := trodAll_nil r5
  obtain rfl : args = #[v0, v1, v2, v3, v4, v5] := by cases args; simp_all
  obtain ⟨rfl, rfl⟩ := trodVars_none hV
  have hlt' : ∀ x ∈ before, x.block < W.heap.size := fun x hx => hlt x hx
  obtain ⟨l0, w0⟩ := ints_in Try.underlying22 Try.underlying3 (by kernel_rfl) (hval 0 22 v0 rfl rfl) (fun x hx => hlt' x (by rw [hpq, hp]; simp [hx])) h0
  obtain ⟨a1, rfl, rfl, rfl, w1⟩ := open_int Try.underlying3 (hval 1 3 v1 rfl rfl) h1
  obtain ⟨a2, rfl, rfl, rfl, w2⟩ := open_int Try.underlying3 (hval 2 3 v2 rfl rfl) h2
  obtain ⟨a3, rfl, rfl, rfl, w3⟩ := open_int Try.underlying3 (hval 3 3 v3 rfl rfl) h3
  obtain ⟨a4, rfl, rfl, rfl, w4⟩ := open_int Try.underlying3 (hval 4 3 v4 rfl rfl) h4
  obtain ⟨l5, w5⟩ := steps_in (hval 5 23 v5 rfl rfl) h5
  refine (walk l0 v0 a1 a2 a3 a4 l5 v5 W w0 w1 w2 w3 w4 w5).mono fun e W' ⟨he, hb⟩ => ?_
  subst he
  exact ⟨_, rfl, law_post rfl (by kernel_rfl) hW' (by rw [Try.params3]; intro t ht; simp only [List.mem_cons, List.not_mem_nil, or_false] at ht; (repeat' (first | (rcases ht with rfl | ht) | subst ht)) <;> exact ⟨by kernel_rfl, of_decide_eq_true (by kernel_rfl)⟩) rfl hb⟩

theorem over : Rows.guardFormsRow.holds Try.pinned (OpenSpec.ofChange Rows.guardFormsSpec) :=
  OpenClaim.holds_of_wide 3 Try.f3 rfl rfl rfl rfl rfl rfl rfl ⟨rfl, rfl, rfl, rfl, rfl⟩ rfl rfl rfl rfl rfl (by kernel_rfl) Try.func3 (by kernel_rfl)
    (of_decide_eq_true (by kernel_rfl)) (by unfold Func.isWrapper; first | (rw [if_pos (by decide +kernel)]; kernel_rfl) | (rw [if_neg (by decide +kernel)]; exact ⟨rfl, rfl⟩))
    (fun os started H enc _ => lifted os started H enc)

theorem proved : Rows.GuardFormsSaid := over
end Go.Proofs.Ytlgjfhjnfimahaa.guardForms
