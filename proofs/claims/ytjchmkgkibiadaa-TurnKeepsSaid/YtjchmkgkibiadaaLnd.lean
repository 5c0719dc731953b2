/-
  Contracts of package lines' Get and New.
-/
import Derived.Test.YtjchmkgkibiadaaLnc
namespace Go.Proofs.Ytjchmkgkibiadaa
open Go.RowKit

theorem lget_nil (a : Int) (w : World) : Calls Try.prog 31 #[.pointer none, .int .i64 a] w fun e w' => e = .returned (.tuple #[.agg (lc zeros), .int .i64 1]) ∧ Below w.heap.size w w' :=
  by
  have HB := Lib.hid (bal (o := .cells (lc zeros) 33) (Below.refl w.heap.size w))
  have HN := Lib.hid (Ln.new w (l := zeros) rfl)
  have hz8 : zeros.length = 8 := rfl
  go_enter Try.func31, Try.ntmps31
  go_wp2_with fail
  refine (lready_nil a _).mono ?_; rintro e w' ⟨rfl, rfl⟩
  go_wp2
  exact bodyPost_ret (v := .tuple #[.agg (lc zeros), .int .i64 1]) (results_cell_tmp rfl _ _ _ _ _ _ _ _ rfl rfl HN.out.1 Try.underlying33 rfl (by rw [info_line]; rfl)) rfl ⟨rfl, HB.out⟩
theorem lget_out (q g S P : Nat) (a : Int) (w : World) (h : Lq w q g S P) (ha : ¬ (0 ≤ a ∧ a < S)) :
    Calls Try.prog 31 #[.pointer (some ⟨q, 0, none⟩), .int .i64 a] w fun e w' => e = .returned (.tuple #[.agg (lc zeros), .int .i64 1]) ∧ Below w.heap.size w w' := by
  have C := Lib.hid (ready_out q g S P a _ (h.alloc (.cells (lc zeros) 33)) ha)
  have HB := Lib.hid (bal (o := .cells (lc zeros) 33) (Below.refl w.heap.size w))
  have HN := Lib.hid (Ln.new w (l := zeros) rfl)
  have hz8 : zeros.length = 8 := rfl
  clear h ha
  go_enter Try.func31, Try.ntmps31
  go_wp2_with fail
  refine (C.out).mono ?_; rintro e w' ⟨rfl, rfl⟩
  go_wp2
  exact bodyPost_ret (v := .tuple #[.agg (lc zeros), .int .i64 1]) (results_cell_tmp rfl _ _ _ _ _ _ _ _ rfl rfl HN.out.1 Try.underlying33 rfl (by rw [info_line]; rfl)) rfl ⟨rfl, HB.out⟩

theorem lget_dark (q g S P : Nat) (s : Nv) (a : Int) (w : World) (h : Lq w q g S P) (hN : Nm w g s) (ha : 0 ≤ a) (has : a < S) (hd : s.dark = true) :
    Calls Try.prog 31 #[.pointer (some ⟨q, 0, none⟩), .int .i64 a] w fun e w' => e = .returned (.tuple #[.agg (lc zeros), .int .i64 2]) ∧ Below w.heap.size w w' := by
  have C := Lib.hid (ready_dark q g S P s a _ (h.alloc (.cells (lc zeros) 33)) (hN.alloc (.cells (lc zeros) 33)) ha has hd)
  have HB := Lib.hid (bal (o := .cells (lc zeros) 33) (Below.refl w.heap.size w))
  have HN := Lib.hid (Ln.new w (l := zeros) rfl)
  have hz8 : zeros.length = 8 := rfl
  clear h hN ha has
  go_enter Try.func31, Try.ntmps31
  go_wp2_with fail
  refine (C.out).mono ?_; rintro e w' ⟨rfl, rfl⟩
  go_wp2
  exact bodyPost_ret (v := .tuple #[.agg (lc zeros), .int .i64 2]) (results_cell_tmp rfl _ _ _ _ _ _ _ _ rfl rfl HN.out.1 Try.underlying33 rfl (by rw [info_line]; rfl)) rfl ⟨rfl, HB.out⟩

set_option maxHeartbeats 1000000 in
theorem lget_live (q g S P : Nat) (s : Nv) (a : Int) (w : World) (h : Lq w q g S P) (hN : Nm w g s) (ho : s.Ok) (hP : P ≤ 16) (hS : S ≤ 1000) (ha : 0 ≤ a) (has : a < S) (hd : s.dark = false) (pl : Int) (x : List Int) (y : Int) (hpl : placeT (s.tb P) S a = pl) (hx : s.get pl = x) (hy : s.rdy (s.has pl) = y) (h8 : x.length = 8) :
    Calls Try.prog 31 #[.pointer (some ⟨q, 0, none⟩), .int .i64 a] w fun e w' => e = .returned (.tuple #[.agg (lc x), .int .i64 y]) ∧ Below w.heap.size w w' := by
  have GC := Lib.hid (fun (w' : World) (hn : Nm w' g s) => get_any g s pl w' hn ho)
  rw [hx, hy] at GC
  have HP := Lib.hid hpl
  clear hx hy hpl
  obtain ⟨W0, hW0, H0⟩ := boxed1 w (a := [0, 0, 0, 0, 0, 0, 0, 0]) rfl
  have L0 := Lib.hid (h.below (H0.out.2.mono (Nat.le_refl _)))
  have N0 := Lib.hid (hN.below (H0.out.2.mono (Nat.le_refl _)))
  have C := Lib.hid (ready_live q g S P s a W0 L0.out N0.out hP ha has hd)
  have hT := s.tb_length P
  have q0 : Hid (q ≠ w.heap.size) := Lib.hid (Nat.ne_of_lt h.lt)
  clear h hN hd ho
  go_enter Try.func31, Try.ntmps31
  go_wp2_with fail
  refine (C.out).mono ?_; rintro e W ⟨v, rfl, hO, hB⟩
  have L1 := Lib.hid (L0.out.below (hB.mono (Nat.le_refl _)))
  have N1 := Lib.hid (N0.out.below (hB.mono (Nat.le_refl _)))
  have B1 := Lib.hid (below_more H0.out.2 hB)
  have G1 := Lib.hid (H0.out.1.below hB)
  have PC := Lib.hid (place_any v (s.tb P) S a W.drew hO.ru (by rw [hT]; omega))
  have c0 : ∀ w', Chg [w.heap.size] W w' → w'.cell? ⟨q, 0, none⟩ = some (.pointer (some ⟨g, 0, none⟩)) := fun w' hc => (L1.out.chg hc (by simpa using q0.out)).cells.1
  have c1 : ∀ w', Chg [w.heap.size] W w' → w'.cell? ⟨q, 1, none⟩ = some (.int .i64 (S : Int)) := fun w' hc => (L1.out.chg hc (by simpa using q0.out)).cells.2.1
  clear hO hB
  rw [HP.out] at PC
  have hbd : Below W.heap.size W W.drew := (Below.refl _ _).drew
  go_wp2
  go_region_held3 (fun w' => Chg [w.heap.size] W w')
    (first | assumption | exact (Chg.refl _ _).drew | exact Chg.setRow (by assumption) (.inl (by simp)) _)
    (first
      | (go_at_call 43; refine (PC.out).mono ?_; rintro e wz ⟨rfl, hbz⟩
         have NZ := Lib.hid (N1.out.below (hbd.trans hbz))
         have GZ := Lib.hid (G1.out.below (hbd.trans hbz))
         have CZ := Lib.hid (Chg.of_below (hbd.trans hbz) [w.heap.size])
         clear hbz)
      | (go_at_call 49; refine (GC.out _ NZ.out).mono ?_; rintro e wy ⟨rfl, hby⟩
         have GY := GZ.out.below hby
         have hst := GY.store h8
         have FY := Lib.hid (GY.put h8)
         have CY := Lib.hid (CZ.out.trans (Chg.of_below hby [w.heap.size]))
         clear hby GY))
  have BF := Lib.hid ((CY.out.setRow (g := w.heap.size) (.inl (by simp)) (lc x)).below B1.out B1.out.size (fun k hk => by rw [List.mem_singleton.1 hk]; exact Nat.le_refl _))
  go_wp2
  exact bodyPost_ret (v := .tuple #[.agg (lc x), .int .i64 y]) (results_cell_tmp rfl _ _ _ _ _ _ _ _ rfl rfl FY.out.1 Try.underlying33 rfl (by rw [info_line, lc_size, h8])) rfl ⟨rfl, BF.out⟩

/-- what a slot holds is told -/
theorem lget_is {q g S P : Nat} {s : Nv} {a : Nat} {x : List Int} {w : World} (hx : hold s S P a = x) (H : LOk s S P) (ha : a < S) (h : Lq w q g S P) (hN : Nm w g s) :
    Calls Try.prog 31 #[.pointer (some ⟨q, 0, none⟩), .int .i64 (a : Int)] w fun e w' => e = .returned (.tuple #[.agg (lc x), .int .i64 0]) ∧ Below w.heap.size w w' := by
  obtain ⟨i, ei, hi⟩ := place_nat (t := s.tb P) ha
  rw [s.tb_length] at hi
  have hin : i < s.n := by rw [H.n]; exact hi
  have hr : s.rdy (s.has (i : Int)) = 0 := by simp [Nv.rdy, Nv.has_of hin, H.live]
  have hh : s.get (i : Int) = hold s S P a := by unfold hold; rw [ei]; simp only [Nv.get, hr, if_true]
  rw [← hx]
  have h200 := H.ok.hi
  have hn := H.n
  exact lget_live q g S P s a w h hN H.ok H.p (by omega) (by omega) (by omega) H.live _ _ _ ei hh hr (H.ok.line _)

theorem lnew_null (S P : Int) (w : World) : Calls Try.prog 23 #[.pointer none, .int .i64 S, .int .i64 P] w fun e w' => e = .returned (.pointer none) ∧ w = w' := by
  go_enter Try.func23, Try.ntmps23
  go_wp2_with fail
  go_ret
  exact ⟨rfl, rfl⟩
theorem lnew_few (g : Nat) (S P : Int) (w : World) (hb : S < 1 ∨ (1 ≤ S ∧ P < 0) ∨ (1 ≤ S ∧ 16 < P)) :
    Calls Try.prog 23 #[.pointer (some ⟨g, 0, none⟩), .int .i64 S, .int .i64 P] w fun e w' => e = .returned (.pointer none) ∧ w = w' := by
  rcases hb with h | ⟨h1, h⟩ | ⟨h1, h⟩
  · go_enter Try.func23, Try.ntmps23
    go_wp2_with fail
    go_ret
    exact ⟨rfl, rfl⟩
  · go_enter Try.func23, Try.ntmps23
    go_wp2_with fail
    go_ret
    exact ⟨rfl, rfl⟩
  · have h2 : ¬ P < 0 := by omega
    go_enter Try.func23, Try.ntmps23
    go_wp2_with fail
    go_ret
    exact ⟨rfl, rfl⟩
theorem lnew_size (g : Nat) (s : Nv) (S P : Nat) (w : World) (hN : Nm w g s) (h1 : 1 ≤ S) (hP : P ≤ 16) (hn : s.n ≤ 200) (hb : ¬ s.n = S + P) :
    Calls Try.prog 23 #[.pointer (some ⟨g, 0, none⟩), .int .i64 (S : Int), .int .i64 (P : Int)] w fun e w' => e = .returned (.pointer none) ∧ w = w' := by
  have C := Lib.hid (lines_any g s w hN)
  have i1 : ¬ (S : Int) < 1 := by omega
  have i2 : ¬ (P : Int) < 0 := by omega
  have i3 : ¬ (P : Int) > 16 := by omega
  have i4 : IntKind.i64.wrap ((s.n : Int) - (P : Int)) = (s.n : Int) - (P : Int) := IntWalk.i64_in _ (by omega)
  have i5 : ((s.n : Int) - (P : Int) != (S : Int)) = true := by simp; omega
  generalize s.n = n at *
  clear hN hb
  go_enter Try.func23, Try.ntmps23
  go_wp2_with fail
  refine (C.out).mono ?_; rintro e w' ⟨rfl, rfl⟩
  go_wp2_with fail
  go_ret
  exact ⟨rfl, rfl⟩
theorem lq_new (w : World) (g S P : Nat) : Lq (w.alloc (.cells #[.pointer (some ⟨g, 0, none⟩), .int .i64 (S : Int), .int .i64 (P : Int)] 71)) w.heap.size g S P := heap_alloc_last w _
theorem lnew_bad (g : Nat) (s : Nv) (S P : Nat) (w : World) (hN : Nm w g s) (h1 : 1 ≤ S) (hP : P ≤ 16) (hS : S ≤ 1000) (hn : s.n = S + P) (hd : s.dark = false) (b : Bool) (hm : mayT (s.tb P) S = b) :
    Calls Try.prog 23 #[.pointer (some ⟨g, 0, none⟩), .int .i64 (S : Int), .int .i64 (P : Int)] w fun e w' => (b = false → e = .returned (.pointer none)) ∧ (b = true → ∃ q, e = .returned (.pointer (some ⟨q, 0, none⟩)) ∧ w.heap.size ≤ q ∧ Lq w' q g S P) ∧ Below w.heap.size w w' := by
  have C := Lib.hid (lines_any g s w hN)
  have L1 := Lib.hid (lq_new w g S P)
  have B1 := Lib.hid (bal (o := .cells #[.pointer (some ⟨g, 0, none⟩), .int .i64 (S : Int), .int .i64 (P : Int)] 71) (Below.refl w.heap.size w))
  have T := Lib.hid (table_live w.heap.size g S P s _ L1.out (hN.alloc _) hP hd)
  have i1 : ¬ (S : Int) < 1 := by omega
  have i2 : ¬ (P : Int) < 0 := by omega
  have i3 : ¬ (P : Int) > 16 := by omega
  have i4 : IntKind.i64.wrap ((s.n : Int) - (P : Int)) = (S : Int) := by rw [show (s.n : Int) - (P : Int) = (S : Int) by omega]; exact IntWalk.i64_in _ (by omega)
  have wS : (Lit.int .i64 (S : Int)).wf = true := i64_of (by omega) (by omega)
  have M := Lib.hid (fun (v : Value) (w' : World) (hR : RU w' v (s.tb P)) => may_any v (s.tb P) (S : Int) w' hR wS)
  rw [hm] at M
  generalize s.n = n at *
  clear hN hm wS
  go_enter Try.func23, Try.ntmps23
  go_wp2_with fail
  refine (C.out).mono ?_; rintro e w' ⟨rfl, rfl⟩
  go_wp2_with fail
  refine (T.out).mono ?_; rintro e w1 ⟨v, rfl, hO, hB⟩
  have R := Lib.hid (M.out v w1 hO.ru)
  have B2 := Lib.hid (below_more B1.out hB)
  have L2 := Lib.hid (L1.out.below hB)
  clear hO hB
  cases b
  · go_wp2_with fail
    refine (R.out).mono ?_; rintro e w' ⟨rfl, rfl⟩
    go_wp2
    go_ret
    exact ⟨rfl, B2.out⟩
  · go_wp2_with fail
    refine (R.out).mono ?_; rintro e w' ⟨rfl, rfl⟩
    go_wp2
    go_ret
    exact ⟨⟨_, rfl, Nat.le_refl _, L2.out⟩, B2.out⟩
theorem lnew_yes {g : Nat} {s : Nv} {S P : Nat} {w : World} (H : LOk s S P) (hN : Nm w g s) :
    Calls Try.prog 23 #[.pointer (some ⟨g, 0, none⟩), .int .i64 (S : Int), .int .i64 (P : Int)] w fun e w' => ∃ q, e = .returned (.pointer (some ⟨q, 0, none⟩)) ∧ w.heap.size ≤ q ∧ Lq w' q g S P ∧ Below w.heap.size w w' := by
  have h200 := H.ok.hi
  have hn := H.n
  refine (lnew_bad g s S P w hN H.s1 H.p (by omega) H.n H.live true H.may).mono ?_
  rintro e w' ⟨_, h, hB⟩
  obtain ⟨q, h1, h2, h3⟩ := h rfl
  exact ⟨q, h1, h2, h3, hB⟩
end Go.Proofs.Ytjchmkgkibiadaa
