/-
  Contracts of package lines' Slots, table, ready, Left and Get.
-/
import Derived.Test.YtjchmkgkibiadaaLnp
import Derived.Test.YtjchmkgkibiadaaSpm
import Derived.Test.YtjchmkgkibiadaaSpb
import Derived.Deep.RegionHeld3
import Derived.Deep.DeepCutAuto
import Derived.Deep.RegionLaw
namespace Go.Proofs.Ytjchmkgkibiadaa
open Go.RowKit

/-- block q holds lines over the memory in block g -/
def Lq (w : World) (q g S P : Nat) : Prop := Whole w q 71 #[.pointer (some ⟨g, 0, none⟩), .int .i64 (S : Int), .int .i64 (P : Int)]
theorem Lq.lt {w : World} {q g S P : Nat} (h : Lq w q g S P) : q < w.heap.size := Whole.lt h
theorem Lq.below {w w' : World} {q g S P : Nat} (h : Lq w q g S P) (hb : Below w.heap.size w w') : Lq w' q g S P := (hb.block q h.lt).trans h
theorem Lq.chg {D : List Nat} {w w' : World} {q g S P : Nat} (h : Lq w q g S P) (hc : Chg D w w') (hq : q ∉ D) : Lq w' q g S P := hc.whole h hq
theorem Lq.alloc {w : World} {q g S P : Nat} (h : Lq w q g S P) (o : Obj) : Lq (w.alloc o) q g S P := Whole.alloc h o
theorem Lq.drewN {w : World} {q g S P : Nat} (h : Lq w q g S P) (n : Nat) : Lq (w.drewN n) q g S P := h
theorem Lq.cells {w : World} {q g S P : Nat} (h : Lq w q g S P) : w.cell? ⟨q, 0, none⟩ = some (.pointer (some ⟨g, 0, none⟩)) ∧ w.cell? ⟨q, 1, none⟩ = some (.int .i64 (S : Int)) ∧ w.cell? ⟨q, 2, none⟩ = some (.int .i64 (P : Int)) :=
  ⟨by rw [Whole.at_ h]; rfl, by rw [Whole.at_ h]; rfl, by rw [Whole.at_ h]; rfl⟩

theorem slots_any (q g S P : Nat) (w : World) (h : Lq w q g S P) : Calls Try.prog 52 #[.pointer (some ⟨q, 0, none⟩)] w fun e w' => e = .returned (.int .i64 (S : Int)) ∧ w = w' := by
  obtain ⟨_, c1, _⟩ := h.cells
  clear h
  go_enter Try.func52, Try.ntmps52
  go_wp2_with fail
  go_ret
  exact ⟨rfl, rfl⟩
theorem slots_nil (w : World) : Calls Try.prog 52 #[.pointer none] w fun e w' => e = .returned (.int .i64 0) ∧ w = w' := by
  go_enter Try.func52, Try.ntmps52
  go_wp2_with fail
  go_ret
  exact ⟨rfl, rfl⟩

theorem table_dark (q g S P : Nat) (s : Nv) (w : World) (h : Lq w q g S P) (hN : Nm w g s) (hd : s.dark = true) :
    Calls Try.prog 37 #[.pointer (some ⟨q, 0, none⟩)] w fun e w' => e = .returned (.tuple #[.slice none 0 0, .int .i64 2]) ∧ w = w' := by
  obtain ⟨c0, _, _⟩ := h.cells
  have C := Lib.hid (down_any g s w hN)
  rw [hd] at C
  clear h hN hd
  go_enter Try.func37, Try.ntmps37
  go_wp2_with fail
  refine (C.out).mono ?_; rintro e w' ⟨rfl, rfl⟩
  go_wp2
  go_ret2
  exact ⟨rfl, rfl⟩

/-- the table, as far as it has been read -/
def Nv.tbk (s : Nv) (P k : Nat) : List Int := (List.range P).map fun i => if i < k then s.rg (3 + i) else 0
theorem Nv.tbk_length (s : Nv) (P k : Nat) : (s.tbk P k).length = P := by simp [Nv.tbk]
theorem Nv.tbk_zero (s : Nv) (P : Nat) : List.replicate P 0 = s.tbk P 0 := by
  refine list_ext (by simp [Nv.tbk]) fun i hi => ?_
  simp at hi
  simp [Nv.tbk, hi]
theorem Nv.tbk_all (s : Nv) (P : Nat) : s.tbk P P = s.tb P := by
  refine list_ext (by simp [Nv.tbk, Nv.tb]) fun i hi => ?_
  rw [Nv.tbk_length] at hi
  simp [Nv.tbk, Nv.tb, hi]
theorem Nv.tbk_set (s : Nv) {P k : Nat} (hk : k < P) : (s.tbk P k).set k (s.rg (3 + k)) = s.tbk P (k + 1) := by
  refine list_ext (by simp [Nv.tbk]) fun i hi => ?_
  rw [List.length_set, Nv.tbk_length] at hi
  rw [getD_setT (by rw [Nv.tbk_length]; exact hk)]
  by_cases e : i = k
  · subst e; simp [Nv.tbk, hi]
  · rw [if_neg e]
    have h3 : i < k + 1 ↔ i < k := by omega
    simp [Nv.tbk, hi, h3]

set_option maxHeartbeats 1000000 in
theorem table_live (q g S P : Nat) (s : Nv) (w : World) (h : Lq w q g S P) (hN : Nm w g s) (hP : P ≤ 16) (hd : s.dark = false) :
    Calls Try.prog 37 #[.pointer (some ⟨q, 0, none⟩)] w fun e w' => ∃ v, e = .returned (.tuple #[v, .int .i64 0]) ∧ OwnU w.heap.size w' v (s.tb P) ∧ Below w.heap.size w w' := by
  have hmk := run_make_row' (P := Try.prog) 72 25 (.int .u64 0) 8 Try.underlying72 info_u64 rfl .i64 .i64 P (by omega) (by omega)
  obtain ⟨c0, _, c2⟩ := h.cells
  have C := Lib.hid (down_any g s w hN)
  rw [hd] at C
  have O0 := own_made_u w P (by unfold maxLen; omega)
  rw [s.tbk_zero P] at O0
  have O := Lib.hid O0
  have B := Lib.hid (bal (o := .cells (madeCells #[.int .u64 0] P) 25) (Below.refl w.heap.size w))
  have HL := Lib.hid h
  have HN := Lib.hid hN
  have G := Lib.hid (fun (w' : World) (hn : Nm w' g s) (i : Int) => reg_any g s i w' hn)
  have HR : Hid (∀ k : Nat, k < P → s.rd ((3 + k : Nat) : Int) = s.rg (3 + k) ∧ s.rdy (hasR ((3 + k : Nat) : Int)) = 0) := Lib.hid fun k hk => by
    have hb : hasR ((3 + k : Nat) : Int) = true := by simp [hasR]; omega
    have hr : s.rdy (hasR ((3 + k : Nat) : Int)) = 0 := by rw [hb]; simp [Nv.rdy, hd]
    exact ⟨by simp only [Nv.rd, hr, if_true, Int.toNat_natCast], hr⟩
  clear h hN O0 hd
  go_enter Try.func37, Try.ntmps37
  go_wp2_with fail
  refine (C.out).mono ?_; rintro e w' ⟨rfl, rfl⟩
  go_wp2
  go_loopw [20] (fun i wr => ∃ k : Nat, k ≤ P ∧ i = .int .i64 k ∧ Hid (OwnU w.heap.size wr (.slice (some ⟨w.heap.size, 0, none⟩) P P) (s.tbk P k) ∧ Below w.heap.size w wr)) (fun i _ => P - (intOf i).toNat)
  case atStart => exact ⟨0, Nat.zero_le _, rfl, Lib.hid ⟨O.out, B.out⟩⟩
  case round =>
    obtain ⟨k, hk, rfl, H⟩ := hrel
    clear hmk
    by_cases hlt : k < P
    · obtain ⟨d0, _, _⟩ := (HL.out.below H.out.2).cells
      have hw3 : IntKind.i64.wrap (3 + (k : Int)) = ((3 + k : Nat) : Int) := by rw [show 3 + (k : Int) = ((3 + k : Nat) : Int) by omega]; exact IntWalk.i64_in _ (by omega)
      have R := Lib.hid (G.out wr (HN.out.below H.out.2) ((3 + k : Nat) : Int))
      rw [(HR.out k hlt).1, (HR.out k hlt).2] at R
      have own2 := OwnU.stored H.out.1 k (s.rg (3 + k))
      rw [s.tbk_set hlt] at own2
      obtain ⟨c1, f1⟩ := OwnU.cells H.out.1 (j := k) (by rw [s.tbk_length]; exact hlt)
      have B2 := H.out.2.setCell (p := ⟨w.heap.size, k, none⟩) (Nat.le_refl _) (.int .u64 (s.rg (3 + k)))
      have H2 := Lib.hid (And.intro own2 B2)
      generalize (s.tbk P k).getD k 0 = y at c1
      clear own2 B2
      have i0 : (0 : Int) ≤ (k : Int) := by omega
      have i1 : (k : Int) < (P : Int) := by omega
      go_wp2_with fail
      refine (R.out).mono ?_; rintro e w' ⟨rfl, rfl⟩
      go_wp2
      exact ⟨⟨k + 1, by omega, by go_num, H2⟩, by simp [intOf]; omega⟩
    · obtain rfl : k = P := by omega
      go_wp2
      go_ret2
      exact ⟨_, rfl, by rw [← s.tbk_all]; exact H.out.1, H.out.2⟩

/-- the table that is told, or why not -/
def Told (w w' : World) (s : Nv) (P : Nat) (v : Value) : Prop := s.dark = false → OwnU w.heap.size w' v (s.tb P)
theorem table_any (q g S P : Nat) (s : Nv) (w : World) (h : Lq w q g S P) (hN : Nm w g s) (hP : P ≤ 16) :
    Calls Try.prog 37 #[.pointer (some ⟨q, 0, none⟩)] w fun e w' => ∃ v, e = .returned (.tuple #[v, .int .i64 (if s.dark then 2 else 0)]) ∧ Told w w' s P v ∧ Below w.heap.size w w' := by
  cases hd : s.dark
  · refine (table_live q g S P s w h hN hP hd).mono ?_
    rintro e w' ⟨v, rfl, h1, h2⟩
    exact ⟨v, rfl, fun _ => h1, h2⟩
  · refine (table_dark q g S P s w h hN hd).mono ?_
    rintro e w' ⟨rfl, rfl⟩
    exact ⟨_, rfl, fun hx => absurd (hd.symm.trans hx) (by decide), Below.refl _ _⟩

theorem left_dark (q g S P : Nat) (s : Nv) (w : World) (h : Lq w q g S P) (hN : Nm w g s) (hd : s.dark = true) :
    Calls Try.prog 30 #[.pointer (some ⟨q, 0, none⟩)] w fun e w' => e = .returned (.int .i64 0) ∧ w = w' := by
  have C := Lib.hid (table_dark q g S P s w h hN hd)
  clear h hN hd
  go_enter Try.func30, Try.ntmps30
  go_wp2_with fail
  refine (C.out).mono ?_; rintro e w' ⟨rfl, rfl⟩
  go_wp2_with fail
  go_ret
  exact ⟨rfl, rfl⟩
theorem left_live (q g S P : Nat) (s : Nv) (w : World) (h : Lq w q g S P) (hN : Nm w g s) (hP : P ≤ 16) (hd : s.dark = false) :
    Calls Try.prog 30 #[.pointer (some ⟨q, 0, none⟩)] w fun e w' => e = .returned (.int .i64 ((leftT (s.tb P) : Nat) : Int)) ∧ Below w.heap.size w w' := by
  have C := Lib.hid (table_live q g S P s w h hN hP hd)
  clear h hN hd
  go_enter Try.func30, Try.ntmps30
  go_wp2_with fail
  refine (C.out).mono ?_; rintro e w' ⟨v, rfl, hO, hB⟩
  have R := Lib.hid (left_any _ _ w' hO.ru)
  have B := Lib.hid hB
  clear hO hB
  go_wp2_with fail
  refine (R.out).mono ?_; rintro e w' ⟨rfl, rfl⟩
  go_wp2_with fail
  go_ret
  exact ⟨rfl, B.out⟩
theorem lleft_any (q g S P : Nat) (s : Nv) (w : World) (h : Lq w q g S P) (hN : Nm w g s) (hP : P ≤ 16) :
    Calls Try.prog 30 #[.pointer (some ⟨q, 0, none⟩)] w fun e w' => e = .returned (.int .i64 ((lleft s P : Nat) : Int)) ∧ Below w.heap.size w w' := by
  unfold lleft
  cases hd : s.dark
  · simp only [Bool.false_eq_true, if_false]; exact left_live q g S P s w h hN hP hd
  · simp only [if_true]
    refine (left_dark q g S P s w h hN hd).mono ?_
    rintro e w' ⟨rfl, rfl⟩
    exact ⟨rfl, Below.refl _ _⟩
theorem lleft_nil (w : World) : Calls Try.prog 30 #[.pointer none] w fun e w' => e = .returned (.int .i64 0) ∧ w = w' := by
  go_enter Try.func30, Try.ntmps30
  go_wp2_with fail
  go_ret
  exact ⟨rfl, rfl⟩

theorem ready_out (q g S P : Nat) (a : Int) (w : World) (h : Lq w q g S P) (ha : ¬ (0 ≤ a ∧ a < S)) :
    Calls Try.prog 41 #[.pointer (some ⟨q, 0, none⟩), .int .i64 a] w fun e w' => e = .returned (.tuple #[.slice none 0 0, .int .i64 1]) ∧ w = w' := by
  have C := Lib.hid (slots_any q g S P w h)
  clear h
  by_cases h0 : a < 0
  · clear ha
    go_enter Try.func41, Try.ntmps41
    go_wp2
    go_ret2
    exact ⟨rfl, rfl⟩
  · have h1 : a ≥ (S : Int) := by omega
    have h2 : ¬ a < 0 := by omega
    clear ha
    go_enter Try.func41, Try.ntmps41
    go_wp2_with fail
    refine (C.out).mono ?_; rintro e w' ⟨rfl, rfl⟩
    go_wp2
    go_ret2
    exact ⟨rfl, rfl⟩
theorem lready_nil (a : Int) (w : World) :
    Calls Try.prog 41 #[.pointer none, .int .i64 a] w fun e w' => e = .returned (.tuple #[.slice none 0 0, .int .i64 1]) ∧ w = w' := by
  by_cases h0 : a < 0
  · go_enter Try.func41, Try.ntmps41
    go_wp2
    go_ret2
    exact ⟨rfl, rfl⟩
  · have h1 : a ≥ 0 := by omega
    go_enter Try.func41, Try.ntmps41
    go_wp2_with fail
    refine (slots_nil w).mono ?_; rintro e w' ⟨rfl, rfl⟩
    go_wp2
    go_ret2
    exact ⟨rfl, rfl⟩
theorem ready_dark (q g S P : Nat) (s : Nv) (a : Int) (w : World) (h : Lq w q g S P) (hN : Nm w g s) (ha : 0 ≤ a) (has : a < S) (hd : s.dark = true) :
    Calls Try.prog 41 #[.pointer (some ⟨q, 0, none⟩), .int .i64 a] w fun e w' => e = .returned (.tuple #[.slice none 0 0, .int .i64 2]) ∧ w = w' := by
  have C := Lib.hid (slots_any q g S P w h)
  have C1 := Lib.hid (table_dark q g S P s w h hN hd)
  have h1 : ¬ a ≥ (S : Int) := by omega
  have h2 : ¬ a < 0 := by omega
  clear h hN hd
  go_enter Try.func41, Try.ntmps41
  go_wp2_with fail
  refine (C.out).mono ?_; rintro e w' ⟨rfl, rfl⟩
  go_wp2_with fail
  refine (C1.out).mono ?_; rintro e w' ⟨rfl, rfl⟩
  go_wp2
  go_ret2
  exact ⟨rfl, rfl⟩
theorem ready_live (q g S P : Nat) (s : Nv) (a : Int) (w : World) (h : Lq w q g S P) (hN : Nm w g s) (hP : P ≤ 16) (ha : 0 ≤ a) (has : a < S) (hd : s.dark = false) :
    Calls Try.prog 41 #[.pointer (some ⟨q, 0, none⟩), .int .i64 a] w fun e w' => ∃ v, e = .returned (.tuple #[v, .int .i64 0]) ∧ OwnU w.heap.size w' v (s.tb P) ∧ Below w.heap.size w w' := by
  have C := Lib.hid (slots_any q g S P w h)
  have C1 := Lib.hid (table_live q g S P s w h hN hP hd)
  have h1 : ¬ a ≥ (S : Int) := by omega
  have h2 : ¬ a < 0 := by omega
  clear h hN hd
  go_enter Try.func41, Try.ntmps41
  go_wp2_with fail
  refine (C.out).mono ?_; rintro e w' ⟨rfl, rfl⟩
  go_wp2_with fail
  refine (C1.out).mono ?_; rintro e w' ⟨v, rfl, hO, hB⟩
  have B := Lib.hid (And.intro hO hB)
  clear hO hB
  go_wp2
  go_ret2
  exact ⟨_, rfl, B.out.1, B.out.2⟩
end Go.Proofs.Ytjchmkgkibiadaa
