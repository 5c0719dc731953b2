/-
  Contracts of gauge's Life, limitOf and Worst, and of the statements' life.
-/
import Derived.Test.YthcecfenjbdgmaaGul
namespace Go.Proofs.Ythcecfenjbdgmaa
set_option maxRecDepth 100000
open D Go.ChangeShapes Go.WideShapes Go.ChangeAt Go.RowKit

theorem isN (n : Int) (h1 : -9223372036854775808 ≤ n) (h2 : n ≤ 9223372036854775807) : IntKind.i64.wrap n = n := IntWalk.i64_in _ ⟨h1, h2⟩

theorem life_is (x n : Int) (w : World) (hx : (Lit.int .i64 x).wf = true) (hn' : (Lit.int .i64 n).wf = true) :
    Calls Try.prog 11 #[.int .i64 x, .int .i64 n] w fun e w' => e = .returned (.float .f64 (lifeV x n)) ∧ ∃ k, w' = w.drewN k := by
  obtain ⟨x1, x2⟩ := i64_wf hx
  obtain ⟨n1, n2⟩ := i64_wf hn'
  obtain ⟨y, hy⟩ : ∃ y, max x 0 = y := ⟨_, rfl⟩
  have hc : (x < 0 ∧ y = 0) ∨ (0 ≤ x ∧ y = x) := by omega
  have hl : lifeV x n = if n < 0 then infW else if n ≤ y then 0 else ratV (hn (n - y)) (hn n) := by unfold lifeV; rw [hy]
  clear hy hx hn'
  rcases hc with ⟨hx0, rfl⟩ | ⟨hx0, hyx⟩
  · by_cases h : n < 0
    · have E := Lib.hid (show lifeV x n = infW by rw [hl, if_pos h])
      clear hl
      go_enter Try.func11, Try.ntmps11
      go_wp2_with fail
      refine (inf_any _ _).mono ?_; rintro e w' ⟨rfl, rfl⟩
      go_wp2_with fail
      go_ret
      exact ⟨ret_f64 E.out.symm, 0, rfl⟩
    · by_cases h2 : n ≤ 0
      · have E := Lib.hid (show lifeV x n = 0 by rw [hl, if_neg h, if_pos h2])
        clear hl
        go_enter Try.func11, Try.ntmps11
        go_wp2
        go_ret
        exact ⟨ret_f64 E.out.symm, 0, rfl⟩
      · have E := Lib.hid (show lifeV x n = ratV (hn (n - 0)) (hn n) by rw [hl, if_neg h, if_neg h2])
        have s := isN (n - 0) (by omega) (by omega)
        clear hl
        go_enter Try.func11, Try.ntmps11
        go_wp2_with fail
        refine (mrat_any _ _ _).mono ?_; rintro e w' ⟨rfl, k, rfl⟩
        go_wp2_with fail
        go_ret
        exact ⟨ret_f64 (by have := E.out.symm; simpa using this), _, rfl⟩
  · rw [hyx] at hl
    clear hyx
    by_cases h : n < 0
    · have E := Lib.hid (show lifeV x n = infW by rw [hl, if_pos h])
      clear hl
      go_enter Try.func11, Try.ntmps11
      go_wp2_with fail
      refine (inf_any _ _).mono ?_; rintro e w' ⟨rfl, rfl⟩
      go_wp2_with fail
      go_ret
      exact ⟨ret_f64 E.out.symm, 0, rfl⟩
    · by_cases h2 : n ≤ x
      · have E := Lib.hid (show lifeV x n = 0 by rw [hl, if_neg h, if_pos h2])
        clear hl
        go_enter Try.func11, Try.ntmps11
        go_wp2
        go_ret
        exact ⟨ret_f64 E.out.symm, 0, rfl⟩
      · have E := Lib.hid (show lifeV x n = ratV (hn (n - x)) (hn n) by rw [hl, if_neg h, if_neg h2])
        have s := isN (n - x) (by omega) (by omega)
        clear hl
        go_enter Try.func11, Try.ntmps11
        go_wp2_with fail
        refine (mrat_any _ _ _).mono ?_; rintro e w' ⟨rfl, k, rfl⟩
        go_wp2_with fail
        go_ret
        exact ⟨ret_f64 (by have := E.out.symm; simpa using this), _, rfl⟩

theorem rlife_is (x n : Int) (w : World) (hx : (Lit.int .i64 x).wf = true) (hn' : (Lit.int .i64 n).wf = true) :
    Calls Try.prog 9 #[.int .i64 x, .int .i64 n] w fun e w' => e = .returned (.float .f64 (lifeV x n)) ∧ w = w' := by
  obtain ⟨x1, x2⟩ := i64_wf hx
  obtain ⟨n1, n2⟩ := i64_wf hn'
  obtain ⟨y, hy⟩ : ∃ y, max x 0 = y := ⟨_, rfl⟩
  have hc : (x ≤ 0 ∧ y = 0) ∨ (0 < x ∧ y = x) := by omega
  have hl : lifeV x n = if n < 0 then infW else if n ≤ y then 0 else ratV (hn (n - y)) (hn n) := by unfold lifeV; rw [hy]
  clear hy hx hn'
  rcases hc with ⟨hx0, rfl⟩ | ⟨hx0, hyx⟩
  · by_cases h : n < 0
    · have E := Lib.hid (show lifeV x n = infW by rw [hl, if_pos h])
      clear hl
      go_enter Try.func9, Try.ntmps9
      go_wp2_with fail
      refine (inf_any _ _).mono ?_; rintro e w' ⟨rfl, rfl⟩
      go_wp2_with fail
      go_ret
      exact ⟨ret_f64 E.out.symm, rfl⟩
    · by_cases h2 : n ≤ 0
      · have E := Lib.hid (show lifeV x n = 0 by rw [hl, if_neg h, if_pos h2])
        clear hl
        go_enter Try.func9, Try.ntmps9
        go_wp2
        go_ret
        exact ⟨ret_f64 E.out.symm, rfl⟩
      · have E := Lib.hid (show lifeV x n = ratV (hn (n - 0)) (hn n) by rw [hl, if_neg h, if_neg h2])
        have s := isN (n - 0) (by omega) (by omega)
        clear hl
        go_enter Try.func9, Try.ntmps9
        go_wp2_with fail
        refine (rrat_any _ _ _).mono ?_; rintro e w' ⟨rfl, rfl⟩
        go_wp2_with fail
        go_ret
        exact ⟨ret_f64 (by have := E.out.symm; simpa using this), rfl⟩
  · rw [hyx] at hl
    clear hyx
    by_cases h : n < 0
    · have E := Lib.hid (show lifeV x n = infW by rw [hl, if_pos h])
      clear hl
      go_enter Try.func9, Try.ntmps9
      go_wp2_with fail
      refine (inf_any _ _).mono ?_; rintro e w' ⟨rfl, rfl⟩
      go_wp2_with fail
      go_ret
      exact ⟨ret_f64 E.out.symm, rfl⟩
    · by_cases h2 : n ≤ x
      · have E := Lib.hid (show lifeV x n = 0 by rw [hl, if_neg h, if_pos h2])
        clear hl
        go_enter Try.func9, Try.ntmps9
        go_wp2
        go_ret
        exact ⟨ret_f64 E.out.symm, rfl⟩
      · have E := Lib.hid (show lifeV x n = ratV (hn (n - x)) (hn n) by rw [hl, if_neg h, if_neg h2])
        have s := isN (n - x) (by omega) (by omega)
        clear hl
        go_enter Try.func9, Try.ntmps9
        go_wp2_with fail
        refine (rrat_any _ _ _).mono ?_; rintro e w' ⟨rfl, rfl⟩
        go_wp2_with fail
        go_ret
        exact ⟨ret_f64 (by have := E.out.symm; simpa using this), rfl⟩

theorem limit_is (v : Value) (m : List Int) (k : Nat) (w : World) (h : RI w v m) :
    Calls Try.prog 27 #[v, .int .i64 (k : Int)] w fun e w' => e = .returned (.int .i64 (limAt m k)) ∧ w = w' := by
  obtain ⟨p, c, rfl, h1, h2, h3⟩ := h
  by_cases hk : k < m.length
  · rcases h3 with rfl | ⟨b, off, rfl, hc⟩
    · exact absurd hk (by simp)
    · have E := Lib.hid (show limAt m k = m.getD k 0 by unfold limAt; rw [if_pos hk])
      have c1 := hc k hk
      have i1 : (k : Int) < (m.length : Int) := by omega
      clear hc
      generalize m.getD k 0 = y at *
      go_enter Try.func27, Try.ntmps27
      go_wp2
      go_ret
      exact ⟨ret_i64 E.out.symm, rfl⟩
  · have E := Lib.hid (show limAt m k = -1 by unfold limAt; rw [if_neg hk])
    have i1 : ¬ (k : Int) < (m.length : Int) := by omega
    clear h3
    go_enter Try.func27, Try.ntmps27
    go_wp2
    go_ret
    exact ⟨ret_i64 E.out.symm, rfl⟩

set_option maxHeartbeats 1000000 in
theorem worst_is (v u : Value) (l m : List Int) (w : World) (hv : RI w v l) (hu : RI w u m) (hl : l.length ≤ 1000) (wl : ∀ n ∈ l, (Lit.int .i64 n).wf = true) (wm : ∀ n ∈ m, (Lit.int .i64 n).wf = true) :
    Calls Try.prog 12 #[v, u] w fun e w' => e = .returned (.float .f64 (minV (lvs l m))) ∧ Below w.heap.size w w' := by
  have O0 := made_own_f w l.length (by unfold maxLen; omega)
  rw [lvk_zero l m] at O0
  obtain ⟨n, hsn⟩ : ∃ n, l.length = n := ⟨_, rfl⟩
  rw [hsn] at O0
  have hmk := run_make_row' (P := Try.prog) 24 25 (.float .f64 0) 8 Try.underlying24 info_f64 rfl .i64 .i64 n (by omega) (by omega)
  obtain ⟨W, hW⟩ : ∃ W, w.alloc (.cells (madeCells #[.float .f64 0] n) 25) = W := ⟨_, rfl⟩
  have B0 := bal (o := .cells (madeCells #[.float .f64 0] n) 25) (Below.refl w.heap.size w)
  rw [hW] at O0 B0
  have OO := Lib.hid O0
  have BB := Lib.hid B0
  have HV := Lib.hid hv
  have HU := Lib.hid hu
  have WL := Lib.hid wl
  have WM := Lib.hid wm
  have HN : Hid (n ≤ 1000) := Lib.hid (by omega)
  have HS := Lib.hid hsn
  obtain ⟨p, c, rfl, _⟩ := hv
  rw [hsn] at HV ⊢
  clear hu hl wl wm O0 B0 hsn
  go_enter Try.func12, Try.ntmps12
  go_wp2
  go_loopw [6, 7, 13] (fun _ _ i wr => ∃ k : Nat, k ≤ n ∧ i = .int .i64 k ∧ Hid (Own w.heap.size wr (.slice (some ⟨w.heap.size, 0, none⟩) n n) (lvk l m k) ∧ Below w.heap.size w wr)) (fun _ _ i _ => n - (intOf i).toNat)
  case atStart => exact ⟨0, Nat.zero_le _, rfl, Lib.hid ⟨OO.out, BB.out⟩⟩
  case round =>
    obtain ⟨k, hk, rfl, H⟩ := hrel
    clear hmk
    by_cases hlt : k < n
    · have hkl : k < l.length := by rw [HS.out]; exact hlt
      have j0 : IntKind.i64.wrap ((k : Int) + 1) = ((k + 1 : Nat) : Int) := by rw [show (k : Int) + 1 = ((k + 1 : Nat) : Int) by omega]; exact i64_nat _ (by have := HN.out; omega)
      have Q := ri_below HV.out H.out.2
      obtain ⟨b, off, rfl, _, hc⟩ := ri_some Q (by omega)
      have c1 := hc k hkl
      have i0 : (0 : Int) ≤ (k : Int) := by omega
      have i1 : (k : Int) < (n : Int) := by omega
      have i2 : ¬ (k : Int) < 0 := by omega
      have L := Lib.hid (limit_is u m k wr (ri_below HU.out H.out.2))
      have F := Lib.hid (life_is (l.getD k 0) (limAt m k) wr (at_wf WL.out hkl) (limAt_wf WM.out k))
      have OS := Lib.hid (own_stored_f H.out.1 k (lifeV (l.getD k 0) (limAt m k)))
      rw [lvk_set k] at OS
      obtain ⟨o1, o2⟩ := own_cell_f H.out.1 (j := k) (by rw [lvk_length]; exact hkl)
      generalize (lvk l m k).getD k 0 = ov at o1
      generalize lifeV (l.getD k 0) (limAt m k) = z at F OS
      generalize l.getD k 0 = y at *
      generalize limAt m k = q at *
      have BS := Lib.hid (fun j => (below_drewN H.out.2 j).setCell (p := ⟨w.heap.size, k, none⟩) (Nat.le_refl _) (.float .f64 z))
      clear Q hc H HS hkl
      go_wp2_with fail
      refine L.out.mono ?_; rintro e w' ⟨rfl, rfl⟩
      go_wp2_with fail
      refine F.out.mono ?_; rintro e w' ⟨rfl, j, rfl⟩
      have o3 : (wr.drewN j).cell? ⟨w.heap.size, k, none⟩ = some (.float .f64 ov) := o1
      have o4 : (wr.drewN j).frozen? ⟨w.heap.size, k, none⟩ = false := o2
      have HF := Lib.hid (And.intro (show Own w.heap.size ((wr.drewN j).setCell ⟨w.heap.size, k, none⟩ (.float .f64 z)) _ _ from OS.out) (BS.out j))
      clear OS BS L F
      go_wp2
      exact ⟨⟨k + 1, by omega, by go_num, HF⟩, by simp [intOf]; omega⟩
    · obtain rfl : k = n := by omega
      have R := (H.out.1).reads
      have E : lvk l m k = lvs l m := by unfold lvs; rw [HS.out]
      rw [E] at R
      have G := Lib.hid (min_rd _ _ wr R (by rw [lvs_length, HS.out]; unfold maxLen; have := HN.out; omega) (lvs_small l m))
      clear R E
      go_wp2_with fail
      refine G.out.mono ?_; rintro e w' ⟨rfl, rfl⟩
      go_wp2_with fail
      go_ret
      exact ⟨rfl, H.out.2⟩
end Go.Proofs.Ythcecfenjbdgmaa
