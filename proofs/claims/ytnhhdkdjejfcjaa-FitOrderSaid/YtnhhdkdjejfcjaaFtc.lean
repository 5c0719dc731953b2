/-
  Contracts of package fit: how many words bytes need, what is taken, how often a page was written, which of two is ahead.
-/
import Derived.Test.YtnhhdkdjejfcjaaFtp
import Derived.Test.YtnhhdkdjejfcjaaBka
import Derived.Test.YtnhhdkdjejfcjaaRi
import Derived.BigQuiet
namespace Go.Proofs.Ytnhhdkdjejfcjaa
set_option maxRecDepth 100000
open Go.RowKit

theorem need_is (n : Int) (w : World) : Calls Try.prog 11 #[.int .i64 n] w fun e w' => e = .returned (.int .i64 (needN n)) ∧ w = w' := by
  by_cases h1 : n < 1
  · rw [needN, if_neg (by omega)]
    go_enter Try.func11, Try.ntmps11
    go_wp2_with fail
    go_ret
    exact ⟨rfl, rfl⟩
  · by_cases h2 : n > 448
    · rw [needN, if_neg (by omega)]
      go_enter Try.func11, Try.ntmps11
      go_wp2_with fail
      go_ret
      exact ⟨rfl, rfl⟩
    · rw [needN, if_pos (by omega)]
      obtain ⟨k, rfl⟩ : ∃ k : Nat, n = k := ⟨n.toNat, by omega⟩
      have j1 : IntKind.i64.wrap ((k : Int) + 8) = ((k + 8 : Nat) : Int) := by rw [show (k : Int) + 8 = ((k + 8 : Nat) : Int) by omega]; exact i64_nat _ (by omega)
      have j2 : IntKind.i64.wrap (((k + 8 : Nat) : Int) - 1) = ((k + 7 : Nat) : Int) := by rw [show ((k + 8 : Nat) : Int) - 1 = ((k + 7 : Nat) : Int) by omega]; exact i64_nat _ (by omega)
      obtain ⟨q, hq⟩ : ∃ q, (k + 7) / 8 = q := ⟨_, rfl⟩
      have j3 : ((k + 7 : Nat) : Int).tdiv 8 = (q : Int) := by rw [← hq]; exact tdiv_nat (k + 7) 8
      have j4 : IntKind.i64.wrap (q : Int) = (q : Int) := i64_nat _ (by omega)
      have j5 : IntKind.i64.wrap ((q : Int) + 1) = ((q + 1 : Nat) : Int) := by rw [show (q : Int) + 1 = ((q + 1 : Nat) : Int) by omega]; exact i64_nat _ (by omega)
      have e : ((k : Int) + 7) / 8 + 1 = ((q + 1 : Nat) : Int) := by omega
      rw [e]
      obtain ⟨a, ha⟩ : ∃ a, k + 8 = a := ⟨_, rfl⟩
      obtain ⟨b, hb⟩ : ∃ a, k + 7 = a := ⟨_, rfl⟩
      obtain ⟨c, hc⟩ : ∃ a, q + 1 = a := ⟨_, rfl⟩
      rw [ha] at j1 j2
      rw [hb] at j2 j3
      rw [hc] at j5 ⊢
      clear ha hb hc hq e
      go_enter Try.func11, Try.ntmps11
      go_wp2_with fail
      go_ret
      exact ⟨rfl, rfl⟩

theorem takes_is (s n t : Int) (hs : (Lit.int .i64 s).wf = true) (ht : takN s n = t) (w : World) : Calls Try.prog 12 #[.int .i64 s, .int .i64 n] w fun e w' => e = .returned (.int .i64 t) ∧ w = w' := by
  obtain ⟨s1, s2⟩ := i64_wf hs
  subst ht
  clear hs
  by_cases h1 : n < 2
  · rw [takN, if_neg (by omega)]
    go_enter Try.func12, Try.ntmps12
    go_wp2_with fail
    go_ret
    exact ⟨rfl, rfl⟩
  · by_cases h2 : n > s
    · rw [takN, if_neg (by omega)]
      go_enter Try.func12, Try.ntmps12
      go_wp2_with fail
      go_ret
      exact ⟨rfl, rfl⟩
    · rw [takN, if_pos (by omega)]
      obtain ⟨d, hd⟩ : ∃ d, s - n = d := ⟨_, rfl⟩
      have j1 : IntKind.i64.wrap (s - n) = d := by rw [hd]; exact IntWalk.i64_in _ (by omega)
      rw [hd]
      clear hd s1 s2
      by_cases h3 : d < 2
      · rw [if_pos h3]
        go_enter Try.func12, Try.ntmps12
        go_wp2_with fail
        go_ret
        exact ⟨rfl, rfl⟩
      · rw [if_neg h3]
        go_enter Try.func12, Try.ntmps12
        go_wp2_with fail
        go_ret
        exact ⟨rfl, rfl⟩

theorem wrn_is (a : Int) (cs : List Int) (v : Value) (x : Int) (w : World) (hv : RI w v cs) (ha : (Lit.int .i64 a).wf = true) (hx : wrN cs a = x) : Calls Try.prog 18 #[.int .i64 a, v] w fun e w' => e = .returned (.int .i64 x) ∧ w = w' := by
  obtain ⟨a1, a2⟩ := i64_wf ha
  subst hx
  have hv' := hv
  obtain ⟨p, c, rfl, _, hc, _⟩ := hv'
  unfold maxLen at hc
  by_cases h1 : a < 0
  · rw [wrN, if_pos h1]
    clear hv hc ha a1
    go_enter Try.func18, Try.ntmps18
    go_wp2_with fail
    go_ret
    exact ⟨rfl, rfl⟩
  · rw [wrN, if_neg h1]
    obtain ⟨k, rfl⟩ : ∃ k : Nat, a = k := ⟨a.toNat, by omega⟩
    obtain ⟨q, hq⟩ : ∃ q, k / 32 = q := ⟨_, rfl⟩
    have j3 : (k : Int).tdiv 32 = (q : Int) := by rw [← hq]; exact tdiv_nat k 32
    have j4 : IntKind.i64.wrap (q : Int) = (q : Int) := i64_nat _ (by omega)
    have e : ((k : Int) / 32).toNat = q := by omega
    rw [e]
    by_cases h2 : q < cs.length
    · obtain ⟨b, off, rfl, _, hr⟩ := ri_some hv (by omega)
      have c1 := hr q h2
      have h3 : ¬ (q : Int) ≥ (cs.length : Int) := by omega
      have h4 : ¬ (cs.length : Int) ≤ (q : Int) := by omega
      have h5 : ¬ (q : Int) < 0 := by omega
      have h6 : (q : Int) < (cs.length : Int) := by omega
      generalize cs.getD q 0 = y at *
      generalize cs.length = L at *
      clear hv hc ha hr hq e a1 a2
      go_enter Try.func18, Try.ntmps18
      go_wp2_with fail
      go_ret
      exact ⟨rfl, rfl⟩
    · have h3 : (q : Int) ≥ (cs.length : Int) := by omega
      have e0 : cs.getD q 0 = 0 := by rw [List.getD_eq_getElem?_getD, List.getElem?_eq_none (by omega)]; rfl
      rw [e0]
      generalize cs.length = L at *
      clear hv hc ha hq e e0 a1 a2
      go_enter Try.func18, Try.ntmps18
      go_wp2_with fail
      go_ret
      exact ⟨rfl, rfl⟩
theorem pgn_is (a : Int) (cs : List Int) (v : Value) (x : Int) (w : World) (hv : RI w v cs) (ha : (Lit.int .i64 a).wf = true) (hx : wrN cs a = x) : Calls Try.prog 10 #[.int .i64 a, v] w fun e w' => e = .returned (.int .i64 x) ∧ w = w' := by
  obtain ⟨a1, a2⟩ := i64_wf ha
  subst hx
  have hv' := hv
  obtain ⟨p, c, rfl, _, hc, _⟩ := hv'
  unfold maxLen at hc
  by_cases h1 : a < 0
  · rw [wrN, if_pos h1]
    clear hv hc ha a1
    go_enter Try.func10, Try.ntmps10
    go_wp2_with fail
    go_ret
    exact ⟨rfl, rfl⟩
  · rw [wrN, if_neg h1]
    obtain ⟨k, rfl⟩ : ∃ k : Nat, a = k := ⟨a.toNat, by omega⟩
    obtain ⟨q, hq⟩ : ∃ q, k / 32 = q := ⟨_, rfl⟩
    have j3 : (k : Int).tdiv 32 = (q : Int) := by rw [← hq]; exact tdiv_nat k 32
    have j4 : IntKind.i64.wrap (q : Int) = (q : Int) := i64_nat _ (by omega)
    have e : ((k : Int) / 32).toNat = q := by omega
    rw [e]
    by_cases h2 : q < cs.length
    · obtain ⟨b, off, rfl, _, hr⟩ := ri_some hv (by omega)
      have c1 := hr q h2
      have h3 : ¬ (q : Int) ≥ (cs.length : Int) := by omega
      have h4 : ¬ (cs.length : Int) ≤ (q : Int) := by omega
      have h5 : ¬ (q : Int) < 0 := by omega
      have h6 : (q : Int) < (cs.length : Int) := by omega
      generalize cs.getD q 0 = y at *
      generalize cs.length = L at *
      clear hv hc ha hr hq e a1 a2
      go_enter Try.func10, Try.ntmps10
      go_wp2_with fail
      go_ret
      exact ⟨rfl, rfl⟩
    · have h3 : (q : Int) ≥ (cs.length : Int) := by omega
      have e0 : cs.getD q 0 = 0 := by rw [List.getD_eq_getElem?_getD, List.getElem?_eq_none (by omega)]; rfl
      rw [e0]
      generalize cs.length = L at *
      clear hv hc ha hq e e0 a1 a2
      go_enter Try.func10, Try.ntmps10
      go_wp2_with fail
      go_ret
      exact ⟨rfl, rfl⟩

theorem wrn_q {cs : List Int} {v : Value} {w : World} (hv : RI w v cs) : ∀ n a x, (Lit.int .i64 a).wf = true → wrN cs a = x → Calls Try.prog 18 #[.int .i64 a, v] (w.drewN n) fun e w' => e = .returned (.int .i64 x) ∧ ∃ k, w' = (w.drewN n).drewN k :=
  fun n a x ha hx => (wrn_is a cs v x _ (ri_below hv (below_drewN (Below.refl _ _) n)) ha hx).mono fun _ _ h => ⟨h.1, 0, h.2.symm⟩
set_option maxHeartbeats 1000000 in
theorem ahead_is (x y : Bk) (cs : List Int) (v : Value) (w : World) (hv : RI w v cs) (hx : x.Wf) (hy : y.Wf) (r : Bool) (hr : ahd cs x.a y.a = r) :
    Calls Try.prog 14 #[.agg (bc x), .agg (bc y), v] w fun e w' => e = .returned (.bool r) ∧ Below w.heap.size w w' := by
  obtain ⟨W, hW, HW⟩ := blk_boxed w x
  obtain ⟨V, hV, HV⟩ := blk_boxed W y
  have B := Lib.hid (below_more HW.out.2 HV.out.2)
  have X := HW.out.1.below HV.out.2
  obtain ⟨p, c, rfl, _, _, _⟩ := id hv
  have C := Lib.hid (wrn_q (ri_below hv B.out))
  subst hr
  unfold ahd
  obtain ⟨⟨xa, xs, xu⟩, hxa⟩ : ∃ z, x = z := ⟨x, rfl⟩
  obtain ⟨⟨ya, ys, yu⟩, hya⟩ : ∃ z, y = z := ⟨y, rfl⟩
  subst hxa hya
  have c0 : V.cell? ⟨w.heap.size, 0, none⟩ = some (.int .i64 xa) := X.c0
  have d0 : V.cell? ⟨W.heap.size, 0, none⟩ = some (.int .i64 ya) := HV.out.1.c0
  have hx1 : (Lit.int .i64 xa).wf = true := hx.wa
  have hy1 : (Lit.int .i64 ya).wf = true := hy.wa
  simp only at hW hV ⊢
  obtain ⟨a, ha⟩ : ∃ a, wrN cs xa = a := ⟨_, rfl⟩
  obtain ⟨b, hb⟩ : ∃ a, wrN cs ya = a := ⟨_, rfl⟩
  rw [ha, hb]
  generalize cs.length = L at *
  clear hv hx hy X
  have BN : Hid (∀ n, Below w.heap.size w (V.drewN n)) := Lib.hid (below_drewN B.out)
  by_cases h : a = b
  · rw [if_pos h]
    have n1 : (a != b) = false := by rw [h]; simp
    have n2 : (a == b) = true := by rw [h]; simp
    clear h
    go_enter Try.func14, Try.ntmps14
    go_wp2_with fail
    go_quiet (refine Calls.quiet_of (C.out _ _ _ (by assumption) (by assumption)))
    go_wp2
    go_ret
    exact ⟨rfl, BN.out _⟩
  · rw [if_neg h]
    have n1 : (a != b) = true := bne_iff_ne.2 h
    have n2 : (a == b) = false := beq_eq_false_iff_ne.2 h
    clear h
    go_enter Try.func14, Try.ntmps14
    go_wp2_with fail
    go_quiet (refine Calls.quiet_of (C.out _ _ _ (by assumption) (by assumption)))
    go_wp2
    go_ret
    exact ⟨rfl, BN.out _⟩
end Go.Proofs.Ytnhhdkdjejfcjaa
