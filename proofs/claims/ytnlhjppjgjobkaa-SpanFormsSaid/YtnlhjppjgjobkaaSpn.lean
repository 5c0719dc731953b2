/-
  Contracts: whether bytes are there; the parts of words that bytes are (package span and the reference).
-/
import Derived.Test.YtnlhjppjgjobkaaSpa
import Derived.Test.YtnlhjppjgjobkaaPce
namespace Go.Proofs.Ytnlhjppjgjobkaa
set_option maxRecDepth 100000
open Go.RowKit

/-- n bytes from o on are those of L words, and one call's -/
def InB (L : Nat) (o n : Int) : Prop := 0 ≤ o ∧ 0 ≤ n ∧ n ≤ 448 ∧ o + n ≤ 8 * L
instance (L : Nat) (o n : Int) : Decidable (InB L o n) := inferInstanceAs (Decidable (_ ∧ _))
theorem InB.nat {L : Nat} {o n : Int} (h : InB L o n) : ∃ a b : Nat, o = a ∧ n = b ∧ b ≤ 448 ∧ a + b ≤ 8 * L := by
  obtain ⟨h1, h2, h3, h4⟩ := h
  exact ⟨o.toNat, n.toNat, by omega, by omega, by omega, by omega⟩
theorem mayn_yes (n : Int) (h : 0 ≤ n ∧ n ≤ 448) (w : World) : Calls Try.prog 22 #[.int .i64 n] w fun e w' => e = .returned (.bool true) ∧ w = w' := by
  obtain ⟨h1, h2⟩ := h
  have h3 : n ≥ 0 := h1
  go_enter Try.func22, Try.ntmps22
  go_wp2_with fail
  go_ret
  exact ⟨rfl, rfl⟩
theorem mayn_no (n : Int) (h : ¬ (0 ≤ n ∧ n ≤ 448)) (w : World) : Calls Try.prog 22 #[.int .i64 n] w fun e w' => e = .returned (.bool false) ∧ w = w' := by
  by_cases h1 : n ≥ 0
  · have h2 : ¬ n ≤ 448 := fun k => h ⟨h1, k⟩
    clear h
    go_enter Try.func22, Try.ntmps22
    go_wp2_with fail
    go_ret
    exact ⟨rfl, rfl⟩
  · clear h
    go_enter Try.func22, Try.ntmps22
    go_wp2_with fail
    go_ret
    exact ⟨rfl, rfl⟩
theorem within_yes (o n L c : Nat) (p : Option Addr) (h1 : n ≤ 448) (h2 : o + n ≤ 8 * L) (hL : L ≤ 1000) (w : World) : Calls Try.prog 24 #[.slice p L c, .int .i64 o, .int .i64 n] w fun e w' => e = .returned (.bool true) ∧ w = w' := by
  have C := Lib.hid (mayn_yes n (by omega) w)
  have e1 : IntKind.i64.wrap (8 * (L : Int)) = ((8 * L : Nat) : Int) := by rw [show 8 * (L : Int) = ((8 * L : Nat) : Int) by omega]; exact i64_nat _ (by omega)
  have e2 : IntKind.i64.wrap (((8 * L : Nat) : Int) - (n : Int)) = ((8 * L - n : Nat) : Int) := by rw [show ((8 * L : Nat) : Int) - (n : Int) = ((8 * L - n : Nat) : Int) by omega]; exact i64_nat _ (by omega)
  have q1 : (n : Int) ≤ ((8 * L : Nat) : Int) := by omega
  have q2 : (o : Int) ≥ 0 := by omega
  have q3 : (o : Int) ≤ ((8 * L - n : Nat) : Int) := by omega
  clear h1 h2 hL
  generalize 8 * L - n = M at *
  generalize 8 * L = N at *
  have r1 : n ≤ N := by omega
  have r3 : o ≤ M := by omega
  go_enter Try.func24, Try.ntmps24
  go_wp2_with fail
  refine (C.out).mono ?_; rintro e w' ⟨rfl, rfl⟩
  go_wp2_with fail
  go_ret
  exact ⟨rfl, rfl⟩
theorem within_no (o n : Int) (L c : Nat) (p : Option Addr) (hn : -9223372036854775808 ≤ n ∧ n ≤ 9223372036854775807) (h : ¬ InB L o n) (hL : L ≤ 1000) (w : World) : Calls Try.prog 24 #[.slice p L c, .int .i64 o, .int .i64 n] w fun e w' => e = .returned (.bool false) ∧ w = w' := by
  obtain ⟨K, hK⟩ : ∃ K, 8 * (L : Int) = K := ⟨_, rfl⟩
  have e1 : IntKind.i64.wrap (8 * (L : Int)) = K := by rw [← hK]; exact IntWalk.i64_in _ (by omega)
  obtain ⟨J, hJ⟩ : ∃ J, K - n = J := ⟨_, rfl⟩
  by_cases h0 : 0 ≤ n ∧ n ≤ 448
  · have C := Lib.hid (mayn_yes n h0 w)
    have e2 : IntKind.i64.wrap (K - n) = J := by rw [← hJ]; exact IntWalk.i64_in _ (by omega)
    by_cases h1 : n ≤ K
    · by_cases h2 : o ≥ 0
      · have h3 : ¬ o ≤ J := fun k => h ⟨h2, h0.1, h0.2, by omega⟩
        clear h h0 hn hL hK hJ
        go_enter Try.func24, Try.ntmps24
        go_wp2_with fail
        refine (C.out).mono ?_; rintro e w' ⟨rfl, rfl⟩
        go_wp2_with fail
        go_ret
        exact ⟨by simp [h3], rfl⟩
      · clear h h0 hn hL e2 hK hJ
        go_enter Try.func24, Try.ntmps24
        go_wp2_with fail
        refine (C.out).mono ?_; rintro e w' ⟨rfl, rfl⟩
        go_wp2_with fail
        go_ret
        exact ⟨rfl, rfl⟩
    · clear h h0 hn hL e2 hK hJ
      go_enter Try.func24, Try.ntmps24
      go_wp2_with fail
      refine (C.out).mono ?_; rintro e w' ⟨rfl, rfl⟩
      go_wp2_with fail
      go_ret
      exact ⟨rfl, rfl⟩
  · have C := Lib.hid (mayn_no n h0 w)
    clear h h0 hn hL hK hJ
    go_enter Try.func24, Try.ntmps24
    go_wp2_with fail
    refine (C.out).mono ?_; rintro e w' ⟨rfl, rfl⟩
    go_wp2_with fail
    go_ret
    exact ⟨rfl, rfl⟩
theorem within_is (o n : Int) (L c : Nat) (p : Option Addr) (hn : -9223372036854775808 ≤ n ∧ n ≤ 9223372036854775807) (hL : L ≤ 1000) (w : World) : Calls Try.prog 24 #[.slice p L c, .int .i64 o, .int .i64 n] w fun e w' => e = .returned (.bool (decide (InB L o n))) ∧ w = w' := by
  by_cases h : InB L o n
  · rw [decide_eq_true h]
    obtain ⟨a, b, rfl, rfl, h1, h2⟩ := h.nat
    exact within_yes a b L c p h1 h2 hL w
  · rw [decide_eq_false h]
    exact within_no o n L c p hn h hL w
theorem inside_is (o n : Int) (L : Nat) (ho : -9223372036854775808 ≤ o ∧ o ≤ 9223372036854775807) (hn : -9223372036854775808 ≤ n ∧ n ≤ 9223372036854775807) (hL : L ≤ 1000) (w : World) : Calls Try.prog 26 #[.int .i64 L, .int .i64 o, .int .i64 n] w fun e w' => e = .returned (.bool (decide (InB L o n))) ∧ w = w' := by
  obtain ⟨K, hK⟩ : ∃ K, 8 * (L : Int) = K := ⟨_, rfl⟩
  have e1 : IntKind.i64.wrap (8 * (L : Int)) = K := by rw [← hK]; exact IntWalk.i64_in _ (by omega)
  by_cases h1 : o ≥ 0
  · by_cases h2 : n ≥ 0
    · by_cases h3 : n ≤ 448
      · by_cases h4 : o ≤ K
        · obtain ⟨J, hJ⟩ : ∃ J, K - o = J := ⟨_, rfl⟩
          have e2 : IntKind.i64.wrap (K - o) = J := by rw [← hJ]; exact IntWalk.i64_in _ (by omega)
          by_cases h5 : n ≤ J
          · rw [decide_eq_true (show InB L o n from ⟨h1, h2, h3, by omega⟩)]
            clear hK hJ ho hn hL
            go_enter Try.func26, Try.ntmps26
            go_wp2_with fail
            go_ret
            exact ⟨rfl, rfl⟩
          · rw [decide_eq_false (show ¬ InB L o n from fun k => by have := k.2.2.2; omega)]
            clear hK hJ ho hn hL
            go_enter Try.func26, Try.ntmps26
            go_wp2_with fail
            go_ret
            exact ⟨rfl, rfl⟩
        · rw [decide_eq_false (show ¬ InB L o n from fun k => by have := k.2.2.2; omega)]
          clear hK ho hn hL
          go_enter Try.func26, Try.ntmps26
          go_wp2_with fail
          go_ret
          exact ⟨rfl, rfl⟩
      · rw [decide_eq_false (show ¬ InB L o n from fun k => h3 k.2.2.1)]
        clear hK e1 ho hn hL
        go_enter Try.func26, Try.ntmps26
        go_wp2_with fail
        go_ret
        exact ⟨rfl, rfl⟩
    · rw [decide_eq_false (show ¬ InB L o n from fun k => h2 k.2.1)]
      clear hK e1 ho hn hL
      go_enter Try.func26, Try.ntmps26
      go_wp2_with fail
      go_ret
      exact ⟨rfl, rfl⟩
  · rw [decide_eq_false (show ¬ InB L o n from fun k => h1 k.1)]
    clear hK e1 ho hn hL
    go_enter Try.func26, Try.ntmps26
    go_wp2_with fail
    go_ret
    exact ⟨rfl, rfl⟩

/-- parts under way -/
structure Pt (o n : Nat) (w wr : World) (lv : Value) (a m : Nat) : Prop where
  sum : a + m = o + n
  ex : ∃ P, OwnA pcE w.heap.size wr lv P ∧ P.length + m ≤ n ∧ pcs o n = P ++ pcs a m
  below : Below w.heap.size w wr
theorem Pt.step {o n : Nat} {w wr w' : World} {P : List Pc} {lv v' : Value} {a m : Nat} (hP : Pt o n w wr lv a m) (h : OwnA pcE w.heap.size w' v' (P ++ [⟨a / 8, a % 8, pcK a m⟩])) (hl : P.length + m ≤ n) (he : pcs o n = P ++ pcs a m) (hm : m ≠ 0) (hb : Below w.heap.size w w') : Pt o n w w' v' (a + pcK a m) (m - pcK a m) := by
  have hk := pcK_le (a := a) hm
  refine ⟨by have := hP.sum; omega, ⟨_, h, by rw [List.length_append, List.length_singleton]; omega, ?_⟩, hb⟩
  rw [he, pcs_more hm, List.append_assoc]; rfl
set_option maxHeartbeats 1000000 in
theorem parts_is (o n : Nat) (ho : o ≤ 10000000) (hn : n ≤ 448) (w : World) : Calls Try.prog 23 #[.int .i64 o, .int .i64 n] w fun e w' => (∃ v, e = .returned v ∧ OwnA pcE w.heap.size w' v (pcs o n)) ∧ Below w.heap.size w w' := by
  have HL := Lib.hid (And.intro ho hn)
  clear ho hn
  go_enter Try.func23, Try.ntmps23
  go_wp2
  go_loopw [0, 1, 5] (fun x y z wr => ∃ (a m : Nat) (lv : Value), x = .int .i64 a ∧ y = .int .i64 m ∧ z = lv ∧ Hid (Pt o n w wr lv a m)) (fun _ y _ _ => (intOf y).toNat)
  case atStart => exact ⟨o, n, _, rfl, rfl, rfl, Lib.hid ⟨rfl, ⟨[], own_nil_a _ _ _, by simp, rfl⟩, Below.refl _ _⟩⟩
  case round =>
    obtain ⟨a, m, lv, rfl, rfl, rfl, HP⟩ := hrel
    by_cases hm : 0 < m
    · obtain ⟨P, O1, l1, q1⟩ := HP.out.ex
      have hs := HP.out.sum
      obtain ⟨b1, b2⟩ := HL.out
      obtain ⟨k1, k2, k3, k4⟩ := pcK_le (a := a) (m := m) (by omega)
      have hK : pcK a m = min (8 - a % 8) m := rfl
      obtain ⟨Q, hQ⟩ : ∃ Q, a / 8 = Q := ⟨_, rfl⟩
      obtain ⟨F, hF⟩ : ∃ F, a % 8 = F := ⟨_, rfl⟩
      obtain ⟨G, hG⟩ : ∃ G, 8 - F = G := ⟨_, rfl⟩
      obtain ⟨N, hN⟩ : ∃ N, pcK a m = N := ⟨_, rfl⟩
      obtain ⟨A, hA⟩ : ∃ A, a + N = A := ⟨_, rfl⟩
      obtain ⟨M, hM⟩ : ∃ M, m - N = M := ⟨_, rfl⟩
      have m0 : (m : Int) > 0 := by omega
      have m1 : (a : Int) % 8 = (F : Int) := by omega
      have m2 : IntKind.i64.wrap ((a : Int) / 8) = (Q : Int) := by rw [show (a : Int) / 8 = (Q : Int) by omega]; exact i64_nat _ (by omega)
      have m3 : IntKind.i64.wrap (8 - (F : Int)) = (G : Int) := by rw [show 8 - (F : Int) = (G : Int) by omega]; exact i64_nat _ (by omega)
      have m4 : IntKind.i64.wrap ((a : Int) + (N : Int)) = (A : Int) := by rw [show (a : Int) + (N : Int) = (A : Int) by omega]; exact i64_nat _ (by omega)
      have m5 : IntKind.i64.wrap ((m : Int) - (N : Int)) = (M : Int) := by rw [show (m : Int) - (N : Int) = (M : Int) by omega]; exact i64_nat _ (by omega)
      have hm' := Lib.hid (And.intro hm (And.intro k1 k2))
      have KK := Lib.hid (And.intro l1 q1)
      have KE := Lib.hid (And.intro hQ (And.intro hF (And.intro hN (And.intro hA hM))))
      have HO1 := Lib.hid O1
      have B1 : Hid (Below w.heap.size w wr) := Lib.hid HP.out.below
      have HH := HP
      by_cases hc : m < G
      · have eN : N = m := by omega
        have hM0 : Hid (M = 0) := Lib.hid (by omega)
        have c1 : (m : Int) < (G : Int) := by omega
        clear hs b1 b2 k1 k2 k3 k4 hK O1 l1 q1 hQ hF hG hA hM hm HP hN
        subst eN
        obtain ⟨W2, hW2, HW2⟩ := pc_boxed wr ⟨Q, F, N⟩
        have hB2 := Lib.hid (below_more B1.out HW2.out.2)
        have O2 := Lib.hid (HO1.out.below HW2.out.2)
        have R2 : Hid (RA pcE W2 (.slice (some ⟨wr.heap.size, 0, none⟩) 1 1) [⟨Q, F, N⟩]) := Lib.hid (by rw [← hW2]; exact (pc_oneA wr ⟨Q, F, N⟩).ra)
        have hlen : Hid (P.length + [(⟨Q, F, N⟩ : Pc)].length ≤ 4000) := Lib.hid (by have := KK.out.1; have := HL.out; simp only [List.length_singleton]; omega)
        go_wp2_with (at_builtin; refine app_pc rfl _ _ rfl _ _ _ rfl O2.out _ [⟨Q, F, N⟩] rfl R2.out hlen hB2.out.size ?_)
        intro v' w' ho hg hx
        have HN := Lib.hid (Pt.step HH.out (by obtain ⟨x1, x2, x3, x4, x5⟩ := KE.out; rw [x1, x2, x3]; exact ho) KK.out.1 KK.out.2 (by have := hm'.out; omega) (below_app hB2.out hB2.out.size O2.out hg))
        rw [KE.out.2.2.1, KE.out.2.2.2.1, KE.out.2.2.2.2] at HN
        clear ho hg hx
        go_wp2
        go_roundw
        case rel => exact ⟨A, M, _, by go_num, by first | go_num | (have := hM0.out; go_num), rfl, HN⟩
        case measure => have := hm'.out; have := KE.out; simp [intOf]; omega
      · have eN : N = G := by omega
        have c1 : ¬ (m : Int) < (G : Int) := by omega
        clear hs b1 b2 k1 k2 k3 k4 hK O1 l1 q1 hQ hF hG hA hM hm HP hN
        subst eN
        obtain ⟨W2, hW2, HW2⟩ := pc_boxed wr ⟨Q, F, N⟩
        have hB2 := Lib.hid (below_more B1.out HW2.out.2)
        have O2 := Lib.hid (HO1.out.below HW2.out.2)
        have R2 : Hid (RA pcE W2 (.slice (some ⟨wr.heap.size, 0, none⟩) 1 1) [⟨Q, F, N⟩]) := Lib.hid (by rw [← hW2]; exact (pc_oneA wr ⟨Q, F, N⟩).ra)
        have hlen : Hid (P.length + [(⟨Q, F, N⟩ : Pc)].length ≤ 4000) := Lib.hid (by have := KK.out.1; have := HL.out; simp only [List.length_singleton]; omega)
        go_wp2_with (at_builtin; refine app_pc rfl _ _ rfl _ _ _ rfl O2.out _ [⟨Q, F, N⟩] rfl R2.out hlen hB2.out.size ?_)
        intro v' w' ho hg hx
        have HN := Lib.hid (Pt.step HH.out (by obtain ⟨x1, x2, x3, x4, x5⟩ := KE.out; rw [x1, x2, x3]; exact ho) KK.out.1 KK.out.2 (by have := hm'.out; omega) (below_app hB2.out hB2.out.size O2.out hg))
        rw [KE.out.2.2.1, KE.out.2.2.2.1, KE.out.2.2.2.2] at HN
        clear ho hg hx
        go_wp2
        go_roundw
        case rel => exact ⟨A, M, _, by go_num, by first | go_num | (have := hM0.out; go_num), rfl, HN⟩
        case measure => have := hm'.out; have := KE.out; simp [intOf]; omega
    · obtain rfl : m = 0 := by omega
      obtain ⟨P, O1, l1, q1⟩ := HP.out.ex
      rw [pcs_zero, List.append_nil] at q1
      subst q1
      have HO1 := Lib.hid O1
      have B1 := Lib.hid HP.out.below
      clear O1
      go_wp2
      go_ret
      exact ⟨⟨_, rfl, HO1.out⟩, B1.out⟩
set_option maxHeartbeats 1000000 in
theorem rpieces_yes (o n : Nat) (ho : o ≤ 1000000) (hn : n ≤ 448) (w : World) : Calls Try.prog 10 #[.int .i64 o, .int .i64 n] w fun e w' => (∃ v, e = .returned v ∧ OwnA pcE w.heap.size w' v (pcs o n)) ∧ Below w.heap.size w w' := by
  have HL := Lib.hid (And.intro ho hn)
  have h1 : ¬ (o : Int) < 0 := by omega
  have h2 : ¬ (n : Int) < 0 := by omega
  have h3 : ¬ (o : Int) > 1000000 := by omega
  have h4 : ¬ (n : Int) > 448 := by omega
  have h5 : ¬ o > 1000000 := by omega
  have h6 : ¬ n > 448 := by omega
  clear ho hn
  go_enter Try.func10, Try.ntmps10
  go_wp2
  go_loopw [0, 1, 5] (fun x y z wr => ∃ (a m : Nat) (lv : Value), x = .int .i64 a ∧ y = .int .i64 m ∧ z = lv ∧ Hid (Pt o n w wr lv a m)) (fun _ y _ _ => (intOf y).toNat)
  case atStart => exact ⟨o, n, _, rfl, rfl, rfl, Lib.hid ⟨rfl, ⟨[], own_nil_a _ _ _, by simp, rfl⟩, Below.refl _ _⟩⟩
  case round =>
    obtain ⟨a, m, lv, rfl, rfl, rfl, HP⟩ := hrel
    by_cases hm : 0 < m
    · obtain ⟨P, O1, l1, q1⟩ := HP.out.ex
      have hs := HP.out.sum
      obtain ⟨b1, b2⟩ := HL.out
      obtain ⟨k1, k2, k3, k4⟩ := pcK_le (a := a) (m := m) (by omega)
      have hK : pcK a m = min (8 - a % 8) m := rfl
      obtain ⟨Q, hQ⟩ : ∃ Q, a / 8 = Q := ⟨_, rfl⟩
      obtain ⟨F, hF⟩ : ∃ F, a % 8 = F := ⟨_, rfl⟩
      obtain ⟨G, hG⟩ : ∃ G, 8 - F = G := ⟨_, rfl⟩
      obtain ⟨N, hN⟩ : ∃ N, pcK a m = N := ⟨_, rfl⟩
      obtain ⟨A, hA⟩ : ∃ A, a + N = A := ⟨_, rfl⟩
      obtain ⟨M, hM⟩ : ∃ M, m - N = M := ⟨_, rfl⟩
      have m0 : (m : Int) > 0 := by omega
      have m1 : (a : Int) % 8 = (F : Int) := by omega
      have m2 : IntKind.i64.wrap ((a : Int) / 8) = (Q : Int) := by rw [show (a : Int) / 8 = (Q : Int) by omega]; exact i64_nat _ (by omega)
      have m3 : IntKind.i64.wrap (8 - (F : Int)) = (G : Int) := by rw [show 8 - (F : Int) = (G : Int) by omega]; exact i64_nat _ (by omega)
      have m4 : IntKind.i64.wrap ((a : Int) + (N : Int)) = (A : Int) := by rw [show (a : Int) + (N : Int) = (A : Int) by omega]; exact i64_nat _ (by omega)
      have m5 : IntKind.i64.wrap ((m : Int) - (N : Int)) = (M : Int) := by rw [show (m : Int) - (N : Int) = (M : Int) by omega]; exact i64_nat _ (by omega)
      have hm' := Lib.hid (And.intro hm (And.intro k1 k2))
      have KK := Lib.hid (And.intro l1 q1)
      have KE := Lib.hid (And.intro hQ (And.intro hF (And.intro hN (And.intro hA hM))))
      have HO1 := Lib.hid O1
      have B1 : Hid (Below w.heap.size w wr) := Lib.hid HP.out.below
      have HH := HP
      by_cases hc : G < m
      · have eN : N = G := by omega
        have c1 : (G : Int) < (m : Int) := by omega
        clear hs b1 b2 k1 k2 k3 k4 hK O1 l1 q1 hQ hF hG hA hM hm HP hN
        subst eN
        obtain ⟨W2, hW2, HW2⟩ := pc_boxed wr ⟨Q, F, N⟩
        have hB2 := Lib.hid (below_more B1.out HW2.out.2)
        have O2 := Lib.hid (HO1.out.below HW2.out.2)
        have R2 : Hid (RA pcE W2 (.slice (some ⟨wr.heap.size, 0, none⟩) 1 1) [⟨Q, F, N⟩]) := Lib.hid (by rw [← hW2]; exact (pc_oneA wr ⟨Q, F, N⟩).ra)
        have hlen : Hid (P.length + [(⟨Q, F, N⟩ : Pc)].length ≤ 4000) := Lib.hid (by have := KK.out.1; have := HL.out; simp only [List.length_singleton]; omega)
        go_wp2_with (at_builtin; refine app_pc rfl _ _ rfl _ _ _ rfl O2.out _ [⟨Q, F, N⟩] rfl R2.out hlen hB2.out.size ?_)
        intro v' w' ho hg hx
        have HN := Lib.hid (Pt.step HH.out (by obtain ⟨x1, x2, x3, x4, x5⟩ := KE.out; rw [x1, x2, x3]; exact ho) KK.out.1 KK.out.2 (by have := hm'.out; omega) (below_app hB2.out hB2.out.size O2.out hg))
        rw [KE.out.2.2.1, KE.out.2.2.2.1, KE.out.2.2.2.2] at HN
        clear ho hg hx
        go_wp2
        go_roundw
        case rel => exact ⟨A, M, _, by go_num, by first | go_num | (have := hM0.out; go_num), rfl, HN⟩
        case measure => have := hm'.out; have := KE.out; simp [intOf]; omega
      · have eN : N = m := by omega
        have hM0 : Hid (M = 0) := Lib.hid (by omega)
        have c1 : ¬ (G : Int) < (m : Int) := by omega
        clear hs b1 b2 k1 k2 k3 k4 hK O1 l1 q1 hQ hF hG hA hM hm HP hN
        subst eN
        obtain ⟨W2, hW2, HW2⟩ := pc_boxed wr ⟨Q, F, N⟩
        have hB2 := Lib.hid (below_more B1.out HW2.out.2)
        have O2 := Lib.hid (HO1.out.below HW2.out.2)
        have R2 : Hid (RA pcE W2 (.slice (some ⟨wr.heap.size, 0, none⟩) 1 1) [⟨Q, F, N⟩]) := Lib.hid (by rw [← hW2]; exact (pc_oneA wr ⟨Q, F, N⟩).ra)
        have hlen : Hid (P.length + [(⟨Q, F, N⟩ : Pc)].length ≤ 4000) := Lib.hid (by have := KK.out.1; have := HL.out; simp only [List.length_singleton]; omega)
        go_wp2_with (at_builtin; refine app_pc rfl _ _ rfl _ _ _ rfl O2.out _ [⟨Q, F, N⟩] rfl R2.out hlen hB2.out.size ?_)
        intro v' w' ho hg hx
        have HN := Lib.hid (Pt.step HH.out (by obtain ⟨x1, x2, x3, x4, x5⟩ := KE.out; rw [x1, x2, x3]; exact ho) KK.out.1 KK.out.2 (by have := hm'.out; omega) (below_app hB2.out hB2.out.size O2.out hg))
        rw [KE.out.2.2.1, KE.out.2.2.2.1, KE.out.2.2.2.2] at HN
        clear ho hg hx
        go_wp2
        go_roundw
        case rel => exact ⟨A, M, _, by go_num, by first | go_num | (have := hM0.out; go_num), rfl, HN⟩
        case measure => have := hm'.out; have := KE.out; simp [intOf]; omega
    · obtain rfl : m = 0 := by omega
      obtain ⟨P, O1, l1, q1⟩ := HP.out.ex
      rw [pcs_zero, List.append_nil] at q1
      subst q1
      have HO1 := Lib.hid O1
      have B1 := Lib.hid HP.out.below
      clear O1
      go_wp2
      go_ret
      exact ⟨⟨_, rfl, HO1.out⟩, B1.out⟩

/-- numbers that Pieces takes -/
def OkP (o n : Int) : Prop := 0 ≤ o ∧ o ≤ 1000000 ∧ 0 ≤ n ∧ n ≤ 448
instance (o n : Int) : Decidable (OkP o n) := inferInstanceAs (Decidable (_ ∧ _))
theorem OkP.nat {o n : Int} (h : OkP o n) : ∃ a b : Nat, o = a ∧ n = b ∧ a ≤ 1000000 ∧ b ≤ 448 := by
  obtain ⟨h1, h2, h3, h4⟩ := h
  exact ⟨o.toNat, n.toNat, by omega, by omega, by omega, by omega⟩
theorem pieces_yes (o n : Nat) (ho : o ≤ 1000000) (hn : n ≤ 448) (w : World) : Calls Try.prog 9 #[.int .i64 o, .int .i64 n] w fun e w' => (∃ v, e = .returned v ∧ OwnA pcE w.heap.size w' v (pcs o n)) ∧ Below w.heap.size w w' := by
  have C := Lib.hid (mayn_yes n (by omega) w)
  have D := Lib.hid (parts_is o n (by omega) hn w)
  have h1 : ¬ (o : Int) < 0 := by omega
  have h3 : ¬ (o : Int) > 1000000 := by omega
  have h5 : ¬ o > 1000000 := by omega
  clear ho hn
  go_enter Try.func9, Try.ntmps9
  go_wp2_with fail
  refine (C.out).mono ?_; rintro e w' ⟨rfl, rfl⟩
  go_wp2_with fail
  refine (D.out).mono ?_; rintro e w' ⟨⟨v, rfl, ho⟩, hb⟩
  have H := Lib.hid (And.intro ho hb)
  clear ho hb
  go_wp2_with fail
  go_ret
  exact ⟨⟨_, rfl, H.out.1⟩, H.out.2⟩
theorem pieces_no (o n : Int) (h : ¬ OkP o n) (w : World) : Calls Try.prog 9 #[.int .i64 o, .int .i64 n] w fun e w' => e = .returned (.slice none 0 0) ∧ w = w' := by
  by_cases h1 : o < 0
  · clear h
    go_enter Try.func9, Try.ntmps9
    go_wp2_with fail
    go_ret
    exact ⟨rfl, rfl⟩
  · by_cases h2 : o > 1000000
    · clear h
      go_enter Try.func9, Try.ntmps9
      go_wp2_with fail
      go_ret
      exact ⟨rfl, rfl⟩
    · have C := Lib.hid (mayn_no n (fun k => h ⟨by omega, by omega, k.1, k.2⟩) w)
      clear h
      go_enter Try.func9, Try.ntmps9
      go_wp2_with fail
      refine (C.out).mono ?_; rintro e w' ⟨rfl, rfl⟩
      go_wp2_with fail
      go_ret
      exact ⟨rfl, rfl⟩
theorem rpieces_no (o n : Int) (h : ¬ OkP o n) (w : World) : Calls Try.prog 10 #[.int .i64 o, .int .i64 n] w fun e w' => e = .returned (.slice none 0 0) ∧ w = w' := by
  by_cases h1 : o < 0
  · clear h
    go_enter Try.func10, Try.ntmps10
    go_wp2_with fail
    go_ret
    exact ⟨rfl, rfl⟩
  · by_cases h2 : n < 0
    · clear h
      go_enter Try.func10, Try.ntmps10
      go_wp2_with fail
      go_ret
      exact ⟨rfl, rfl⟩
    · by_cases h3 : o > 1000000
      · clear h
        go_enter Try.func10, Try.ntmps10
        go_wp2_with fail
        go_ret
        exact ⟨rfl, rfl⟩
      · have h4 : n > 448 := by
          rcases Int.lt_or_le 448 n with k | k
          · exact k
          · exact absurd ⟨by omega, by omega, by omega, k⟩ h
        clear h
        go_enter Try.func10, Try.ntmps10
        go_wp2_with fail
        go_ret
        exact ⟨rfl, rfl⟩
theorem pieces_is (o n : Int) (w : World) : Calls Try.prog 9 #[.int .i64 o, .int .i64 n] w fun e w' => (∃ v, e = .returned v ∧ OwnA pcE w.heap.size w' v (if OkP o n then pcs o.toNat n.toNat else [])) ∧ Below w.heap.size w w' := by
  by_cases h : OkP o n
  · rw [if_pos h]
    obtain ⟨a, b, rfl, rfl, h1, h2⟩ := h.nat
    exact pieces_yes a b h1 h2 w
  · rw [if_neg h]
    exact (pieces_no o n h w).mono fun e w' ⟨h1, h2⟩ => ⟨⟨_, h1, own_nil_a _ _ _⟩, h2 ▸ Below.refl _ _⟩
theorem rpieces_is (o n : Int) (w : World) : Calls Try.prog 10 #[.int .i64 o, .int .i64 n] w fun e w' => (∃ v, e = .returned v ∧ OwnA pcE w.heap.size w' v (if OkP o n then pcs o.toNat n.toNat else [])) ∧ Below w.heap.size w w' := by
  by_cases h : OkP o n
  · rw [if_pos h]
    obtain ⟨a, b, rfl, rfl, h1, h2⟩ := h.nat
    exact rpieces_yes a b h1 h2 w
  · rw [if_neg h]
    exact (rpieces_no o n h w).mono fun e w' ⟨h1, h2⟩ => ⟨⟨_, h1, own_nil_a _ _ _⟩, h2 ▸ Below.refl _ _⟩
end Go.Proofs.Ytnlhjppjgjobkaa
