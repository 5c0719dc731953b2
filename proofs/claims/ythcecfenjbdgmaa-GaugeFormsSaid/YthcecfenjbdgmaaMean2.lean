/-
  Contracts of package mean's Of, Variance, Ratio and Uneven: what each tells, in words of whole numbers.
-/
import Derived.Test.YthcecfenjbdgmaaMean
namespace Go.Proofs.Ythcecfenjbdgmaa
set_option maxRecDepth 100000
open D Go.RowKit

@[go_sem] theorem floatOf (n : Nat) : floatOfInt .f64 ((n : Nat) : Int) = W n := by
  show Ieee.double.nearest (decide (((n : Nat) : Int) < 0)) ((n : Nat) : Int).natAbs 0 = W n
  rw [decide_eq_false (by omega), Int.natAbs_natCast, nearest_W]
theorem W_lt (n : Nat) : W n < 2 ^ 64 := Nat.lt_of_le_of_lt (W_inf n) (by decide)
theorem infB_small {b : Nat} (h : b < inf) : infB b = false := by
  unfold infB; unfold inf at *
  rw [rung_small (by omega)]; simp; omega
theorem W_pos {n : Nat} (h : 1 ≤ n) : 0 < W n := by
  have := W_mono h (by decide)
  rw [W_one] at this; omega
theorem divR_some {x y q : Nat} (h : Ieee.double.div x y = some q) (hy : 0 < y) (hy2 : y < 2 ^ 63) (hq : q < inf) : divR x y = some q := by
  unfold divR
  rw [rung_small hy2, if_neg (by omega), h]
  simp only [nan_small (Nat.le_of_lt hq), infB_small hq, Bool.or_self, Bool.false_eq_true, if_false]
theorem lt63 {x : Nat} (h : x ≤ inf) : x < 2 ^ 63 := by unfold inf at h; omega
theorem byV_Q {a b : Nat} (ha : a ≤ 2 ^ 60) (hb : 1 ≤ b) (hb2 : b ≤ 2 ^ 60) : byV (W a) (W b) = Q a b := by
  unfold byV
  rw [divR_some (div_Q ha hb hb2) (W_pos hb) (lt63 (W_inf b)) (Q_fin ha hb hb2)]
theorem gt0_W (a : Nat) : gt0 (W a) = decide (0 < a) := by
  unfold gt0
  rw [gtr_key, nan_small (W_inf a), nan_zero, key_zero, key_small (lt63 (W_inf a))]
  by_cases h : 0 < a
  · have := W_pos h
    rw [decide_eq_true h]; simp; omega
  · obtain rfl : a = 0 := by omega
    rw [W_zero]; rfl
theorem divR_zero (x : Nat) : divR x 0 = none := by unfold divR; rw [if_pos (by decide)]
theorem byV_zero (a : Nat) : byV (W a) 0 = if a = 0 then nanW else infW := by
  unfold byV
  rw [divR_zero, gt0_W]
  by_cases h : a = 0
  · subst h; rfl
  · rw [if_neg h, decide_eq_true (by omega)]; rfl
theorem div_nan (x : Nat) : Ieee.double.div x nanW = none := by
  have e : Ieee.double.read nanW = .nan false (nanW - inf) := by decide
  unfold Ieee.Format.div
  rw [e]
  cases Ieee.double.read x <;> rfl
theorem byV_nan (x : Nat) : byV x nanW = nanW := by
  unfold byV divR
  rw [div_nan, if_neg (by decide)]
  have : decide (rung nanW = 0) = false := by decide
  simp only [this, Bool.and_false, Bool.false_eq_true, if_false]

theorem ofV_eq {m : List Nat} (h : ∀ x ∈ m, x ≤ 1000000) (hl : m.length ≤ 200) : byV (W (S m)) (W m.length) = ofV m := by
  unfold ofV
  have hS := S_bound h (by omega)
  by_cases h0 : m.length = 0
  · rw [if_pos (.inl h0)]
    have : m = [] := List.eq_nil_of_length_eq_zero h0
    subst this
    show byV (W 0) (W 0) = nanW
    rw [W_zero]; exact (byV_zero 0).trans rfl
  · rw [if_neg (by omega)]
    exact byV_Q (by omega) (by omega) (by omega)
theorem varV_eq {m : List Nat} (h : ∀ x ∈ m, x ≤ 1000000) (hl : m.length ≤ 200) : byV (W (spr m)) (W (m.length * m.length)) = varV m := by
  unfold varV
  have hS := spr_bound h hl
  by_cases h0 : m.length = 0
  · rw [if_pos (.inl h0)]
    have : m = [] := List.eq_nil_of_length_eq_zero h0
    subst this
    show byV (W 0) (W 0) = nanW
    rw [W_zero]; exact (byV_zero 0).trans rfl
  · rw [if_neg (by omega)]
    have := len_sq (by omega) hl
    exact byV_Q hS (by omega) (by omega)
theorem ratV_eq {a b : Nat} (ha : a ≤ 1000000) (hb : b ≤ 1000000) : byV (W a) (W b) = ratV a b := by
  unfold ratV
  by_cases h : b = 0
  · rw [if_pos h]; subst h; rw [W_zero]; exact byV_zero a
  · rw [if_neg h]; exact byV_Q (by omega) (by omega) (by omega)
theorem Q_zero_byV (n : Nat) : byV (W 0) (Q 0 n) = nanW := by rw [Q_zero]; exact byV_zero 0
theorem top_bound {m : List Nat} (h : ∀ x ∈ m, x ≤ 1000000) : top m ≤ 1000000 := top_le h
theorem of_mid {m : List Nat} (h : ∀ x ∈ m, x ≤ 1000000) (h0 : 0 < m.length) (hl : m.length ≤ 200) (hS : 0 < S m) : mid (Q (S m) m.length) :=
  Q_mid hS (by have := S_bound h (by omega); omega) h0 (by omega)
theorem un_quo {m : List Nat} (h : ∀ x ∈ m, x ≤ 1000000) (h0 : 0 < m.length) (hl : m.length ≤ 200) (hS : 0 < S m) :
    Ieee.double.div (W (top m)) (Q (S m) m.length) = some (qr (W (top m)) (Q (S m) m.length)) ∧ qr (W (top m)) (Q (S m) m.length) < inf := by
  have h1 : mid (W (top m)) := W_mid' (top_pos hS) (by have := top_bound h; omega)
  have h2 := of_mid h h0 hl hS
  exact ⟨div_mid h1 h2, qr_fin h1 h2⟩
theorem unV_eq {m : List Nat} (h : ∀ x ∈ m, x ≤ 1000000) : byV (W (top m)) (ofV m) = unV m := by
  unfold unV ofV
  by_cases h0 : m.length = 0
  · rw [if_pos (.inl h0), if_pos (.inl h0), byV_nan]
  by_cases h1 : 200 < m.length
  · rw [if_pos (.inr h1), if_pos (.inr (.inl h1)), byV_nan]
  rw [if_neg (by omega)]
  by_cases hS : S m = 0
  · rw [if_pos (.inr (.inr hS)), top_zero hS, hS, Q_zero_byV]
  · rw [if_neg (by omega)]
    obtain ⟨h2, h3⟩ := un_quo h (by omega) (by omega) (by omega)
    unfold byV
    have h4 := of_mid h (by omega) (by omega) (by omega)
    rw [divR_some h2 (mid_pos h4) (lt63 (Nat.le_of_lt (mid_lt h4))) h3]

theorem ofV_le (m : List Nat) : ofV m < 2 ^ 64 := by
  unfold ofV Q; split
  · decide
  · split
    · decide
    · exact Nat.lt_of_le_of_lt (rn_inf _ _) (by decide)
theorem varV_le (m : List Nat) : varV m < 2 ^ 64 := by
  unfold varV Q; split
  · decide
  · split
    · decide
    · exact Nat.lt_of_le_of_lt (rn_inf _ _) (by decide)
theorem unV_le (m : List Nat) : unV m < 2 ^ 64 := by
  unfold unV; split
  · decide
  · exact Nat.lt_of_le_of_lt (rn_inf _ _) (by decide)
theorem ratV_le (a b : Nat) : ratV a b < 2 ^ 64 := by
  unfold ratV Q; split
  · split <;> decide
  · split
    · decide
    · exact Nat.lt_of_le_of_lt (rn_inf _ _) (by decide)

theorem ri_shape {w : World} {v : Value} {l : List Int} (h : RIm w v l) : ∃ p c, v = .slice p l.length c := by
  obtain ⟨p, c, rfl, _⟩ := h; exact ⟨p, c, rfl⟩

theorem mof_any (v : Value) (l : List Int) (w : World) (h : RIm w v l) (hm : l.length ≤ maxLen) :
    Calls Try.prog 47 #[v] w fun e w' => e = .returned (.float .f64 (ofV (held l))) ∧ ∃ n, w' = w.drewN n := by
  unfold maxLen at hm
  have hh := held_length l
  by_cases h1 : l.length ≤ 200
  · have G := Lib.hid (sums_rd v l w h (by omega))
    have E := Lib.hid (ofV_eq (held_le l) (by omega))
    rw [hh] at E
    obtain ⟨p, c, rfl⟩ := ri_shape h
    have B := Lib.hid (fun w => by_any _ _ (W_lt (S (held l))) (W_lt l.length) w)
    clear h hh
    go_enter Try.func47, Try.ntmps47
    go_wp2_with fail
    refine G.out.mono ?_; rintro e w' ⟨rfl, rfl⟩
    go_wp2_with fail
    refine (B.out _).mono ?_; rintro e w' ⟨rfl, n, rfl⟩
    go_wp2_with fail
    go_ret
    exact ⟨ret_f64 E.out, n, rfl⟩
  · have E := Lib.hid (show ofV (held l) = nanW by unfold ofV; rw [if_pos (by omega)])
    obtain ⟨p, c, rfl⟩ := ri_shape h
    clear h hh
    go_enter Try.func47, Try.ntmps47
    go_wp2_with fail
    refine (nan_any _).mono ?_; rintro e w' ⟨rfl, rfl⟩
    go_wp2_with fail
    go_ret
    exact ⟨ret_f64 E.out.symm, 0, rfl⟩

theorem cast_spr (m : List Nat) : (((m.length * Sq m : Nat) : Int) - ((S m * S m : Nat) : Int)) = ((spr m : Nat) : Int) := by
  have := spr_le m
  unfold spr; omega


theorem mrat_any (a b : Int) (w : World) : Calls Try.prog 26 #[.int .i64 a, .int .i64 b] w fun e w' => e = .returned (.float .f64 (ratV (hn a) (hn b))) ∧ ∃ n, w' = w.drewN n := by
  have E := Lib.hid (ratV_eq (hn_le a) (hn_le b))
  have B := Lib.hid (fun w => by_any _ _ (W_lt (hn a)) (W_lt (hn b)) w)
  have G := Lib.hid (bring_any a)
  have H := Lib.hid (bring_any b)
  generalize hn a = x at *
  generalize hn b = y at *
  go_enter Try.func26, Try.ntmps26
  go_wp2_with fail
  refine (G.out _).mono ?_; rintro e w' ⟨rfl, rfl⟩
  go_wp2_with fail
  refine (H.out _).mono ?_; rintro e w' ⟨rfl, rfl⟩
  go_wp2_with fail
  refine (B.out _).mono ?_; rintro e w' ⟨rfl, n, rfl⟩
  go_wp2_with fail
  go_ret
  exact ⟨ret_f64 E.out, n, rfl⟩

theorem ri_drew {w : World} {v : Value} {l : List Int} (h : RIm w v l) (n : Nat) : RIm (w.drewN n) v l := by
  obtain ⟨p, cap, rfl, h | ⟨b, off, rfl, hc⟩⟩ := h
  · exact ⟨p, cap, rfl, .inl h⟩
  · exact ⟨_, cap, rfl, .inr ⟨b, off, rfl, hc⟩⟩
theorem rim_below {w w' : World} {v : Value} {l : List Int} (h : RIm w v l) (hb : Below w.heap.size w w') : RIm w' v l := by
  obtain ⟨p, cap, rfl, h | ⟨b, off, rfl, hc⟩⟩ := h
  · exact ⟨p, cap, rfl, .inl h⟩
  · refine ⟨_, cap, rfl, .inr ⟨b, off, rfl, fun i hi => ?_⟩⟩
    have := hc i hi
    rw [hb.cell (World.block_lt_of_cell? w _ this)]; exact this

theorem mun_any (v : Value) (l : List Int) (w : World) (h : RIm w v l) (hm : l.length ≤ maxLen) :
    Calls Try.prog 36 #[v] w fun e w' => e = .returned (.float .f64 (unV (held l))) ∧ ∃ n, w' = w.drewN n := by
  have G := Lib.hid (greatest_rd v l w h hm)
  have O := Lib.hid (mof_any v l w h hm)
  have E := Lib.hid (unV_eq (held_le l))
  have B := Lib.hid (fun w => by_any _ _ (W_lt (top (held l))) (ofV_le (held l)) w)
  obtain ⟨p, cap, rfl⟩ := ri_shape h
  clear h
  generalize top (held l) = x at *
  generalize ofV (held l) = y at *
  go_enter Try.func36, Try.ntmps36
  go_wp2_with fail
  refine G.out.mono ?_; rintro e w' ⟨rfl, rfl⟩
  go_wp2_with fail
  refine O.out.mono ?_; rintro e w' ⟨rfl, n, rfl⟩
  go_wp2_with fail
  refine (B.out _).mono ?_; rintro e w' ⟨rfl, k, rfl⟩
  go_wp2_with fail
  go_ret
  exact ⟨ret_f64 E.out, _, rfl⟩
end Go.Proofs.Ythcecfenjbdgmaa
