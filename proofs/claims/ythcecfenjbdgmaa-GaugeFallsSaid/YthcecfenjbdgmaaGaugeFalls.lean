/-
  Life only falls, and the worst one is none's more: with each write of a line its life is no more; it is nought, without a sign, just when the line lasts no longer. No conditions.
-/
import Derived.Test.YthcecfenjbdgmaaGua
namespace Go.Proofs.Ythcecfenjbdgmaa.gaugeFalls
set_option maxRecDepth 100000
open Go.Proofs.Ythcecfenjbdgmaa Go.Proofs.Ythcecfenjbdgmaa.D Go.ChangeShapes Go.WideShapes Go.ChangeAt Go.RowKit

theorem Q_mono {a b c : Nat} (hab : a ≤ b) (hbc : b ≤ c) (hc : 1 ≤ c) (hc2 : c ≤ 2 ^ 20) : Q a c ≤ Q b c := by
  rcases Nat.lt_or_ge a b with h | h
  · obtain ⟨_, x1, _⟩ := part_grid (a := a) (b := c) (by omega) hc hc2
    obtain ⟨y1, _, _⟩ := part_grid (a := b) (b := c) hbc hc hc2
    refine val_le.1 (Nat.le_trans x1 (Nat.le_trans (Nat.mul_le_mul_right _ ?_) y1))
    -- a place of the grid between both
    have g : (a * 2 ^ 40 + c) / c ≤ b * 2 ^ 40 / c := by
      refine Nat.div_le_div_right ?_
      have : (a + 1) * 2 ^ 40 ≤ b * 2 ^ 40 := Nat.mul_le_mul_right _ h
      omega
    rw [Nat.add_div_right _ (by omega)] at g
    exact g
  · obtain rfl : a = b := by omega
    exact Nat.le_refl _
theorem rk_small {b : Nat} (h : b ≤ inf) : rk b = (b : Int) := by
  have h2 : b < 2 ^ 63 := lt63 h
  unfold rk; rw [nan_small h, sgn_small h2, rung_small h2]; simp
theorem life_nat (x n : Nat) (hn : n ≤ 1000000) : lifeV (x : Int) (n : Int) = if n ≤ x then 0 else Q (n - x) n := by
  unfold lifeV
  rw [if_neg (by omega)]
  by_cases h : n ≤ x
  · rw [if_pos (by omega), if_pos h]
  · rw [if_neg (by omega), if_neg h, show (n : Int) - max (x : Int) 0 = ((n - x : Nat) : Int) by omega, hn_small hn, hn_small (by omega)]
    unfold ratV; rw [if_neg (by omega)]
theorem life_le (x n : Nat) (hn : n ≤ 1000000) : lifeV (x : Int) (n : Int) ≤ one := by
  rw [life_nat x n hn]
  split
  · exact Nat.zero_le _
  · exact (part_one (by omega) (by omega) (by omega)).1
theorem life_falls (x m n : Nat) (hn : n ≤ 1000000) : lifeV ((x : Int) + (m : Int)) (n : Int) ≤ lifeV (x : Int) (n : Int) := by
  rw [show (x : Int) + (m : Int) = ((x + m : Nat) : Int) by omega, life_nat _ n hn, life_nat _ n hn]
  by_cases h : n ≤ x + m
  · rw [if_pos h]; exact Nat.zero_le _
  · rw [if_neg h, if_neg (by omega)]
    exact Q_mono (by omega) (by omega) (by omega) (by omega)
theorem life_zero (x n : Nat) (hn : n ≤ 1000000) : lifeV (x : Int) (n : Int) = 0 ↔ n ≤ x := by
  rw [life_nat x n hn]
  by_cases h : n ≤ x
  · simp [h]
  · rw [if_neg h]
    refine ⟨fun e => ?_, fun e => absurd e h⟩
    have := (part_one (a := n - x) (b := n) (by omega) (by omega) (by omega)).2.2.1 e
    omega
theorem one_inf : one ≤ inf := by decide
theorem cmp3_le {x y : Int} (h : x ≤ y) : cmp3 x y ≤ 0 := by
  unfold cmp3; split
  · omega
  · split <;> omega
theorem cmp3_ge {x y : Int} (h : y ≤ x) : 0 ≤ cmp3 x y := by
  unfold cmp3; split
  · omega
  · split <;> omega

/-- the numbers that the first part asks about -/
theorem first (x m n : Nat) (hn : n ≤ 1000000) : ∃ a b : Nat, ∃ c1 c2 c4 : Int, ∃ z : Bool, lifeV (x : Int) (n : Int) = a ∧ lifeV ((x : Int) + (m : Int)) (n : Int) = b ∧ a < 2 ^ 64 ∧ b < 2 ^ 64 ∧
    cmp3 (rk b) (rk a) = c1 ∧ c1 ≤ 0 ∧ cmp3 (rk a) (rk 0) = c2 ∧ 0 ≤ c2 ∧ decide (rk a = rk 0) = z ∧ z = decide ((n : Int) ≤ (x : Int)) ∧ cmp3 (rk a) (rk 4607182418800017408) = c4 ∧ c4 ≤ 0 := by
  have h1 := life_le x n hn
  have h2 := life_falls x m n hn
  have h3 := life_zero x n hn
  have ho := one_inf
  have ra := rk_small (Nat.le_trans h1 ho)
  have rb := rk_small (Nat.le_trans (Nat.le_trans h2 h1) ho)
  have r0 : rk 0 = 0 := by decide
  have r1 : rk 4607182418800017408 = (one : Int) := rk_small ho
  refine ⟨_, _, _, _, _, _, rfl, rfl, lifeV_lt _ _, lifeV_lt _ _, rfl, cmp3_le (by rw [ra, rb]; omega), rfl, cmp3_ge (by rw [ra, r0]; omega), rfl, ?_, rfl, cmp3_le (by rw [ra, r1]; omega)⟩
  rw [ra, r0]
  refine decide_eq_decide.2 ⟨fun e => ?_, fun e => ?_⟩
  · have := h3.1 (by omega); omega
  · have := h3.2 (by omega); omega
/-- the worst one is one of them, and is none's more -/
theorem worst_in (l m : List Int) (h : 0 < l.length) : ∃ j, j < l.length ∧ minV (lvs l m) = lifeV (l.getD j 0) (limAt m j) ∧ ∀ i, i < l.length → rk (minV (lvs l m)) ≤ rk (lifeV (l.getD i 0) (limAt m i)) := by
  have hl := lvs_length l m
  have e : minV (lvs l m) = minAt (lvs l m) ((lvs l m).length - 1) := by unfold minV; rw [if_neg (by omega)]
  obtain ⟨j, hj, ej⟩ := minAt_mem (lvs l m) ((lvs l m).length - 1)
  refine ⟨j, by omega, by rw [e, ej, lvs_at (by omega)], fun i hi => ?_⟩
  have := minAt_le (lvs l m) ((lvs l m).length - 1) i (by omega)
  rw [e, ← lvs_at hi]; exact this

theorem long (x y z : Int) (p q : Option Addr) (n c k d : Nat) (w : World) (h : n < 1 ∨ 100 < n ∨ (1 ≤ n ∧ n ≤ 100 ∧ 100 < k)) :
    Calls Try.prog 4 #[.int .i64 x, .int .i64 y, .int .i64 z, .slice p n c, .slice q k d] w fun e w' => e = .returned (.bool true) ∧ Below w.heap.size w w' := by
  rcases h with h | h | ⟨h1, h2, h3⟩
  · have i1 : (n : Int) < 1 := by omega
    go_enter Try.func4, Try.ntmps4
    go_wp2_with fail
    refine (awake_any _).mono ?_; rintro e w' ⟨rfl, hb⟩
    go_wp2_with fail
    go_ret
    exact ⟨rfl, hb⟩
  · have i1 : ¬ (n : Int) < 1 := by omega
    have i2 : (100 : Int) < (n : Int) := by omega
    go_enter Try.func4, Try.ntmps4
    go_wp2_with fail
    refine (awake_any _).mono ?_; rintro e w' ⟨rfl, hb⟩
    go_wp2_with fail
    go_ret
    exact ⟨rfl, hb⟩
  · have i1 : ¬ (n : Int) < 1 := by omega
    have i2 : ¬ (100 : Int) < (n : Int) := by omega
    have i3 : (100 : Int) < (k : Int) := by omega
    go_enter Try.func4, Try.ntmps4
    go_wp2_with fail
    refine (awake_any _).mono ?_; rintro e w' ⟨rfl, hb⟩
    go_wp2_with fail
    go_ret
    exact ⟨rfl, hb⟩

set_option maxHeartbeats 4000000 in
theorem short (x y z : Int) (v u : Value) (l m : List Int) (w : World) (hv : IntsIn .i64 w v l) (hu : IntsIn .i64 w u m) (hl0 : 1 ≤ l.length) (hl : l.length ≤ 100) (hm : m.length ≤ 100) :
    Calls Try.prog 4 #[.int .i64 x, .int .i64 y, .int .i64 z, v, u] w fun e w' => e = .returned (.bool true) ∧ Below w.heap.size w w' := by
  obtain ⟨x', hx, _⟩ := u64_nat x
  obtain ⟨y', hy, _⟩ := u64_nat y
  obtain ⟨z', hz, _⟩ := u64_nat z
  obtain ⟨X, hX⟩ : ∃ X, X = x' % 1000000 := ⟨_, rfl⟩
  obtain ⟨Y, hY⟩ : ∃ Y, Y = y' % 1000000 := ⟨_, rfl⟩
  obtain ⟨Z, hZ⟩ : ∃ Z, Z = z' % 1000 := ⟨_, rfl⟩
  have X1 : X < 1000000 := by omega
  have Y1 : Y < 1000000 := by omega
  have Z1 : Z < 1000 := by omega
  have t1 : (x' : Int).tmod 1000000 = (X : Int) := by have h := tmod_nat x' 1000000; rw [show ((1000000 : Nat) : Int) = 1000000 from rfl] at h; omega
  have t2 : (y' : Int).tmod 1000000 = (Y : Int) := by have h := tmod_nat y' 1000000; rw [show ((1000000 : Nat) : Int) = 1000000 from rfl] at h; omega
  have t3 : (z' : Int).tmod 1000 = (Z : Int) := by have h := tmod_nat z' 1000; rw [show ((1000 : Nat) : Int) = 1000 from rfl] at h; omega
  have k1 : IntKind.i64.wrap (X : Int) = (X : Int) := isN _ (by omega) (by omega)
  have k2 : IntKind.i64.wrap (Y : Int) = (Y : Int) := isN _ (by omega) (by omega)
  have k3 : IntKind.i64.wrap (Z : Int) = (Z : Int) := isN _ (by omega) (by omega)
  have k4 : IntKind.i64.wrap ((X : Int) + (Z : Int)) = (X : Int) + (Z : Int) := isN _ (by omega) (by omega)
  obtain ⟨a, b, c1, c2, c4, zz, e1, e2, e3, e4, e5, e6, e7, e8, e9, e10, e11, e12⟩ := first X Z Y (by omega)
  have F1 := Lib.hid (fun w => life_w (X : Int) (Y : Int) a w e1 (i64_of (by omega) (by omega)) (i64_of (by omega) (by omega)))
  have F2 := Lib.hid (fun w => life_w ((X : Int) + (Z : Int)) (Y : Int) b w e2 (i64_of (by omega) (by omega)) (i64_of (by omega) (by omega)))
  have D1 := Lib.hid (cmp_is' b a e4 e3 c1 e5)
  have D2 := Lib.hid (cmp_is' a 0 e3 (by decide) c2 e7)
  have D3 := Lib.hid (same_is a 0 e3 (by decide) zz e9)
  have D4 := Lib.hid (cmp_is' a 4607182418800017408 e3 (by decide) c4 e11)
  have EZ := Lib.hid e10
  obtain ⟨j0, w1, w2, w3⟩ := worst_in l m (by omega)
  have WS := Lib.hid (fun w1 (hb : Below w.heap.size w w1) => worst_is v u l m w1 (ri_below (ri_in hv) hb) (ri_below (ri_in hu) hb) (by omega) (in_wf hv) (in_wf hu))
  have ML := Lib.hid (worst_lt l m)
  obtain ⟨M, hM⟩ : ∃ M, minV (lvs l m) = M := ⟨_, rfl⟩
  rw [hM] at WS ML w2 w3
  have HV := Lib.hid (ri_in hv)
  have HU := Lib.hid (ri_in hu)
  have WL := Lib.hid (in_wf hv)
  have WM := Lib.hid (in_wf hu)
  have W2 := Lib.hid w2
  have W3 := Lib.hid w3
  have W1 := Lib.hid w1
  have HN : Hid (l.length ≤ 100) := Lib.hid hl
  have B0 := Lib.hid (Below.refl w.heap.size w)
  have i1 : ¬ (l.length : Int) < 1 := by omega
  have i2 : ¬ (100 : Int) < (l.length : Int) := by omega
  have i3 : ¬ (100 : Int) < (m.length : Int) := by omega
  have g1 : ¬ 0 < c1 := by omega
  have g2 : ¬ c2 < 0 := by omega
  have g4 : ¬ 0 < c4 := by omega
  have g3 : zz = decide (Y ≤ X) := by rw [e10]; exact decide_eq_decide.2 ⟨fun _ => by omega, fun _ => by omega⟩
  obtain ⟨p, c, rfl, hcut⟩ := hv
  clear hcut
  obtain ⟨q, d, rfl, hcut⟩ := hu
  clear hcut hX hY hZ e1 e2 e3 e4 e5 e7 e9 e10 e11 w1 w2 w3 hM hl0 hl hm
  go_enter Try.func4, Try.ntmps4
  go_wp2_with fail
  refine (F1.out _).mono ?_; rintro e w1 ⟨rfl, hb⟩
  have B1 := Lib.hid (below_more B0.out hb)
  clear hb
  go_wp2_with fail
  refine (F2.out _).mono ?_; rintro e w2 ⟨rfl, hb⟩
  have B2 := Lib.hid (below_more B1.out hb)
  clear hb
  go_wp2_with fail
  refine (D1.out _).mono ?_; rintro e w' ⟨rfl, rfl⟩
  go_wp2_with fail
  refine (D2.out _).mono ?_; rintro e w' ⟨rfl, rfl⟩
  go_wp2_with fail
  refine (D3.out _).mono ?_; rintro e w' ⟨rfl, rfl⟩
  go_wp2_with fail
  refine (D4.out _).mono ?_; rintro e w' ⟨rfl, rfl⟩
  go_wp2_with fail
  refine (WS.out _ B2.out).mono ?_; rintro e w3 ⟨rfl, hb⟩
  have B3 := Lib.hid (below_more B2.out hb)
  clear hb WS F1 F2 D1 D2 D3 D4 B2 B1
  clear hx hy hz t1 t2 t3 k1 k2 k3 k4 e6 e8 e12 g1 g2 g3 g4 EZ
  go_wp2
  go_loopw [14, 15, 16, 17, 18, 80] (fun z _ _ _ _ i wr => ∃ (k : Nat) (tb : Bool), k ≤ l.length ∧ i = .int .i64 k ∧ z = .bool tb ∧ Hid ((j0 < k → tb = true) ∧ Below w.heap.size w wr)) (fun _ _ _ _ _ i _ => l.length - (intOf i).toNat)
  case atStart => exact ⟨0, false, Nat.zero_le _, rfl, rfl, Lib.hid ⟨fun h => absurd h (Nat.not_lt_zero _), B3.out⟩⟩
  case round =>
    obtain ⟨k, tb, hk, rfl, rfl, H⟩ := hrel
    by_cases hlt : k < l.length
    · have j1 : IntKind.i64.wrap ((k : Int) + 1) = ((k + 1 : Nat) : Int) := by rw [show (k : Int) + 1 = ((k + 1 : Nat) : Int) by omega]; exact i64_nat _ (by have := HN.out; omega)
      obtain ⟨b1, off1, rfl, _, hc⟩ := ri_some (ri_below HV.out H.out.2) (by omega)
      have c1 := hc k hlt
      have i4 : (0 : Int) ≤ (k : Int) := by omega
      have i5 : (k : Int) < (l.length : Int) := by omega
      have i6 : ¬ (k : Int) < 0 := by omega
      clear hc
      have hwy := at_wf WL.out hlt
      have hwn := limAt_wf WM.out k
      obtain ⟨zk, hz7⟩ : ∃ zk, lifeV (l.getD k 0) (limAt m k) = zk := ⟨_, rfl⟩
      have hzl : zk < 2 ^ 64 := by rw [← hz7]; exact lifeV_lt _ _
      have hc5 : cmp3 (rk M) (rk zk) ≤ 0 := by rw [← hz7]; exact cmp3_le (W3.out k hlt)
      obtain ⟨c5, h5⟩ : ∃ c5, cmp3 (rk M) (rk zk) = c5 := ⟨_, rfl⟩
      obtain ⟨tz, hz6⟩ : ∃ tz, decide (rk M = rk zk) = tz := ⟨_, rfl⟩
      have K1 := Lib.hid (cmp_is' M zk ML.out hzl c5 h5)
      have K2 := Lib.hid (same_is M zk ML.out hzl tz hz6)
      have N2 : Hid ((j0 < k → false = true) → j0 < k + 1 → tz = true) := Lib.hid fun h h2 => by
        by_cases hj : j0 < k
        · exact absurd (h hj) (by decide)
        · obtain rfl : j0 = k := by omega
          rw [← hz6, ← hz7, W2.out]; simp
      rw [h5] at hc5
      have g5 : ¬ 0 < c5 := by omega
      clear h5 hz6 hzl hc5
      by_cases hkm : k < m.length
      · have el : limAt m k = m.getD k 0 := by unfold limAt; rw [if_pos hkm]
        obtain ⟨b2, off2, rfl, _, hc⟩ := ri_some (ri_below HU.out H.out.2) (by omega)
        have c2 := hc k hkm
        have i7 : (k : Int) < (m.length : Int) := by omega
        rw [el] at hwn hz7
        clear hc el
        generalize l.getD k 0 = yy at *
        generalize m.getD k 0 = nn at *
        have F := Lib.hid (life_w yy nn zk wr hz7 hwy hwn)
        clear hz7 hwy hwn
        cases tb
        · go_wp2_with fail
          refine F.out.mono ?_; rintro e w4 ⟨rfl, hb⟩
          have HB := Lib.hid (below_more (H.out.2) hb)
          clear hb
          go_wp2_with fail
          refine (K1.out _).mono ?_; rintro e w' ⟨rfl, rfl⟩
          go_wp2_with fail
          refine (K2.out _).mono ?_; rintro e w' ⟨rfl, rfl⟩
          go_wp2
          exact ⟨⟨k + 1, _, by omega, by go_num, rfl, Lib.hid ⟨N2.out H.out.1, HB.out⟩⟩, by simp [intOf]; omega⟩
        · go_wp2_with fail
          refine F.out.mono ?_; rintro e w4 ⟨rfl, hb⟩
          have HB := Lib.hid (below_more (H.out.2) hb)
          clear hb
          go_wp2_with fail
          refine (K1.out _).mono ?_; rintro e w' ⟨rfl, rfl⟩
          go_wp2
          exact ⟨⟨k + 1, _, by omega, by go_num, rfl, Lib.hid ⟨fun _ => rfl, HB.out⟩⟩, by simp [intOf]; omega⟩
      · have el : limAt m k = -1 := by unfold limAt; rw [if_neg hkm]
        have i7 : ¬ (k : Int) < (m.length : Int) := by omega
        rw [el] at hwn hz7
        clear el
        generalize l.getD k 0 = yy at *
        have F := Lib.hid (life_w yy (-1) zk wr hz7 hwy hwn)
        clear hz7 hwy hwn
        cases tb
        · go_wp2_with fail
          refine F.out.mono ?_; rintro e w4 ⟨rfl, hb⟩
          have HB := Lib.hid (below_more (H.out.2) hb)
          clear hb
          go_wp2_with fail
          refine (K1.out _).mono ?_; rintro e w' ⟨rfl, rfl⟩
          go_wp2_with fail
          refine (K2.out _).mono ?_; rintro e w' ⟨rfl, rfl⟩
          go_wp2
          exact ⟨⟨k + 1, _, by omega, by go_num, rfl, Lib.hid ⟨N2.out H.out.1, HB.out⟩⟩, by simp [intOf]; omega⟩
        · go_wp2_with fail
          refine F.out.mono ?_; rintro e w4 ⟨rfl, hb⟩
          have HB := Lib.hid (below_more (H.out.2) hb)
          clear hb
          go_wp2_with fail
          refine (K1.out _).mono ?_; rintro e w' ⟨rfl, rfl⟩
          go_wp2
          exact ⟨⟨k + 1, _, by omega, by go_num, rfl, Lib.hid ⟨fun _ => rfl, HB.out⟩⟩, by simp [intOf]; omega⟩
    · obtain rfl : k = l.length := by omega
      obtain rfl : tb = true := H.out.1 W1.out
      go_wp2_with fail
      refine (awake_any _).mono ?_; rintro e w5 ⟨rfl, hb⟩
      go_wp2_with fail
      go_ret
      exact ⟨rfl, below_more H.out.2 hb⟩

theorem walk (a0 a1 a2 : Int) (l3 : List Int) (v3 : Value) (l4 : List Int) (v4 : Value) (w : World) (_ : (Lit.int .i64 a0).wf = true) (_ : (Lit.int .i64 a1).wf = true) (_ : (Lit.int .i64 a2).wf = true) (w3 : IntsIn .i64 w v3 l3) (w4 : IntsIn .i64 w v4 l4) :
    Calls Try.prog 4 #[.int .i64 a0, .int .i64 a1, .int .i64 a2, v3, v4] w fun e w' => e = .returned (.bool true) ∧ Below w.heap.size w w' := by
  by_cases h : 1 ≤ l3.length ∧ l3.length ≤ 100 ∧ l4.length ≤ 100
  · exact short a0 a1 a2 v3 v4 l3 l4 w w3 w4 h.1 h.2.1 h.2.2
  · have h' : l3.length < 1 ∨ 100 < l3.length ∨ (1 ≤ l3.length ∧ l3.length ≤ 100 ∧ 100 < l4.length) := by omega
    obtain ⟨p, c, rfl, _⟩ := w3
    obtain ⟨q, d, rfl, _⟩ := w4
    exact long a0 a1 a2 p q _ c _ d w h'

set_option maxRecDepth 100000 in
theorem lifted (os : Os) (started : os.Started) (H : Type) (enc : TypeId × Value → H) :
    ReturnsInHanded {} Try.checked os 4 .any (Rows.gaugeFallsSpec.pre6 enc Try.prog Try.f4 Rows.gaugeFallsRow.domain false) (Rows.gaugeFallsSpec.post enc Try.prog Try.f4 false true false false) := by
  refine returnsInHanded_of_change (C := Try.checked) own started (by kernel_rfl) Try.func4
    (ChangeSpec.witness6 (enc := enc) (C := Try.checked) false ⟨#[], #[.int .i64 0, .int .i64 0, .int .i64 0, .slice none 0 0, .slice none 0 0], []⟩ 8 (by kernel_rfl) (by kernel_rfl) (by kernel_rfl) (by kernel_rfl)) ?_
  intro W base args ds gs before hval0 hW hcnd _
  have hval : ∀ (j : Nat) t v, Try.f4.params[j]? = some t → args[j]? = some v → Value.okWide Try.prog W .any base t v := hval0
  have hW' := hW
  have hlt := hW.lt
  obtain ⟨p, q, hA0, hV, hpq, hfz, hnd⟩ := hW
  have hA : DataW.TrodAll enc Try.prog W 0 (fun _ => true) true Try.f4.params.toList args.toList ds p := hA0
  rw [Try.params4] at hA hval
  obtain ⟨v0, vs0, d0, ds0, p0, q0, hargs, rfl, hp, h0, r0⟩ := trodAll_cons hA
  obtain ⟨v1, vs1, d1, ds1, p1, q1, rfl, rfl, rfl, h1, r1⟩ := trodAll_cons r0
  obtain ⟨v2, vs2, d2, ds2, p2, q2, rfl, rfl, rfl, h2, r2⟩ := trodAll_cons r1
  obtain ⟨v3, vs3, d3, ds3, p3, q3, rfl, rfl, rfl, h3, r3⟩ := trodAll_cons r2
  obtain ⟨v4, vs4, d4, ds4, p4, q4, rfl, rfl, rfl, h4, r4⟩ := trodAll_cons r3
  obtain ⟨rfl, rfl, rfl⟩ := trodAll_nil r4
  obtain rfl : args = #[v0, v1, v2, v3, v4] := by cases args; simp_all
  obtain ⟨rfl, rfl⟩ := trodVars_none hV
  have hlt' : ∀ x ∈ before, x.block < W.heap.size := fun x hx => hlt x hx
  obtain ⟨a0, rfl, rfl, rfl, w0⟩ := open_int Try.underlying3 (hval 0 3 v0 rfl rfl) h0
  obtain ⟨a1, rfl, rfl, rfl, w1⟩ := open_int Try.underlying3 (hval 1 3 v1 rfl rfl) h1
  obtain ⟨a2, rfl, rfl, rfl, w2⟩ := open_int Try.underlying3 (hval 2 3 v2 rfl rfl) h2
  obtain ⟨l3, w3⟩ := ints_in Try.underlying22 Try.underlying3 (by kernel_rfl) (hval 3 22 v3 rfl rfl) (fun x hx => hlt' x (by rw [hpq, hp]; simp [hx])) h3
  obtain ⟨l4, w4⟩ := ints_in Try.underlying22 Try.underlying3 (by kernel_rfl) (hval 4 22 v4 rfl rfl) (fun x hx => hlt' x (by rw [hpq, hp]; simp [hx])) h4
  refine (walk a0 a1 a2 l3 v3 l4 v4 W w0 w1 w2 w3 w4).mono fun e W' ⟨he, hb⟩ => ?_
  subst he
  exact ⟨_, rfl, law_post rfl (by kernel_rfl) hW' (by rw [Try.params4]; intro t ht; simp only [List.mem_cons, List.not_mem_nil, or_false] at ht; (repeat' (first | (rcases ht with rfl | ht) | subst ht)) <;> exact ⟨by kernel_rfl, of_decide_eq_true (by kernel_rfl)⟩) rfl hb⟩

theorem over : Rows.gaugeFallsRow.holds Try.pinned (OpenSpec.ofChange Rows.gaugeFallsSpec) :=
  OpenClaim.holds_of_wide 4 Try.f4 rfl rfl rfl rfl rfl rfl rfl ⟨rfl, rfl, rfl, rfl, rfl⟩ rfl rfl rfl rfl rfl (by kernel_rfl) Try.func4 (by kernel_rfl)
    (of_decide_eq_true (by kernel_rfl)) (by unfold Func.isWrapper; first | (rw [if_pos (by decide +kernel)]; kernel_rfl) | (rw [if_neg (by decide +kernel)]; exact ⟨rfl, rfl⟩))
    (fun os started H enc _ => lifted os started H enc)

theorem proved : Rows.GaugeFallsSaid := over
end Go.Proofs.Ythcecfenjbdgmaa.gaugeFalls
