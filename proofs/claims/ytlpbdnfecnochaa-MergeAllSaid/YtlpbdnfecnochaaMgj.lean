/-
  Contract of package merge: the places of what becomes one free block.
-/
import Derived.Test.YtlpbdnfecnochaaCrh
import Derived.Test.YtlpbdnfecnochaaMgp
namespace Go.Proofs.Ytlpbdnfecnochaa
set_option maxRecDepth 100000
open Go.RowKit

set_option maxHeartbeats 1000000 in
theorem joined_no (l : List Bk) (i : Int) (v : Value) (w : World) (hv : RA blkE w v l) (hl : l.length ≤ 1000) (h : canM l i = false) :
    Calls Try.prog 20 #[v, .int .i64 i] w fun e w' => e = .returned (.tuple #[.int .i64 0, .int .i64 0, .bool false]) ∧ Below w.heap.size w w' := by
  have C1 := Lib.hid (mwords_is l v w hv hl)
  have C2 := Lib.hid (fun (w' : World) (hb : Below w.heap.size w w') => may_is (szW l) l v (mayS l) w' (ra_below hv hb) hl (may_szW l))
  have H0 := Lib.hid (fun (w' : World) (hb : Below w.heap.size w w') => ra_below hv hb)
  obtain ⟨p, cap, rfl, hlc, hcm⟩ := ra_shape hv
  generalize szW l = z at *
  cases hm : mayS l
  · rw [hm] at C2
    generalize l.length = L at *
    clear hv hl h hlc hcm
    go_enter Try.func20, Try.ntmps20
    go_wp2_with fail
    refine (C1.out).mono ?_; rintro e w' ⟨rfl, b1⟩
    have D1 := Lib.hid b1
    go_wp2_with fail
    refine (C2.out _ D1.out).mono ?_; rintro e w2 ⟨rfl, b2⟩
    have D2 := Lib.hid (below_more D1.out b2)
    clear b1 b2
    go_wp2_with fail
    go_ret3
    exact ⟨rfl, D2.out⟩
  rw [hm] at C2
  rcases canM_no h with h | h | h | ⟨h0, h1, h⟩
  · rw [h] at hm
    cases hm
  · generalize l.length = L at *
    clear hv hl hm hlc hcm
    go_enter Try.func20, Try.ntmps20
    go_wp2_with fail
    refine (C1.out).mono ?_; rintro e w' ⟨rfl, b1⟩
    have D1 := Lib.hid b1
    go_wp2_with fail
    refine (C2.out _ D1.out).mono ?_; rintro e w2 ⟨rfl, b2⟩
    have D2 := Lib.hid (below_more D1.out b2)
    clear b1 b2
    go_wp2_with fail
    go_ret3
    exact ⟨rfl, D2.out⟩
  · have h2 : ¬ i < 0 := by omega
    have h3 : i ≥ (l.length : Int) := h
    generalize l.length = L at *
    clear hv hl hm hlc hcm h
    go_enter Try.func20, Try.ntmps20
    go_wp2_with fail
    refine (C1.out).mono ?_; rintro e w' ⟨rfl, b1⟩
    have D1 := Lib.hid b1
    go_wp2_with fail
    refine (C2.out _ D1.out).mono ?_; rintro e w2 ⟨rfl, b2⟩
    have D2 := Lib.hid (below_more D1.out b2)
    clear b1 b2
    go_wp2_with fail
    go_ret3
    exact ⟨rfl, D2.out⟩
  · obtain ⟨k, rfl⟩ : ∃ k : Nat, i = k := ⟨i.toNat, by omega⟩
    have h2 : ¬ (k : Int) < 0 := by omega
    have h3 : ¬ (k : Int) ≥ (l.length : Int) := by omega
    have h4 : ¬ (l.length : Int) ≤ (k : Int) := by omega
    have hk : k < l.length := by omega
    have HX := Lib.hid (fun (w' : World) (hb : Below w.heap.size w w') => blk_at (H0.out w' hb) (Nat.lt_of_le_of_lt (Nat.zero_le _) hk))
    have HK := Lib.hid hk
    rw [bAt_nat] at h
    have HU := Lib.hid h
    clear hv hl hm hlc hcm hk h0 h
    go_enter Try.func20, Try.ntmps20
    go_wp2_with fail
    refine (C1.out).mono ?_; rintro e w' ⟨rfl, b1⟩
    have D1 := Lib.hid b1
    go_wp2_with fail
    refine (C2.out _ D1.out).mono ?_; rintro e w2 ⟨rfl, b2⟩
    have D2 := Lib.hid (below_more D1.out b2)
    clear b1 b2
    obtain ⟨b, off, rfl, _, hx⟩ := HX.out w2 D2.out
    obtain ⟨_, _, _, hu, _⟩ := hx k HK.out
    rw [HU.out] at hu
    clear hx
    generalize l.length = L at *
    go_wp2_with fail
    go_ret3
    exact ⟨rfl, D2.out⟩

/-- the numbers that are met where it is looked for what is free beside it -/
theorem ahead_of (l : List Bk) (k : Nat) (hk : k < l.length) (hl : l.length ≤ 1000) : ∃ K0 F : Nat, frm l k = F ∧
    ((¬ (k : Int) > 0 ∧ F = k) ∨ ((k : Int) > 0 ∧ IntKind.i64.wrap ((k : Int) - 1) = (K0 : Int) ∧ K0 < l.length ∧ ((l.getD K0 default).u = true ∧ F = k ∨ (l.getD K0 default).u = false ∧ F = K0))) := by
  refine ⟨k - 1, frm l k, rfl, ?_⟩
  by_cases h : k = 0
  · refine .inl ⟨by omega, ?_⟩
    rcases frm_or l k with ⟨e, _⟩ | ⟨e, _⟩ <;> omega
  · refine .inr ⟨by omega, ?_, by omega, ?_⟩
    · rw [show (k : Int) - 1 = ((k - 1 : Nat) : Int) by omega]; exact i64_nat _ (by omega)
    · rcases frm_or l k with ⟨e, c⟩ | ⟨_, e, c⟩
      · exact .inl ⟨c.resolve_left h, e⟩
      · exact .inr ⟨c, e⟩
theorem behind_of (l : List Bk) (k : Nat) (hk : k < l.length) (hl : l.length ≤ 1000) : ∃ K1 K2 T : Nat, too l k = T ∧ k + 1 = K1 ∧ IntKind.i64.wrap ((k : Int) + 1) = (K1 : Int) ∧ IntKind.i64.wrap ((K1 : Int) + 1) = (K2 : Int) ∧
    ((¬ (K1 : Int) < (l.length : Int) ∧ T = K1) ∨ ((K1 : Int) < (l.length : Int) ∧ K1 < l.length ∧ ((l.getD K1 default).u = true ∧ T = K1 ∨ (l.getD K1 default).u = false ∧ T = K2))) := by
  refine ⟨k + 1, k + 2, too l k, rfl, rfl, by rw [show (k : Int) + 1 = ((k + 1 : Nat) : Int) by omega]; exact i64_nat _ (by omega), by rw [show ((k + 1 : Nat) : Int) + 1 = ((k + 2 : Nat) : Int) by omega]; exact i64_nat _ (by omega), ?_⟩
  rcases too_or l k with ⟨e, c⟩ | ⟨c, e, d⟩
  · by_cases h : l.length ≤ k + 1
    · exact .inl ⟨by omega, e⟩
    · exact .inr ⟨by omega, by omega, .inl ⟨c.resolve_left h, e⟩⟩
  · exact .inr ⟨by omega, c, .inr ⟨d, e⟩⟩

set_option maxHeartbeats 4000000 in
theorem joined_yes (l : List Bk) (k : Nat) (v : Value) (w : World) (hv : RA blkE w v l) (hl : l.length ≤ 1000) (h : canM l k = true) :
    Calls Try.prog 20 #[v, .int .i64 k] w fun e w' => e = .returned (.tuple #[.int .i64 (frm l k : Nat), .int .i64 (too l k : Nat), .bool true]) ∧ Below w.heap.size w w' := by
  have C1 := Lib.hid (mwords_is l v w hv hl)
  have C2 := Lib.hid (fun (w' : World) (hb : Below w.heap.size w w') => may_is (szW l) l v (mayS l) w' (ra_below hv hb) hl (may_szW l))
  have H0 := Lib.hid (fun (w' : World) (hb : Below w.heap.size w w') => ra_below hv hb)
  obtain ⟨p, cap, rfl, hlc, hcm⟩ := ra_shape hv
  obtain ⟨hm, hk, hu⟩ := canM_nat h
  rw [hm] at C2
  generalize szW l = z at *
  obtain ⟨b, off, rfl, _, _⟩ := blk_at hv (by omega)
  have HX : Hid (∀ w', Below w.heap.size w w' → ∀ j, j < l.length → w'.cell? ⟨b, off + j * 3 + 2, none⟩ = some (.bool (l.getD j default).u)) := Lib.hid fun w' hb' j hj => by
    obtain ⟨_, _, e, _, hx⟩ := blk_at (H0.out w' hb') (by omega)
    cases e
    exact (hx j hj).2.2.2.1
  obtain ⟨K0, F, hF, hA⟩ := ahead_of l k hk hl
  obtain ⟨K1, K2, T, hT, e1, j1, j2, hB⟩ := behind_of l k hk hl
  rw [hF, hT]
  have h2 : ¬ (k : Int) < 0 := by omega
  have h3 : ¬ (k : Int) ≥ (l.length : Int) := by omega
  have h4 : ¬ (l.length : Int) ≤ (k : Int) := by omega
  have HU := Lib.hid (And.intro hk hu)
  clear hv hl h hlc hcm hm hk hu hF hT H0 e1
  go_enter Try.func20, Try.ntmps20
  go_wp2_with fail
  refine (C1.out).mono ?_; rintro e w' ⟨rfl, b1⟩
  have D1 := Lib.hid b1
  go_wp2_with fail
  refine (C2.out _ D1.out).mono ?_; rintro e w2 ⟨rfl, b2⟩
  have D2 := Lib.hid (below_more D1.out b2)
  clear b1 b2
  have x1 := HX.out w2 D2.out k HU.out.1
  rw [HU.out.2] at x1
  rcases hA with ⟨a1, rfl⟩ | ⟨a1, a2, a3, hA⟩
  · rcases hB with ⟨b1, rfl⟩ | ⟨b1, b2, hB⟩
    · clear HU HX
      generalize l.length = L at *
      go_wp2_with fail
      go_ret3
      exact ⟨rfl, D2.out⟩
    · have b3 : ¬ (l.length : Int) ≤ (K1 : Int) := by omega
      have y1 := HX.out w2 D2.out K1 b2
      clear HU HX b2
      generalize l.length = L at *
      rcases hB with ⟨q, rfl⟩ | ⟨q, rfl⟩
      all_goals
        rw [q] at y1
        go_wp2_with fail
        go_ret3
        exact ⟨rfl, D2.out⟩
  · have a4 : ¬ (l.length : Int) ≤ (K0 : Int) := by omega
    have z1 := HX.out w2 D2.out K0 a3
    rcases hA with ⟨q0, rfl⟩ | ⟨q0, rfl⟩
    all_goals
      rw [q0] at z1
      rcases hB with ⟨b1, rfl⟩ | ⟨b1, b2, hB⟩
      · clear HU HX a3 q0
        generalize l.length = L at *
        go_wp2_with fail
        go_ret3
        exact ⟨rfl, D2.out⟩
      · have b3 : ¬ (l.length : Int) ≤ (K1 : Int) := by omega
        have y1 := HX.out w2 D2.out K1 b2
        clear HU HX b2 a3 q0
        generalize l.length = L at *
        rcases hB with ⟨q, rfl⟩ | ⟨q, rfl⟩
        all_goals
          rw [q] at y1
          go_wp2_with fail
          go_ret3
          exact ⟨rfl, D2.out⟩
end Go.Proofs.Ytlpbdnfecnochaa
