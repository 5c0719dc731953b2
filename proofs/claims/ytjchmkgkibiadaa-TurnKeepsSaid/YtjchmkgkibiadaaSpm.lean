/-
  Contracts of May (package spare) and MayTable (the reference): any table, any number of slots.
-/
import Derived.Test.YtjchmkgkibiadaaSpc
namespace Go.Proofs.Ytjchmkgkibiadaa
open Go.RowKit

theorem deadT_pos {s : Int} (h : ¬ s < 1) : deadT s = s + 1 := if_neg h

theorem may_few (p : Option Addr) (n cap : Nat) (s : Int) (w : World) (h : s < 1) : Calls Try.prog 38 #[.slice p n cap, .int .i64 s] w fun e w' => e = .returned (.bool false) ∧ w = w' := by
  go_enter Try.func38, Try.ntmps38
  go_wp2_with fail
  go_ret
  exact ⟨rfl, rfl⟩
theorem may_nil (p : Option Addr) (cap : Nat) (s : Int) (w : World) (h : ¬ s < 1) : Calls Try.prog 38 #[.slice p 0 cap, .int .i64 s] w fun e w' => e = .returned (.bool true) ∧ w = w' := by
  go_enter Try.func38, Try.ntmps38
  go_wp2
  go_rounds 1
  go_ret
  exact ⟨rfl, rfl⟩

/-- what is asked of the word at place k -/
theorem good_cases (l : List Int) (s : Int) (k : Nat) : (s + 1 < l.getD k 0 ∧ ¬ Good l s k) ∨ (¬ s + 1 < l.getD k 0 ∧ l.getD k 0 = 0 ∧ Good l s k) ∨ (¬ s + 1 < l.getD k 0 ∧ ¬ l.getD k 0 = 0 ∧ k = 0 ∧ Good l s k) ∨
    ∃ j : Nat, k = j + 1 ∧ ¬ s + 1 < l.getD k 0 ∧ ¬ l.getD k 0 = 0 ∧ ((l.getD j 0 = 0 ∧ ¬ Good l s k) ∨ (¬ l.getD j 0 = 0 ∧ Good l s k)) := by
  by_cases h1 : s + 1 < l.getD k 0
  · exact .inl ⟨h1, fun h => by have := h.1; omega⟩
  · by_cases h2 : l.getD k 0 = 0
    · exact .inr (.inl ⟨h1, h2, by omega, fun h => h.2.1 h2⟩)
    · cases k with
      | zero => exact .inr (.inr (.inl ⟨h1, h2, rfl, by omega, fun h => by omega⟩))
      | succ j =>
        refine .inr (.inr (.inr ⟨j, rfl, h1, h2, ?_⟩))
        by_cases h3 : l.getD j 0 = 0
        · exact .inl ⟨h3, fun h => h.2 ⟨by omega, h2, by simpa using h3⟩⟩
        · exact .inr ⟨h3, by omega, fun h => h3 (by simpa using h.2.2)⟩

set_option maxHeartbeats 1000000 in
theorem may_some (l : List Int) (s : Int) (b off cap : Nat) (w : World) (hm : l.length ≤ maxLen) (hs : (Lit.int .i64 s).wf = true) (h : ¬ s < 1) (hc : ∀ i, i < l.length → w.cell? ⟨b, off + i, none⟩ = some (.int .u64 (l.getD i 0))) :
    Calls Try.prog 38 #[.slice (some ⟨b, off, none⟩) l.length cap, .int .i64 s] w fun e w' => e = .returned (.bool (mayT l s)) ∧ w = w' := by
  unfold maxLen at hm
  have C := Lib.hid hc
  have D := Lib.hid (dead_any s w hs)
  rw [deadT_pos h] at D
  obtain ⟨r, hr⟩ : ∃ r, mayT l s = r := ⟨_, rfl⟩
  have R := Lib.hid hr
  rw [hr]
  clear hc hr hs
  have h1 : Hid (1 ≤ s) := Lib.hid (by omega)
  go_enter Try.func38, Try.ntmps38
  go_wp2
  go_loop [11] (fun i => ∃ k : Nat, k ≤ l.length ∧ i = .int .i64 k ∧ Hid (∀ j, j < k → Good l s j)) (fun i => l.length - (intOf i).toNat)
  case atStart => exact ⟨0, Nat.zero_le _, rfl, Lib.hid fun j hj => by omega⟩
  case round =>
    obtain ⟨k, hk, rfl, H⟩ := hrel
    by_cases hlt : k < l.length
    · have hcell := C.out k hlt
      have G := Lib.hid (good_cases l s k)
      obtain ⟨y, hy⟩ : ∃ y, l.getD k 0 = y := ⟨_, rfl⟩
      rw [hy] at hcell G
      clear hy
      rcases G.out with ⟨g1, g2⟩ | ⟨g1, g0, g2⟩ | ⟨g1, g0, rfl, g2⟩ | ⟨j, hj, g1, g0, g3⟩
      · have B := Lib.hid (mayT_bad hlt g2)
        clear g2 G
        go_wp2_with fail
        refine (D.out).mono ?_; rintro e w' ⟨rfl, rfl⟩
        go_wp2
        go_ret
        exact ⟨ret_bool (B.out.symm.trans R.out), rfl⟩
      · have G2 := Lib.hid g2
        subst g0
        clear g2 G
        go_wp2_with fail
        refine (D.out).mono ?_; rintro e w' ⟨rfl, rfl⟩
        go_wp2
        all_goals
          go_round
          case rel => exact ⟨k + 1, by omega, by go_num, Lib.hid fun j hj => by
            by_cases e : j = k
            · subst e; exact G2.out
            · exact H.out j (by omega)⟩
          case measure => simp [intOf]; omega
      · have G2 := Lib.hid g2
        rw [Nat.add_zero] at hcell
        have t0 : (y != 0) = true := by simpa using g0
        clear g2 G
        go_wp2_with fail
        refine (D.out).mono ?_; rintro e w' ⟨rfl, rfl⟩
        go_wp2
        go_round
        case rel => exact ⟨1, by omega, by go_num, Lib.hid fun j hj => by
          obtain rfl : j = 0 := by omega
          exact G2.out⟩
        case measure => simp [intOf]; omega
      · have hc2 := C.out j (by omega)
        have hjl : j < l.length := by omega
        have hk2 : IntKind.i64.wrap ((k : Int) - 1) = (j : Int) := by rw [show (k : Int) - 1 = (j : Int) by omega]; exact IntWalk.i64_in _ (by omega)
        have hk0 : 0 < k := by omega
        have t0 : (y != 0) = true := by simpa using g0
        clear hj
        obtain ⟨z, hz⟩ : ∃ z, l.getD j 0 = z := ⟨_, rfl⟩
        rw [hz] at hc2 g3
        clear G hz
        rcases g3 with ⟨g3, g2⟩ | ⟨g3, g2⟩
        · have B := Lib.hid (mayT_bad hlt g2)
          subst g3
          clear g2
          go_wp2_with fail
          refine (D.out).mono ?_; rintro e w' ⟨rfl, rfl⟩
          go_wp2
          go_ret
          exact ⟨ret_bool (B.out.symm.trans R.out), rfl⟩
        · have G2 := Lib.hid g2
          have t1 : (z == 0) = false := by simpa using g3
          clear g2
          go_wp2_with fail
          refine (D.out).mono ?_; rintro e w' ⟨rfl, rfl⟩
          go_wp2
          go_round
          case rel => exact ⟨k + 1, by omega, by go_num, Lib.hid fun i hi => by
            by_cases e : i = k
            · subst e; exact G2.out
            · exact H.out i (by omega)⟩
          case measure => simp [intOf]; omega
    · obtain rfl : k = l.length := by omega
      have hn : Hid (mayT l s = true) := Lib.hid (good_mayT h1.out H.out)
      go_wp2
      go_ret
      exact ⟨ret_bool (hn.out.symm.trans R.out), rfl⟩

theorem may_any (v : Value) (l : List Int) (s : Int) (w : World) (h : RU w v l) (hs : (Lit.int .i64 s).wf = true) : Calls Try.prog 38 #[v, .int .i64 s] w fun e w' => e = .returned (.bool (mayT l s)) ∧ w = w' := by
  obtain ⟨p, cap, rfl, h1, h2, h3⟩ := h
  by_cases hlt : s < 1
  · rw [mayT_few hlt]; exact may_few p _ cap s w hlt
  · rcases h3 with rfl | ⟨b, off, rfl, hc⟩
    · rw [good_mayT (by omega) (fun k hk => by simp at hk)]; exact may_nil p cap s w hlt
    · exact may_some l s b off cap w (by omega) hs hlt hc
end Go.Proofs.Ytjchmkgkibiadaa
