/-
  Contract of the reference's Ints: ints that are the same.
-/
import Derived.Test.YthcecfenjbdgmaaRi
import Derived.BigQuiet
namespace Go.Proofs.Ythcecfenjbdgmaa
set_option maxRecDepth 100000
open Go.RowKit

theorem ints_same {v u : Value} {l : List Int} {w : World} (hv : RI w v l) (hu : RI w u l) : Calls Try.prog 18 #[v, u] w fun e w' => e = .returned (.bool true) ∧ ∃ n, w' = w.drewN n := by
  obtain ⟨p, c, rfl, h1, h2, h3⟩ := hv
  obtain ⟨q, d, rfl, g1, g2, g3⟩ := hu
  have HS : Hid (∀ j, j < l.length → ∃ b off b' off', p = some ⟨b, off, none⟩ ∧ q = some ⟨b', off', none⟩ ∧ w.cell? ⟨b, off + j, none⟩ = some (.int .i64 (l.getD j 0)) ∧ w.cell? ⟨b', off' + j, none⟩ = some (.int .i64 (l.getD j 0))) := Lib.hid fun j hj => by
    rcases h3 with h3 | ⟨b, off, rfl, hc⟩
    · subst h3; simp at hj
    · rcases g3 with g3 | ⟨b', off', rfl, gc⟩
      · subst g3; simp at hj
      · exact ⟨b, off, b', off', rfl, rfl, hc j hj, gc j hj⟩
  unfold maxLen at h2
  have HL : Hid (l.length ≤ 9223372036854775807) := Lib.hid (by omega)
  clear h3 g3 g1 g2 h1 h2
  go_enter Try.func18, Try.ntmps18
  go_wp2
  go_loopw [13] (fun i wr => ∃ k : Nat, k ≤ l.length ∧ i = .int .i64 k ∧ Hid (∃ n, wr = w.drewN n)) (fun i _ => l.length - (intOf i).toNat)
  case atStart => exact ⟨0, Nat.zero_le _, rfl, Lib.hid ⟨0, rfl⟩⟩
  case round =>
    obtain ⟨k, hk, rfl, HD⟩ := hrel
    by_cases hlt : k < l.length
    · obtain ⟨b, off, b', off', rfl, rfl, c1, c2⟩ := HS.out k hlt
      have j0 : IntKind.i64.wrap ((k : Int) + 1) = ((k + 1 : Nat) : Int) := by rw [show (k : Int) + 1 = ((k + 1 : Nat) : Int) by omega]; exact i64_nat _ (by have := HL.out; omega)
      have i0 : (0 : Int) ≤ (k : Int) := by omega
      have i1 : (k : Int) < (l.length : Int) := by omega
      have i2 : ¬ (k : Int) < 0 := by omega
      obtain ⟨n, rfl⟩ := HD.out
      have d1 : ∀ m, ((w.drewN n).drewN m).cell? ⟨b, off + k, none⟩ = some (.int .i64 (l.getD k 0)) := fun m => c1
      have d2 : ∀ m, ((w.drewN n).drewN m).cell? ⟨b', off' + k, none⟩ = some (.int .i64 (l.getD k 0)) := fun m => c2
      clear HD HS
      generalize l.getD k 0 = y at *
      generalize l.length = L at *
      go_wp2_with fail
      go_quiet (fail)
      go_wp2
      exact ⟨⟨k + 1, by omega, by go_num, Lib.hid ⟨_, rfl⟩⟩, by simp [intOf]; omega⟩
    · obtain rfl : k = l.length := by omega
      go_wp2
      go_ret
      exact ⟨rfl, HD.out⟩
end Go.Proofs.Ythcecfenjbdgmaa
