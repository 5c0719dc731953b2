/-
  Contract of the reference's Masks.
-/
import Derived.Test.YtipibpkfpmlalaaAlk
namespace Go.Proofs.Ytipibpkfpmlalaa
open Go.RowKit

theorem cntTo_le (a b c : List Int) : ∀ k, cntTo a b c k ≤ k
  | 0 => Nat.le_refl _
  | k + 1 => by have := cntTo_le a b c k; simp only [cntTo]; split <;> omega

set_option maxRecDepth 100000 in
set_option maxHeartbeats 400000 in
theorem rmasks_go (a b c : List Int) (w : World) (ha : a.length = 8) (hb : b.length = 8) (hc : c.length = 8) :
    Calls Try.prog 7 #[.agg (lc a), .agg (lc b), .agg (lc c)] w fun e w' => e = .returned (.int .i64 ((cnt a b c : Nat) : Int)) ∧ Below w.heap.size w w' := by
  obtain ⟨W, hW, H⟩ := boxed3 w ha hb hc
  have CA := Lib.hid (cntTo_all a b c (by omega) (by omega))
  have CL := Lib.hid (cntTo_le a b c)
  go_enter Try.func7, Try.ntmps7
  go_wp2
  go_loopw [7, 9] (fun n i wr => ∃ k : Nat, k ≤ 256 ∧ i = .int .i64 k ∧ n = .int .i64 ((cntTo a b c k : Nat) : Int) ∧ Hid (Below W.heap.size W wr)) (fun _ i _ => 256 - (intOf i).toNat)
  case atStart => exact ⟨0, by omega, rfl, rfl, Lib.hid (Below.refl _ _)⟩
  case round =>
    obtain ⟨k, hk, rfl, rfl, HB⟩ := hrel
    by_cases hlt : k < 256
    · have l0 := (H.out.1.below HB.out).later
      have l1 := (H.out.2.1.below HB.out).later
      have l2 := (H.out.2.2.1.below HB.out).later
      have hm := mix_length a b (k : Int) (by omega)
      have hm8 : (mix a b (k : Int)).length = 8 := by omega
      have N1 := CL.out k
      have E : Hid (cntTo a b c (k + 1) = cntTo a b c k + if mix a b (k : Int) = c then 1 else 0) := Lib.hid rfl
      have G := Lib.hid (fun w => rmix_any a b (k : Int) w ha hb)
      generalize mix a b (k : Int) = x at *
      generalize cntTo a b c k = n at *
      clear hm
      go_wp2
      go_region_held3 (fun w' => Below wr.heap.size wr w')
        (first | exact (Below.refl _ _).drew | exact below_more ‹Below wr.heap.size wr _› hb1)
        ((go_at_call 9; refine (G.out _).mono ?_; rintro e w1 ⟨rfl, hb1⟩))
      all_goals go_wp2
      · rename_i ht
        refine ⟨⟨k + 1, by omega, by go_num, ?_, Lib.hid (below_more HB.out ‹Below wr.heap.size wr w1›)⟩, by simp [intOf]; omega⟩
        rw [E.out, if_pos (by simpa using ht)]; simp
      · rename_i ht
        refine ⟨⟨k + 1, by omega, by go_num, ?_, Lib.hid (below_more HB.out ‹Below wr.heap.size wr w1›)⟩, by simp [intOf]; omega⟩
        rw [E.out, if_neg (by simpa using ht)]; simp
    · obtain rfl : k = 256 := by omega
      go_wp2
      go_ret
      exact ⟨by rw [← CA.out, ha]; rfl, below_more H.out.2.2.2 HB.out⟩
end Go.Proofs.Ytipibpkfpmlalaa
