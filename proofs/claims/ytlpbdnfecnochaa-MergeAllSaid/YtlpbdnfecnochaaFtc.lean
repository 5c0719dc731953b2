/-
  Contracts of package fit: how many words bytes need, what is taken, how often a page was written, which of two is ahead.
-/
import Derived.Test.YtlpbdnfecnochaaFtp
import Derived.Test.YtlpbdnfecnochaaBka
import Derived.Test.YtlpbdnfecnochaaRi
import Derived.BigQuiet
namespace Go.Proofs.Ytlpbdnfecnochaa
set_option maxRecDepth 100000
open Go.RowKit


theorem takes_is (s n t : Int) (hs : (Lit.int .i64 s).wf = true) (ht : takN s n = t) (w : World) : Calls Try.prog 35 #[.int .i64 s, .int .i64 n] w fun e w' => e = .returned (.int .i64 t) ∧ w = w' := by
  obtain ⟨s1, s2⟩ := i64_wf hs
  subst ht
  clear hs
  by_cases h1 : n < 2
  · rw [takN, if_neg (by omega)]
    go_enter Try.func35, Try.ntmps35
    go_wp2_with fail
    go_ret
    exact ⟨rfl, rfl⟩
  · by_cases h2 : n > s
    · rw [takN, if_neg (by omega)]
      go_enter Try.func35, Try.ntmps35
      go_wp2_with fail
      go_ret
      exact ⟨rfl, rfl⟩
    · rw [takN, if_pos (by omega)]
      obtain ⟨d, hd⟩ : ∃ d, s - n = d := ⟨_, rfl⟩
      have j1 : IntKind.i64.wrap (s - n) = d := by rw [hd]; exact IntWalk.i64_in _ (by omega)
      rw [hd]
      clear hd s1 s2
      by_cases h3 : d < 2
      · rw [if_pos h3]
        go_enter Try.func35, Try.ntmps35
        go_wp2_with fail
        go_ret
        exact ⟨rfl, rfl⟩
      · rw [if_neg h3]
        go_enter Try.func35, Try.ntmps35
        go_wp2_with fail
        go_ret
        exact ⟨rfl, rfl⟩


end Go.Proofs.Ytlpbdnfecnochaa
