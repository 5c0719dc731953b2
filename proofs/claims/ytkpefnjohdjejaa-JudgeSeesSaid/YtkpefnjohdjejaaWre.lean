/-
  Bytes that may be written, plainly: they are those of one block; the words behind them are the same blocks.
-/
import Derived.Test.YtkpefnjohdjejaaMow
import Derived.Test.YtkpefnjohdjejaaZmc
namespace Go.Proofs.Ytkpefnjohdjejaa
set_option maxRecDepth 100000

theorem wrT_len_h {wl bl : List Int} {o : Int} {M : List Ed} (h : WrT wl bl o M) : M.length ≤ 4000 := by
  unfold WrT at h
  split at h
  · unfold Tells at h
    split at h
    · rename_i hi
      obtain ⟨_, _, h3, _⟩ := hi
      rw [h.len]
      unfold cnt
      split <;> omega
    · rw [h]; simp
  · rw [h]; simp
/-- bytes that may be written are those of one block -/
theorem wr_isE {X : List Int} {l : List Bk} {o : Int} {bl : List Int} {M : List Ed} (hB : blkF X = some l) (hM : WrT X bl o M) (h0 : refF X o bl.length = 0) :
    ∃ b ∈ l, ∃ f : Nat, b.u = true ∧ o.toNat = 8 * (b.a.toNat + 1) + f ∧ f + bl.length ≤ 8 * (b.s.toNat - 1) ∧ IsE X (8 * (b.a.toNat + 1) + f) bl.length (fun k => bl.getD k 0) M ∧ 0 ≤ b.a ∧ b.a + b.s ≤ X.length ∧ bl.length ≤ 448 := by
  have hm := blkF_some hB
  have hin : inL o bl.length l = true := by
    unfold refF at h0
    rw [hB] at h0
    dsimp only at h0
    split at h0
    · assumption
    · cases h0
  obtain ⟨⟨_, h448⟩, b, hb, hu, h1, h2⟩ := inL_yes.1 hin
  obtain ⟨a0, a5, ae⟩ := offB_in hm hb
  obtain ⟨⟨s1, _⟩, s2, s3⟩ := mayF_sizes (mayL_yes.1 hm).2 b hb
  rw [ae] at h1
  obtain ⟨f, hf⟩ : ∃ f : Nat, o.toNat = 8 * (b.a.toNat + 1) + f := ⟨o.toNat - 8 * (b.a.toNat + 1), by omega⟩
  refine ⟨b, hb, f, hu, hf, by omega, ?_, s2, s3, by omega⟩
  unfold WrT at hM
  rw [if_pos h0] at hM
  unfold Tells at hM
  rw [if_pos ⟨by omega, by omega, by omega, by omega⟩, hf] at hM
  exact hM
/-- written, the words are the same blocks -/
theorem wrt_keeps {wl bl : List Int} {l : List Bk} {o : Int} {M : List Ed} (hB : blkF wl = some l) (hok : WordsOk wl) (hM : WrT wl bl o M) : blkF (appF wl M) = some l ∧ WordsOk (appF wl M) ∧ M.length ≤ 4000 := by
  have h4 := wrT_len_h hM
  by_cases h0 : refF wl o bl.length = 0
  · obtain ⟨b, hb, f, hu, hf, hf2, hE, _⟩ := wr_isE hB hM h0
    obtain ⟨w1, w2, _⟩ := wrote hB hok hb hE hf2
    exact ⟨w1, w2, h4⟩
  · unfold WrT at hM
    rw [if_neg h0] at hM
    subst hM
    exact ⟨hB, hok, h4⟩
end Go.Proofs.Ytkpefnjohdjejaa
