/-
  Words edited where a block is given back, plainly: they are read as the blocks behind the giving back.
-/
import Derived.Test.YtlpbdnfecnochaaMgp
import Derived.Test.YtlpbdnfecnochaaCrq
namespace Go.Proofs.Ytlpbdnfecnochaa
set_option maxRecDepth 100000

theorem merged_words {n : Nat} {l : List Bk} {k : Nat} (h : mayL n l = true) (hc : canM l k = true) :
    blkF (appF (wrF (List.replicate n 0) l) [medF l k]) = some (mrgF l k) ∧ WordsOk (appF (wrF (List.replicate n 0) l) [medF l k]) ∧ (appF (wrF (List.replicate n 0) l) [medF l k]).length = n := by
  have hm := mayL_mrg h hc
  obtain ⟨h1, h2, h3⟩ := one_in h hc
  obtain ⟨h4, _⟩ := id h1
  obtain ⟨_, hf⟩ := mayL_yes.1 h
  have hWl : (wrF (List.replicate n 0) l).length = n := by rw [wrF_length, List.length_replicate]
  have hlen : (appF (wrF (List.replicate n 0) l) [medF l k]).length = n := by rw [appF_length, hWl]
  have hW : ∀ c ∈ l, (wrF (List.replicate n 0) l).getD c.a.toNat 0 = hdB c.s c.u := wrF_all (w := List.replicate n 0) (f := false) (by rw [List.length_replicate]; exact hf)
  refine ⟨blkF_of (by rw [hlen]; exact hm) fun b hb => ?_, appF_ok _ _ (fun x hx => ?_) (wrF_ok _ _ (zeros_ok n)), hlen⟩
  · rw [medF_yes hc, appF, appF, if_pos (by simp only; omega)]
    simp only
    rw [mrgF_yes hc] at hb hm
    have hf2 := (mayL_yes.1 hm).2
    have ha := mayF_ahead hf2
    have hbh := mayF_behind hf2
    simp only [List.getD_eq_getElem?_getD]
    rcases List.mem_append.1 hb with hb | hb
    · have g := ha b hb
      have hbl : b ∈ l := List.mem_of_mem_take hb
      obtain ⟨⟨g1, _⟩, g2, _⟩ := mayF_sizes hf b hbl
      rw [List.getElem?_set_ne (by omega), ← List.getD_eq_getElem?_getD]
      exact hW b hbl
    · rcases List.mem_cons.1 hb with rfl | hb
      · rw [List.getElem?_set_self (by omega)]
        rfl
      · have g := hbh b hb
        have hbl : b ∈ l := List.mem_of_mem_drop hb
        rw [List.getElem?_set_ne (by omega), ← List.getD_eq_getElem?_getD]
        exact hW b hbl
  · rw [List.mem_singleton.1 hx, medF_yes hc]
    exact hdB_in _ _
end Go.Proofs.Ytlpbdnfecnochaa
