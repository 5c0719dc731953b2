/-
  Contract of carve.Edits: the words that are written.
-/
import Derived.Test.YtlpbdnfecnochaaCrh
import Derived.Test.YtlpbdnfecnochaaBkk
namespace Go.Proofs.Ytlpbdnfecnochaa
set_option maxRecDepth 100000
open Go.RowKit

/-- what Edits asks of the blocks that it is told -/
def EdOk (P : List Bk) : Prop := ∀ b ∈ P, 0 ≤ b.a ∧ b.a ≤ 512 ∧ 2 ≤ b.s ∧ b.s ≤ 512
theorem edF_take {P : List Bk} {k : Nat} (h : k < P.length) : edF (P.take (k + 1)) = edF (P.take k) ++ edB (P.getD k default) := by
  rw [List.take_add_one, List.getElem?_eq_getElem h, List.getD_eq_getElem?_getD, List.getElem?_eq_getElem h]
  simp only [edF, Option.toList_some, List.flatMap_append, List.flatMap_cons, List.flatMap_nil, List.append_nil, Option.getD_some]
theorem edB_length {b : Bk} (h : b.s ≤ 512) : (edB b).length ≤ 513 := by
  rw [edB, rise_length, edV, List.length_cons]
  split
  · rw [List.length_replicate]; omega
  · simp
theorem edF_length {P : List Bk} (h : EdOk P) : ∀ k, k ≤ P.length → (edF (P.take k)).length ≤ 513 * k
  | 0, _ => by simp [edF]
  | k + 1, hk => by
    have h1 := edF_length h k (by omega)
    have h2 := h (P.getD k default) (by rw [List.getD_eq_getElem?_getD, List.getElem?_eq_getElem (by omega)]; exact List.getElem_mem _)
    have h3 := edB_length h2.2.2.2
    rw [edF_take (by omega), List.length_append]
    omega
theorem edOk_prt {l : List Bk} {i n : Int} (h : canC l i n = true) : EdOk (prtB (bAt l i) n) := by
  obtain ⟨hm, h0, h1, hu, ht⟩ := canC_yes.1 h
  have hz := mayF_sizes (mayL_yes.1 hm).2 _ (bAt_mem h0 h1)
  obtain ⟨g1, g2, g3⟩ := (mayL_yes.1 hm).1
  obtain ⟨⟨s1, s2⟩, a1, a2⟩ := hz
  obtain ⟨t1, t2, t3, t4⟩ := takN_some ht
  intro b hb
  unfold prtB at hb
  split at hb
  · obtain rfl := List.mem_singleton.1 hb
    exact ⟨a1, by simp only; omega, s1, s2⟩
  · simp only [List.mem_cons, List.not_mem_nil, or_false] at hb
    rcases hb with rfl | rfl
    · refine ⟨a1, ?_, ?_, ?_⟩ <;> simp only <;> omega
    · refine ⟨?_, ?_, ?_, ?_⟩ <;> simp only <;> omega
theorem edRise_ok {a : Int} (h1 : 0 ≤ a) (h2 : a ≤ 9223372036854774807) : ∀ n : Nat, n ≤ 1000 → AllOk edE (rise a (List.replicate n 0))
  | 0, _ => fun _ h => by cases h
  | n + 1, hn => by
    intro x hx
    rw [rise_more] at hx
    rcases List.mem_append.1 hx with hx | hx
    · exact edRise_ok h1 h2 n (by omega) x hx
    · obtain rfl := List.mem_singleton.1 hx
      refine Ed.wf_of ?_ ?_ ?_ ?_ <;> simp only <;> omega

end Go.Proofs.Ytlpbdnfecnochaa
