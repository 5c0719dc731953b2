/-
  Which offsets are told, plainly: one is taken just where it is told; what is read of a block just taken.
-/
import Derived.Test.YtlhpcimbigfmkaaMaw
import Derived.Test.YtlhpcimbigfmkaaMrc
namespace Go.Proofs.Ytlhpcimbigfmkaa
set_option maxRecDepth 100000

theorem alq_any (N : Int) (l : List Bk) (o : Int) : (alQ N l o).isSome = (fos N l).any (· == o) := by
  unfold alQ fos fbl
  induction fitN N l with
  | nil => rfl
  | cons d r ih =>
    rw [List.find?_cons, List.map_cons, List.map_cons, List.any_cons]
    by_cases h : offB (l.getD d default).a = o
    · rw [decide_eq_true h]
      simp only [h, beq_self_eq_true, Bool.true_or]
      rfl
    · rw [decide_eq_false h]
      simp only [beq_eq_false_iff_ne.2 h, Bool.false_or]
      exact ih
theorem alq_mem {N : Int} {l : List Bk} {o : Int} (h : o ∈ fos N l) : ∃ d, alQ N l o = some d ∧ d ∈ fitN N l ∧ offB (l.getD d default).a = o := by
  have h1 : (alQ N l o).isSome = true := by rw [alq_any, List.any_eq_true]; exact ⟨o, h, by simp⟩
  cases e : alQ N l o with
  | none => rw [e] at h1; cases h1
  | some d =>
    unfold alQ at e
    exact ⟨d, rfl, List.mem_of_find?_eq_some e, by simpa using List.find?_some e⟩
theorem alq_none {N : Int} {l : List Bk} {o : Int} (h : (fos N l).length = 0) : (alQ N l o).isSome = false := by
  rw [alq_any, List.eq_nil_of_length_eq_zero h]
  rfl
theorem taken_read {wl : List Int} {l : List Bk} (hB : blkF wl = some l) (hok : WordsOk wl) {n o : Int} {d : Nat} (hd : d ∈ fitN (needN n) l) (ho : offB (l.getD d default).a = o) :
    (1 ≤ n ∧ n ≤ 448) ∧ refF (appF wl (cedF l d (needN n))) o n = 0 ∧ rdR (appF wl (cedF l d (needN n))) o n = List.replicate n.toNat 0 := by
  have hm := blkF_some hB
  obtain ⟨hdl, hc, hu, hs, h2⟩ := fit_can hm hd
  have hn : 1 ≤ n ∧ n ≤ 448 ∧ n ≤ 8 * (needN n - 1) := by
    unfold needN at h2 ⊢
    split at h2
    · rename_i c
      rw [if_pos c]
      omega
    · omega
  obtain ⟨g1, z, t, m, e1, e2, e3, e4, hT⟩ := taken hB hok hc
  have hm1 := blkF_some g1
  have hlen1 := crv_length hc
  have hd1 : d < (crvF l d (needN n)).length := by rw [hlen1]; split <;> omega
  obtain ⟨⟨s1, s2⟩, s3, s4⟩ := at_in hm1 hd1
  rw [e4] at s1 s2 s3 s4
  simp only at s1 s2 s3 s4
  obtain ⟨_, hn5, _⟩ := (mayL_yes.1 hm).1
  rw [hT.len] at s4
  rw [e1] at ho hs
  simp only at ho hs
  have hoz : o = ((8 * (z + 1) : Nat) : Int) := by rw [← ho, offB_at s3 (by omega)]; omega
  have ht : needN n ≤ t := by
    rw [← e2]
    unfold takN
    rw [if_pos ⟨h2, hs⟩]
    split
    · exact hs
    · exact Int.le_refl _
  have hmem := getD_mem hd1
  rw [e4] at hmem
  have hr : refF (appF wl (cedF l d (needN n))) o n = 0 := by
    unfold refF
    rw [g1]
    simp only
    rw [if_pos (inL_yes.2 ⟨by omega, _, hmem, rfl, ?_, ?_⟩)]
    · rw [ho]; exact Int.le_refl _
    · simp only; omega
  refine ⟨⟨hn.1, hn.2.1⟩, hr, ?_⟩
  rw [rdR, if_pos hr, rdL, if_pos ⟨by omega, by omega, by omega, by rw [hT.len]; omega⟩]
  have key : ∀ (k p : Nat), (∀ q, p ≤ q → q < p + k → bAt_ (appF wl (cedF l d (needN n))) q = 0) → rdB (appF wl (cedF l d (needN n))) p k = List.replicate k 0 := fun k p h => by
    have := rdB_is (w := appF wl (cedF l d (needN n))) (l := List.replicate k 0) (o := p) fun i hi => by
      rw [List.length_replicate] at hi
      rw [h _ (by omega) (by omega), List.getD_eq_getElem?_getD, List.getElem?_replicate, if_pos hi]
      rfl
    rwa [List.length_replicate] at this
  refine key _ _ fun q q1 q2 => ?_
  unfold bAt_
  rw [hT.nul (q / 8) (by omega) (by omega)]
  simp [bt]
end Go.Proofs.Ytlhpcimbigfmkaa
