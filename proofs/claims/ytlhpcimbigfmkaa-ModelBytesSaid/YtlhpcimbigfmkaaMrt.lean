/-
  A model at first, plainly: where a block is taken, what it is then, what it is given back.
-/
import Derived.Test.YtlhpcimbigfmkaaMaw
import Derived.Test.YtlhpcimbigfmkaaMrc
namespace Go.Proofs.Ytlhpcimbigfmkaa
set_option maxRecDepth 100000

theorem fresh_may {N : Nat} (h : Mw N) : mayL N [⟨0, N, false⟩] = true := mayL_yes.2 ⟨h, mayF_cons.2 ⟨rfl, h.mayB, (fun q => by cases q.1), mayF_nil.2 (by simp)⟩⟩
theorem fresh_fit {N : Nat} {k : Int} (h2 : 2 ≤ k) (hk : k ≤ N) : fitN k [⟨0, N, false⟩] = [0] := by
  have := fitN_snoc_first (n := k) (l := []) (b := ⟨0, N, false⟩) (fitB_iff.2 ⟨rfl, h2, hk⟩) (.inl rfl)
  simpa using this
structure Fresh (N : Nat) (k : Int) : Prop where
  fos : fos k [⟨0, N, false⟩] = [8]
  alq : alQ k [⟨0, N, false⟩] 8 = some 0
  alb : alB k [⟨0, N, false⟩] 8 = crvF [⟨0, N, false⟩] (0 : Nat) k
  can : canC [⟨0, N, false⟩] (0 : Nat) k = true
  yes : isN 8 (crvF [⟨0, N, false⟩] (0 : Nat) k) = some 0
  no : ∀ o, o ≠ 8 → isN o (crvF [⟨0, N, false⟩] (0 : Nat) k) = none
  mrg : mrgF (crvF [⟨0, N, false⟩] (0 : Nat) k) (0 : Nat) = [⟨0, N, false⟩]
theorem fresh_is {N : Nat} {k : Int} (h : Mw N) (h2 : 2 ≤ k) (hk : k ≤ N) : Fresh N k := by
  have hm := fresh_may h
  have hf := fresh_fit h2 hk
  obtain ⟨_, hc, hu, _⟩ := fit_can hm (show 0 ∈ fitN k [⟨0, N, false⟩] by rw [hf]; exact List.mem_singleton.2 rfl)
  have h8 : offB (0 : Int) = 8 := by decide
  obtain ⟨m1, m2⟩ := mrg_crv hm hc
  obtain ⟨f1, f2, f3⟩ := first_blk h
  obtain ⟨k1, z, t, m, e1, e2, _, e3, _⟩ := taken f1 f3 hc
  have hz : (z : Int) = 0 := by
    have : (⟨0, N, false⟩ : Bk) = ⟨z, m, false⟩ := e1
    injection this with q _ _
    exact q.symm
  have hm1 := blkF_some k1
  have hlen1 := crv_length hc
  have hal : alQ k [⟨0, N, false⟩] 8 = some 0 := by
    unfold alQ
    rw [hf, List.find?_cons, show decide (offB (([⟨0, N, false⟩] : List Bk).getD 0 default).a = 8) = true from decide_eq_true h8]
  refine ⟨?_, hal, ?_, hc, ?_, fun o ho => isN_no fun b hb => ?_, m2⟩
  · unfold Go.Proofs.Ytlhpcimbigfmkaa.fos fbl
    rw [hf]
    simp [h8]
  · unfold alB
    rw [hal]
  · have := isN_at hm1 (k := 0) (by rw [hlen1]; simp only [List.length_singleton]; omega) (by rw [e3])
    rw [e3] at this
    simp only [hz, h8] at this
    exact this
  · rintro ⟨bu, bo⟩
    rcases crv_from hc hb bu with q | q
    · rw [List.mem_singleton.1 q] at bu
      cases bu
    · rw [q] at bo
      exact ho (bo.symm.trans h8)
theorem fresh_none (N : Nat) (o : Int) : isN o [⟨0, N, false⟩] = none := isN_no fun b hb => by
  rintro ⟨bu, _⟩
  rw [List.mem_singleton.1 hb] at bu
  cases bu
end Go.Proofs.Ytlhpcimbigfmkaa
