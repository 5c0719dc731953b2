/-
  Words edited where a block is taken, plainly: they are read as the blocks behind the taking; all of the taken one's but its header are noughts, those beside it are as they were.
-/
import Derived.Test.YtlpbdnfecnochaaCrx
import Derived.Test.YtlpbdnfecnochaaOwi
import Derived.Test.YtlpbdnfecnochaaBkk
namespace Go.Proofs.Ytlpbdnfecnochaa
set_option maxRecDepth 100000

theorem byF_ext {n : Nat} {f g : Nat → Int} (h : ∀ k, k < n → f k = g k) : byF n f = byF n g := by
  refine List.ext_getElem (by simp [byF]) fun i h1 h2 => ?_
  simp [byF] at h1
  simp [byF, h i h1]
/-- words of which each nought ahead of k is turned into another word -/
def fil (n : Nat) (W : List Int) (sd : Int) (k : Nat) : List Int := byF n fun j => if j < k ∧ W.getD j 0 = 0 then IntKind.u64.wrap (sd + j) else W.getD j 0
theorem fil_length (n : Nat) (W : List Int) (sd : Int) (k : Nat) : (fil n W sd k).length = n := byF_length ..
theorem fil_getD {n j : Nat} (W : List Int) (sd : Int) (k : Nat) (h : j < n) : (fil n W sd k).getD j 0 = if j < k ∧ W.getD j 0 = 0 then IntKind.u64.wrap (sd + j) else W.getD j 0 := byF_getD _ h
theorem fil_zero {W : List Int} (sd : Int) : fil W.length W sd 0 = W := by
  refine List.ext_getElem (fil_length ..) fun i h1 h2 => ?_
  have := fil_getD W sd 0 h2
  rw [if_neg (by omega)] at this
  simp only [List.getD_eq_getElem?_getD] at this
  rw [List.getElem?_eq_getElem h1, List.getElem?_eq_getElem h2] at this
  exact this
theorem fil_same {n k : Nat} {W : List Int} (sd : Int) (h : W.getD k 0 ≠ 0) : fil n W sd (k + 1) = fil n W sd k := byF_ext fun j _ => by
  by_cases e : j = k
  · subst e
    rw [if_neg (fun q => h q.2), if_neg (fun q => h q.2)]
  · by_cases c : j < k
    · by_cases d : W.getD j 0 = 0
      · rw [if_pos ⟨by omega, d⟩, if_pos ⟨c, d⟩]
      · rw [if_neg (fun q => d q.2), if_neg (fun q => d q.2)]
    · rw [if_neg (fun q => by omega), if_neg (fun q => c q.1)]
theorem fil_set {n k : Nat} {W : List Int} (sd : Int) (h : W.getD k 0 = 0) : (fil n W sd k).set k (IntKind.u64.wrap (sd + k)) = fil n W sd (k + 1) := byF_set (by rw [if_pos ⟨by omega, h⟩]) fun j e => by
  by_cases d : W.getD j 0 = 0
  · by_cases c : j < k
    · rw [if_pos ⟨by omega, d⟩, if_pos ⟨c, d⟩]
    · rw [if_neg (fun q => by omega), if_neg (fun q => c q.1)]
  · rw [if_neg (fun q => d q.2), if_neg (fun q => d q.2)]
theorem fil_next {n k : Nat} {W : List Int} (sd : Int) (h : k < n) : (fil n W sd k).getD k 0 = W.getD k 0 := by
  rw [fil_getD W sd k h, if_neg (by omega)]
theorem wrap_in (x : Int) : 0 ≤ IntKind.u64.wrap x ∧ IntKind.u64.wrap x ≤ 18446744073709551615 := by
  rw [IntKind.wrap_u64]; omega
theorem fil_ok {n k : Nat} {W : List Int} {sd : Int} (hl : W.length = n) (h : WordsOk W) : WordsOk (fil n W sd k) := fun j hj => by
  rw [fil_length] at hj
  rw [fil_getD W sd k hj]
  split
  · exact wrap_in _
  · exact h j (by omega)
theorem appF_ok : ∀ (e : List Ed) (w : List Int), (∀ x ∈ e, 0 ≤ x.v ∧ x.v ≤ 18446744073709551615) → WordsOk w → WordsOk (appF w e)
  | [], _, _, h => h
  | x :: r, w, he, h => by
    rw [appF]
    refine appF_ok r _ (fun y hy => he y (List.mem_cons_of_mem _ hy)) ?_
    split
    · exact set_ok h (he x (List.mem_cons_self ..)).1 (he x (List.mem_cons_self ..)).2
    · exact h
theorem rise_mem : ∀ (vs : List Int) (a : Int), ∀ x ∈ rise a vs, x.v ∈ vs
  | [], _, x, h => by cases h
  | v :: r, a, x, h => by
    rw [rise] at h
    rcases List.mem_cons.1 h with rfl | h
    · exact List.mem_cons_self ..
    · exact List.mem_cons_of_mem _ (rise_mem r _ x h)
theorem takV_in (b : Bk) (n : Int) : ∀ v ∈ takV b n, 0 ≤ v ∧ v ≤ 18446744073709551615 := fun v hv => by
  rw [takV] at hv
  rcases List.mem_cons.1 hv with rfl | hv
  · exact hdB_in _ _
  · rcases List.mem_append.1 hv with hv | hv
    · rw [(List.mem_replicate.1 hv).2]; decide
    · split at hv
      · cases hv
      · rw [List.mem_singleton.1 hv]; exact hdB_in _ _
theorem hdB_ne {n : Int} {u : Bool} (h : MayB n) : hdB n u ≠ 0 := by
  rw [hdB_yes h]
  obtain ⟨h1, _⟩ := h
  rcases useB_or u with ⟨_, e⟩ | ⟨_, e⟩ <;> omega
theorem mayF_behind {n a : Int} {f : Bool} {p r : List Bk} {b : Bk} (h : mayF n a f (p ++ b :: r) = true) : ∀ c ∈ r, b.a + b.s ≤ c.a := fun c hc => by
  obtain ⟨g, h, _⟩ := mayF_app h
  obtain ⟨h1, _, _, h⟩ := mayF_cons.1 h
  have := (mayF_sizes h c hc).2.1
  omega
theorem mayF_ahead {n a : Int} {f : Bool} {p r : List Bk} {b : Bk} (h : mayF n a f (p ++ b :: r) = true) : ∀ c ∈ p, c.a + c.s ≤ b.a := fun c hc => by
  obtain ⟨p1, p2, rfl⟩ := List.append_of_mem hc
  rw [List.append_assoc, List.cons_append] at h
  exact mayF_behind h b (List.mem_append.2 (.inr (List.mem_cons_self ..)))

/-- what the words are, behind the edits -/
structure Edited (n z t m : Nat) (X v : List Int) : Prop where
  len : v.length = n
  ok : WordsOk v
  nul : ∀ k, z < k → k < z + t → v.getD k 0 = 0
  lo : ∀ k, k < z → v.getD k 0 = X.getD k 0
  hi : ∀ k, z + t + (if t < m then 1 else 0) ≤ k → v.getD k 0 = X.getD k 0
theorem edited {n z m t : Nat} {l : List Bk} {I N sd : Int} {u : Bool} (h : mayL n l = true) (hc : canC l I N = true) (hb : bAt l I = ⟨z, m, u⟩) (ht : takN m N = t) :
    blkF (appF (fil n (wrF (List.replicate n 0) l) sd n) (cedF l I N)) = some (crvF l I N) ∧ Edited n z t m (fil n (wrF (List.replicate n 0) l) sd n) (appF (fil n (wrF (List.replicate n 0) l) sd n) (cedF l I N)) := by
  obtain ⟨_, h0, h1, hu, hne⟩ := canC_yes.1 hc
  obtain ⟨hmw, hf⟩ := mayL_yes.1 h
  have hsp := bAt_split h0 h1
  have hin := mayF_sizes hf _ (bAt_mem h0 h1)
  rw [hb] at hu hne hin hsp
  simp only at hu hne hin
  obtain ⟨t1, t2, t3, t4⟩ := takN_some hne
  rw [ht] at t2 t3 t4 hne
  obtain ⟨⟨s1, s2⟩, s3, s4⟩ := hin
  have hcd : cedF l I N = rise (z : Int) (takV ⟨z, m, u⟩ N) := by
    rw [cedF, if_pos hc, hb]
    exact edF_prt (by simp only; rw [ht]; exact hne)
  have hvl := takV_length (b := ⟨z, m, u⟩) (n := N) (by simp only; rw [ht]; exact hne)
  have hva := takV_at (b := ⟨z, m, u⟩) (n := N) (by simp only; rw [ht]; exact hne)
  simp only [ht] at hvl hva
  have hML : (takV ⟨z, m, u⟩ N).length = t + (if t < m then 1 else 0) := by
    split at hvl <;> split <;> omega
  have hTM : t + (if t < m then 1 else 0) ≤ m := by split <;> omega
  obtain ⟨X, hX⟩ : ∃ X, fil n (wrF (List.replicate n 0) l) sd n = X := ⟨_, rfl⟩
  have hXl : X.length = n := by rw [← hX]; exact fil_length ..
  have hXok : WordsOk X := by rw [← hX]; exact fil_ok (by rw [wrF_length, List.length_replicate]) (wrF_ok _ _ (zeros_ok n))
  have hXh : ∀ c ∈ l, X.getD c.a.toNat 0 = hdB c.s c.u := fun c hc => by
    obtain ⟨g1, g2, g3⟩ := mayF_sizes hf c hc
    have hw := wrF_all (w := List.replicate n 0) (f := false) (by rw [List.length_replicate]; exact hf) c hc
    obtain ⟨g4, _⟩ := id g1
    rw [← hX, fil_getD _ _ _ (by omega), if_neg (fun q => by rw [hw] at q; exact hdB_ne g1 q.2), hw]
  rw [hX, hcd]
  have hv : ∀ j, (appF X (rise (z : Int) (takV ⟨z, m, u⟩ N))).getD j 0 = if z ≤ j ∧ j < z + (takV ⟨z, m, u⟩ N).length then (takV ⟨z, m, u⟩ N).getD (j - z) 0 else X.getD j 0 := fun j => appF_rise _ _ _ _ (by rw [hML]; omega)
  rw [hML] at hv
  have hlen : (appF X (rise (z : Int) (takV ⟨z, m, u⟩ N))).length = n := by rw [appF_length, hXl]
  have hokv : WordsOk (appF X (rise (z : Int) (takV ⟨z, m, u⟩ N))) := appF_ok _ _ (fun x hx => takV_in _ _ _ (rise_mem _ _ x hx)) hXok
  generalize hV : appF X (rise (z : Int) (takV ⟨z, m, u⟩ N)) = V at *
  refine ⟨blkF_of (by rw [hlen]; exact mayL_crv h hc) fun b hbm => ?_, hlen, hokv, fun k k1 k2 => ?_, fun k k1 => ?_, fun k k1 => ?_⟩
  · rw [crvF, if_pos hc, hb] at hbm
    rw [hsp] at hf
    have ha := mayF_ahead hf
    have hbh := mayF_behind hf
    rcases List.mem_append.1 hbm with hbm | hbm
    · have hbl : b ∈ l := List.mem_of_mem_take hbm
      have g := ha b hbm
      obtain ⟨⟨g1, _⟩, g2, _⟩ := mayF_sizes (mayL_yes.1 h).2 b hbl
      rw [hv, if_neg (by simp only at g; omega), hXh b hbl]
    · rcases List.mem_append.1 hbm with hbm | hbm
      · unfold prtB at hbm
        simp only [ht] at hbm
        split at hbm
        · rename_i e
          obtain rfl := List.mem_singleton.1 hbm
          rw [Int.toNat_natCast, hv, if_pos (by omega), Nat.sub_self, hva, if_pos rfl, e]
        · rename_i e
          simp only [List.mem_cons, List.not_mem_nil, or_false] at hbm
          rcases hbm with rfl | rfl
          · simp only [Int.toNat_natCast]
            rw [hv, if_pos (by omega), Nat.sub_self, hva, if_pos rfl]
          · simp only
            have e2 : ((z : Int) + (t : Int)).toNat = z + t := by omega
            have e3 : z + t - z = t := by omega
            have e4 : t < m := by omega
            rw [e2, hv, if_pos e4, if_pos (by omega), e3, hva, if_neg (show ¬ t = 0 by omega), if_neg (show ¬ (t : Int) < t by omega), if_pos ⟨rfl, e⟩]
      · have hbl : b ∈ l := List.mem_of_mem_drop hbm
        have g := hbh b hbm
        simp only at g
        rw [hv, if_neg (by omega), hXh b hbl]
  · rw [hv, if_pos (by split <;> omega), hva, if_neg (show ¬ k - z = 0 by omega), if_pos (by omega)]
  · rw [hv, if_neg (by omega)]
  · rw [hv, if_neg (by omega)]
end Go.Proofs.Ytlpbdnfecnochaa
