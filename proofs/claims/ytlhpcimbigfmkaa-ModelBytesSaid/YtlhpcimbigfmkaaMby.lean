/-
  One block of a model at first, plainly: which bytes it has, that they are noughts; what is read behind a writing.
-/
import Derived.Test.YtlhpcimbigfmkaaMrt
import Derived.Laws.CopyOwn
namespace Go.Proofs.Ytlhpcimbigfmkaa
set_option maxRecDepth 100000
open Go.ChangeShapes Go.WideShapes Go.ChangeAt Go.RowKit

structure OneB (N K : Nat) (wl : List Int) (l : List Bk) : Prop where
  hB : blkF wl = some l
  ok : WordsOk wl
  len : wl.length = N
  ref : ∀ o m : Int, refF wl o m = if (0 ≤ m ∧ m ≤ 448) ∧ 8 ≤ o ∧ o ≤ K * 8 - m then 0 else 1
  nul : ∀ p, 8 ≤ p → p < 8 * K → bAt_ wl p = 0
theorem oneB_is {N K : Nat} (h : Mw N) (h2 : 2 ≤ K) (hk : K + 2 ≤ N) : OneB N K (alW (firstL N) K [⟨0, N, false⟩] 8) (alB K [⟨0, N, false⟩] 8) := by
  obtain ⟨_, f2, f3, f4, _, _, _⟩ := fresh_is (k := K) h (by omega) (by omega)
  obtain ⟨e1, e2, e3⟩ := first_blk h
  have hw : alW (firstL N) K [⟨0, N, false⟩] 8 = appF (firstL N) (cedF [⟨0, N, false⟩] (0 : Nat) K) := by
    unfold alW
    rw [f2]
  rw [hw, f3]
  obtain ⟨k1, z, t, m, g1, g2, g3, g4, hT⟩ := taken e1 e3 f4
  have hz : z = 0 ∧ m = N := by
    have : (⟨0, N, false⟩ : Bk) = ⟨z, m, false⟩ := g1
    injection this with q q2 _
    omega
  obtain ⟨rfl, rfl⟩ := hz
  have ht : t = K := by
    unfold takN at g2
    rw [if_pos (by omega), if_neg (by omega)] at g2
    omega
  subst ht
  have hm1 := blkF_some k1
  refine ⟨k1, hT.ok, by rw [hT.len, e2], fun o n => ?_, fun p p1 p2 => ?_⟩
  · unfold refF
    rw [k1]
    simp only
    have h8 : offB (0 : Int) = 8 := by decide
    have key : inL o n (crvF [⟨0, m, false⟩] (0 : Nat) t) = true ↔ (0 ≤ n ∧ n ≤ 448) ∧ 8 ≤ o ∧ o ≤ t * 8 - n := by
      rw [inL_yes]
      constructor
      · rintro ⟨hn, b, hb, bu, b1, b2⟩
        refine ⟨hn, ?_⟩
        rcases crv_from f4 hb bu with q | q
        · rw [List.mem_singleton.1 q] at bu
          cases bu
        · rw [q] at b1 b2
          simp only [g1, g2] at b1 b2
          rw [show (((0 : Nat) : Int)) = 0 from rfl, h8] at b1
          omega
      · rintro ⟨hn, h1, h2⟩
        have hlen1 := crv_length f4
        have hmem := getD_mem (l := crvF [⟨0, m, false⟩] ((0 : Nat) : Int) t) (k := 0) (by rw [hlen1]; simp only [List.length_singleton]; omega)
        rw [g4] at hmem
        refine ⟨hn, _, hmem, rfl, ?_, ?_⟩
        · rw [show (((0 : Nat) : Int)) = 0 from rfl, h8]; exact h1
        · simp only; omega
    by_cases c : (0 ≤ n ∧ n ≤ 448) ∧ 8 ≤ o ∧ o ≤ t * 8 - n
    · rw [if_pos (key.2 c), if_pos c]
    · rw [if_neg (fun q => c (key.1 q)), if_neg c]
  · unfold bAt_
    rw [hT.nul (p / 8) (by omega) (by omega)]
    simp [bt]
/-- the operation at hand writes that slot (taken by with_reducible: it fails at once where it is another one) -/
theorem at_dst {P : Program} {ops : Array Oper} {rest : List Oper} {a : Act} {w : World} {Q : Exit → Act → World → Prop} (k : Tmp) {op : Op} {ty : TypeId} {pos : String} {after : Array Edge} {gd : Option (Nat × Bool)} (h : wpList P ops Q (⟨some k, op, ty, pos, after, gd⟩ :: rest) a w) : wpList P ops Q (⟨some k, op, ty, pos, after, gd⟩ :: rest) a w := h
theorem list_by {A B : List Int} (hl : A.length = B.length) (h : ∀ i, i < A.length → A.getD i 0 = B.getD i 0) : A = B := by
  refine List.ext_getElem hl fun i h1 h2 => ?_
  have := h i h1
  rw [List.getD_eq_getElem?_getD, List.getD_eq_getElem?_getD, List.getElem?_eq_getElem h1, List.getElem?_eq_getElem h2] at this
  simpa using this
theorem splice_get (R at_ : Nat) (bl : List Int) (hf : at_ + bl.length ≤ R) (i : Nat) (hi : i < R) : (splice (List.replicate R (0 : Int)) at_ bl).getD i 0 = if at_ ≤ i ∧ i < at_ + bl.length then bl.getD (i - at_) 0 else 0 := by
  unfold splice
  rw [List.getD_eq_getElem?_getD]
  by_cases c1 : i < at_
  · rw [List.getElem?_append_left (by rw [List.length_take, List.length_replicate]; omega), List.getElem?_take_of_lt c1, List.getElem?_replicate, if_pos (by omega), if_neg (by omega)]
    rfl
  · rw [List.getElem?_append_right (by rw [List.length_take, List.length_replicate]; omega), List.length_take, List.length_replicate, Nat.min_eq_left (by omega)]
    by_cases c2 : i < at_ + bl.length
    · rw [List.getElem?_append_left (by omega), if_pos (by omega), ← List.getD_eq_getElem?_getD]
    · rw [List.getElem?_append_right (by omega), List.getElem?_drop, List.getElem?_replicate, if_pos (by omega), if_neg (by omega)]
      rfl
/-- what is read of all its bytes -/
theorem oneB_read {N K : Nat} {wl : List Int} {l : List Bk} (h : OneB N K wl l) (h2 : 2 ≤ K) (hk : K ≤ 57) (hN : K ≤ N) : refF wl 8 ((8 * (K - 1) : Nat) : Int) = 0 ∧ rdR wl 8 ((8 * (K - 1) : Nat) : Int) = List.replicate (8 * (K - 1)) 0 := by
  have hr : refF wl 8 ((8 * (K - 1) : Nat) : Int) = 0 := by rw [h.ref, if_pos (by omega)]
  refine ⟨hr, ?_⟩
  have hl := h.len
  rw [rdR, if_pos hr, rdL, if_pos ⟨by omega, by omega, by omega, by omega⟩]
  refine list_by (by rw [rdB_length, List.length_replicate, Int.toNat_natCast]) fun i hi => ?_
  rw [rdB_length, Int.toNat_natCast] at hi
  rw [Int.toNat_natCast, rdB_getD _ _ _ _ hi, show (8 : Int).toNat = 8 from rfl, h.nul _ (by omega) (by omega), List.getD_eq_getElem?_getD, List.getElem?_replicate, if_pos hi]
  rfl
theorem oneB_wrote {N K : Nat} {wl : List Int} {l : List Bk} (h : OneB N K wl l) (h2 : 2 ≤ K) (hk : K ≤ 57) (hN : K ≤ N) {at_ : Nat} {bl : List Int} (hf : at_ + bl.length ≤ 8 * (K - 1)) {M : List Ed} (hM : WrT wl bl ((8 + at_ : Nat) : Int) M) (hB' : blkF (appF wl M) = some l) :
    refF (appF wl M) 8 ((8 * (K - 1) : Nat) : Int) = 0 ∧ rdR (appF wl M) 8 ((8 * (K - 1) : Nat) : Int) = splice (List.replicate (8 * (K - 1)) 0) at_ bl := by
  have hr0 : refF wl ((8 + at_ : Nat) : Int) bl.length = 0 := by rw [h.ref, if_pos (by omega)]
  unfold WrT at hM
  rw [if_pos hr0] at hM
  have hl := h.len
  unfold Tells at hM
  rw [if_pos ⟨by omega, by omega, by omega, by omega⟩, Int.toNat_natCast] at hM
  obtain ⟨v1, v2⟩ := appF_isE hM (wd_ok h.ok) (by omega)
  have hr : refF (appF wl M) 8 ((8 * (K - 1) : Nat) : Int) = 0 := by
    have := h.ref 8 ((8 * (K - 1) : Nat) : Int)
    rw [if_pos (by omega)] at this
    unfold refF at this ⊢
    rw [h.hB] at this
    rw [hB']
    exact this
  refine ⟨hr, ?_⟩
  rw [rdR, if_pos hr, rdL, if_pos ⟨by omega, by omega, by omega, by rw [appF_length]; omega⟩]
  refine list_by (by rw [rdB_length, length_splice _ _ _ (by rw [List.length_replicate]; exact hf), List.length_replicate, Int.toNat_natCast]) fun i hi => ?_
  rw [rdB_length, Int.toNat_natCast] at hi
  rw [Int.toNat_natCast, rdB_getD _ _ _ _ hi, show (8 : Int).toNat = 8 from rfl, v2 _ (by omega), splice_get _ _ _ hf _ hi, tgt]
  by_cases c : at_ ≤ i ∧ i < at_ + bl.length
  · rw [if_pos (by omega), if_pos c]
    congr 1
    omega
  · rw [if_neg (by omega), if_neg c, h.nul _ (by omega) (by omega)]
theorem flat_one_by : ∀ S : List Int, S.flatMap byE.enc = S.map (Value.int .u8)
  | [] => rfl
  | x :: r => by rw [List.flatMap_cons, List.map_cons, flat_one_by r]; rfl
/-- bytes that were made, and copied into -/
theorem by_of {w : World} {g n : Nat} {S : List Int} (h : w.heap[g]? = some (.cells (S.map (Value.int .u8)).toArray 5 (0, 0))) (hn : S.length = n) (hs : ∀ x ∈ S, By x) (hm : n ≤ 100000) : RA byE w (.slice (some ⟨g, 0, none⟩) n n) S := by
  subst hn
  refine ⟨_, _, rfl, Nat.le_refl _, by unfold maxLen; omega, hs, .inr ⟨g, 0, rfl, (Array.getElem?_eq_some_iff.1 h).1, fun j u hj => ?_⟩⟩
  have e : S.flatMap byE.enc = S.map (Value.int .u8) := by
    exact flat_one_by S
  rw [e] at hj
  rw [cell_of_row w g (0 + j) _ 5 (0, 0) h, Nat.zero_add, List.getElem?_toArray, hj]
theorem splice_map {α β : Type} (f : α → β) (L : List α) (a : Nat) (cs : List α) : (splice L a cs).map f = splice (L.map f) a (cs.map f) := by
  simp [splice, List.map_take, List.map_drop]
theorem splice_by {R a : Nat} {bl : List Int} (h : ∀ x ∈ bl, By x) : ∀ x ∈ splice (List.replicate R (0 : Int)) a bl, By x := fun x hx => by
  have h0 : By 0 := ⟨by decide, by decide⟩
  unfold splice at hx
  rcases List.mem_append.1 hx with hx | hx
  · rw [(List.mem_replicate.1 (List.mem_of_mem_take hx)).2]; exact h0
  · rcases List.mem_append.1 hx with hx | hx
    · exact h x hx
    · rw [(List.mem_replicate.1 (List.mem_of_mem_drop hx)).2]; exact h0
end Go.Proofs.Ytlhpcimbigfmkaa
