/-
  Which block is taken, plainly: how many words bytes need, what is taken, which blocks fit, which of them is chosen.
-/
import Derived.Test.YtdnijdbhdlengaaBkp
namespace Go.Proofs.Ytdnijdbhdlengaa
set_option maxRecDepth 100000

/-- words for n bytes -/
def needN (n : Int) : Int := if 1 ≤ n ∧ n ≤ 448 then (n + 7) / 8 + 1 else 0
/-- what is taken -/
def takN (s n : Int) : Int := if 2 ≤ n ∧ n ≤ s then (if s - n < 2 then s else n) else 0
theorem takN_zero {s n : Int} : takN s n = 0 ↔ ¬ (2 ≤ n ∧ n ≤ s) := by
  unfold takN
  split
  · split <;> omega
  · rename_i h
    exact ⟨fun _ => h, fun _ => rfl⟩
/-- a free one that is large enough -/
def fitB (n : Int) (b : Bk) : Bool := !b.u && decide (2 ≤ n ∧ n ≤ b.s)
/-- a free one of a size -/
def hasS (z : Int) (b : Bk) : Bool := !b.u && decide (b.s = z)
/-- the lowest size of those that fit -/
def tgS (n : Int) : Int → List Bk → Int
  | m, [] => m
  | m, b :: r => tgS n (if fitB n b = true ∧ (m = 0 ∨ b.s < m) then b.s else m) r
/-- the places of those of a size -/
def plS (z : Int) : Nat → List Bk → List Nat
  | _, [] => []
  | k, b :: r => if hasS z b = true then k :: plS z (k + 1) r else plS z (k + 1) r
def fitN (n : Int) (l : List Bk) : List Nat := if tgS n 0 l = 0 then [] else plS (tgS n 0 l) 0 l
/-- places as ints -/
def ins (f : List Nat) : List Int := f.map fun (i : Nat) => (i : Int)

theorem fitB_iff {n : Int} {b : Bk} : fitB n b = true ↔ b.u = false ∧ 2 ≤ n ∧ n ≤ b.s := by
  unfold fitB
  cases b.u <;> simp
theorem hasS_iff {z : Int} {b : Bk} : hasS z b = true ↔ b.u = false ∧ b.s = z := by
  unfold hasS
  cases b.u <;> simp
theorem tgS_spec (n : Int) : ∀ (l : List Bk) (m : Int), 0 ≤ m → (tgS n m l = m ∨ ∃ b ∈ l, fitB n b = true ∧ b.s = tgS n m l) ∧ (∀ b ∈ l, fitB n b = true → 0 < tgS n m l ∧ tgS n m l ≤ b.s) ∧ (0 < m → 0 < tgS n m l ∧ tgS n m l ≤ m)
  | [], m, _ => ⟨.inl rfl, fun _ h => (List.not_mem_nil h).elim, fun h => ⟨h, Int.le_refl _⟩⟩
  | b :: r, m, hm => by
    rw [tgS]
    split
    · rename_i h
      obtain ⟨hf, hlt⟩ := h
      obtain ⟨hu, h2, hn⟩ := fitB_iff.1 hf
      obtain ⟨g1, g2, g3⟩ := tgS_spec n r b.s (by omega)
      obtain ⟨g4, g5⟩ := g3 (by omega)
      refine ⟨.inr ?_, fun c hc hfc => ?_, fun h0 => ⟨g4, by omega⟩⟩
      · rcases g1 with g1 | ⟨c, hc, g⟩
        · exact ⟨b, List.mem_cons_self .., hf, g1.symm⟩
        · exact ⟨c, List.mem_cons_of_mem _ hc, g⟩
      · rcases List.mem_cons.1 hc with rfl | hc
        · exact ⟨g4, g5⟩
        · exact g2 c hc hfc
    · rename_i h
      obtain ⟨g1, g2, g3⟩ := tgS_spec n r m hm
      refine ⟨g1.imp id fun ⟨c, hc, g⟩ => ⟨c, List.mem_cons_of_mem _ hc, g⟩, fun c hc hfc => ?_, g3⟩
      rcases List.mem_cons.1 hc with rfl | hc
      · have hm0 : 0 < m ∧ m ≤ c.s := by
          by_cases h0 : m = 0
          · exact absurd ⟨hfc, .inl h0⟩ h
          · by_cases h1 : c.s < m
            · exact absurd ⟨hfc, .inr h1⟩ h
            · omega
        obtain ⟨g4, g5⟩ := g3 hm0.1
        exact ⟨g4, by omega⟩
      · exact g2 c hc hfc
theorem plS_mem {z : Int} : ∀ {l : List Bk} {k i : Nat}, i ∈ plS z k l → k ≤ i ∧ i - k < l.length ∧ hasS z (l.getD (i - k) default) = true
  | [], k, i, h => by simp [plS] at h
  | b :: r, k, i, h => by
    rw [plS] at h
    split at h
    · rename_i hb
      rcases List.mem_cons.1 h with rfl | h
      · simpa using hb
      · obtain ⟨h1, h2, h3⟩ := plS_mem h
        refine ⟨by omega, by simp only [List.length_cons]; omega, ?_⟩
        rw [show i - k = (i - (k + 1)) + 1 by omega]; simpa using h3
    · obtain ⟨h1, h2, h3⟩ := plS_mem h
      refine ⟨by omega, by simp only [List.length_cons]; omega, ?_⟩
      rw [show i - k = (i - (k + 1)) + 1 by omega]; simpa using h3
theorem plS_has {z : Int} : ∀ {l : List Bk} {k j : Nat}, j < l.length → hasS z (l.getD j default) = true → k + j ∈ plS z k l
  | [], k, j, h, _ => by simp at h
  | b :: r, k, 0, h, hb => by
    have hb : hasS z b = true := by simpa using hb
    rw [plS, if_pos hb]; exact List.mem_cons_self ..
  | b :: r, k, j + 1, h, hb => by
    have := plS_has (z := z) (l := r) (k := k + 1) (j := j) (by simpa using h) (by simpa using hb)
    rw [show k + (j + 1) = k + 1 + j by omega, plS]
    split
    · exact List.mem_cons_of_mem _ this
    · exact this
theorem plS_rise {z : Int} : ∀ {l : List Bk} {k : Nat}, (plS z k l).Pairwise (· < ·)
  | [], k => by rw [plS]; exact List.Pairwise.nil
  | b :: r, k => by
    rw [plS]
    split
    · refine List.Pairwise.cons (fun i hi => ?_) plS_rise
      have := (plS_mem hi).1
      omega
    · exact plS_rise

/-- none fits -/
theorem fitN_none {n : Int} {l : List Bk} (h : ∀ b ∈ l, fitB n b = false) : fitN n l = [] := by
  obtain ⟨g1, _, _⟩ := tgS_spec n l 0 (Int.le_refl _)
  rw [fitN, if_pos]
  rcases g1 with g | ⟨b, hb, hf, _⟩
  · exact g
  · rw [h b hb] at hf; cases hf
theorem getD_mem {l : List Bk} {k : Nat} (hk : k < l.length) : l.getD k default ∈ l := by
  rw [List.getD_eq_getElem?_getD, List.getElem?_eq_getElem hk]; exact List.getElem_mem hk
/-- one that is told fits, and none that fits is smaller; all of its size are told -/
theorem fitN_mem {n : Int} {l : List Bk} {i : Nat} (h : i ∈ fitN n l) : i < l.length ∧ fitB n (l.getD i default) = true ∧ (∀ b ∈ l, fitB n b = true → (l.getD i default).s ≤ b.s) ∧ (l.getD i default).s = tgS n 0 l := by
  obtain ⟨g1, g2, _⟩ := tgS_spec n l 0 (Int.le_refl _)
  rw [fitN] at h
  split at h
  · cases h
  · rename_i h0
    obtain ⟨_, h2, h3⟩ := plS_mem h
    rw [Nat.sub_zero] at h2 h3
    obtain ⟨hu, hs⟩ := hasS_iff.1 h3
    refine ⟨h2, ?_, fun b hb hf => by rw [hs]; exact (g2 b hb hf).2, hs⟩
    rcases g1 with g | ⟨b, hb, hf, e⟩
    · exact absurd g h0
    · obtain ⟨_, q1, q2⟩ := fitB_iff.1 hf
      exact fitB_iff.2 ⟨hu, q1, by omega⟩
theorem fitN_some {n : Int} {l : List Bk} {b : Bk} (hb : b ∈ l) (hf : fitB n b = true) : fitN n l ≠ [] := by
  obtain ⟨g1, g2, _⟩ := tgS_spec n l 0 (Int.le_refl _)
  have h0 := (g2 b hb hf).1
  rw [fitN, if_neg (by omega)]
  rcases g1 with g | ⟨c, hc, hfc, e⟩
  · omega
  · obtain ⟨j, hj, ej⟩ := List.getElem_of_mem hc
    have : 0 + j ∈ plS (tgS n 0 l) 0 l := plS_has hj (by
      rw [List.getD_eq_getElem?_getD, List.getElem?_eq_getElem hj, Option.getD_some, ej]
      exact hasS_iff.2 ⟨(fitB_iff.1 hfc).1, e⟩)
    intro h
    rw [h] at this; cases this
theorem fitN_rise {n : Int} {l : List Bk} : (fitN n l).Pairwise (· < ·) := by
  unfold fitN
  split
  · exact List.Pairwise.nil
  · exact plS_rise

/-- how often the page of a word was written -/
def wrN (cs : List Int) (a : Int) : Int := if a < 0 then 0 else cs.getD (a / 32).toNat 0
/-- is the one at x taken rather than the one at y -/
def ahd (cs : List Int) (x y : Int) : Bool := if wrN cs x = wrN cs y then decide (x < y) else decide (wrN cs x < wrN cs y)
theorem ahd_iff {cs : List Int} {x y : Int} : ahd cs x y = true ↔ wrN cs x < wrN cs y ∨ wrN cs x = wrN cs y ∧ x < y := by
  unfold ahd
  split <;> simp <;> omega
def atL (l : List Bk) (i : Nat) : Int := (l.getD i default).a
/-- the one that is chosen of some places -/
def chO (cs : List Int) (l : List Bk) : Option Nat → List Nat → Option Nat
  | c, [] => c
  | none, i :: r => chO cs l (some i) r
  | some c, i :: r => chO cs l (if ahd cs (atL l i) (atL l c) = true then some i else some c) r
def oi : Option Nat → Int
  | none => -1
  | some i => i
def chN (n : Int) (cs : List Int) (l : List Bk) : Option Nat := chO cs l none (fitN n l)
theorem chO_none {cs : List Int} {l : List Bk} {i : Nat} {r : List Nat} : chO cs l none (i :: r) = chO cs l (some i) r := by rw [chO]
theorem chO_spec {cs : List Int} {l : List Bk} : ∀ (f : List Nat) (c : Nat), ∃ d, chO cs l (some c) f = some d ∧ (d = c ∨ d ∈ f) ∧ ahd cs (atL l c) (atL l d) = false ∧ ∀ i ∈ f, ahd cs (atL l i) (atL l d) = false
  | [], c => ⟨c, rfl, .inl rfl, by rw [Bool.eq_false_iff, Ne, ahd_iff]; omega, fun _ h => (List.not_mem_nil h).elim⟩
  | i :: r, c => by
    rw [chO]
    split
    · rename_i h
      obtain ⟨d, e, h1, h2, h3⟩ := chO_spec r i
      refine ⟨d, e, .inr (by rcases h1 with rfl | h1; exact List.mem_cons_self ..; exact List.mem_cons_of_mem _ h1), ?_, fun j hj => ?_⟩
      · rw [Bool.eq_false_iff, Ne, ahd_iff] at h2 ⊢
        rw [ahd_iff] at h
        omega
      · rcases List.mem_cons.1 hj with rfl | hj
        · exact h2
        · exact h3 j hj
    · rename_i h
      obtain ⟨d, e, h1, h2, h3⟩ := chO_spec r c
      refine ⟨d, e, h1.imp id (List.mem_cons_of_mem _), h2, fun j hj => ?_⟩
      rcases List.mem_cons.1 hj with rfl | hj
      · rw [Bool.eq_false_iff, Ne, ahd_iff] at h2 ⊢
        rw [ahd_iff] at h
        omega
      · exact h3 j hj
theorem chN_none {n : Int} {cs : List Int} {l : List Bk} (h : fitN n l = []) : chN n cs l = none := by rw [chN, h, chO]
theorem chN_some {n : Int} {cs : List Int} {l : List Bk} (h : fitN n l ≠ []) : ∃ d, chN n cs l = some d ∧ d ∈ fitN n l ∧ ∀ i ∈ fitN n l, wrN cs (atL l d) ≤ wrN cs (atL l i) := by
  unfold chN
  cases hf : fitN n l with
  | nil => exact absurd hf h
  | cons i r =>
    obtain ⟨d, e, h1, h2, h3⟩ := chO_spec (cs := cs) (l := l) r i
    refine ⟨d, by rw [chO_none, e], by rcases h1 with rfl | h1; exact List.mem_cons_self ..; exact List.mem_cons_of_mem _ h1, fun j hj => ?_⟩
    have : ahd cs (atL l j) (atL l d) = false := by
      rcases List.mem_cons.1 hj with rfl | hj
      · exact h2
      · exact h3 j hj
    rw [Bool.eq_false_iff, Ne, ahd_iff] at this
    omega
end Go.Proofs.Ytdnijdbhdlengaa
