/-
  How many lines a call's edits are in: no more than its cost says; plainly, and of the reference.
-/
import Derived.Test.YtegbeolnlpgdeaaOps
import Derived.Test.YtegbeolnlpgdeaaZmd
import Derived.Test.YtegbeolnlpgdeaaElr
import Derived.Test.YtegbeolnlpgdeaaZmc
namespace Go.Proofs.Ytegbeolnlpgdeaa
set_option maxRecDepth 100000
open Go.ChangeShapes Go.WideShapes Go.ChangeAt Go.RowKit

/-- a list that rises between two numbers is no longer than these are apart -/
theorem up_few : ∀ {l : List Int} {a b : Int}, Up l → a ≤ b + 1 → (∀ x ∈ l, a ≤ x ∧ x ≤ b) → (l.length : Int) ≤ b - a + 1
  | [], a, b, _, h, _ => by simp; omega
  | x :: r, a, b, hu, h, hx => by
    unfold Up at hu
    rw [List.pairwise_cons] at hu
    obtain ⟨x1, x2⟩ := hx x (List.mem_cons_self ..)
    have := up_few (l := r) (a := x + 1) (b := b) hu.2 (by omega) fun y hy => ⟨by have := hu.1 y hy; omega, (hx y (List.mem_cons_of_mem _ hy)).2⟩
    rw [List.length_cons]; push_cast; omega
theorem lines_few {es : List Ed} {l : List Int} (h : IsL es l) {a b : Int} (hab : a ≤ b + 1) (hw : ∀ e ∈ es, a ≤ e.w / 8 ∧ e.w / 8 ≤ b) : (l.length : Int) ≤ b - a + 1 :=
  up_few h.up hab fun x hx => by
    obtain ⟨e, he, _, rfl⟩ := mem_lnR.1 ((h.mem x).1 hx)
    exact hw e he
theorem rise_w : ∀ (vs : List Int) (a : Int), ∀ e ∈ rise a vs, a ≤ e.w ∧ e.w < a + vs.length
  | [], _, e, h => by cases h
  | v :: r, a, e, h => by
    rw [rise] at h
    rw [List.length_cons]
    rcases List.mem_cons.1 h with rfl | h
    · dsimp only; push_cast; omega
    · have := rise_w r _ e h
      push_cast; omega

/-- edits that can be written, in no more than c lines -/
structure EdsOk (es : List Ed) (c : Int) : Prop where
  ok : ∀ x ∈ es, 0 ≤ x.v ∧ x.v ≤ 18446744073709551615
  len : es.length ≤ 4000
  few : ∀ l, IsL es l → (l.length : Int) ≤ c
theorem EdsOk.none {c : Int} (h : 0 ≤ c) : EdsOk [] c := ⟨(fun x hx => by cases hx), by simp, fun l hl => by rw [hl.one IsL.nil]; simpa using h⟩
theorem taken_few {s n : Int} (h : takN s n ≠ 0) : takN s n + (if takN s n = s then 0 else 1) ≤ n + 1 := by
  obtain ⟨h1, h2, h3, h4⟩ := takN_some h
  unfold takN at *
  rw [if_pos (by omega)] at *
  split at * <;> split <;> omega
theorem al_fine (X : List Int) (n k : Int) : EdsOk (alR X n []).1 (lnC 1 n k) := by
  have h0 := (lnC_in 1 n k).1
  unfold alR
  split
  · exact EdsOk.none h0
  · rename_i hn
    cases blkF X with
    | none => exact EdsOk.none h0
    | some l =>
      dsimp only
      cases chN (needN n) [] l with
      | none => exact EdsOk.none h0
      | some d =>
        dsimp only
        unfold cedF
        split
        · rename_i hc
          obtain ⟨_, _, _, _, ht⟩ := canC_yes.1 hc
          rw [edF_prt ht]
          have hl := takV_length ht
          have hf := taken_few ht
          have hr : 1 ≤ n ∧ n ≤ 448 := by
            unfold needN at hn
            split at hn
            · assumption
            · exact absurd rfl hn
          have hN : needN n = (n + 7) / 8 + 1 := by unfold needN; rw [if_pos hr]
          have e1 : lnC 1 n k = n / 64 + 4 := by unfold lnC filC; rw [if_pos rfl, if_neg (by omega)]
          generalize (bAt l (d : Int)) = b at *
          rw [hN] at hf hl ht ⊢
          refine ⟨fun x hx => takV_in _ _ _ (rise_mem _ _ x hx), by rw [rise_length]; omega, fun m hm => ?_⟩
          have := lines_few hm (a := b.a / 8) (b := (b.a + ((n + 7) / 8 + 1)) / 8) (by omega) fun e he => by
            have := rise_w _ _ e he
            constructor <;> omega
          omega
        · exact EdsOk.none h0
theorem fr_fine (X : List Int) (o : Int) : EdsOk (frR X o).1 1 := by
  unfold frR
  cases blkF X with
  | none => exact EdsOk.none (by decide)
  | some l =>
    dsimp only
    cases isN o l with
    | none => exact EdsOk.none (by decide)
    | some k =>
      dsimp only
      refine ⟨fun x hx => ?_, by simp, fun m hm => ?_⟩
      · rw [List.mem_singleton.1 hx]
        unfold medF
        split
        · exact hdB_in _ _
        · decide
      · have := lines_few hm (a := (medF l k).w / 8) (b := (medF l k).w / 8) (by omega) fun e he => by rw [List.mem_singleton.1 he]; omega
        omega
theorem wr_fine {X bl : List Int} {o : Int} {L : List Ed} (h : WrT X bl o L) : EdsOk L (lnC 4 0 bl.length) := by
  have h0 := (lnC_in 4 0 bl.length).1
  unfold WrT at h
  split at h
  · unfold Tells at h
    split at h
    · rename_i _ hi
      obtain ⟨o1, n1, n2, _⟩ := hi
      obtain ⟨hl, ha⟩ := h
      have e1 : lnC 4 0 bl.length = (bl.length : Int) / 64 + 2 := by unfold lnC filC; rw [if_neg (by decide), if_pos rfl, if_neg (by omega)]
      obtain ⟨p, hp⟩ : ∃ p : Nat, o = p := ⟨o.toNat, by omega⟩
      subst hp
      rw [Int.toNat_natCast] at hl ha
      unfold cnt at hl
      have hm : ∀ e ∈ L, ∃ j, j < L.length ∧ L.getD j default = e := fun e he => by
        obtain ⟨j, hj, e'⟩ := List.getElem_of_mem he
        exact ⟨j, hj, by simp [hj, e']⟩
      refine ⟨fun x hx => ?_, ?_, fun m hm' => ?_⟩
      · obtain ⟨j, hj, rfl⟩ := hm x hx
        obtain ⟨_, hw, _⟩ := ha j hj
        unfold Wd at hw
        omega
      · split at hl <;> omega
      · split at hl
        · have : L = [] := List.eq_nil_of_length_eq_zero hl
          subst this
          rw [hm'.one IsL.nil]; simpa using h0
        · have := lines_few hm' (a := (p : Int) / 64) (b := ((p : Int) + bl.length - 1) / 64) (by omega) fun e he => by
            obtain ⟨j, hj, rfl⟩ := hm e he
            obtain ⟨hw, _⟩ := ha j hj
            rw [hw]; constructor <;> omega
          omega
    · subst h; exact EdsOk.none h0
  · subst h; exact EdsOk.none h0

/-- the reference's EditLines: so many -/
theorem rlen_is {es : List Ed} {c : Int} (h : EdsOk es c) (u : Value) (w : World) (hu : RA edE w u es) :
    Calls Try.prog 21 #[u] w fun e w' => ∃ p n d, e = .returned (.slice p n d) ∧ (n : Int) ≤ c ∧ Below w.heap.size w w' :=
  (rlines_is es u w hu h.len).mono fun e w' ⟨⟨x, l, e1, ho, hl⟩, hb⟩ => by
    obtain ⟨p, d, rfl⟩ := ho.shape
    exact ⟨p, l.length, d, e1, h.few l hl, hb⟩
theorem appF_fine {es : List Ed} {c : Int} (h : EdsOk es c) {X : List Int} (hX : WordsOk X) : WordsOk (appF X es) := appF_ok es X h.ok hX
end Go.Proofs.Ytegbeolnlpgdeaa
