/-
  What a call changes of the blocks that were there; many cells stored into a block that is known whole.
-/
import Derived.Test.YtdnijdbhdlengaaBlk
import Derived.Deep.MidRow
namespace Go.Proofs.Ytdnijdbhdlengaa
set_option maxRecDepth 100000
open Go.ChangeShapes Go.WideShapes Go.ChangeAt Go.RowKit

/-- of the blocks that were there none has turned but those of D -/
structure Chg (D : List Nat) (w w' : World) : Prop where
  os : w'.os = w.os
  tape : w'.tape = w.tape
  output : w'.output = w.output
  size : w.heap.size ≤ w'.heap.size
  block : ∀ k, k < w.heap.size → k ∉ D → w'.heap[k]? = w.heap[k]?
theorem Chg.refl (D : List Nat) (w : World) : Chg D w w := ⟨rfl, rfl, rfl, Nat.le_refl _, fun _ _ _ => rfl⟩
theorem Chg.trans {D : List Nat} {w w1 w2 : World} (h : Chg D w w1) (h2 : Chg D w1 w2) : Chg D w w2 :=
  ⟨h2.os.trans h.os, h2.tape.trans h.tape, h2.output.trans h.output, Nat.le_trans h.size h2.size, fun k hk hD => (h2.block k (Nat.lt_of_lt_of_le hk h.size) hD).trans (h.block k hk hD)⟩
theorem Chg.mono {D D' : List Nat} {w w1 : World} (h : Chg D w w1) (hD : ∀ k ∈ D, k ∈ D') : Chg D' w w1 := ⟨h.os, h.tape, h.output, h.size, fun k hk hn => h.block k hk fun hx => hn (hD k hx)⟩
theorem Chg.drewN {D : List Nat} {w w1 : World} (h : Chg D w w1) (n : Nat) : Chg D w (w1.drewN n) := ⟨h.os, h.tape, h.output, h.size, h.block⟩
theorem Chg.drew {D : List Nat} {w w1 : World} (h : Chg D w w1) : Chg D w w1.drew := ⟨h.os, h.tape, h.output, h.size, h.block⟩
theorem Chg.from_drew {D : List Nat} {w w1 : World} (h : Chg D w.drew w1) : Chg D w w1 := ⟨h.os, h.tape, h.output, h.size, h.block⟩
theorem Chg.from_drewN {D : List Nat} {w w1 : World} {n : Nat} (h : Chg D (w.drewN n) w1) : Chg D w w1 := ⟨h.os, h.tape, h.output, h.size, h.block⟩
theorem Chg.alloc {D : List Nat} {w w1 : World} (h : Chg D w w1) (o : Obj) : Chg D w (w1.alloc o) :=
  ⟨h.os, h.tape, h.output, Nat.le_trans h.size (by simp), fun k hk hn => (Below.heap_alloc w1 o k (Nat.lt_of_lt_of_le hk h.size)).trans (h.block k hk hn)⟩
theorem Chg.setCell {D : List Nat} {w w1 : World} (h : Chg D w w1) {p : Addr} (hp : p.block ∈ D ∨ w.heap.size ≤ p.block) (u : Value) : Chg D w (w1.setCell p u) :=
  ⟨h.os, h.tape, h.output, by simpa [World.setCell] using h.size, fun k hk hn => (Below.heap_setCell w1 p u k (by rcases hp with hp | hp; exact fun e => hn (e ▸ hp); omega)).trans (h.block k hk hn)⟩
theorem Chg.setCells {D : List Nat} {w : World} {b : Nat} (hp : b ∈ D ∨ w.heap.size ≤ b) : ∀ (vs : List Value) (o : Nat) (w1 : World), Chg D w w1 → Chg D w (w1.setCells b o vs)
  | [], _, _, h => h
  | v :: r, o, w1, h => by
    rw [World.setCells]
    exact Chg.setCells hp r (o + 1) _ (h.setCell (p := ⟨b, o, none⟩) hp v)
theorem Chg.setRow {D : List Nat} {w w1 : World} (h : Chg D w w1) {g : Nat} (hp : g ∈ D ∨ w.heap.size ≤ g) (c : Array Value) : Chg D w (w1.setRow g c) := by
  refine ⟨h.os, h.tape, h.output, by simpa using h.size, fun k hk hn => ?_⟩
  rw [setRow_other w1 g k c (by rcases hp with hp | hp; exact fun e => hn (e ▸ hp); omega)]
  exact h.block k hk hn
theorem Chg.of_below {w w1 : World} (h : Below w.heap.size w w1) (D : List Nat) : Chg D w w1 := ⟨h.os, h.tape, h.output, h.size, fun k hk _ => h.block k hk⟩
theorem Chg.below {D : List Nat} {B : Nat} {w0 w w1 : World} (h : Chg D w w1) (h0 : Below B w0 w) (hB : B ≤ w.heap.size) (hD : ∀ k ∈ D, B ≤ k) : Below B w0 w1 :=
  h0.trans ⟨h.os, h.tape, h.output, h.size, fun k hk => h.block k (Nat.lt_of_lt_of_le hk hB) fun hx => by have := hD k hx; omega⟩
theorem Chg.whole {D : List Nat} {w w1 : World} (h : Chg D w w1) {g : Nat} {t : TypeId} {cs : Array Value} (hw : Whole w g t cs) (hg : g ∉ D) : Whole w1 g t cs := (h.block g hw.lt hg).trans hw

/-- many cells stored into a block that is known whole -/
theorem Whole.setCells {g : Nat} {t : TypeId} : ∀ (vs : List Value) (o : Nat) (w : World) (cs : Array Value), Whole w g t cs →
    ∃ cs', Whole (w.setCells g o vs) g t cs' ∧ cs'.size = cs.size ∧ ∀ j, cs'[j]? = if o ≤ j ∧ j < o + vs.length ∧ j < cs.size then vs[j - o]? else cs[j]?
  | [], o, w, cs, h => ⟨cs, h, rfl, fun j => by rw [if_neg (by simp; omega)]⟩
  | v :: r, o, w, cs, h => by
    obtain ⟨cs', h1, h2, h3⟩ := Whole.setCells r (o + 1) _ _ (h.set_ o v)
    refine ⟨cs', by rw [World.setCells]; exact h1, h2.trans (by simp), fun j => ?_⟩
    rw [h3 j]
    simp only [Array.size_setIfInBounds, List.length_cons]
    by_cases hj : o = j
    · subst hj
      rw [if_neg (by omega)]
      by_cases hs : o < cs.size
      · rw [if_pos (by omega)]; simp [hs]
      · rw [if_neg (by omega), Array.getElem?_setIfInBounds]; simp [hs]
    · have e : (cs.setIfInBounds o v)[j]? = cs[j]? := by rw [Array.getElem?_setIfInBounds, if_neg hj]
      rw [e]
      by_cases hin : o + 1 ≤ j ∧ j < o + 1 + r.length ∧ j < cs.size
      · rw [if_pos hin, if_pos (by omega)]
        have : j - o = (j - (o + 1)) + 1 := by omega
        rw [this, List.getElem?_cons_succ]
      · rw [if_neg hin, if_neg (by omega)]
end Go.Proofs.Ytdnijdbhdlengaa
