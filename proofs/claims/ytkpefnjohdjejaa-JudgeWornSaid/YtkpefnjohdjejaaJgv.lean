/-
  A judge of 64 words that was told of one block: what it is, whatever the block's size.
-/
import Derived.Test.YtkpefnjohdjejaaJgk
namespace Go.Proofs.Ytkpefnjohdjejaa
set_option maxRecDepth 100000
open Go.ChangeShapes Go.WideShapes Go.ChangeAt Go.RowKit

theorem Jb.any {w0 w : World} {j : Nat} {s : Js} (h : Jb w0 w j s) (x : Px) (e o : Int) {v : Value} {l : List Int} (hx : RA byE w x.v x.bl) (hxl : x.bl.length ≤ 100000) (hv : RA byE w v l) : Calls Try.prog 10 #[.pointer (some ⟨j, 0, none⟩), .agg (pxc x), .agg (anc e o v)] w fun f w' =>
    ∃ b s', f = .returned (.bool b) ∧ SeeQ s x.d x.o x.nn x.bl e o l b s' ∧ Jb w0 w' j s' := by
  obtain ⟨g, D, h1, h2⟩ := h.ex
  refine (jsee_is x e o h1 hx hxl hv).mono ?_
  rintro f w' ⟨b, s', g', D', rfl, q, hj, hc, hg, hn⟩
  refine ⟨b, s', rfl, q, ⟨g', D', hj, ?_⟩, h.lj, hc.below h.b h.b.size fun k hk => ?_⟩
  · rcases hn with rfl | hn
    · exact h2
    · exact Nat.le_trans h.b.size hn
  · rcases List.mem_cons.1 hk with rfl | hk
    · exact h.lj
    · rw [List.mem_singleton.1 hk]; exact h2
/-- the same later on; and what it writes is there already -/
theorem Jb.anyc {w0 w : World} {j : Nat} {s : Js} (h : Jb w0 w j s) : ∃ g, (j < w.heap.size ∧ g < w.heap.size) ∧ ∀ W, Below w.heap.size w W → ∀ (x : Px) (e o : Int) (v : Value) (l : List Int), RA byE W x.v x.bl → x.bl.length ≤ 100000 → RA byE W v l → Calls Try.prog 10 #[.pointer (some ⟨j, 0, none⟩), .agg (pxc x), .agg (anc e o v)] W fun f w' =>
    ∃ b s', f = .returned (.bool b) ∧ SeeQ s x.d x.o x.nn x.bl e o l b s' ∧ Jb w0 w' j s' ∧ Chg [j, g] W w' := by
  obtain ⟨g, D, h1, h2⟩ := h.ex
  refine ⟨g, ⟨h1.top.lt, h1.m.dlt g h1.m.gD⟩, fun W hb x e o v l hx hxl hv => (jsee_is x e o (h1.below hb) hx hxl hv).mono ?_⟩
  have hbW := below_more h.b hb
  rintro f w' ⟨b, s', g', D', rfl, q, hj, hc, hg, hn⟩
  refine ⟨b, s', rfl, q, ⟨⟨g', D', hj, ?_⟩, h.lj, hc.below hbW hbW.size fun k hk => ?_⟩, hc⟩
  · rcases hn with rfl | hn
    · exact h2
    · exact Nat.le_trans hbW.size hn
  · rcases List.mem_cons.1 hk with rfl | hk
    · exact h.lj
    · rw [List.mem_singleton.1 hk]; exact h2
def jB0 : List Bk := [⟨0, 64, false⟩]
def jS (N : Int) : Js := ⟨alW (firstL 64) N jB0 8, alB N jB0 8, 0, false⟩
def jOk (N : Int) : Bool :=
  (alQ N jB0 8).isSome && decide (refF (jS N).wl 8 1 = 0) && decide (refF (jS N).wl 8 0 = 0) && decide (rdR (jS N).wl 8 1 = [0]) && decide (feQ (jS N).l 8 0 = 0) && decide (feQ (jS N).l 16 0 = 1) && decide (1 ≤ (jS N).l.length) &&
  !(alQ N (jS N).l 8).isSome && decide (fos 2 (jS N).l ≠ [])
theorem jOk_all : ∀ k : Fin 13, jOk (2 + (k.val : Int)) = true := by decide +kernel
def jRt (N o : Int) : Bool := decide (srQ (jS N).l o = 1)
theorem jRt_all : ∀ k : Fin 13, ∀ x : Fin 100, jRt (2 + (k.val : Int)) (24 + 8 * (x.val : Int)) = true := by decide +kernel
structure JK (N : Int) : Prop where
  al : (alQ N jB0 8).isSome = true
  r1 : refF (jS N).wl 8 1 = 0
  r0 : refF (jS N).wl 8 0 = 0
  rd : rdR (jS N).wl 8 1 = [0]
  f8 : feQ (jS N).l 8 0 = 0
  f16 : feQ (jS N).l 16 0 = 1
  ln : 1 ≤ (jS N).l.length
  no : (alQ N (jS N).l 8).isSome = false
  fs : fos 2 (jS N).l ≠ []
theorem jk_of {n : Nat} (h1 : 1 ≤ n) (h2 : n ≤ 100) : ∃ k : Fin 13, needN (n : Int) = 2 + (k.val : Int) ∧ JK (needN (n : Int)) := by
  have hN : needN (n : Int) = ((n : Int) + 7) / 8 + 1 := by unfold needN; rw [if_pos (by omega)]
  refine ⟨⟨((n + 7) / 8 - 1), by omega⟩, by show needN (n : Int) = 2 + (((n + 7) / 8 - 1 : Nat) : Int); rw [hN]; omega, ?_⟩
  have h := jOk_all ⟨((n + 7) / 8 - 1), by omega⟩
  rw [show (2 : Int) + (((n + 7) / 8 - 1 : Nat) : Int) = needN (n : Int) by rw [hN]; omega] at h
  generalize needN (n : Int) = N at *
  unfold jOk at h
  simp only [Bool.and_eq_true, decide_eq_true_eq, Bool.not_eq_true'] at h
  obtain ⟨⟨⟨⟨⟨⟨⟨⟨a, b⟩, c⟩, d⟩, e⟩, f⟩, g⟩, i⟩, k⟩ := h
  exact ⟨a, b, c, d, e, f, g, i, k⟩
theorem jq_alloc {n : Nat} (h1 : 1 ≤ n) (h2 : n ≤ 100) : SeeQ ⟨firstL (64 : Nat), [⟨0, (64 : Nat), false⟩], 0, false⟩ 1 0 n [] 0 8 [] true (jS (needN (n : Int))) := by
  obtain ⟨k, hk, J⟩ := jk_of h1 h2
  unfold SeeQ SeeA
  rw [if_pos rfl, if_neg (by omega), if_neg (by decide), if_neg (by decide), if_neg (by decide), if_pos (by decide)]
  exact ⟨J.al.symm, rfl⟩
end Go.Proofs.Ytkpefnjohdjejaa
