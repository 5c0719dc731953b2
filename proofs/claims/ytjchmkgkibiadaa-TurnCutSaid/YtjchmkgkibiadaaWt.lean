/-
  A slice of lines that a statement makes: what each holds.
-/
import Derived.Test.YtjchmkgkibiadaaTab
import Derived.Test.YtjchmkgkibiadaaNvn
namespace Go.Proofs.Ytjchmkgkibiadaa
open Go.ChangeShapes Go.WideShapes Go.ChangeAt Go.RowKit

def wl (f : Nat → List Int) (k : Nat) : Value := .int .u64 ((f (k / 8)).getD (k % 8) 0)
/-- block g holds n lines -/
def Wt (w : World) (g n : Nat) (f : Nat → List Int) : Prop := Whole w g 33 (tab (n * 8) (wl f)) ∧ ∀ i, i < n → (f i).length = 8
theorem Wt.lt {w : World} {g n : Nat} {f : Nat → List Int} (h : Wt w g n f) : g < w.heap.size := h.1.lt
theorem Wt.below {w w' : World} {g n : Nat} {f : Nat → List Int} (h : Wt w g n f) (hb : Below w.heap.size w w') : Wt w' g n f := ⟨(hb.block g h.lt).trans h.1, h.2⟩
theorem Wt.chg {D : List Nat} {w w' : World} {g n : Nat} {f : Nat → List Int} (h : Wt w g n f) (hc : Chg D w w') (hg : g ∉ D) : Wt w' g n f := ⟨hc.whole h.1 hg, h.2⟩
theorem Wt.drew {w : World} {g n : Nat} {f : Nat → List Int} (h : Wt w g n f) : Wt w.drew g n f := h
theorem Wt.as {w : World} {g n : Nat} {f f' : Nat → List Int} (h : Wt w g n f) (he : ∀ i, i < n → f' i = f i) : Wt w g n f' := by
  refine ⟨h.1.tabEq fun j hj => ?_, fun i hi => by rw [he i hi]; exact h.2 i hi⟩
  unfold wl; rw [he _ (by omega)]
theorem Wt.load {w : World} {g n : Nat} {f : Nat → List Int} (h : Wt w g n f) {k : Nat} (hk : k < n) : (lineLoad (.pointer (some ⟨g, k * 8, none⟩))).run Try.prog w = .ok (.agg (lc (f k))) w := by
  have hl := h.2 k hk
  unfold lineLoad
  exact run_loadAt_mid (P := Try.prog) w g (k * 8) 33 ((f k).map uv) _ (fun j v hv => by
    have hj : j < 8 := by
      have := (List.getElem?_eq_some_iff.1 hv).1
      simpa [hl] using this
    have e1 : (k * 8 + j) / 8 = k := by omega
    have e2 : (k * 8 + j) % 8 = j := by omega
    rw [h.1.cellAt (k := k * 8 + j) (by omega), wl, e1, e2, ← hv]
    simp [uv, hl, hj]) Try.underlying33 rfl (by rw [info_line]; simp [hl])
theorem Wt.store {w : World} {g n : Nat} {f : Nat → List Int} (h : Wt w g n f) {k : Nat} (hk : k < n) {l : List Int} (hl : l.length = 8) : (lineStore (.pointer (some ⟨g, k * 8, none⟩)) (.agg (lc l))).run Try.prog w = .ok () (w.setCells g (k * 8) (l.map uv)) := by
  unfold lineStore
  exact run_storeAt_mid (P := Try.prog) w g (k * 8) 33 (lc l) (fun j hj => by
    rw [lc_size, hl] at hj
    exact ⟨by rw [h.1.cellAt (k := k * 8 + j) (by omega)]; rfl, h.1.free _⟩) (by rw [info_line, lc_size, hl]) (lc_one l)
theorem Wt.set_ {w : World} {g n : Nat} {f : Nat → List Int} (h : Wt w g n f) (k : Nat) {l : List Int} (hl : l.length = 8) : Wt (w.setCells g (k * 8) (l.map uv)) g n (upd f k l) := by
  refine ⟨h.1.tabN (k * 8) _ fun j hj => ?_, fun i hi => ?_⟩
  · rw [List.length_map, hl]
    by_cases hin : k * 8 ≤ j ∧ j < k * 8 + 8
    · rw [if_pos hin]
      obtain ⟨i, rfl⟩ : ∃ i, j = k * 8 + i := ⟨j - k * 8, by omega⟩
      have hi : i < 8 := by omega
      have e1 : (k * 8 + i) / 8 = k := by omega
      have e2 : (k * 8 + i) % 8 = i := by omega
      rw [wl, e1, e2, Nat.add_sub_cancel_left]
      simp [upd, uv, hl, hi]
    · rw [if_neg hin]
      have e : j / 8 ≠ k := by omega
      simp [wl, upd, e]
  · unfold upd; split
    · exact hl
    · exact h.2 i hi
theorem run_make_want (n : Nat) (hn : n ≤ 200) (w : World) :
    (Instr.makeSlice 31 (.int .i64 (n : Int)) (.int .i64 (n : Int))).run Try.prog w = .ok (.slice (some ⟨w.heap.size, 0, none⟩) n n) (w.alloc (.cells (tab (n * 8) (wl fun _ => zeros)) 33)) := by
  obtain ⟨i, hi, hzz⟩ := Option.map_eq_some_iff.1 info_line3
  simp only [Prod.mk.injEq] at hzz
  obtain ⟨hz, hs, hb⟩ := hzz
  have := run_make (P := Try.prog) w 31 33 i _ Try.underlying31 hi hz .i64 .i64 n n (by omega) (by omega) (by rw [hb]; omega) (by omega)
  rw [Int.toNat_natCast, hs] at this
  rw [this, made_tab _ _ (wl fun _ => zeros)]
  intro j _
  have h8 : (Value.agg (lc zeros)).cells.size = 8 := rfl
  rw [h8]
  have hlt : j % 8 < 8 := Nat.mod_lt _ (by decide)
  have key : ∀ q : Fin 8, (Value.agg (lc zeros)).cells[q.val]! = .int .u64 (zeros.getD q.val 0) := by
    intro q
    rcases q with ⟨q, hq⟩
    rcases (by omega : q = 0 ∨ q = 1 ∨ q = 2 ∨ q = 3 ∨ q = 4 ∨ q = 5 ∨ q = 6 ∨ q = 7) with h | h | h | h | h | h | h | h <;> subst h <;> rfl
  exact key ⟨j % 8, hlt⟩
theorem Wt.new (w : World) (n : Nat) : Wt (w.alloc (.cells (tab (n * 8) (wl fun _ => zeros)) 33)) w.heap.size n (fun _ => zeros) := ⟨heap_alloc_last w _, fun _ _ => rfl⟩
end Go.Proofs.Ytjchmkgkibiadaa
