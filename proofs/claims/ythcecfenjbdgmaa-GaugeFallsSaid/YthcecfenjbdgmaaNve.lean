/-
  Contracts of package nvm's Reg, Get and Set.
-/
import Derived.Test.YthcecfenjbdgmaaNvd
namespace Go.Proofs.Ythcecfenjbdgmaa
set_option maxRecDepth 100000
open Go.RowKit

theorem has_nat {s : Nv} {i : Int} (h : s.has i = true) (ho : s.Ok) : ∃ k : Nat, i = k ∧ k < 200 ∧ k < s.n := by
  simp only [Nv.has, Bool.and_eq_true, decide_eq_true_eq] at h
  exact ⟨i.toNat, by omega, by have := ho.hi; omega, by omega⟩
theorem hasR_nat {i : Int} (h : hasR i = true) : ∃ k : Nat, i = k ∧ k < 35 := by
  simp only [hasR, Bool.and_eq_true, decide_eq_true_eq] at h
  exact ⟨i.toNat, by omega, by omega⟩
theorem rdy_zero {s : Nv} {b : Bool} (h : s.rdy b = 0) : b = true ∧ s.dark = false := by
  unfold Nv.rdy at h
  cases b <;> cases hd : s.dark <;> simp [hd] at h ⊢
theorem ret_2 {a b : Value} {a' b' : Value} (h : a = a') (h2 : b = b') : Ending.returned (.tuple #[a, b]) = .returned (.tuple #[a', b']) := by rw [h, h2]


/-- a line of the memory, loaded whole -/
theorem Nm.loadLine {w : World} {g : Nat} {s : Nv} (h : Nm w g s) {k : Nat} (hk : k < 200) (hl : (s.h k).length = 8) : (lineLoad (.pointer (some ⟨g, k * 10, none⟩))).run Try.prog w = .ok (.agg (lc (s.h k))) w := by
  unfold lineLoad
  have := run_loadAt_mid (P := Try.prog) w g (k * 10) 36 ((s.h k).map uv) _ (fun j v hv => by
    have hj : j < 8 := by
      have := (List.getElem?_eq_some_iff.1 hv).1
      simpa [hl] using this
    rw [h.at_ (by omega), s.val_h hk hj]
    rw [← hv]
    simp [uv, hl, hj]) Try.underlying36 rfl (by rw [info_line]; simp [hl])
  exact this
/-- a line stored into it -/
theorem Nm.storeLine {w : World} {g : Nat} {s : Nv} (h : Nm w g s) {k : Nat} (hk : k < 200) {l : List Int} (hl : l.length = 8) : (lineStore (.pointer (some ⟨g, k * 10, none⟩)) (.agg (lc l))).run Try.prog w = .ok () (w.setCells g (k * 10) (l.map uv)) := by
  unfold lineStore
  have := run_storeAt_mid (P := Try.prog) w g (k * 10) 36 (lc l) (fun j hj => by
    rw [lc_size, hl] at hj
    exact ⟨by rw [h.at_ (by omega)]; rfl, h.free _⟩) (by rw [info_line, lc_size, hl]) (lc_one l)
  exact this
theorem Nm.setLine {w : World} {g : Nat} {s : Nv} (h : Nm w g s) {k : Nat} (hk : k < 200) {l : List Int} (hl : l.length = 8) : Nm (w.setCells g (k * 10) (l.map uv)) g { s with h := upd s.h k l } := by
  refine h.setN (k * 10) _ fun j hj => ?_
  rw [List.length_map, hl]
  by_cases hin : k * 10 ≤ j ∧ j < k * 10 + 8
  · rw [if_pos hin]
    obtain ⟨i, rfl⟩ : ∃ i, j = k * 10 + i := ⟨j - k * 10, by omega⟩
    have hi : i < 8 := by omega
    rw [Nv.val_h _ hk hi, Nat.add_sub_cancel_left]
    simp [upd, uv, hl, hi]
  · rw [if_neg hin]
    by_cases h2 : j < 2000
    · by_cases h8 : j % 10 < 8
      · have e : j / 10 ≠ k := by omega
        simp only [Nv.val, if_pos h2, if_pos h8, upd, if_neg e]
      · simp only [Nv.val, if_pos h2, if_neg h8]
    · simp only [Nv.val, if_neg h2]
theorem Nm.setWear {w : World} {g : Nat} {s : Nv} (h : Nm w g s) {k : Nat} (hk : k < 200) (x : Int) : Nm (w.setCell ⟨g, k * 10 + 8, none⟩ (.int .i64 x)) g { s with wr := upd s.wr k x } := by
  refine h.set1 _ _ (by omega) fun j hj => ?_
  by_cases e : j = k * 10 + 8
  · subst e
    rw [if_pos rfl, Nv.val_wr _ hk]; simp [upd]
  · rw [if_neg e]
    by_cases h2 : j < 2000
    · by_cases h8 : j % 10 < 8
      · simp only [Nv.val, if_pos h2, if_pos h8]
      · by_cases h9 : j % 10 = 8
        · have e : j / 10 ≠ k := by omega
          simp only [Nv.val, if_pos h2, if_neg h8, if_pos h9, upd, if_neg e]
        · simp only [Nv.val, if_pos h2, if_neg h8, if_neg h9]
    · simp only [Nv.val, if_neg h2]
theorem Nm.setReg {w : World} {g : Nat} {s : Nv} (h : Nm w g s) {k : Nat} (hk : k < 35) (x : Int) : Nm (w.setCell ⟨g, 2001 + k, none⟩ (.int .u64 x)) g { s with rg := upd s.rg k x } := by
  refine h.set1 _ _ (by omega) fun j hj => ?_
  by_cases e : j = 2001 + k
  · subst e
    rw [if_pos rfl, Nv.val_rg _ hk]; simp [upd]
  · rw [if_neg e]
    by_cases h2 : j < 2000
    · simp only [Nv.val, if_pos h2]
    · by_cases h3 : j = 2000
      · subst h3; rfl
      · by_cases h4 : j < 2036
        · have e : j - 2001 ≠ k := by omega
          simp only [Nv.val, if_neg h2, if_neg h3, if_pos h4, upd, if_neg e]
        · simp only [Nv.val, if_neg h2, if_neg h3, if_neg h4]
theorem Nm.setLa {w : World} {g : Nat} {s : Nv} (h : Nm w g s) {k : Nat} (hk : k < 200) (x : Int) : Nm (w.setCell ⟨g, k * 10 + 9, none⟩ (.int .i64 x)) g { s with la := upd s.la k x } := by
  refine h.set1 _ _ (by omega) fun j hj => ?_
  by_cases e : j = k * 10 + 9
  · subst e
    rw [if_pos rfl, Nv.val_la _ hk]; simp [upd]
  · rw [if_neg e]
    by_cases h2 : j < 2000
    · by_cases h8 : j % 10 < 8
      · simp only [Nv.val, if_pos h2, if_pos h8]
      · by_cases h9 : j % 10 = 8
        · simp only [Nv.val, if_pos h2, if_neg h8, if_pos h9]
        · have e : j / 10 ≠ k := by omega
          simp only [Nv.val, if_pos h2, if_neg h8, if_neg h9, upd, if_neg e]
    · simp only [Nv.val, if_neg h2]
end Go.Proofs.Ythcecfenjbdgmaa
