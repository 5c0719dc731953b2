/-
  The memory, plainly: what stays behind each call; a memory whose power does not go.
-/
import Derived.Test.YthcecfenjbdgmaaNvw
namespace Go.Proofs.Ythcecfenjbdgmaa
set_option maxRecDepth 100000
open Go.RowKit

theorem mix_whole : ∀ (a b : List Int), a.length = 8 → b.length = 8 → mix a b 255 = b := by
  intro a b ha hb
  refine list_ext (by rw [mix_length _ _ _ (by omega)]; omega) fun i hi => ?_
  rw [mix_length _ _ _ (by omega), ha] at hi
  rw [mix_at _ _ _ _ (by omega) (by omega), if_pos]
  have : ∀ j : Fin 8, (255 : Int) / 2 ^ j.val % 2 = 1 := by decide
  exact this ⟨i, hi⟩

/-- its power is there, and no cut will come -/
def Nv.calm (s : Nv) : Prop := s.dark = false ∧ s.comes = false
theorem Nv.calm.goes {s : Nv} (h : s.calm) : s.goes = false := by simp [Nv.goes, h.2]
theorem Nv.calm.tick {s : Nv} (h : s.calm) : s.tick = { s with c := s.c + 1 } := by
  obtain ⟨h1, h2⟩ := h
  simp [Nv.tick, Nv.goes, h1, h2]
theorem Nv.calm.by_ {s : Nv} (h : s.calm) : s.by_ = 255 := by simp [Nv.by_, h.goes]
theorem Nv.calm.told {s : Nv} (h : s.calm) : s.told = 0 := by simp [Nv.told, h.goes]
theorem Nv.calm.rdy {s : Nv} (h : s.calm) {b : Bool} (hb : b = true) : s.rdy b = 0 := by simp [Nv.rdy, hb, h.1]
theorem Nv.has_of {s : Nv} {k : Nat} (h : k < s.n) : s.has k = true := by simp [Nv.has]; omega
theorem Nv.calm.putE {s : Nv} (h : s.calm) {k : Nat} (hk : k < s.n) : s.putE k = if s.worn k then 3 else 0 := by
  simp [Nv.putE, h.rdy (Nv.has_of hk), h.goes, h.told]
theorem Nv.calm.put {s : Nv} (h : s.calm) (ho : s.Ok) {k : Nat} (hk : k < s.n) {l : List Int} (hl : l.length = 8) :
    s.put k l = if s.worn k then { s with c := s.c + 1 } else { s with c := s.c + 1, wr := upd s.wr k (s.wr k + 1), h := upd s.h k l } := by
  simp only [Nv.put, h.rdy (Nv.has_of hk), h.tick, h.by_, if_true, Int.toNat_natCast, Nv.lay, mix_whole _ _ (ho.line k) hl]

theorem Nv.put_n (s : Nv) (i : Int) (l : List Int) : (s.put i l).n = s.n := by unfold Nv.put; split <;> (try split) <;> rfl
theorem Nv.put_la (s : Nv) (i : Int) (l : List Int) : (s.put i l).la = s.la := by unfold Nv.put; split <;> (try split) <;> rfl
theorem Nv.put_rg (s : Nv) (i : Int) (l : List Int) : (s.put i l).rg = s.rg := by unfold Nv.put; split <;> (try split) <;> rfl
theorem Nv.put_c (s : Nv) (i : Int) (l : List Int) : (s.put i l).c ≤ s.c + 1 := by
  unfold Nv.put; split
  · split <;> exact Int.le_refl _
  · omega
theorem Nv.put_comes (s : Nv) (i : Int) (l : List Int) : (s.put i l).comes = s.comes := by unfold Nv.put; split <;> (try split) <;> rfl
theorem Nv.put_h (s : Nv) (i : Int) (l : List Int) {k : Nat} (hk : i ≠ k) : (s.put i l).h k = s.h k := by
  unfold Nv.put; split
  · rename_i hr
    split
    · rfl
    · have h0 := (rdy_zero hr).1
      simp only [Nv.has, Bool.and_eq_true, decide_eq_true_eq] at h0
      exact upd_other _ _ (by omega)
  · rfl
theorem Nv.put_wr (s : Nv) (i : Int) (l : List Int) {k : Nat} (hk : i ≠ k) : (s.put i l).wr k = s.wr k := by
  unfold Nv.put; split
  · rename_i hr
    split
    · rfl
    · have h0 := (rdy_zero hr).1
      simp only [Nv.has, Bool.and_eq_true, decide_eq_true_eq] at h0
      exact upd_other _ _ (by omega)
  · rfl
theorem Nv.calm.put_ {s : Nv} (h : s.calm) (i : Int) (l : List Int) : (s.put i l).calm := by
  have h2 := s.put_comes i l
  refine ⟨?_, h2.trans h.2⟩
  unfold Nv.put; split
  · split
    · show (s.dark || s.goes) = false; simp [h.1, h.goes]
    · show (s.dark || s.goes) = false; simp [h.1, h.goes]
  · exact h.1
theorem Nv.set_n (s : Nv) (i v : Int) : (s.set i v).n = s.n := by unfold Nv.set; split <;> (try split) <;> rfl
theorem Nv.set_la (s : Nv) (i v : Int) : (s.set i v).la = s.la := by unfold Nv.set; split <;> (try split) <;> rfl
theorem Nv.set_h (s : Nv) (i v : Int) : (s.set i v).h = s.h := by unfold Nv.set; split <;> (try split) <;> rfl
theorem Nv.set_wr (s : Nv) (i v : Int) : (s.set i v).wr = s.wr := by unfold Nv.set; split <;> (try split) <;> rfl
theorem Nv.set_comes (s : Nv) (i v : Int) : (s.set i v).comes = s.comes := by unfold Nv.set; split <;> (try split) <;> rfl
theorem Nv.set_c (s : Nv) (i v : Int) : (s.set i v).c ≤ s.c + 1 := by
  unfold Nv.set; split
  · split <;> exact Int.le_refl _
  · omega
theorem Nv.set_rg (s : Nv) (i v : Int) {k : Nat} (hk : i ≠ k) : (s.set i v).rg k = s.rg k := by
  unfold Nv.set; split
  · rename_i hr
    split
    · obtain ⟨j, e, _⟩ := hasR_nat (rdy_zero hr).1
      exact upd_other _ _ (by omega)
    · rfl
  · rfl
theorem Nv.calm.set_ {s : Nv} (h : s.calm) (i v : Int) : (s.set i v).calm := by
  have h2 := s.set_comes i v
  refine ⟨?_, h2.trans h.2⟩
  unfold Nv.set; split
  · split
    · show (s.dark || s.goes) = false; simp [h.1, h.goes]
    · show (s.dark || s.goes) = false; simp [h.1, h.goes]
  · exact h.1
theorem Nv.calm.setE {s : Nv} (h : s.calm) {k : Nat} (hk : k < 35) : s.setE k = 0 := by
  have hb : hasR (k : Int) = true := by simp [hasR]; omega
  simp [Nv.setE, h.rdy hb, h.told]
theorem Nv.calm.set {s : Nv} (h : s.calm) {k : Nat} (hk : k < 35) (v : Int) : s.set k v = { s with c := s.c + 1, rg := upd s.rg k v } := by
  have hb : hasR (k : Int) = true := by simp [hasR]; omega
  simp [Nv.set, h.rdy hb, h.by_, h.tick, Nv.reg]
theorem newNv_calm (n : Nat) (lim : List Int) : (newNv n lim).calm := ⟨rfl, rfl⟩
theorem Nv.put_live {s : Nv} (hd : s.dark = false) {k : Nat} (hk : k < s.n) (hw : s.worn k = false) (l : List Int) : s.put k l = s.tick.lay k l s.by_ ∧ s.putE k = s.told := by
  have hr : s.rdy (s.has k) = 0 := by simp [Nv.rdy, Nv.has_of hk, hd]
  simp [Nv.put, Nv.putE, hr, hw]
theorem Nv.put_dark {s : Nv} (hd : s.dark = true) (i : Int) (l : List Int) : s.put i l = s := by
  unfold Nv.put Nv.rdy
  cases s.has i <;> simp [hd]
theorem Nv.putE_dark {s : Nv} (hd : s.dark = true) {k : Nat} (hk : k < s.n) : s.putE k = 2 := by
  simp [Nv.putE, Nv.rdy, Nv.has_of hk, hd]
theorem Nv.set_dark {s : Nv} (hd : s.dark = true) (i v : Int) : s.set i v = s := by
  unfold Nv.set Nv.rdy
  cases hasR i <;> simp [hd]
theorem Nv.setE_dark {s : Nv} (hd : s.dark = true) {k : Nat} (hk : k < 35) : s.setE k = 2 := by
  have hb : hasR (k : Int) = true := by simp [hasR]; omega
  simp [Nv.setE, Nv.rdy, hb, hd]
end Go.Proofs.Ythcecfenjbdgmaa
