/-
  Contracts of the reference's Min, Max, Clamp, Div and Whole.
-/
import Derived.Test.YthcecfenjbdgmaaRsort
import Derived.Test.YthcecfenjbdgmaaWhole
namespace Go.Proofs.Ythcecfenjbdgmaa
set_option maxRecDepth 100000
open D Go.RowKit Go.Proofs

theorem minAt_le (l : List Nat) (k i : Nat) (hi : i ≤ k) : rk (minAt l k) ≤ rk (l.getD i 0) := by
  induction k with
  | zero => have : i = 0 := by omega
            subst this; exact Int.le_refl _
  | succ k ih =>
    unfold minAt
    rcases Nat.lt_or_ge k i with h | h
    · have : i = k + 1 := by omega
      subst this
      split <;> omega
    · have := ih h
      split <;> omega
theorem minAt_mem (l : List Nat) (k : Nat) : ∃ i, i ≤ k ∧ minAt l k = l.getD i 0 := by
  induction k with
  | zero => exact ⟨0, Nat.le_refl _, rfl⟩
  | succ k ih =>
    unfold minAt
    split
    · exact ⟨k + 1, Nat.le_refl _, rfl⟩
    · obtain ⟨i, hi, h⟩ := ih; exact ⟨i, by omega, h⟩
theorem maxAt_ge (l : List Nat) (k i : Nat) (hi : i ≤ k) : rk (l.getD i 0) ≤ rk (maxAt l k) := by
  induction k with
  | zero => have : i = 0 := by omega
            subst this; exact Int.le_refl _
  | succ k ih =>
    unfold maxAt
    rcases Nat.lt_or_ge k i with h | h
    · have : i = k + 1 := by omega
      subst this
      split <;> omega
    · have := ih h
      split <;> omega
theorem maxAt_mem (l : List Nat) (k : Nat) : ∃ i, i ≤ k ∧ maxAt l k = l.getD i 0 := by
  induction k with
  | zero => exact ⟨0, Nat.le_refl _, rfl⟩
  | succ k ih =>
    unfold maxAt
    split
    · exact ⟨k + 1, Nat.le_refl _, rfl⟩
    · obtain ⟨i, hi, h⟩ := ih; exact ⟨i, by omega, h⟩

theorem getD_mem {l : List Nat} {i : Nat} (h : i < l.length) : l.getD i 0 ∈ l := by simp [h]
theorem mem_getD {l : List Nat} {x : Nat} (h : x ∈ l) : ∃ i, i < l.length ∧ x = l.getD i 0 := by
  obtain ⟨i, hi, rfl⟩ := List.getElem_of_mem h
  exact ⟨i, hi, by simp [hi]⟩

/-- the first and the last of the sorted ones are the least and the greatest -/
theorem first_min {l d : List Nat} (hp : l.Perm d) (ha : AscP d) (h0 : 0 < l.length) : rk (d.getD 0 0) = rk (minV l) := by
  have hl := hp.length_eq
  unfold minV
  rw [if_neg (by omega)]
  apply Int.le_antisymm
  · obtain ⟨i, hi, e⟩ := minAt_mem l (l.length - 1)
    rw [e]
    obtain ⟨j, hj, e2⟩ := mem_getD (hp.mem_iff.1 (getD_mem (l := l) (i := i) (by omega)))
    rw [e2]
    rcases Nat.eq_zero_or_pos j with rfl | h
    · exact Int.le_refl _
    · exact (asc_iff d).2 ha 0 j h hj
  · obtain ⟨j, hj, e2⟩ := mem_getD (hp.mem_iff.2 (getD_mem (l := d) (i := 0) (by omega)))
    rw [e2]
    exact minAt_le l _ j (by omega)
theorem last_max {l d : List Nat} (hp : l.Perm d) (ha : AscP d) (h0 : 0 < l.length) : rk (d.getD (l.length - 1) 0) = rk (maxV l) := by
  have hl := hp.length_eq
  unfold maxV
  rw [if_neg (by omega)]
  apply Int.le_antisymm
  · obtain ⟨j, hj, e2⟩ := mem_getD (hp.mem_iff.2 (getD_mem (l := d) (i := l.length - 1) (by omega)))
    rw [e2]
    exact maxAt_ge l _ j (by omega)
  · obtain ⟨i, hi, e⟩ := maxAt_mem l (l.length - 1)
    rw [e]
    obtain ⟨j, hj, e2⟩ := mem_getD (hp.mem_iff.1 (getD_mem (l := l) (i := i) (by omega)))
    rw [e2]
    rcases Nat.lt_or_ge j (l.length - 1) with h | h
    · exact (asc_iff d).2 ha j _ h (by omega)
    · have : j = l.length - 1 := by omega
      rw [this]; exact Int.le_refl _

theorem small_perm {l d : List Nat} (hp : l.Perm d) (hs : Small l) : Small d := by
  intro i hi
  obtain ⟨j, hj, e⟩ := mem_getD (hp.mem_iff.2 (getD_mem hi))
  rw [e]; exact hs j hj

theorem own_read {B : Nat} {w : World} {v : Value} {d : List Nat} (h : Own B w v d) (h0 : 0 < d.length) : ∃ g c, v = .slice (some ⟨g, 0, none⟩) d.length c ∧ ∀ i, i < d.length → w.cell? ⟨g, i, none⟩ = some (.float .f64 (d.getD i 0)) := by
  obtain ⟨g, c, rfl, _⟩ := own_some h h0
  exact ⟨g, c, rfl, fun i hi => own_at h i _ (by simp [hi])⟩

theorem reads_shape {w : World} {v : Value} {l : List Nat} (h : Reads w v l) : ∃ p c, v = .slice p l.length c := by
  obtain ⟨p, c, rfl, _⟩ := h; exact ⟨p, c, rfl⟩

set_option maxHeartbeats 1000000 in
theorem rmin_any (v : Value) (l : List Nat) (w : World) (h : Reads w v l) (hl : l.length ≤ 1000) (hs : Small l) :
    Calls Try.prog 13 #[v] w fun e w' => ∃ r, e = .returned (.float .f64 r) ∧ r < 2 ^ 64 ∧ rk r = rk (minV l) ∧ Below w.heap.size w w' := by
  have S := Lib.hid (rsort_any v l w h hl hs)
  obtain ⟨p, c, rfl⟩ := reads_shape h
  by_cases h0 : l.length = 0
  · have hd : ((l.length : Int) == 0) = true := by rw [h0]; rfl
    have E := Lib.hid (show minV l = 9221120237041090561 by unfold minV; rw [if_pos h0])
    clear h S h0
    go_enter Try.func13, Try.ntmps13
    go_wp2_with fail
    refine (nan_any _).mono ?_; rintro e w' ⟨rfl, rfl⟩
    go_wp2_with fail
    go_ret
    exact ⟨_, rfl, by decide, by rw [E.out], Below.refl _ _⟩
  · have hd : ((l.length : Int) == 0) = false := beq_eq_false_iff_ne.2 (by omega)
    have H0 := Lib.hid (show 0 < l.length by omega)
    have HS := Lib.hid hs
    clear h h0 hs
    go_enter Try.func13, Try.ntmps13
    go_wp2_with fail
    refine S.out.mono ?_; rintro e w1 ⟨v', d, rfl, hp, ha, ho, hb⟩
    have hdl : l.length = d.length := hp.length_eq
    obtain ⟨g, c', rfl, hr⟩ := own_read ho (by have := H0.out; omega)
    have c0 := hr 0 (by have := H0.out; omega)
    have hpos : (0 : Int) < (d.length : Int) := by have := H0.out; omega
    have F := Lib.hid (first_min hp ha H0.out)
    have L := Lib.hid (small_perm hp HS.out 0 (by have := H0.out; omega))
    have Bb := Lib.hid hb
    clear hp ha ho hb hr hdl
    generalize d.getD 0 0 = r at *
    go_wp2_with fail
    go_ret
    exact ⟨r, rfl, L.out, F.out, Bb.out⟩

end Go.Proofs.Ythcecfenjbdgmaa
