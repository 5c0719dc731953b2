/-
  Contracts of guard.Slice.
-/
import Derived.Test.YtlgjfhjnfimahaaIdx
import Derived.Test.YtlgjfhjnfimahaaApp
namespace Go.Proofs.Ytlgjfhjnfimahaa
open Go.RowKit

/-- part i .. j-1 of l -/
def part (l : List Int) (i j : Int) : List Int := (l.take j.toNat).drop i.toNat

theorem sli1_out (p0 p1 p2 p3 : Addr) (v : Value) (l : List Int) (i j : Int) (w : World) (hr : RI w v l) (h0 : w.cell? p0 = some v) (h1 : w.cell? p1 = some (.int .i64 i)) (h2 : w.cell? p2 = some (.int .i64 j))
    (ho : ¬ (0 ≤ i ∧ i ≤ j ∧ j ≤ l.length)) :
    Calls Try.prog 17 #[.pointer (some p0), .pointer (some p1), .pointer (some p2), .pointer (some p3)] w fun e w' => (∃ u pv, e = .panicked [{ v := .iface u pv, recovered := false }]) ∧ Below w.heap.size w w' := by
  obtain ⟨p, cap, rfl, hlen, _, _⟩ := hr
  obtain ⟨u, pv, n, hd⟩ := slice3_dies (P := Try.prog) 22 3 p l.length cap l.length i j Try.underlying22 hlen ho (w.alloc (.cells #[] 3))
  have hx : (Instr.sliceAt 22 (.slice p l.length cap) (some (.int .i64 i)) (some (.int .i64 j)) (some (.int .i64 (l.length : Int)))).run Try.prog (w.alloc (.cells #[] 3)) = .halt (.panic (.iface u pv)) ((w.alloc (.cells #[] 3)).drewN n) := by
    rw [run_sliceAt_slice (h := Try.underlying22)]; exact hd
  have HX := Lib.hid hx
  have c0 := cell_kept h0
  have c1 := cell_kept h1
  have c2 := cell_kept h2
  clear ho hd h0 h1 h2 hx
  go_enter Try.func17, Try.ntmps17
  go_wp2_with (refine wpList_dies (o := ⟨some 10, _, _, _, _, _⟩) rfl (exec_slice rfl HX.out) ?_)
  exact ⟨rfl, ⟨_, _, rfl⟩, below_drewN (bal (Below.refl _ _)) n⟩

theorem part_length {l : List Int} {i j : Int} (_ : 0 ≤ i) (h1 : i ≤ j) (h2 : j ≤ l.length) : (part l i j).length = j.toNat - i.toNat := by
  unfold part; rw [List.length_drop, List.length_take]; omega
theorem part_at {l : List Int} {i j : Int} (_ : 0 ≤ i) (_ : i ≤ j) (_ : j ≤ l.length) (k : Nat) (hk : k < j.toNat - i.toNat) : (part l i j).getD k 0 = l.getD (i.toNat + k) 0 := by
  unfold part
  rw [List.getD_eq_getElem?_getD, List.getD_eq_getElem?_getD, List.getElem?_drop, List.getElem?_take, if_pos (by omega)]

/-- l[i:j:m] reads as the part -/
theorem ri_part {w : World} {p : Option Addr} {cap m : Nat} {l : List Int} (h : RI w (.slice p l.length cap) l) {i j : Int} (h0 : 0 ≤ i) (h1 : i ≤ j) (h2 : j ≤ l.length) (hm : l.length ≤ m) (hc : m ≤ cap) :
    RI w (.slice (if m = i.toNat then p else p.map (·.add i.toNat)) (j.toNat - i.toNat) (m - i.toNat)) (part l i j) := by
  have hl := part_length h0 h1 h2
  obtain ⟨p', cap', e, h3, h4, h5⟩ := h
  obtain ⟨rfl, rfl⟩ : p = p' ∧ cap = cap' := by cases e; exact ⟨rfl, rfl⟩
  refine ⟨_, _, by rw [hl], by rw [hl]; omega, by omega, ?_⟩
  rcases h5 with h5 | ⟨b, off, rfl, hcell⟩
  · subst h5; exact .inl (List.eq_nil_of_length_eq_zero (by rw [hl]; simp at h2; omega))
  · by_cases hz : j.toNat - i.toNat = 0
    · exact .inl (List.eq_nil_of_length_eq_zero (by rw [hl]; exact hz))
    · rw [if_neg (by omega)]
      refine .inr ⟨b, off + i.toNat, by simp [Go.WideShapes.add_plain], fun k hk => ?_⟩
      rw [hl] at hk
      rw [part_at h0 h1 h2 k hk, Nat.add_assoc]
      exact hcell _ (by omega)

theorem slice3_in (p : Option Addr) (n cap a b m : Nat) (h1 : a ≤ b) (h2 : b ≤ m) (h3 : m ≤ cap) (w : World) :
    (Instr.slice 22 (.slice p n cap) (some (.int .i64 (a : Int))) (some (.int .i64 (b : Int))) (some (.int .i64 (m : Int)))).run Try.prog w =
      .ok (.slice (if m = a then p else p.map (·.add a)) (b - a) (m - a)) w := by
  obtain ⟨i0, hinf, hz0, hz1, hz2⟩ := info_parts info_int
  have e1 : ∀ w, (Instr.sliceBound (.int .i64 (m : Int)) cap .slice3Acap).run Try.prog w = .ok m w := fun w => by rw [run_sliceBound (P := Try.prog) (w := w) .i64 m cap .slice3Acap (by omega) (by omega)]; simp
  have e2 : ∀ w, (Instr.sliceBound (.int .i64 (b : Int)) m .slice3B).run Try.prog w = .ok b w := fun w => by rw [run_sliceBound (P := Try.prog) (w := w) .i64 b m .slice3B (by omega) (by omega)]; simp
  have e3 : ∀ w, (Instr.sliceBound (.int .i64 (a : Int)) b .slice3C).run Try.prog w = .ok a w := fun w => by rw [run_sliceBound (P := Try.prog) (w := w) .i64 a b .slice3C (by omega) (by omega)]; simp
  unfold Instr.slice
  simp only [Sem.run_bind, run_underlying Try.underlying22, Result.andThen_ok]
  unfold Instr.sliceBounds sizeOf typeInfo
  simp [hinf, hz1, e1, e2, e3]

theorem sli1_in (p0 p1 p2 p3 : Addr) (v u : Value) (l : List Int) (i j : Int) (w : World) (hr : RI w v l) (h0 : w.cell? p0 = some v) (h1 : w.cell? p1 = some (.int .i64 i)) (h2 : w.cell? p2 = some (.int .i64 j))
    (h3 : w.cell? p3 = some u) (hz : w.frozen? p3 = false) (hi : 0 ≤ i) (hij : i ≤ j) (hj : j ≤ l.length) (hbig : l.length ≤ 1000000) :
    Calls Try.prog 17 #[.pointer (some p0), .pointer (some p1), .pointer (some p2), .pointer (some p3)] w fun e w' => e = .returned (.tuple #[]) ∧
      ∃ v1 w1, w' = w1.setCell p3 v1 ∧ Below w.heap.size w w1 ∧ OwnI w.heap.size w1 v1 (part l i j) := by
  have hl := part_length hi hij hj
  have R := Lib.hid hr
  obtain ⟨p, cap, rfl, hlen, hm, _⟩ := hr
  obtain ⟨i0, hinf, hz0, hz1, hz2⟩ := info_parts info_int
  have rp := ri_part (m := l.length) (ri_below R.out (bal (o := .cells #[] 3) (Below.refl _ _))) hi hij hj (Nat.le_refl _) hlen
  have c0 := cell_kept h0
  have c1 := cell_kept h1
  have c2 := cell_kept h2
  clear h0 h1 h2 R
  obtain ⟨a, rfl⟩ : ∃ a : Nat, i = a := ⟨i.toNat, by omega⟩
  obtain ⟨b, rfl⟩ : ∃ b : Nat, j = b := ⟨j.toNat, by omega⟩
  have hs := slice3_in p l.length cap a b l.length (by omega) (by omega) hlen
  have hs2 : ∀ w, (Instr.sliceAt 22 (.slice p l.length cap) (some (.int .i64 (a : Int))) (some (.int .i64 (b : Int))) (some (.int .i64 (l.length : Int)))).run Try.prog w = _ := fun w => (run_sliceAt_slice (h := Try.underlying22) ..).trans (hs w)
  simp only [Int.toNat_natCast] at rp hl
  have hj' : b ≤ l.length := by omega
  have hij' : a ≤ b := by omega
  have HLB : Hid (([] : List Int).length + (part l a b).length ≤ 1000000) := Lib.hid (by rw [hl]; simp; omega)
  generalize (if l.length = a then p else p.map (·.add a)) = q at *
  generalize part l a b = pl at *
  rw [← hl] at hs hs2 rp
  generalize hL : l.length = L at *
  generalize hM : L - a = M at *
  have RP := Lib.hid rp
  clear hi hij hj rp hl hj' hij' hM hL
  go_enter Try.func17, Try.ntmps17
  go_wp2_with (first
    | (at_builtin
       refine list_app_int rfl (.tmp 4) (.tmp 10) rfl w.heap.size _ [] rfl (own_lit w [] (Nat.zero_le _)) _ pl rfl RP.out HLB.out (by simp) ?_
       intro v1 w1 hown hg _
       have HB := Lib.hid (show Below w.heap.size w w1 from (bal (Below.refl _ _)).grown hg (by simp) (by intro k hk; cases hk; exact Nat.le_refl _))
       have c3 : w1.cell? p3 = some u := (HB.out.cell (World.block_lt_of_cell? w _ h3)).trans h3
       have z3 : w1.frozen? p3 = false := (HB.out.frozen (World.block_lt_of_cell? w _ h3)).trans hz
       have HO := Lib.hid hown
       obtain ⟨q1, d1, rfl⟩ := hown.shape
       clear hown hg h3 hz))
  go_end0
  exact ⟨rfl, _, _, rfl, HB.out, by simpa using HO.out⟩

theorem slice_out (v : Value) (l : List Int) (i j : Int) (w : World) (hr : RI w v l) (ho : ¬ (0 ≤ i ∧ i ≤ j ∧ j ≤ l.length)) :
    Calls Try.prog 10 #[v, .int .i64 i, .int .i64 j] w fun e w' => e = .returned (.tuple #[.slice none 0 0, .bool false]) ∧ Below w.heap.size w w' := by
  have hmf : ∀ (fn : Fn) (first cap : Array Value) (w : World), (Instr.makeFunc fn first cap).run Try.prog w = .ok (.func fn first cap) w := fun _ _ _ _ => rfl
  have R := Lib.hid hr
  have C := Lib.hid fun p0 p1 p2 p3 w a b c d => sli1_out p0 p1 p2 p3 v l i j w a b c d ho
  obtain ⟨p, cap, rfl, _⟩ := hr
  clear ho
  go_enter Try.func10, Try.ntmps10
  go_wp2_with fail
  refine (holds_dies 17 _ _ (fun w' => Below (w.heap.size + 5) (((((w.alloc (.cells #[.slice p l.length cap] 22)).alloc (.cells #[.int .i64 i] 3)).alloc (.cells #[.int .i64 j] 3)).alloc (.cells #[.slice none 0 0] 22)).alloc (.cells #[.bool false] 4)) w') (fun w => by simp [go_sem]) ?_).mono ?_
  · refine (C.out _ _ _ _ _ (ri_below R.out (bal (bal (bal (bal (bal (Below.refl _ _))))))) ?_ ?_ ?_).mono ?_
    · simp [go_sem]
    · simp [go_sem]
    · simp [go_sem]
    · rintro e w' ⟨h, hb⟩
      simp at hb
      exact ⟨h, hb, by rw [hb.cell (by simp)]; simp [go_sem], by rw [hb.frozen (by simp)]; simp [go_sem]⟩
  rintro e w' ⟨rfl, w1, hb, rfl⟩
  have c8 : w1.cell? ⟨w.heap.size + 1 + 1 + 1, 0, none⟩ = some (.slice none 0 0) := (hb.cell (by simp)).trans (by simp [go_sem])
  have HB := Lib.hid (show Below w.heap.size w w1 from (bal (bal (bal (bal (bal (Below.refl _ _)))))).trans (hb.mono (by omega)))
  clear hb
  go_wp2_with fail
  go_ret2
  exact ⟨rfl, HB.out.setCell (by simp; omega) _⟩

theorem slice_in (v : Value) (l : List Int) (i j : Int) (w : World) (hr : RI w v l) (hi : 0 ≤ i) (hij : i ≤ j) (hj : j ≤ l.length) (hbig : l.length ≤ 1000000) :
    Calls Try.prog 10 #[v, .int .i64 i, .int .i64 j] w fun e w' => ∃ v1, e = .returned (.tuple #[v1, .bool true]) ∧ OwnI w.heap.size w' v1 (part l i j) ∧ Below w.heap.size w w' := by
  have hmf : ∀ (fn : Fn) (first cap : Array Value) (w : World), (Instr.makeFunc fn first cap).run Try.prog w = .ok (.func fn first cap) w := fun _ _ _ _ => rfl
  have R := Lib.hid hr
  have C := Lib.hid fun p0 p1 p2 p3 w a b c d e f => sli1_in p0 p1 p2 p3 v (.slice none 0 0) l i j w a b c d e f hi hij hj hbig
  obtain ⟨p, cap, rfl, _⟩ := hr
  generalize part l i j = pl at *
  clear hi hij hj hbig
  go_enter Try.func10, Try.ntmps10
  go_wp2_with fail
  refine (holds_ret 17 _ _ (fun w' => ∃ v1 w1, w' = w1.setCell ⟨w.heap.size + 1 + 1 + 1, 0, none⟩ v1 ∧ Below (w.heap.size + 5) (((((w.alloc (.cells #[.slice p l.length cap] 22)).alloc (.cells #[.int .i64 i] 3)).alloc (.cells #[.int .i64 j] 3)).alloc (.cells #[.slice none 0 0] 22)).alloc (.cells #[.bool false] 4)) w1 ∧ OwnI (w.heap.size + 5) w1 v1 pl) (fun w => by simp [go_sem]) ?_).mono ?_
  · refine (C.out _ _ _ _ _ (ri_below R.out (bal (bal (bal (bal (bal (Below.refl _ _))))))) ?_ ?_ ?_ ?_ ?_).mono ?_
    · simp [go_sem]
    · simp [go_sem]
    · simp [go_sem]
    · simp [go_sem]
    · simp [go_sem]
    · rintro e w' ⟨h, v1, w1, rfl, hb, ho⟩
      simp at hb ho
      refine ⟨h, ⟨v1, w1, rfl, hb, ho⟩, ?_, ?_⟩
      · rw [World.cell?_setCell_other w1 _ _ _ (by simp), hb.cell (by simp)]; simp [go_sem]
      · rw [World.frozen?_setCell, hb.frozen (by simp)]; simp [go_sem]
  rintro e w' ⟨rfl, w0, ⟨v1, w1, rfl, hb, ho⟩, rfl⟩
  have c8 : w1.cell? ⟨w.heap.size + 1 + 1 + 1, 0, none⟩ = some (.slice none 0 0) := (hb.cell (by simp)).trans (by simp [go_sem])
  have HB := Lib.hid (show Below w.heap.size w w1 from (bal (bal (bal (bal (bal (Below.refl _ _)))))).trans (hb.mono (by omega)))
  have HO := Lib.hid ho
  obtain ⟨q1, d1, rfl⟩ := ho.shape
  clear hb ho
  go_wp2_with fail
  go_ret2
  exact ⟨_, rfl, ((HO.out.far (by simp) _).far (by simp) _).mono (by omega), (HB.out.setCell (by simp; omega) _).setCell (by simp; omega) _⟩

end Go.Proofs.Ytlgjfhjnfimahaa
