/-
  The contract of the reference's Sort (by insertion).
-/
import Derived.Test.YthcecfenjbdgmaaAsc
import Derived.ProofKit
namespace Go.Proofs.Ythcecfenjbdgmaa
set_option maxRecDepth 100000
open D Go.RowKit Go.Proofs

@[go_sem] theorem run_store_float (P : Program) (w : World) (a : Addr) (m : Mode) (k : FloatKind) (x : Nat) : (store a (.float k x) m).run P w = stored P w a (.float k x) m := run_store P w a _ m rfl

def AscP (l : List Nat) : Prop := l.Pairwise (fun a b => rk a ≤ rk b)
theorem asc_iff (l : List Nat) : Asc l ↔ AscP l := by
  unfold Asc AscP
  rw [List.pairwise_iff_getElem]
  constructor
  · intro h i j hi hj hij
    have := h i j hij hj
    simpa [hi, hj] using this
  · intro h i j hij hj
    have := h i j (by omega) hj hij
    simpa [hj, show i < l.length by omega] using this

/-- a list with a place opened at j -/
def gap (d : List Nat) (j y : Nat) : List Nat := d.take j ++ y :: d.drop j
theorem gap_length (d : List Nat) (j y : Nat) (h : j ≤ d.length) : (gap d j y).length = d.length + 1 := by unfold gap; simp; omega
theorem gap_end (d : List Nat) (x : Nat) : gap d d.length x = d ++ [x] := by unfold gap; simp
theorem gap_set (d : List Nat) (j y x : Nat) (h : j ≤ d.length) : (gap d j y).set j x = gap d j x := by
  unfold gap
  rw [List.set_append_right _ _ (by simp; omega)]
  simp [Nat.min_eq_left h]
theorem gap_at (d : List Nat) (j y : Nat) (h : j ≤ d.length) (hj : 0 < j) : (gap d j y)[j - 1]? = some (d.getD (j - 1) 0) := by
  unfold gap
  rw [List.getElem?_append_left (by simp; omega)]
  simp [show j - 1 < j by omega, show j - 1 < d.length by omega]
theorem gap_step (d : List Nat) (j y : Nat) (h : j ≤ d.length) (hj : 0 < j) : (gap d j y).set j (d.getD (j - 1) 0) = gap d (j - 1) (d.getD (j - 1) 0) := by
  rw [gap_set d j y _ h]
  unfold gap
  have h1 : d.drop (j - 1) = d.getD (j - 1) 0 :: d.drop j := by
    rw [List.drop_eq_getElem_cons (by omega)]
    simp [show j - 1 < d.length by omega, show j - 1 + 1 = j by omega]
  have h2 : d.take j = d.take (j - 1) ++ [d.getD (j - 1) 0] := by
    have := take_snoc (l := d) (k := j - 1) (by omega)
    rwa [show j - 1 + 1 = j by omega] at this
  rw [h1, h2]
  simp
theorem gap_perm (d : List Nat) (j x : Nat) : (gap d j x).Perm (d ++ [x]) := by
  unfold gap
  have : (x :: d).Perm (d ++ [x]) := by simpa using List.perm_append_comm (l₁ := [x]) (l₂ := d)
  refine List.Perm.trans List.perm_middle ?_
  rw [List.take_append_drop]; exact this
theorem gap_asc (d : List Nat) (j x : Nat) (h : AscP d) (hl : 0 < j → rk (d.getD (j - 1) 0) ≤ rk x) (hj : j ≤ d.length) (hr : ∀ z ∈ d.drop j, rk x ≤ rk z) : AscP (gap d j x) := by
  unfold AscP gap at *
  have h' := h
  rw [← List.take_append_drop j d, List.pairwise_append] at h'
  obtain ⟨h1, h2, h3⟩ := h'
  rw [List.pairwise_append]
  refine ⟨h1, List.pairwise_cons.2 ⟨hr, h2⟩, fun a ha b hb => ?_⟩
  have hax : rk a ≤ rk x := by
    have hj0 : 0 < j := by
      rcases Nat.eq_zero_or_pos j with h0 | h0
      · rw [h0] at ha; simp at ha
      · exact h0
    obtain ⟨i, hi, rfl⟩ := List.getElem_of_mem ha
    rw [List.length_take] at hi
    refine Int.le_trans ?_ (hl hj0)
    rcases Nat.lt_or_ge i (j - 1) with g | g
    · have := (asc_iff d).2 h i (j - 1) g (by omega)
      simpa [show i < d.length by omega, show j - 1 < d.length by omega] using this
    · have : i = j - 1 := by omega
      subst this
      simp [show j - 1 < d.length by omega]
  rcases List.mem_cons.1 hb with rfl | hb
  · exact hax
  · exact Int.le_trans hax (hr b hb)

theorem own_shape {B n : Nat} {w : World} {v : Value} {xs : List Value} (h : w.ownsRow B 25 1 v n xs) : ∃ p c, v = .slice p n c := by
  obtain ⟨_, ⟨rfl, h0⟩ | ⟨g, c, _, rfl, _⟩⟩ := h
  · exact ⟨none, 0, by rw [h0]⟩
  · exact ⟨_, c, rfl⟩
theorem own_some {B n : Nat} {w : World} {v : Value} {xs : List Value} (h : w.ownsRow B 25 1 v n xs) (h0 : 0 < n) : ∃ g c, v = .slice (some ⟨g, 0, none⟩) n c ∧ B ≤ g := by
  obtain ⟨_, ⟨rfl, h1⟩ | ⟨g, c, _, rfl, hb, _⟩⟩ := h
  · omega
  · exact ⟨g, c, rfl, hb⟩
theorem own_at {B g c : Nat} {w : World} {l : List Nat} (h : w.ownsRow B 25 1 (.slice (some ⟨g, 0, none⟩) l.length c) l.length (l.map fl)) (j x : Nat) (hj : l[j]? = some x) : w.cell? ⟨g, j, none⟩ = some (.float .f64 x) := by
  have hlt : j < l.length := (List.getElem?_eq_some_iff.1 hj).1
  rw [h.cellAt j (by omega)]
  simp [hj, fl]
theorem own_set {B g c : Nat} {w : World} {l : List Nat} (h : w.ownsRow B 25 1 (.slice (some ⟨g, 0, none⟩) l.length c) l.length (l.map fl)) (j x : Nat) :
    (w.setCell ⟨g, j, none⟩ (.float .f64 x)).ownsRow B 25 1 (.slice (some ⟨g, 0, none⟩) l.length c) l.length ((l.set j x).map fl) := by
  have := (h.stored j (.float .f64 x)).1
  rw [List.map_set]; exact this

/-- what the inner loop keeps -/
def Mid (B g c : Nat) (w0 : World) (d : List Nat) (x j : Nat) (w : World) : Prop :=
  ∃ y, w.ownsRow B 25 1 (.slice (some ⟨g, 0, none⟩) (gap d j y).length c) (gap d j y).length ((gap d j y).map fl) ∧ (∀ z ∈ d.drop j, rk x ≤ rk z) ∧ Below B w0 w

theorem Mid.cell {B g c : Nat} {w0 : World} {d : List Nat} {x m : Nat} {w : World} (h : Mid B g c w0 d x (m + 1) w) (hm : m < d.length) : w.cell? ⟨g, m, none⟩ = some (.float .f64 (d.getD m 0)) := by
  obtain ⟨y, ho, _, _⟩ := h
  exact own_at ho m _ (gap_at d (m + 1) y (by omega) (by omega))
theorem Mid.here {B g c : Nat} {w0 : World} {d : List Nat} {x j : Nat} {w : World} (h : Mid B g c w0 d x j w) (hj : j ≤ d.length) : ∃ y, w.cell? ⟨g, j, none⟩ = some (.float .f64 y) := by
  obtain ⟨y, ho, _, _⟩ := h
  refine ⟨y, own_at ho j _ ?_⟩
  unfold gap
  rw [List.getElem?_append_right (by simp; omega)]
  simp [Nat.min_eq_left hj]
theorem Mid.free {B g c : Nat} {w0 : World} {d : List Nat} {x j : Nat} {w : World} (h : Mid B g c w0 d x j w) (k : Nat) : w.frozen? ⟨g, k, none⟩ = false := by
  obtain ⟨y, ho, _, _⟩ := h
  exact ho.frozenAt k
theorem Mid.step {B g c : Nat} {w0 : World} {d : List Nat} {x m : Nat} {w : World} (h : Mid B g c w0 d x (m + 1) w) (hm : m < d.length) (hB : B ≤ g) (hx : rk x < rk (d.getD m 0)) : Mid B g c w0 d x m (w.setCell ⟨g, m + 1, none⟩ (.float .f64 (d.getD m 0))) := by
  obtain ⟨y, ho, hr, hb⟩ := h
  have h1 := own_set ho (m + 1) (d.getD m 0)
  have e := gap_step d (m + 1) y (by omega) (by omega)
  rw [Nat.add_sub_cancel] at e
  rw [e] at h1
  have l1 := gap_length d (m + 1) y (by omega)
  have l2 := gap_length d m (d.getD m 0) (by omega)
  refine ⟨d.getD m 0, by rw [l2]; rw [l1] at h1; exact h1, ?_, hb.setCell (by exact hB) _⟩
  intro z hz
  rw [List.drop_eq_getElem_cons hm] at hz
  rcases List.mem_cons.1 hz with rfl | hz
  · simp [hm] at hx; omega
  · exact hr z hz
theorem Mid.done {B g c : Nat} {w0 : World} {d : List Nat} {x j : Nat} {w : World} (h : Mid B g c w0 d x j w) (hj : j ≤ d.length) (hB : B ≤ g) (ha : AscP d) (hl : 0 < j → rk (d.getD (j - 1) 0) ≤ rk x) :
    (gap d j x).length = d.length + 1 ∧ AscP (gap d j x) ∧ Own B (w.setCell ⟨g, j, none⟩ (.float .f64 x)) (.slice (some ⟨g, 0, none⟩) (d.length + 1) c) (gap d j x) ∧ Below B w0 (w.setCell ⟨g, j, none⟩ (.float .f64 x)) := by
  obtain ⟨y, ho, hr, hb⟩ := h
  have h1 := own_set ho j x
  rw [gap_set d j y x hj, gap_length d j y hj] at h1
  have l2 := gap_length d j x hj
  exact ⟨l2, gap_asc d j x ha hl hj hr, by unfold Own; rw [l2]; exact h1, hb.setCell (by exact hB) _⟩

set_option maxHeartbeats 2000000 in
theorem rsort_words (l : List Nat) (b off cap : Nat) (w : World) (hl : l.length ≤ 1000) (hc : Words w b off l) (hs : Small l) :
    Calls Try.prog 30 #[.slice (some ⟨b, off, none⟩) l.length cap] w fun e w' => ∃ v' d, e = .returned v' ∧ l.Perm d ∧ AscP d ∧ Own w.heap.size w' v' d ∧ Below w.heap.size w w' := by
  obtain ⟨i0, hi, hz0, hz1, hz2⟩ := info_parts info_f64
  obtain ⟨B, hB⟩ : ∃ B, B = w.heap.size := ⟨_, rfl⟩
  have HB := Lib.hid hB
  have C := Lib.hid hc
  have S := Lib.hid hs
  have R0 : Hid (Below B w w) := Lib.hid (Below.refl _ _)
  rw [← hB]
  clear hB hc hs
  go_enter Try.func30, Try.ntmps30
  go_wp2
  go_loopw [3, 9] (fun v i wr => ∃ (k : Nat) (d : List Nat), k ≤ l.length ∧ i = .int .i64 k ∧ Hid ((l.take k).Perm d ∧ AscP d ∧ d.length = k ∧ Own B wr v d ∧ Below B w wr)) (fun _ i _ => l.length - (intOf i).toNat)
  case atStart => exact ⟨0, [], Nat.zero_le _, rfl, Lib.hid ⟨List.Perm.refl _, List.Pairwise.nil, rfl, World.ownsRow_nil _ _ _ _, R0.out⟩⟩
  case round =>
    clear R0
    obtain ⟨k, d, hk, rfl, H⟩ := hrel
    by_cases hlt : k < l.length
    · obtain ⟨wo, rfl⟩ : ∃ wo : World, wo = wr := ⟨_, rfl⟩
      have hcell : wo.cell? ⟨b, off + k, none⟩ = some (.float .f64 (l.getD k 0)) := by
        have := C.out k hlt
        rw [H.out.2.2.2.2.cell (by rw [HB.out]; exact World.block_lt_of_cell? w _ this)]; exact this
      have hsm := S.out k hlt
      have TS := Lib.hid (take_snoc hlt)
      generalize l.getD k 0 = x at *
      obtain rfl : k = d.length := H.out.2.2.1.symm
      obtain ⟨p, c, hu⟩ := own_shape H.out.2.2.2.1
      subst hu
      have HO : Hid (wo.ownsRow B 25 1 (.slice p d.length c) d.length (d.map fl)) := Lib.hid H.out.2.2.2.1
      have hsz : B ≤ wo.heap.size := by have := H.out.2.2.2.2.size; rw [← HB.out] at this; exact this
      go_wp2_with (at_builtin; refine wpList_append_own _ rfl _ _ 24 rfl B 25 i0 (.float .f64 0) 1 8 Try.underlying24 hi hz0 hz1 hz2 rfl (by decide) _ _ _ rfl (HO.out.alloc _) ⟨wo.heap.size, 0, none⟩ 1 1 [.float .f64 x] rfl rfl ?e1 ?e2 ?e3 ?e4 ?e5 ?_)
      case e2 => first | rfl | (intro u hu; simp at hu; subst hu; rfl)
      case e3 => unfold maxLen; omega
      case e4 => omega
      case e5 => first | omega | (simp; omega)
      intro v' w1 hown1 hgrow _
      obtain ⟨g, c1, rfl, hBg⟩ := own_some hown1 (by omega)
      have hb1 : Below B w w1 := (H.out.2.2.2.2.alloc hsz _).grown hgrow (by rw [size_alloc]; omega) (by intro q hq; exact (HO.out.lt q hq).1)
      have M0 : Hid (Mid B g c1 w d x d.length w1) := Lib.hid ⟨x, by rw [gap_length d d.length x (Nat.le_refl _), gap_end, List.map_append]; exact hown1, by simp, hb1⟩
      clear hown1 hgrow hb1 HO hcell
      go_wp2
      go_loopw [6] (fun i wi => ∃ j : Nat, j ≤ d.length ∧ i = .int .i64 j ∧ Hid (Mid B g c1 w d x j wi)) (fun i _ => (intOf i).toNat)
      case atStart => exact ⟨d.length, Nat.le_refl _, rfl, M0⟩
      case round =>
        clear M0
        obtain ⟨j, hj, rfl, M⟩ := hrel
        obtain ⟨y, hy⟩ := M.out.here hj
        have hfz := M.out.free j
        rcases Nat.eq_zero_or_pos j with rfl | hj0
        · have F := Lib.hid (M.out.done hj hBg H.out.2.1 (fun h => absurd h (by omega)))
          clear M hk
          go_wp2
          go_roundw
          case rel =>
            refine ⟨d.length + 1, gap d 0 x, by omega, by go_num, Lib.hid ⟨?_, F.out.2.1, F.out.1, F.out.2.2.1, F.out.2.2.2⟩⟩
            rw [TS.out]
            exact (H.out.1.append_right [x]).trans (gap_perm d 0 x).symm
          case measure => simp [intOf]; omega
        · obtain ⟨m, rfl⟩ : ∃ m, j = m + 1 := ⟨j - 1, by omega⟩
          have hm : m < d.length := by omega
          have hcm := M.out.cell hm
          have G := Lib.hid (rcmp_any x (d.getD m 0) · hsm)
          have Dd := Lib.hid (show ∀ z ∈ d, z < 2 ^ 64 from fun z hz => by
            have h1 : z ∈ l.take d.length := H.out.1.mem_iff.2 hz
            obtain ⟨q, hq, rfl⟩ := List.getElem_of_mem (List.mem_of_mem_take h1)
            have := S.out q hq
            simpa [hq] using this)
          have hdm : d.getD m 0 < 2 ^ 64 := Dd.out _ (by simp [hm])
          have G := Lib.hid (fun w => G.out w hdm)
          have D := cmp3_neg (rk x) (rk (d.getD m 0))
          by_cases hx : rk x < rk (d.getD m 0)
          · rw [decide_eq_true hx] at D
            have MS := Lib.hid (M.out.step hm hBg hx)
            clear M hx hdm Dd
            generalize d.getD m 0 = z at *
            go_wp2_with (go_at_call 45; refine (G.out _).mono ?_; rintro e w' ⟨rfl, rfl⟩)
            go_roundw
            case rel => exact ⟨m, by omega, by go_num, MS⟩
            case measure => simp [intOf]
          · rw [decide_eq_false hx] at D
            have F := Lib.hid (M.out.done hj hBg H.out.2.1 (fun _ => by rw [Nat.add_sub_cancel]; omega))
            clear M hx hdm Dd hk
            generalize d.getD m 0 = z at *
            go_wp2_with (go_at_call 45; refine (G.out _).mono ?_; rintro e w' ⟨rfl, rfl⟩)
            go_roundw
            case rel =>
              refine ⟨d.length + 1, gap d (m + 1) x, by omega, by go_num, Lib.hid ⟨?_, F.out.2.1, F.out.1, F.out.2.2.1, F.out.2.2.2⟩⟩
              rw [TS.out]
              exact (H.out.1.append_right [x]).trans (gap_perm d (m + 1) x).symm
            case measure => simp [intOf]; omega
    · have E : Hid (l.take k = l) := Lib.hid (List.take_of_length_le (by omega))
      go_wp2
      go_ret
      exact ⟨_, d, rfl, by have := H.out.1; rwa [E.out] at this, H.out.2.1, H.out.2.2.2.1, H.out.2.2.2.2⟩

theorem rsort_none (p : Option Addr) (cap : Nat) (w : World) : Calls Try.prog 30 #[.slice p 0 cap] w fun e w' => ∃ v' d, e = .returned v' ∧ ([] : List Nat).Perm d ∧ AscP d ∧ Own w.heap.size w' v' d ∧ Below w.heap.size w w' := by
  go_enter Try.func30, Try.ntmps30
  go_wp2
  go_rounds 1
  go_ret
  exact ⟨_, [], rfl, List.Perm.refl _, List.Pairwise.nil, World.ownsRow_nil _ _ _ _, Below.refl _ _⟩

theorem rsort_any (v : Value) (l : List Nat) (w : World) (h : Reads w v l) (hl : l.length ≤ 1000) (hs : Small l) :
    Calls Try.prog 30 #[v] w fun e w' => ∃ v' d, e = .returned v' ∧ l.Perm d ∧ AscP d ∧ Own w.heap.size w' v' d ∧ Below w.heap.size w w' := by
  obtain ⟨p, cap, rfl, rfl | ⟨b, off, rfl, hw⟩⟩ := h
  · exact rsort_none p cap w
  · exact rsort_words l b off cap w hl hw hs
end Go.Proofs.Ythcecfenjbdgmaa
