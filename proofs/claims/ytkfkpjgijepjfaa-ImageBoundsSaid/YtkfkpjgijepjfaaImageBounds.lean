/-
  Bytes are held up to a block's end, and not beyond; none of a header, none of a free block. No conditions.
-/
import Derived.Test.YtkfkpjgijepjfaaZmc
import Derived.Test.YtkfkpjgijepjfaaZmd
namespace Go.Proofs.Ytkfkpjgijepjfaa.imageBounds
set_option maxRecDepth 100000
open Go.Proofs.Ytkfkpjgijepjfaa Go.ChangeShapes Go.WideShapes Go.ChangeAt Go.RowKit

theorem refF_yes {wl : List Int} {l : List Bk} {o n : Int} (hB : blkF wl = some l) (h : inL o n l = true) : (refF wl o n == 0) = true := by
  unfold refF
  rw [hB]
  simp only [h]
  rfl
theorem refF_no {wl : List Int} {l : List Bk} {o n : Int} (hB : blkF wl = some l) (h : inL o n l = false) : (refF wl o n == 0) = false := by
  unfold refF
  rw [hB]
  simp only [h]
  rfl
theorem isB_yes {wl : List Int} {l : List Bk} {o : Int} {k : Nat} (hB : blkF wl = some l) (h : isN o l = some k) : isB wl o = true := by
  unfold isB
  rw [hB]
  simp only [h]
  rfl
theorem isB_no {wl : List Int} {l : List Bk} {o : Int} (hB : blkF wl = some l) (h : isN o l = none) : isB wl o = false := by
  unfold isB
  rw [hB]
  simp only [h]
  rfl
theorem two_used {r t : Nat} {rest : List Bk} (hf : ∀ b ∈ rest, b.u = false) {b : Bk} (hb : b ∈ ((⟨0, r, true⟩ : Bk) :: ⟨r, t, true⟩ :: rest)) (hu : b.u = true) : b = ⟨0, r, true⟩ ∨ b = ⟨r, t, true⟩ := by
  rcases List.mem_cons.1 hb with rfl | hb
  · exact .inl rfl
  · rcases List.mem_cons.1 hb with rfl | hb
    · exact .inr rfl
    · rw [hf b hb] at hu
      cases hu
/-- what holds of two blocks -/
structure Two (wl : List Int) (r : Nat) (m : Int) : Prop where
  h1 : (refF wl 8 (((r - 1) * 8 : Nat) : Int) == 0) = true
  h2 : (refF wl 7 1 == 0) = false
  h3 : (refF wl 8 ((r * 8 - 7 : Nat) : Int) == 0) = false
  h4 : (refF wl ((r * 8 : Nat) : Int) 1 == 0) = false
  h5 : (refF wl ((r * 8 + 8 : Nat) : Int) m == 0) = true
  h6 : isB wl 8 = true
  h7 : isB wl ((r * 8 + 8 : Nat) : Int) = true
  h8 : isB wl 9 = false
  h9 : isB wl 17 = false
  h10 : isB wl ((r * 8 : Nat) : Int) = false
theorem two_are {wl : List Int} {r t : Nat} {m : Int} {rest : List Bk} (hB : blkF wl = some (⟨0, r, true⟩ :: ⟨r, t, true⟩ :: rest)) (hf : ∀ b ∈ rest, b.u = false) (h2 : 2 ≤ r) (h5 : r ≤ 5) (hm1 : 1 ≤ m) (hm2 : m ≤ 30) (ht : m + 8 ≤ 8 * t) : Two wl r m := by
  have hL := blkF_some hB
  have e0 : offB 0 = 8 := rfl
  have e1 : offB (r : Int) = ((r * 8 + 8 : Nat) : Int) := by rw [offB_at (by omega) (by omega)]; omega
  have no : ∀ o n : Int, ¬ (8 ≤ o ∧ o ≤ (r : Int) * 8 - n) → ¬ ((r : Int) * 8 + 8 ≤ o ∧ o ≤ ((r : Int) + t) * 8 - n) → inL o n (⟨0, r, true⟩ :: ⟨r, t, true⟩ :: rest) = false := fun o n g1 g2 => inL_no fun b hb hu => by
    rcases two_used hf hb hu with rfl | rfl
    · simp only [e0]; omega
    · simp only [e1]; omega
  have nn : ∀ o : Int, o ≠ 8 → o ≠ ((r * 8 + 8 : Nat) : Int) → isN o (⟨0, r, true⟩ :: ⟨r, t, true⟩ :: rest) = none := fun o g1 g2 => isN_no fun b hb => by
    rintro ⟨hu, ho⟩
    rcases two_used hf hb hu with rfl | rfl
    · simp only [e0] at ho; omega
    · simp only [e1] at ho; omega
  obtain ⟨k0, q0, _⟩ := used_at hL (b := ⟨0, r, true⟩) (List.mem_cons_self ..) rfl
  obtain ⟨k1, q1, _⟩ := used_at hL (b := ⟨r, t, true⟩) (List.mem_cons_of_mem _ (List.mem_cons_self ..)) rfl
  simp only [e0] at q0
  simp only [e1] at q1
  refine ⟨refF_yes hB (inL_yes.2 ⟨by omega, _, List.mem_cons_self .., rfl, ?_⟩), refF_no hB (no _ _ (by omega) (by omega)), refF_no hB (no _ _ (by omega) (by omega)), refF_no hB (no _ _ (by omega) (by omega)),
    refF_yes hB (inL_yes.2 ⟨by omega, _, List.mem_cons_of_mem _ (List.mem_cons_self ..), rfl, ?_⟩), isB_yes hB q0, isB_yes hB q1, isB_no hB (nn _ (by omega) (by omega)), isB_no hB (nn _ (by omega) (by omega)), isB_no hB (nn _ (by omega) (by omega))⟩
  · simp only [e0]; omega
  · simp only [e1]; omega

/-- the first one taken -/
theorem first_al {W r : Nat} {n : Int} (hm : Mw W) (hn : needN n = r) (h2 : 2 ≤ r) (h5 : r ≤ 5) :
    ∃ E W1, alR (firstL W) n [] = (E, 8, 0) ∧ E.length ≤ 600 ∧ appF (firstL W) E = W1 ∧ W1.length = W ∧ WordsOk W1 ∧ blkF W1 = some [⟨0, r, true⟩, ⟨r, (W : Int) - r, false⟩] := by
  obtain ⟨g1, g2, g3⟩ := first_blk hm
  obtain ⟨h8, h9, _⟩ := id hm
  have hL := blkF_some g1
  rw [g2] at hL
  have hch : chN (r : Int) [] [⟨0, (W : Int), false⟩] = some 0 := ch_only (by simp) (by
    show fitB r ⟨0, W, false⟩ = true
    rw [fitB_iff]
    exact ⟨rfl, by omega, by simp only; omega⟩) (fun j hj _ => by simpa using hj)
  obtain ⟨_, hcan, _⟩ := chN_can hL hch (by omega)
  obtain ⟨k1, _, _, _, _, _, _, _, k2⟩ := taken g1 g3 hcan
  have ht : takN (W : Int) r = r := by rw [takN, if_pos (by omega), if_neg (by omega)]
  have hcr : crvF [⟨0, (W : Int), false⟩] ((0 : Nat) : Int) r = [⟨0, r, true⟩, ⟨r, (W : Int) - r, false⟩] := by
    rw [crvF, if_pos hcan]
    show ([] : List Bk) ++ (prtB ⟨0, W, false⟩ r ++ []) = _
    rw [List.nil_append, List.append_nil, prtB]
    simp only [ht]
    rw [if_neg (by omega), Int.zero_add]
  rw [hcr] at k1
  exact ⟨_, _, alR_some g1 (by rw [hn]; omega) (by rw [hn]; exact hch), by rw [hn]; exact ced_len hL hcan, rfl, by rw [hn]; exact k2.len.trans g2, by rw [hn]; exact k2.ok, by rw [hn]; exact k1⟩
/-- the second one -/
theorem second_al {W r s : Nat} {m : Int} {W1 : List Int} (hl : W1.length = W) (hok : WordsOk W1) (hB : blkF W1 = some [⟨0, r, true⟩, ⟨r, (W : Int) - r, false⟩]) (hm : needN m = s) (hm1 : 1 ≤ m) (hm2 : m ≤ 30) (h2 : 2 ≤ r) (h5 : r ≤ 5) :
    (alR W1 m [] = ([], 0, 4)) ∨ ∃ E W2, alR W1 m [] = (E, ((r * 8 + 8 : Nat) : Int), 0) ∧ E.length ≤ 600 ∧ appF W1 E = W2 ∧ W2.length = W ∧ WordsOk W2 ∧ Two W2 r m := by
  have hL := blkF_some hB
  rw [hl] at hL
  obtain ⟨⟨h8, h9, _⟩, hF⟩ := mayL_yes.1 hL
  have hs : 2 ≤ s ∧ m + 8 ≤ 8 * s := by
    unfold needN at hm
    rw [if_pos (by omega)] at hm
    omega
  by_cases c : (s : Int) ≤ (W : Int) - r
  · right
    have hch : chN (s : Int) [] [⟨0, r, true⟩, ⟨r, (W : Int) - r, false⟩] = some 1 := ch_only (by simp) (by
      show fitB s ⟨r, (W : Int) - r, false⟩ = true
      rw [fitB_iff]
      exact ⟨rfl, by omega, by simp only; omega⟩) (fun j hj hu => by
        rcases (by simp at hj; omega : j = 0 ∨ j = 1) with rfl | rfl
        · cases hu
        · rfl)
    obtain ⟨_, hcan, _⟩ := chN_can hL hch (by omega)
    obtain ⟨k1, _, _, _, _, _, _, _, k2⟩ := taken hB hok hcan
    obtain ⟨t, ht⟩ : ∃ t : Nat, takN ((W : Int) - r) s = t := ⟨(takN ((W : Int) - r) s).toNat, by rw [takN, if_pos (by omega)]; split <;> omega⟩
    have hts : s ≤ t := by
      rw [takN, if_pos (by omega)] at ht
      split at ht <;> omega
    have hcr : ∃ rest, crvF [⟨0, r, true⟩, ⟨r, (W : Int) - r, false⟩] ((1 : Nat) : Int) s = ⟨0, r, true⟩ :: ⟨r, t, true⟩ :: rest ∧ ∀ b ∈ rest, b.u = false := by
      rw [crvF, if_pos hcan]
      show ∃ rest, [(⟨0, r, true⟩ : Bk)] ++ (prtB ⟨r, (W : Int) - r, false⟩ s ++ []) = _ ∧ _
      rw [List.append_nil, prtB]
      simp only [ht]
      split
      · rename_i e
        exact ⟨[], by rw [e]; rfl, fun b hb => by cases hb⟩
      · exact ⟨_, rfl, fun b hb => by rw [List.mem_singleton.1 hb]⟩
    obtain ⟨rest, hcr, hrf⟩ := hcr
    rw [hcr] at k1
    refine ⟨_, _, ?_, ced_len hL hcan, rfl, k2.len.trans hl, k2.ok, two_are k1 hrf h2 h5 hm1 hm2 (by omega)⟩
    rw [alR_some hB (by rw [hm]; omega) (by rw [hm]; exact hch)]
    have : offB (atL [⟨0, (r : Int), true⟩, ⟨r, (W : Int) - r, false⟩] 1) = ((r * 8 + 8 : Nat) : Int) := by
      show offB (r : Int) = _
      rw [offB_at (by omega) (by omega)]
      omega
    rw [this, hm]
  · left
    refine alR_none hB (by rw [hm]; omega) (by
      rw [hm]
      refine ch_none.2 fun b hb => ?_
      rw [Bool.eq_false_iff, Ne, fitB_iff]
      simp only [List.mem_cons, List.not_mem_nil, or_false] at hb
      rcases hb with rfl | rfl
      · rintro ⟨q, _⟩
        cases q
      · rintro ⟨_, _, q⟩
        simp only at q
        omega)

theorem bool_is (b : Bool) (w : World) : Calls Try.prog 33 #[.bool b] w fun e w' => e = .returned (.int .i64 (if b = true then 1 else 0 : Nat)) ∧ w = w' := by
  cases b
  · go_enter Try.func33, Try.ntmps33
    go_wp2_with fail
    go_ret
    exact ⟨rfl, rfl⟩
  · go_enter Try.func33, Try.ntmps33
    go_wp2_with fail
    go_ret
    exact ⟨rfl, rfl⟩

set_option maxHeartbeats 4000000 in
theorem near (a0 a1 a2 : Int) (w : World) :
    Calls Try.prog 7 #[.int .i64 a0, .int .i64 a1, .int .i64 a2] w fun e w' => e = .returned (.bool true) ∧ Below w.heap.size w w' := by
  obtain ⟨u0, hu0, _⟩ := u64_nat a0
  obtain ⟨u1, hu1, _⟩ := u64_nat a1
  obtain ⟨u2, hu2, _⟩ := u64_nat a2
  obtain ⟨q0, hq0⟩ : ∃ q, u0 % 20 = q := ⟨_, rfl⟩
  obtain ⟨q1, hq1⟩ : ∃ q, u1 % 30 = q := ⟨_, rfl⟩
  obtain ⟨q2, hq2⟩ : ∃ q, u2 % 30 = q := ⟨_, rfl⟩
  have t0 : (u0 : Int).tmod 20 = (q0 : Int) := by rw [← hq0]; exact tmod_nat u0 20
  have t1 : (u1 : Int).tmod 30 = (q1 : Int) := by rw [← hq1]; exact tmod_nat u1 30
  have t2 : (u2 : Int).tmod 30 = (q2 : Int) := by rw [← hq2]; exact tmod_nat u2 30
  have s0 : IntKind.i64.wrap (q0 : Int) = (q0 : Int) := i64_nat _ (by omega)
  have s1 : IntKind.i64.wrap (q1 : Int) = (q1 : Int) := i64_nat _ (by omega)
  have s2 : IntKind.i64.wrap (q2 : Int) = (q2 : Int) := i64_nat _ (by omega)
  obtain ⟨L, hL⟩ : ∃ L, 1 + q0 = L := ⟨_, rfl⟩
  obtain ⟨n, hn⟩ : ∃ L, 1 + q1 = L := ⟨_, rfl⟩
  obtain ⟨m, hm⟩ : ∃ L, 1 + q2 = L := ⟨_, rfl⟩
  obtain ⟨W, hW⟩ : ∃ W, 8 * L = W := ⟨_, rfl⟩
  have p0 : IntKind.i64.wrap (1 + (q0 : Int)) = (L : Int) := by rw [show 1 + (q0 : Int) = (L : Int) by omega]; exact i64_nat _ (by omega)
  have p1 : IntKind.i64.wrap (1 + (q1 : Int)) = (n : Int) := by rw [show 1 + (q1 : Int) = (n : Int) by omega]; exact i64_nat _ (by omega)
  have p2 : IntKind.i64.wrap (1 + (q2 : Int)) = (m : Int) := by rw [show 1 + (q2 : Int) = (m : Int) by omega]; exact i64_nat _ (by omega)
  have p3 : IntKind.i64.wrap (8 * (L : Int)) = (W : Int) := by rw [show 8 * (L : Int) = (W : Int) by omega]; exact i64_nat _ (by omega)
  obtain ⟨r, hr⟩ : ∃ r : Nat, needN n = r := ⟨(needN n).toNat, by unfold needN; rw [if_pos (by omega)]; omega⟩
  obtain ⟨s, hs⟩ : ∃ r : Nat, needN m = r := ⟨(needN m).toNat, by unfold needN; rw [if_pos (by omega)]; omega⟩
  have hr2 : 2 ≤ r ∧ r ≤ 5 := by
    unfold needN at hr
    rw [if_pos (by omega)] at hr
    omega
  have hMw : Mw W := ⟨by omega, by omega, by omega⟩
  obtain ⟨f1, f2, f3⟩ := first_blk hMw
  have C1 := Lib.hid (fun w' => first_is W w')
  have CN := Lib.hid (fun w' => rneed_is n w')
  rw [hr] at CN
  obtain ⟨E, W1, a1e, a2e, a3e, a4e, a5e, a6e⟩ := first_al hMw hr hr2.1 hr2.2
  have CA := Lib.hid (fun v w' (h : RU w' v (firstL W)) => al_is (firstL W) n [] v (.slice none 0 0) w' h (by omega) f3 (ri_nil w'))
  rw [a1e] at CA
  have CP := Lib.hid (fun v u w' (h : RU w' v (firstL W)) (hu : RA edE w' u E) => rapply_is (firstL W) E v u w' h hu (by omega) (by omega) (by omega))
  rw [a3e] at CP
  have CA2 := Lib.hid (fun v w' (h : RU w' v W1) => al_is W1 m [] v (.slice none 0 0) w' h (by omega) a5e (ri_nil w'))
  have CP2 := Lib.hid (fun E2 v u w' (h : RU w' v W1) (hE : List.length E2 ≤ 600) (hu : RA edE w' u E2) => rapply_is W1 E2 v u w' h hu (by omega) (by omega) (by omega))
  simp only at CA CA2
  rcases second_al (m := m) a4e a5e a6e hs (by omega) (by omega) hr2.1 hr2.2 with h | ⟨E2, W2, b1e, b2e, b3e, b4e, b5e, b6e⟩
  · rw [h] at CA2
    have CP2 := Lib.hid (fun v u w' h hu => CP2.out [] v u w' h (by simp) hu)
    clear hq0 hq1 hq2 hL hn hm hW hr hs hr2 hMw f1 f2 f3 a1e a2e a3e a4e a5e a6e h
    go_enter Try.func7, Try.ntmps7
    go_wp2_with fail
    refine (C1.out _).mono ?_; rintro e w1 ⟨⟨v1, rfl, o1⟩, b1⟩
    have B1 := Lib.hid b1
    have O1 := Lib.hid o1.ru
    clear o1 b1 C1
    go_wp2_with fail
    refine (CA.out _ _ O1.out).mono ?_; rintro e w2 ⟨⟨v2, rfl, o2⟩, b2⟩
    have B2 := Lib.hid (below_more B1.out b2)
    have O1 := Lib.hid (ru_below O1.out b2)
    have O2 := Lib.hid o2.ra
    clear o2 b2 CA
    go_wp2_with fail
    refine (CP.out _ _ _ O1.out O2.out).mono ?_; rintro e w3 ⟨⟨v3, rfl, o3⟩, b3⟩
    have B3 := Lib.hid (below_more B2.out b3)
    have O3 := Lib.hid o3.ru
    clear o3 b3 CP O1 O2
    go_wp2_with fail
    refine (CA2.out _ _ O3.out).mono ?_; rintro e w4 ⟨⟨v4, rfl, o4⟩, b4⟩
    have B4 := Lib.hid (below_more B3.out b4)
    have O3 := Lib.hid (ru_below O3.out b4)
    have O4 := Lib.hid o4.ra
    clear o4 b4 CA2
    go_wp2_with fail
    refine (CP2.out _ _ _ O3.out O4.out).mono ?_; rintro e w5 ⟨⟨v5, rfl, o5⟩, b5⟩
    have B5 := Lib.hid (below_more B4.out b5)
    clear o5 b5 CP2 O3 O4
    go_wp2_with fail
    refine (awake_any _).mono ?_; rintro e w6 ⟨rfl, b6⟩
    have B6 := Lib.hid (below_more B5.out b6)
    clear b6
    go_wp2_with fail
    go_ret
    exact ⟨rfl, B6.out⟩
  · rw [b1e] at CA2
    have CP2 := Lib.hid (fun v u w' h hu => CP2.out E2 v u w' h b2e hu)
    rw [b3e] at CP2
    have CH := Lib.hid (fun o n v w' (h : RU w' v W2) => holds_is W2 o n v w' h (by omega) b5e)
    have CI := Lib.hid (fun o v w' (h : RU w' v W2) => is_is W2 o v w' h (by omega) b5e)
    obtain ⟨h1, h2, h3, h4, h5, h6, h7, h8, h9, h10⟩ := b6e
    obtain ⟨x, hx⟩ : ∃ x, r - 1 = x := ⟨_, rfl⟩
    obtain ⟨room, hroom⟩ : ∃ x, (r - 1) * 8 = x := ⟨_, rfl⟩
    obtain ⟨y1, hy1⟩ : ∃ x, 8 + room = x := ⟨_, rfl⟩
    obtain ⟨y2, hy2⟩ : ∃ x, r * 8 + 8 = x := ⟨_, rfl⟩
    obtain ⟨y3, hy3⟩ : ∃ x, r * 8 = x := ⟨_, rfl⟩
    obtain ⟨y4, hy4⟩ : ∃ x, r * 8 - 7 = x := ⟨_, rfl⟩
    have j1 : IntKind.i64.wrap ((r : Int) - 1) = (x : Int) := by rw [show (r : Int) - 1 = (x : Int) by omega]; exact i64_nat _ (by omega)
    have j2 : IntKind.i64.wrap ((x : Int) * 8) = (room : Int) := by rw [show (x : Int) * 8 = (room : Int) by omega]; exact i64_nat _ (by omega)
    have j3 : IntKind.i64.wrap (8 + (room : Int)) = (y1 : Int) := by rw [show 8 + (room : Int) = (y1 : Int) by omega]; exact i64_nat _ (by omega)
    have j4 : IntKind.i64.wrap ((y1 : Int) + 8) = (y2 : Int) := by rw [show (y1 : Int) + 8 = (y2 : Int) by omega]; exact i64_nat _ (by omega)
    have j5 : ((y2 : Int) != (y2 : Int)) = false := by simp
    have j6 : IntKind.i64.wrap ((y2 : Int) - 8) = (y3 : Int) := by rw [show (y2 : Int) - 8 = (y3 : Int) by omega]; exact i64_nat _ (by omega)
    have j7 : IntKind.i64.wrap ((y3 : Int) - 7) = (y4 : Int) := by rw [show (y3 : Int) - 7 = (y4 : Int) by omega]; exact i64_nat _ (by omega)
    obtain ⟨b, hb⟩ : ∃ b, decide ((room : Int) > 8) = b := ⟨_, rfl⟩
    rw [hroom] at h1
    rw [hy4] at h3
    rw [hy3] at h4 h10
    rw [hy2] at h5 h7 CA2
    have CH1 := Lib.hid (fun v w' h => CH.out 8 room v w' h)
    have CH2 := Lib.hid (fun v w' h => CH.out 7 1 v w' h)
    have CH3 := Lib.hid (fun v w' h => CH.out 8 y4 v w' h)
    have CH4 := Lib.hid (fun v w' h => CH.out y3 1 v w' h)
    have CH5 := Lib.hid (fun v w' h => CH.out y2 m v w' h)
    have CI1 := Lib.hid (fun v w' h => CI.out 8 v w' h)
    have CI2 := Lib.hid (fun v w' h => CI.out y2 v w' h)
    have CI3 := Lib.hid (fun v w' h => CI.out (if b = true then 17 else 9) v w' h)
    have CI4 := Lib.hid (fun v w' h => CI.out y3 v w' h)
    rw [h1] at CH1
    rw [h2] at CH2
    rw [h3] at CH3
    rw [h4] at CH4
    rw [h5] at CH5
    rw [h6] at CI1
    rw [h7] at CI2
    rw [h10] at CI4
    have h89 : isB W2 (if b = true then 17 else 9) = false := by
      cases b
      · exact h8
      · exact h9
    rw [h89] at CI3
    have CX := Lib.hid (fun w' => bool_is b w')
    obtain ⟨z, hz⟩ : ∃ z : Nat, (if b = true then 1 else 0) = z := ⟨_, rfl⟩
    obtain ⟨z2, hz2⟩ : ∃ z2 : Int, (if b = true then 17 else 9) = z2 := ⟨_, rfl⟩
    obtain ⟨z3, hz3⟩ : ∃ z3 : Nat, 8 * z = z3 := ⟨_, rfl⟩
    obtain ⟨z4, hz4⟩ : ∃ z4 : Nat, 8 + z3 = z4 := ⟨_, rfl⟩
    have hzz : (z4 : Int) + 1 = z2 := by
      rw [← hz2]
      cases b
      · rw [if_neg Bool.false_ne_true] at hz ⊢
        omega
      · rw [if_pos rfl] at hz ⊢
        omega
    have hz20 : z ≤ 1 := by
      rw [← hz]
      split <;> omega
    rw [hz] at CX
    rw [hz2] at CI3
    have j8 : IntKind.i64.wrap (8 * (z : Int)) = (z3 : Int) := by rw [show 8 * (z : Int) = (z3 : Int) by omega]; exact i64_nat _ (by omega)
    have j9 : IntKind.i64.wrap (8 + (z3 : Int)) = (z4 : Int) := by rw [show 8 + (z3 : Int) = (z4 : Int) by omega]; exact i64_nat _ (by omega)
    have j10 : IntKind.i64.wrap ((z4 : Int) + 1) = z2 := by rw [hzz]; exact IntWalk.i64_in _ (by omega)
    clear hq0 hq1 hq2 hL hn hm hW hr hs hr2 hMw f1 f2 f3 a1e a2e a3e a4e a5e a6e b1e b2e b3e b4e b5e h1 h2 h3 h4 h5 h6 h7 h8 h9 h10 h89 hx hroom hy1 hy2 hy3 hy4 CH CI hz hz2 hz3 hz4 hzz hz20
    go_enter Try.func7, Try.ntmps7
    go_wp2_with fail
    refine (C1.out _).mono ?_; rintro e w1 ⟨⟨v1, rfl, o1⟩, b1⟩
    have B1 := Lib.hid b1
    have O1 := Lib.hid o1.ru
    clear o1 b1 C1
    go_wp2_with fail
    refine (CA.out _ _ O1.out).mono ?_; rintro e w2 ⟨⟨v2, rfl, o2⟩, b2⟩
    have B2 := Lib.hid (below_more B1.out b2)
    have O1 := Lib.hid (ru_below O1.out b2)
    have O2 := Lib.hid o2.ra
    clear o2 b2 CA
    go_wp2_with fail
    refine (CP.out _ _ _ O1.out O2.out).mono ?_; rintro e w3 ⟨⟨v3, rfl, o3⟩, b3⟩
    have B3 := Lib.hid (below_more B2.out b3)
    have O3 := Lib.hid o3.ru
    clear o3 b3 CP O1 O2
    go_wp2_with fail
    refine (CA2.out _ _ O3.out).mono ?_; rintro e w4 ⟨⟨v4, rfl, o4⟩, b4⟩
    have B4 := Lib.hid (below_more B3.out b4)
    have O3 := Lib.hid (ru_below O3.out b4)
    have O4 := Lib.hid o4.ra
    clear o4 b4 CA2
    go_wp2_with fail
    refine (CP2.out _ _ _ O3.out O4.out).mono ?_; rintro e w5 ⟨⟨v5, rfl, o5⟩, b5⟩
    have B5 := Lib.hid (below_more B4.out b5)
    have O5 := Lib.hid o5.ru
    clear o5 b5 CP2 O3 O4
    go_wp2_with fail
    refine (CN.out _).mono ?_; rintro e w6 ⟨rfl, rfl⟩
    go_wp2_with fail
    refine (CH1.out _ _ O5.out).mono ?_; rintro e w7 ⟨rfl, b7⟩
    have B7 := Lib.hid (below_more B5.out b7)
    have O7 := Lib.hid (ru_below O5.out b7)
    clear b7 CH1 O5
    go_wp2_with fail
    refine (CH2.out _ _ O7.out).mono ?_; rintro e w8 ⟨rfl, b8⟩
    have B8 := Lib.hid (below_more B7.out b8)
    have O8 := Lib.hid (ru_below O7.out b8)
    clear b8 CH2 O7
    go_wp2_with fail
    refine (CH3.out _ _ O8.out).mono ?_; rintro e w9 ⟨rfl, b9⟩
    have B9 := Lib.hid (below_more B8.out b9)
    have O9 := Lib.hid (ru_below O8.out b9)
    clear b9 CH3 O8
    go_wp2_with fail
    refine (CH4.out _ _ O9.out).mono ?_; rintro e w10 ⟨rfl, b10⟩
    have B10 := Lib.hid (below_more B9.out b10)
    have O10 := Lib.hid (ru_below O9.out b10)
    clear b10 CH4 O9
    go_wp2_with fail
    refine (CH5.out _ _ O10.out).mono ?_; rintro e w11 ⟨rfl, b11⟩
    have B11 := Lib.hid (below_more B10.out b11)
    have O11 := Lib.hid (ru_below O10.out b11)
    clear b11 CH5 O10
    go_wp2_with fail
    refine (CI1.out _ _ O11.out).mono ?_; rintro e w12 ⟨rfl, b12⟩
    have B12 := Lib.hid (below_more B11.out b12)
    have O12 := Lib.hid (ru_below O11.out b12)
    clear b12 CI1 O11
    go_wp2_with fail
    refine (CI2.out _ _ O12.out).mono ?_; rintro e w13 ⟨rfl, b13⟩
    have B13 := Lib.hid (below_more B12.out b13)
    have O13 := Lib.hid (ru_below O12.out b13)
    clear b13 CI2 O12
    go_wp2_with fail
    refine (CX.out _).mono ?_; rintro e wx ⟨rfl, rfl⟩
    go_wp2_with fail
    refine (CI3.out _ _ O13.out).mono ?_; rintro e w14 ⟨rfl, b14⟩
    have B14 := Lib.hid (below_more B13.out b14)
    have O14 := Lib.hid (ru_below O13.out b14)
    clear b14 CI3 O13
    go_wp2_with fail
    refine (CI4.out _ _ O14.out).mono ?_; rintro e w15 ⟨rfl, b15⟩
    have B15 := Lib.hid (below_more B14.out b15)
    have O15 := Lib.hid (ru_below O14.out b15)
    clear b15 CI4 O14
    go_wp2_with fail
    refine (awake_any _).mono ?_; rintro e wz ⟨rfl, bz⟩
    have BZ := Lib.hid (below_more B15.out bz)
    clear bz
    go_wp2_with fail
    go_ret
    exact ⟨rfl, BZ.out⟩

theorem walk (a0 a1 a2 : Int) (w : World) (_h0 : (Lit.int .i64 a0).wf = true) (_h1 : (Lit.int .i64 a1).wf = true) (_h2 : (Lit.int .i64 a2).wf = true) :
    Calls Try.prog 7 #[.int .i64 a0, .int .i64 a1, .int .i64 a2] w fun e w' => e = .returned (.bool true) ∧ Below w.heap.size w w' := near a0 a1 a2 w

set_option maxRecDepth 100000 in
theorem lifted (os : Os) (started : os.Started) (H : Type) (enc : TypeId × Value → H) :
    ReturnsInHanded {} Try.checked os 7 .any (Rows.imageBoundsSpec.pre6 enc Try.prog Try.f7 Rows.imageBoundsRow.domain false) (Rows.imageBoundsSpec.post enc Try.prog Try.f7 false true false false) := by
  refine returnsInHanded_of_change (C := Try.checked) own started (by kernel_rfl) Try.func7
    (ChangeSpec.witness6 (enc := enc) (C := Try.checked) false ⟨#[], #[.int .i64 0, .int .i64 0, .int .i64 0], []⟩ 8 (by kernel_rfl) (by kernel_rfl) (by kernel_rfl) (by kernel_rfl)) ?_
  intro W base args ds gs before hval0 hW hcnd _
  have hval : ∀ (j : Nat) t v, Try.f7.params[j]? = some t → args[j]? = some v → Value.okWide Try.prog W .any base t v := hval0
  have hW' := hW
  have hlt := hW.lt
  obtain ⟨p, q, hA0, hV, hpq, hfz, hnd⟩ := hW
  have hA : DataW.TrodAll enc Try.prog W 0 (fun _ => true) true Try.f7.params.toList args.toList ds p := hA0
  rw [Try.params7] at hA hval
  obtain ⟨v0, vs0, d0, ds0, p0, q0, hargs, rfl, hp, h0, r0⟩ := trodAll_cons hA
  obtain ⟨v1, vs1, d1, ds1, p1, q1, rfl, rfl, rfl, h1, r1⟩ := trodAll_cons r0
  obtain ⟨v2, vs2, d2, ds2, p2, q2, rfl, rfl, rfl, h2, r2⟩ := trodAll_cons r1
  obtain ⟨rfl, rfl, rfl⟩ := trodAll_nil r2
  obtain rfl : args = #[v0, v1, v2] := by cases args; simp_all
  obtain ⟨rfl, rfl⟩ := trodVars_none hV
  have hlt' : ∀ x ∈ before, x.block < W.heap.size := fun x hx => hlt x hx
  obtain ⟨a0, rfl, rfl, rfl, w0⟩ := open_int Try.underlying3 (hval 0 3 v0 rfl rfl) h0
  obtain ⟨a1, rfl, rfl, rfl, w1⟩ := open_int Try.underlying3 (hval 1 3 v1 rfl rfl) h1
  obtain ⟨a2, rfl, rfl, rfl, w2⟩ := open_int Try.underlying3 (hval 2 3 v2 rfl rfl) h2
  refine (walk a0 a1 a2 W w0 w1 w2).mono fun e W' ⟨he, hb⟩ => ?_
  subst he
  exact ⟨_, rfl, law_post rfl (by kernel_rfl) hW' (by rw [Try.params7]; intro t ht; simp only [List.mem_cons, List.not_mem_nil, or_false] at ht; (repeat' (first | (rcases ht with rfl | ht) | subst ht)) <;> exact ⟨by kernel_rfl, of_decide_eq_true (by kernel_rfl)⟩) rfl hb⟩

theorem over : Rows.imageBoundsRow.holds Try.pinned (OpenSpec.ofChange Rows.imageBoundsSpec) :=
  OpenClaim.holds_of_wide 7 Try.f7 rfl rfl rfl rfl rfl rfl rfl ⟨rfl, rfl, rfl, rfl, rfl⟩ rfl rfl rfl rfl rfl (by kernel_rfl) Try.func7 (by kernel_rfl)
    (of_decide_eq_true (by kernel_rfl)) (by unfold Func.isWrapper; first | (rw [if_pos (by decide +kernel)]; kernel_rfl) | (rw [if_neg (by decide +kernel)]; exact ⟨rfl, rfl⟩))
    (fun os started H enc _ => lifted os started H enc)

theorem proved : Rows.ImageBoundsSaid := over
end Go.Proofs.Ytkfkpjgijepjfaa.imageBounds
