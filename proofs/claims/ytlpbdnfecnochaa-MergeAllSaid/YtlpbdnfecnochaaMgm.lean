/-
  Contracts of package merge: the blocks behind the giving back, the word that is written.
-/
import Derived.Test.YtlpbdnfecnochaaMgo
namespace Go.Proofs.Ytlpbdnfecnochaa
set_option maxRecDepth 100000
open Go.ChangeShapes Go.WideShapes Go.ChangeAt Go.RowKit

theorem mid_length {l : List Bk} {k : Nat} (h : k < l.length) : (midB l k).length = too l k - frm l k := by
  have := frm_too h
  rw [midB, List.length_drop, List.length_take]
  omega
theorem mid_sum {l : List Bk} {k : Nat} (h : canM l k = true) : szW (midB l k) = (oneB l k).s ∧ ((midB l k).getD 0 default).a = (oneB l k).a := by
  obtain ⟨hm, hk, _⟩ := canM_nat h
  have ha := mayS_all hm
  refine ⟨?_, ?_⟩
  · rw [szW, if_pos]
    · rfl
    · exact List.all_eq_true.2 fun b hb => List.all_eq_true.1 ha b (mid_in hk b hb)
  · obtain ⟨r, hr⟩ := mid_cons hk
    rw [hr]; rfl
/-- the slice of what becomes one -/
theorem ra_mid {l : List Bk} {k b off c : Nat} {w : World} (h : k < l.length) (hv : RA blkE w (.slice (some ⟨b, off, none⟩) l.length c) l) : RA blkE w (.slice (some ⟨b, off + frm l k * 3, none⟩) (too l k - frm l k) (c - frm l k)) (midB l k) := by
  have hf := frm_too h
  have := ra_take hv (too l k)
  rw [Nat.min_eq_left (by omega)] at this
  exact ra_drop this (by rw [List.length_take]; omega)
/-- what is given back may be written -/
theorem one_wf {l : List Bk} {k : Nat} (h : canM l k = true) : (oneB l k).Wf ∧ MayB (oneB l k).s ∧ 0 ≤ (oneB l k).a ∧ (oneB l k).a ≤ 512 := by
  obtain ⟨hm, _⟩ := canM_nat h
  obtain ⟨h1, h2, h3⟩ := one_in hm h
  obtain ⟨⟨_, h5, _⟩, _⟩ := mayL_yes.1 hm
  obtain ⟨h6, h7⟩ := id h1
  exact ⟨Bk.wf_of (by omega) (by omega) (by omega) (by omega), h1, h2, by omega⟩

set_option maxHeartbeats 2000000 in
theorem mblocks_is (l : List Bk) (i : Int) (v : Value) (w : World) (hv : RA blkE w v l) (hl : l.length ≤ 1000) (r : Bool) (h : canM l i = r) :
    Calls Try.prog 8 #[v, .int .i64 i] w fun e w' => (∃ u, e = .returned (.tuple #[u, .bool r]) ∧ OwnA blkE w.heap.size w' u (mrgF l i)) ∧ Below w.heap.size w w' := by
  cases r with
  | false =>
    have C1 := Lib.hid (joined_no l i v w hv hl h)
    rw [mrgF_no h]
    obtain ⟨p, cap, rfl, _⟩ := ra_shape hv
    generalize l.length = L at *
    clear hv hl h
    go_enter Try.func8, Try.ntmps8
    go_wp2_with fail
    refine (C1.out).mono ?_; rintro e w1 ⟨rfl, b1⟩
    have D1 := Lib.hid b1
    clear b1
    go_wp2_with fail
    go_ret2
    exact ⟨⟨_, rfl, own_nil_a _ _ _⟩, D1.out⟩
  | true =>
    obtain ⟨k, rfl⟩ : ∃ k : Nat, i = k := ⟨i.toNat, by have := (canM_yes.1 h).2.1; omega⟩
    have C1 := Lib.hid (joined_yes l k v w hv hl h)
    obtain ⟨hm, hk, hu⟩ := canM_nat h
    rw [mrgF_yes h]
    have H0 := Lib.hid (fun (w' : World) (hb : Below w.heap.size w w') => ra_below hv hb)
    obtain ⟨p, c, rfl, hlc, hcm⟩ := ra_shape hv
    obtain ⟨b, off, rfl, _⟩ := blk_at hv (by omega)
    unfold maxLen at hcm
    have hft := frm_too hk
    have hml := mid_length hk
    obtain ⟨hms, hma⟩ := mid_sum h
    obtain ⟨howf, _⟩ := one_wf h
    have C2 := Lib.hid (fun (w' : World) (hb : Below w.heap.size w w') => one_is (midB l k) _ w' (ra_mid hk (H0.out w' hb)) (by omega) (by omega) _ _ hma hms)
    have eo : (⟨(oneB l k).a, (oneB l k).s, false⟩ : Bk) = oneB l k := rfl
    rw [eo] at C2
    clear hms hma eo hml
    generalize oneB l k = O at *
    generalize frm l k = F at *
    generalize too l k = T at *
    have i1 : (F : Int) ≤ (T : Int) := by omega
    have i2 : (T : Int) ≤ (l.length : Int) := by omega
    have i3 : (F : Int) ≤ (c : Int) := by omega
    have i4 : (T : Int) ≤ (c : Int) := by omega
    have i5 : ¬ c = 0 := by omega
    have i6 : ¬ c = F := by omega
    obtain ⟨q, hq⟩ : ∃ q : Addr, q = if c = T then ⟨b, off, none⟩ else ⟨b, off + T * 3, none⟩ := ⟨_, rfl⟩
    have HP : Hid (∀ w', Below w.heap.size w w' → RA blkE w' (.slice (some ⟨b, off, none⟩) F c) (l.take F) ∧ RA blkE w' (.slice (some q) (l.length - T) (c - T)) (l.drop T)) := Lib.hid fun w' hb => by
      refine ⟨?_, ?_⟩
      · have := ra_take (H0.out w' hb) F
        rwa [Nat.min_eq_left (by omega)] at this
      · by_cases hlt : T < l.length
        · have := ra_drop (H0.out w' hb) hlt
          rw [if_neg (by omega)] at hq
          rw [hq]; exact this
        · rw [List.drop_eq_nil_of_le (by omega), show l.length - T = 0 by omega]
          exact ⟨_, _, rfl, Nat.zero_le _, by unfold maxLen; omega, (fun _ h => by cases h), .inl rfl⟩
    have HL : Hid (l.length ≤ 1000 ∧ F ≤ l.length ∧ T ≤ l.length) := Lib.hid ⟨hl, by omega, by omega⟩
    have HO := Lib.hid howf
    clear hv hl h hm hk hu hlc hcm hft howf
    have C3 : Hid (∀ (w1 : World), Below w.heap.size w w1 → Calls Try.prog 21 #[.slice (some ⟨w1.heap.size + 1, 0, none⟩) 3 3] ((w1.alloc (.cells (bc O) 35)).alloc (.cells #[.slice (some ⟨b, off, none⟩) F c, .slice (some ⟨w1.heap.size, 0, none⟩) 1 1, .slice (some q) (l.length - T) (c - T)] 22)) fun e w' =>
        (∃ u, e = .returned u ∧ OwnA blkE w.heap.size w' u (l.take F ++ (O :: l.drop T))) ∧ Below w.heap.size w w') := Lib.hid fun w1 hb => by
      obtain ⟨W1, hW1⟩ : ∃ x, w1.alloc (.cells (bc O) 35) = x := ⟨_, rfl⟩
      have ho := blk_one w1 HO.out
      have hb1 : Below w.heap.size w W1 := by rw [← hW1]; exact bal hb
      have hsz : W1.heap.size = w1.heap.size + 1 := by rw [← hW1]; simp
      rw [hW1] at ho ⊢
      rw [← hsz]
      obtain ⟨g1, g2⟩ := HP.out W1 hb1
      have h3 := rows3 g1 ho.ra g2
      have hbb := bal (o := .cells #[.slice (some ⟨b, off, none⟩) F c, .slice (some ⟨w1.heap.size, 0, none⟩) 1 1, .slice (some q) (l.length - T) (c - T)] 22) hb1
      refine (concat_is [l.take F, [O], l.drop T] _ _ h3 (by simp) (by
        have := HL.out
        simp only [lens, List.map_cons, List.map_nil, List.sum_cons, List.sum_nil, List.length_take, List.length_drop, List.length_cons, List.length_nil]
        omega)).mono ?_
      rintro e w' ⟨⟨v, rfl, ho⟩, hb'⟩
      refine ⟨⟨v, rfl, ?_⟩, below_more hbb hb'⟩
      have := ho.mono hbb.size
      simpa using this
    clear HP HL H0 HO
    generalize l.length = L at *
    go_enter Try.func8, Try.ntmps8
    go_wp2_with fail
    refine (C1.out).mono ?_; rintro e w1 ⟨rfl, b1⟩
    have D1 := Lib.hid b1.drew
    clear b1 C1
    by_cases e : c = T
    · rw [if_pos e] at hq
      subst hq
      have e2 : T = c := e.symm
      subst e2
      rw [Nat.sub_self] at C3
      go_wp2_with fail
      go_region_law (first
        | (go_simp; go_at_call 22; refine (C2.out _ D1.out).mono ?_; rintro e wo ⟨rfl, bo⟩
           have DO := Lib.hid (below_more D1.out bo)
           clear bo)
        | (go_simp; go_at_call 21; refine (C3.out _ DO.out).mono ?_; rintro e wq ⟨⟨uq, rfl, oq⟩, bq⟩))
      all_goals
        go_wp2
        go_ret2
        exact ⟨⟨_, rfl, oq⟩, bq⟩
    · rw [if_neg e] at hq
      subst hq
      go_wp2_with fail
      go_region_law (first
        | (go_simp; go_at_call 22; refine (C2.out _ D1.out).mono ?_; rintro e wo ⟨rfl, bo⟩
           have DO := Lib.hid (below_more D1.out bo)
           clear bo)
        | (go_simp; go_at_call 21; refine (C3.out _ DO.out).mono ?_; rintro e wq ⟨⟨uq, rfl, oq⟩, bq⟩))
      all_goals
        go_wp2
        go_ret2
        exact ⟨⟨_, rfl, oq⟩, bq⟩
end Go.Proofs.Ytlpbdnfecnochaa
