/-
  Contracts of package model: a block is taken.
-/
import Derived.Test.YtkpefnjohdjejaaMfi
import Derived.Test.YtkpefnjohdjejaaZme
import Derived.Deep.RegionHeld3
import Derived.Deep.RegionLaw
namespace Go.Proofs.Ytkpefnjohdjejaa
set_option maxRecDepth 100000
open Go.ChangeShapes Go.WideShapes Go.ChangeAt Go.RowKit

set_option maxHeartbeats 2000000 in
theorem mtake_is {D : List Nat} {g : Nat} {wl : List Int} {l : List Bk} {r : Int} {d z t : Nat} {N : Int} (w : World) (h : Mo w D g wl l r) (hc : canC l d N = true) (hz : (l.getD d default).a = z) (ht : takN (l.getD d default).s N = t) :
    Calls Try.prog 66 #[.pointer (some ⟨g, 0, none⟩), .int .i64 z, .int .i64 t] w fun e w' => e = .returned (.tuple #[]) ∧ Mo w' D g (appF wl (cedF l d N)) (crvF l d N) r ∧ Chg [g] w w' := by
  obtain ⟨hlen, hwl, hm⟩ := h.len
  obtain ⟨v, us, hW, hR, hF, hU, hP⟩ := h.rows
  obtain ⟨j, z', t', hat, hz', ht', hj, hus, hlo, hhi⟩ := usd_crv hm hc
  obtain rfl : z = z' := by omega
  obtain rfl : t = t' := by omega
  obtain ⟨hB', z', t', m, hg', ht2, htm, hgt, hT⟩ := taken h.hB h.ok hc
  rw [hgt] at hat
  obtain ⟨rfl, rfl⟩ : z = z' ∧ t = t' := by
    injection hat with e1 e2 e3
    omega
  have hm1 := blkF_some hB'
  have hlen1 := crv_length hc
  have hd0 : d < l.length := by
    obtain ⟨_, h0, h1, _⟩ := canC_yes.1 hc
    omega
  have hd1 : d < (crvF l d N).length := by rw [hlen1]; split <;> omega
  obtain ⟨⟨s1, s2⟩, s3, s4⟩ := at_in hm1 hd1
  rw [hgt] at s1 s2 s3 s4
  simp only at s1 s2 s3 s4
  rw [hT.len] at s4
  have hul := hU.len
  -- the words behind the header, the extent
  have hmk := run_make_row' (P := Try.prog) 41 49 (.int .u64 0) 8 Try.underlying41 info_u64 rfl .i64 .i64 (t - 1) (by omega) (by omega)
  obtain ⟨T, hTt⟩ : ∃ T, t - 1 = T := ⟨_, rfl⟩
  rw [hTt] at hmk
  have i0 : IntKind.i64.wrap ((t : Int) - 1) = (T : Int) := by rw [show (t : Int) - 1 = (T : Int) by omega]; exact i64_nat _ (by omega)
  have hO0 := own_made_u w T (by unfold maxLen; omega)
  obtain ⟨W1, hW1⟩ : ∃ W1, w.alloc (.cells (madeCells #[.int .u64 0] T) 49) = W1 := ⟨_, rfl⟩
  have hB1 : Below w.heap.size w W1 := by rw [← hW1]; exact bal (Below.refl _ _)
  rw [hW1] at hO0
  have hbd : ∀ w', (exBuild #[(0, .agg (bc ⟨z, t, true⟩)), (1, .slice (some ⟨w.heap.size, 0, none⟩) T T)]).run Try.prog w' = .ok (.agg (xc ⟨⟨z, t, true⟩, .slice (some ⟨w.heap.size, 0, none⟩) T T, List.replicate T 0⟩)) w' := fun w' => run_exBuild w' _ _ _ _ _
  obtain ⟨X, hX⟩ : ∃ X : Ex, (⟨⟨z, t, true⟩, .slice (some ⟨w.heap.size, 0, none⟩) T T, List.replicate T 0⟩ : Ex) = X := ⟨_, rfl⟩
  have hXv : X.v.oneCell' = true := by rw [← hX]; rfl
  have hXwf : X.Wf := ⟨by rw [← hX]; exact Bk.wf_of (by simp only; omega) (by simp only; omega) (by simp only; omega) (by simp only; omega), hXv⟩
  have hsl : ∀ w', (exSlice 1 #[(0, .agg (xc X))]).run Try.prog w' = .ok (.slice (some ⟨w'.heap.size, 0, none⟩) 1 1) (w'.alloc (.cells (xc X) 84)) := fun w' => run_exSlice1 w' X (by rw [← hX])
  have hXb : X.b = ⟨z, t, true⟩ := by rw [← hX]
  have hXw : X.ws = List.replicate (t - 1) 0 ∧ RU W1 X.v X.ws ∧ Far W1 D X.v := by
    rw [← hX, hTt]
    exact ⟨rfl, OwnU.ru hO0, far_own_u hO0 h.dlt⟩
  rw [hX] at hbd
  clear hX
  obtain ⟨W2, hW2, hst, HW2⟩ := ex_boxed W1 X hXv
  have hB2 := below_more hB1 HW2.out.2
  -- what is in the model then
  have FIN : Hid (∀ (wq : World) (u : Value), Below W2.heap.size W2 wq → OwnA exE W2.heap.size wq u (us.take j ++ (X :: us.drop j)) → Mo (wq.setCell ⟨g, 1, none⟩ u) D g (appF wl (cedF l d N)) (crvF l d N) r ∧ Chg [g] w (wq.setCell ⟨g, 1, none⟩ u)) := Lib.hid fun wq u hb ho => by
    refine h.put (below_more hB2 hb) ho hB2.size hB' hT.ok hT.len ?_ fun x hx => ?_
    · rw [hus, ← hU.map, List.map_append, List.map_cons, List.map_take, List.map_drop, hXb]
    · have hWq : Below W1.heap.size W1 wq := below_more HW2.out.2 hb
      have old : ∀ x ∈ us, x.ws = cut (appF wl (cedF l d N)) x.b ∧ RU wq x.v x.ws ∧ Far wq D x.v := fun x hx => by
        obtain ⟨g1, g2, g3⟩ := hU.ws x hx
        have hxl : x.b ∈ usd l := by rw [← hU.map]; exact List.mem_map.2 ⟨x, hx, rfl⟩
        obtain ⟨q1, q2, q3, q4, q5, _⟩ := usd_in hm hxl
        refine ⟨?_, ru_below g2 (below_more hB2 hb), g3.grow (below_more hB2 hb).size⟩
        rw [g1]
        refine (cut_same hT.len q4 fun i i1 i2 => hT.far i ?_).symm
        have hne : x.b.a ≠ (l.getD d default).a := fun e => by
          obtain ⟨i, hi, e2⟩ := List.getElem_of_mem q1
          have e3 : l.getD i default = x.b := by rw [List.getD_eq_getElem?_getD, List.getElem?_eq_getElem hi, ← e2]; rfl
          have := apart_a hm hi hd0 (by rw [e3, e])
          subst this
          rw [← e3, hg'] at q2
          cases q2
        have := lie_apart hm q1 (getD_mem hd0) hne
        rw [hg'] at this
        simp only at this
        omega
      rcases List.mem_append.1 hx with hx | hx
      · exact old x (List.mem_of_mem_take hx)
      · rcases List.mem_cons.1 hx with rfl | hx
        · refine ⟨?_, ru_below hXw.2.1 hWq, hXw.2.2.grow hWq.size⟩
          rw [hXw.1, hXb]
          exact (cut_nul (by rw [hT.len]; omega) fun i i1 i2 => hT.nul i i1 i2).symm
        · exact old x (List.mem_of_mem_drop hx)
  have CC : Hid (∀ u1 u2 : Value, RA exE W2 u1 (us.take j) → RA exE W2 u2 (us.drop j) → Calls Try.prog 85 #[.slice (some ⟨W2.heap.size + 1, 0, none⟩) 3 3]
      ((W2.alloc (.cells (xc X) 84)).alloc (.cells #[u1, .slice (some ⟨W2.heap.size, 0, none⟩) 1 1, u2] 75)).drew fun e w' => (∃ u, e = .returned u ∧ OwnA exE W2.heap.size w' u (us.take j ++ (X :: us.drop j))) ∧ Below W2.heap.size W2 w') := Lib.hid fun u1 u2 h1 h2 => by
    have b1 : Below W2.heap.size W2 (W2.alloc (.cells (xc X) 84)) := bal (Below.refl _ _)
    have h3 := xrows3 (ra_below h1 b1) (ex_one W2 hXwf).ra (ra_below h2 b1)
    rw [size_alloc] at h3
    have h4 := ras_below h3 ((Below.refl _ _).drew)
    have b2 := (bal (o := .cells #[u1, .slice (some ⟨W2.heap.size, 0, none⟩) 1 1, u2] 75) b1).drew
    refine (xconcat_is [us.take j, [X], us.drop j] _ _ h4 (by simp) (by
      have := usd_len l
      simp only [xlens, List.map_cons, List.map_nil, List.sum_cons, List.sum_nil, List.length_take, List.length_drop, List.length_cons, List.length_nil]
      omega)).mono ?_
    rintro e w' ⟨⟨v, rfl, ho⟩, hb'⟩
    refine ⟨⟨v, rfl, ?_⟩, below_more b2 hb'⟩
    have := ho.mono b2.size
    simpa using this
  obtain ⟨U, hUu⟩ : ∃ U, us.take j ++ (X :: us.drop j) = U := ⟨_, rfl⟩
  rw [hUu] at FIN CC
  clear hUu
  have HR := Lib.hid (ra_below hR hB2)
  have HC := Lib.hid (fun k (hk : k < us.length) b n c (e : v = .slice (some ⟨b, 0, none⟩) n c) => (show W2.cell? ⟨b, k * 4, none⟩ = some (.int .i64 (us.getD k default).b.a) by
    have hr := ra_below hR hB2
    rw [e] at hr
    obtain ⟨b', off, e', _, hx⟩ := ex_at hr (by omega)
    cases e'
    have := (hx k hk).2.1
    rwa [Nat.zero_add] at this))
  have HB2 := Lib.hid hB2
  have HLO := Lib.hid (fun k (hk : k < j) => (show (us.getD k default).b.a < z by rw [(hU.at_ (by omega)).1]; exact hlo k hk))
  have HHI := Lib.hid (fun (hk : j < us.length) => (show (z : Int) < (us.getD j default).b.a by rw [(hU.at_ hk).1]; exact hhi (by omega)))
  have HL := Lib.hid (show j ≤ us.length ∧ us.length ≤ 256 by have := usd_len l; omega)
  have c1 : ∀ w', Below W2.heap.size W2 w' → w'.cell? ⟨g, 1, none⟩ = some v := fun w' hb => by rw [(below_more hB2 hb).cell (p := ⟨g, 1, none⟩) hW.lt, Whole.at_ hW]; rfl
  have f1 : ∀ w', Below W2.heap.size W2 w' → w'.frozen? ⟨g, 1, none⟩ = false := fun w' hb => Whole.free (((below_more hB2 hb).block g hW.lt).trans hW) 1
  have lx : ∀ w', Below W2.heap.size W2 w' → (exLoad (.pointer (some ⟨W1.heap.size, 0, none⟩))).run Try.prog w' = .ok (.agg (xc X)) w' := fun w' hb => (HW2.out.1.below hb).load
  have c1w := c1 W2 (Below.refl _ _)
  obtain ⟨hLv, hLc⟩ : (∃ p c, v = .slice p us.length c) ∧ True := by
    obtain ⟨p, c, e, _⟩ := ra_shape hR
    exact ⟨⟨p, c, e⟩, trivial⟩
  clear hlo hhi hR hU hF h hW hO0 hB' hgt hT hm hm1 hlen1 hd0 hd1 hat hus hc hz ht hz' ht' hg' ht2 htm s1 s2 s3 s4 hlen hwl hul hj hXw hXb hXwf hB1 hB2 hLc hTt
  rcases hP with rfl | ⟨b, n, cap, rfl⟩
  · obtain ⟨p, c, e⟩ := hLv
    injection e with e1 e2 e3
    obtain rfl : j = 0 := by have := HL.out; omega
    obtain rfl : us = [] := List.eq_nil_of_length_eq_zero e2.symm
    clear e1 e2 e3 HC HLO HHI HR HL
    have C3 := Lib.hid (CC.out (.slice none 0 0) (.slice none 0 0) (ra_nil _ _) (ra_nil _ _))
    clear CC
    go_enter Try.func66, Try.ntmps66
    go_wp2
    go_loopw [7] (fun i wr => i = .int .i64 0 ∧ wr = W2) (fun _ _ => 0)
    case atStart => exact ⟨rfl, rfl⟩
    case round =>
      obtain ⟨rfl, rfl⟩ := hrel
      go_wp2_with fail
      have d1 := c1 wr.drew (Below.refl _ _).drew
      have d2 := c1 (wr.alloc (.cells (xc X) 84)).drew (bal (Below.refl _ _)).drew
      have d3 := lx wr.drew (Below.refl _ _).drew
      go_region_law (first
          | (go_simp; go_at_call 85; refine (C3.out).mono ?_; rintro e wq ⟨⟨uq, rfl, oq⟩, bq⟩
             have FQ := Lib.hid (FIN.out wq uq bq oq)
             have f2 := f1 wq bq
             have c2 := c1 wq bq
             obtain ⟨pq, cq, rfl, _, _⟩ := ra_shape oq.ra
             clear oq))
      all_goals
        go_wp2
        all_goals
          go_end0
          exact ⟨rfl, FQ.out⟩
  · obtain ⟨p, c, e⟩ := hLv
    injection e with e1 e2 e3
    subst e2 e3
    have h1 := ra_take HR.out j
    rw [Nat.min_eq_left HL.out.1] at h1
    have h2 := ra_cut HR.out HL.out.1
    rw [Nat.zero_add] at h2
    change RA exE W2 (.slice (if cap = j then some ⟨b, 0, none⟩ else some ⟨b, j * 4, none⟩) (us.length - j) (cap - j)) (us.drop j) at h2
    have C3 := Lib.hid (CC.out _ _ h1 h2)
    obtain ⟨_, _, e, hlc, _⟩ := ra_shape HR.out
    cases e
    have HN := Lib.hid (fun k hk => HC.out k hk b _ _ rfl)
    clear h1 h2 CC HR HC e1
    have i6 : (j : Int) ≤ (us.length : Int) := by have := HL.out; omega
    have i5 : (j : Int) ≤ (cap : Int) := by omega
    generalize us.length = L at *
    go_enter Try.func66, Try.ntmps66
    go_wp2
    go_loopw [7] (fun i wr => ∃ k : Nat, k ≤ j ∧ i = .int .i64 k ∧ wr = W2) (fun i _ => j - (intOf i).toNat)
    case atStart => exact ⟨0, Nat.zero_le _, rfl, rfl⟩
    case round =>
      obtain ⟨k, hk, rfl, rfl⟩ := hrel
      have i1 : IntKind.i64.wrap ((k : Int) + 1) = ((k + 1 : Nat) : Int) := by rw [show (k : Int) + 1 = ((k + 1 : Nat) : Int) by omega]; exact i64_nat _ (by have := HL.out; omega)
      have i3 : (0 : Int) ≤ (k : Int) := by omega
      have i4 : ¬ (k : Int) < 0 := by omega
      by_cases hlt : k < j
      · have hku : k < L := by have := HL.out; omega
        have hx0 := HN.out k hku
        have i2 : (k : Int) < (L : Int) := by omega
        have e1 := HLO.out k hlt
        have HK := Lib.hid hlt
        generalize (us.getD k default).b.a = y at *
        clear hk hlt hku
        go_wp2
        go_roundw
        case rel => exact ⟨k + 1, by have := HK.out; omega, by go_num, trivial⟩
        case measure => have := HK.out; simp [intOf]; omega
      · obtain rfl : k = j := by omega
        have d1 := c1 wr.drew (Below.refl _ _).drew
        have d2 := c1 (wr.alloc (.cells (xc X) 84)).drew (bal (Below.refl _ _)).drew
        have d3 := lx wr.drew (Below.refl _ _).drew
        by_cases hku : k < L
        · have hx0 := HN.out k hku
          have i2 : (k : Int) < (L : Int) := by omega
          have e1 := HHI.out hku
          have e2 : ¬ (us.getD k default).b.a < (z : Int) := by omega
          generalize (us.getD k default).b.a = y at *
          clear hk hlt hku e1 i1
          go_wp2_with fail
          go_region_law (first
              | (go_simp; go_at_call 85; refine (C3.out).mono ?_; rintro e wq ⟨⟨uq, rfl, oq⟩, bq⟩
                 have FQ := Lib.hid (FIN.out wq uq bq oq)
                 have f2 := f1 wq bq
                 have c2 := c1 wq bq
                 obtain ⟨pq, cq, rfl, _, _⟩ := ra_shape oq.ra
                 clear oq))
          all_goals
            go_wp2
            all_goals
              go_end0
              exact ⟨rfl, FQ.out⟩
        · have i2 : ¬ (k : Int) < (L : Int) := by omega
          clear hk hlt i1
          go_wp2_with fail
          go_region_law (first
              | (go_simp; go_at_call 85; refine (C3.out).mono ?_; rintro e wq ⟨⟨uq, rfl, oq⟩, bq⟩
                 have FQ := Lib.hid (FIN.out wq uq bq oq)
                 have f2 := f1 wq bq
                 have c2 := c1 wq bq
                 obtain ⟨pq, cq, rfl, _, _⟩ := ra_shape oq.ra
                 clear oq))
          all_goals
            go_wp2
            all_goals
              go_end0
              exact ⟨rfl, FQ.out⟩
end Go.Proofs.Ytkpefnjohdjejaa
