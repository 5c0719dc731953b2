/-
  Contracts of package model: a block is given back.
-/
import Derived.Test.YtkpefnjohdjejaaMfr
namespace Go.Proofs.Ytkpefnjohdjejaa
set_option maxRecDepth 100000
open Go.ChangeShapes Go.WideShapes Go.ChangeAt Go.RowKit

/-- what is told of a giving back; what the words, the blocks are then -/
def feQ (l : List Bk) (o r : Int) : Int := match isN o l with
  | none => 1
  | some _ => if o = r then 5 else 0
def feW (wl : List Int) (l : List Bk) (o r : Int) : List Int := match isN o l with
  | none => wl
  | some k => if o = r then wl else appF wl [medF l k]
def feB (l : List Bk) (o r : Int) : List Bk := match isN o l with
  | none => l
  | some k => if o = r then l else mrgF l k
theorem mfree_nil (o : Int) (w : World) : Calls Try.prog 68 #[.pointer none, .int .i64 o] w fun e w' => e = .returned (.int .i64 1) ∧ Below w.heap.size w w' := by
  have C := Lib.hid (mbeg_nil o w)
  go_enter Try.func68, Try.ntmps68
  go_wp2_with fail
  refine (C.out).mono ?_; rintro e w1 ⟨rfl, b1⟩
  go_wp2_with fail
  go_ret
  exact ⟨rfl, b1⟩
set_option maxHeartbeats 2000000 in
theorem mfree_is {D : List Nat} {g : Nat} {wl : List Int} {l : List Bk} {r : Int} (o : Int) (w : World) (h : Mo w D g wl l r) : Calls Try.prog 68 #[.pointer (some ⟨g, 0, none⟩), .int .i64 o] w fun e w' =>
    e = .returned (.int .i64 (feQ l o r)) ∧ Mo w' D g (feW wl l o r) (feB l o r) r ∧ Chg [g] w w' := by
  obtain ⟨hlen, hwl, hm⟩ := h.len
  have C := Lib.hid (mbeg_is o w h)
  rw [ix_begins hm] at C
  have HN := Lib.hid (fun w' (hb : Below w.heap.size w w') => And.intro (h.below hb) (Chg.of_below hb [g]))
  obtain ⟨v, us, hW, hR, hF, hU, hP⟩ := h.rows
  have c2 : ∀ w', Below w.heap.size w w' → w'.cell? ⟨g, 2, none⟩ = some (.int .i64 r) := fun w' hb => by rw [hb.cell (p := ⟨g, 2, none⟩) hW.lt, Whole.at_ hW]; rfl
  cases e : isN o l with
  | none =>
    have e1 : feQ l o r = 1 := by rw [feQ, e]
    have e2 : feW wl l o r = wl := by rw [feW, e]
    have e3 : feB l o r = l := by rw [feB, e]
    rw [e1, e2, e3]
    rw [e] at C
    simp only [Option.map_none, oi] at C
    clear c2 hW hR hF hU hP h e e1 e2 e3 hlen hwl hm
    go_enter Try.func68, Try.ntmps68
    go_wp2_with fail
    refine (C.out).mono ?_; rintro e w1 ⟨rfl, b1⟩
    have F0 := Lib.hid (HN.out w1 b1)
    clear b1 HN C
    go_wp2_with fail
    go_ret
    exact ⟨rfl, F0.out⟩
  | some k =>
    rw [e] at C
    simp only [Option.map_some, oi] at C
    by_cases hr : o = r
    · have e1 : feQ l o r = 5 := by rw [feQ, e]; exact if_pos hr
      have e2 : feW wl l o r = wl := by rw [feW, e]; exact if_pos hr
      have e3 : feB l o r = l := by rw [feB, e]; exact if_pos hr
      rw [e1, e2, e3]
      generalize (usd (l.take k)).length = j at *
      have n1 : ((j : Int) == -1) = false := beq_eq_false_iff_ne.2 (by omega)
      have n2 : (o == r) = true := by rw [hr]; simp
      clear hW hR hF hU hP h e e1 e2 e3 hlen hwl hm hr
      go_enter Try.func68, Try.ntmps68
      go_wp2_with fail
      refine (C.out).mono ?_; rintro e w1 ⟨rfl, b1⟩
      have F0 := Lib.hid (HN.out w1 b1)
      have d2 := c2 w1 b1
      clear b1 HN C c2
      go_wp2_with fail
      go_ret
      exact ⟨rfl, F0.out⟩
    · have e1 : feQ l o r = 0 := by rw [feQ, e]; exact if_neg hr
      have e2 : feW wl l o r = appF wl [medF l k] := by rw [feW, e]; exact if_neg hr
      have e3 : feB l o r = mrgF l k := by rw [feB, e]; exact if_neg hr
      rw [e1, e2, e3]
      have hcm := isN_can h.hB e
      obtain ⟨_, hk, hku⟩ := canM_nat hcm
      obtain ⟨hj, hat, hmg⟩ := usd_mrg hcm
      obtain ⟨g1, g2, g3, i, hi, hii, g4⟩ := given h.hB h.ok hcm
      have hul := hU.len
      generalize (usd (l.take k)).length = j at *
      have n1 : ((j : Int) == -1) = false := beq_eq_false_iff_ne.2 (by omega)
      have n2 : (o == r) = false := beq_eq_false_iff_ne.2 hr
      have FIN : Hid (∀ (wq : World) (u : Value), Below w.heap.size w wq → OwnA exE w.heap.size wq u (us.take j ++ us.drop (j + 1)) → Mo (wq.setCell ⟨g, 1, none⟩ u) D g (appF wl [medF l k]) (mrgF l k) r ∧ Chg [g] w (wq.setCell ⟨g, 1, none⟩ u)) := Lib.hid fun wq u hb ho => by
        refine h.put hb ho (Nat.le_refl _) g1 g3 g2 (by rw [hmg, ← hU.map, List.map_append, List.map_take, List.map_drop]) fun x hx => ?_
        have hxu : x ∈ us := by
          rcases List.mem_append.1 hx with hx | hx
          · exact List.mem_of_mem_take hx
          · exact List.mem_of_mem_drop hx
        obtain ⟨q1, q2, q3⟩ := hU.ws x hxu
        have hxm : x.b ∈ usd (mrgF l k) := by rw [hmg, ← hU.map, ← List.map_take, ← List.map_drop, ← List.map_append]; exact List.mem_map.2 ⟨x, hx, rfl⟩
        obtain ⟨hxb, hxv⟩ := usd_mem.1 hxm
        obtain ⟨hb', hne⟩ := mrg_from hm hcm hxb hxv
        obtain ⟨⟨b1, _⟩, b2, b3⟩ := mayF_sizes (mayL_yes.1 hm).2 x.b hb'
        refine ⟨?_, ru_below q2 hb, q3.grow hb.size⟩
        rw [q1]
        refine (cut_same g2 b2 fun a a1 a2 => g4 a ?_).symm
        have hai : x.b.a ≠ (l.getD i default).a := fun eq => by
          rcases hii with rfl | hf
          · exact hne eq
          · obtain ⟨m, hm1, hm2⟩ := List.getElem_of_mem hb'
            have e5 : l.getD m default = x.b := by rw [List.getD_eq_getElem?_getD, List.getElem?_eq_getElem hm1, ← hm2]; rfl
            have := apart_a hm hm1 hi (by rw [e5, eq])
            subst this
            rw [e5, hxv] at hf
            cases hf
        have hap := lie_apart hm hb' (getD_mem hi) hai
        have := (at_in hm hi).1.1
        omega
      have hL : j < us.length ∧ us.length ≤ 256 := by have := usd_len l; omega
      obtain ⟨b, n, cap, rfl⟩ : ∃ b n c, v = .slice (some ⟨b, 0, none⟩) n c := by
        rcases hP with rfl | hP
        · obtain ⟨_, _, e, _⟩ := ra_shape hR
          injection e with _ e _
          omega
        · exact hP
      obtain ⟨_, _, e0, hlc, hcc⟩ := ra_shape hR
      cases e0
      obtain ⟨K1, hK1⟩ : ∃ k, j + 1 = k := ⟨_, rfl⟩
      rw [hK1] at FIN
      have CC : Hid (∀ w', Below w.heap.size w w' → Calls Try.prog 85 #[.slice (some ⟨w'.heap.size, 0, none⟩) 2 2]
          (w'.alloc (.cells #[.slice (some ⟨b, 0, none⟩) j cap, .slice (if cap = K1 then some ⟨b, 0, none⟩ else some ⟨b, K1 * 4, none⟩) (us.length - K1) (cap - K1)] 75)).drew fun e w'' => (∃ u, e = .returned u ∧ OwnA exE w.heap.size w'' u (us.take j ++ us.drop K1)) ∧ Below w.heap.size w w'') := Lib.hid fun w' hb => by
        have hr := ra_below hR hb
        have h1 := ra_take hr j
        rw [Nat.min_eq_left (by omega)] at h1
        have h2 := ra_cut hr (show K1 ≤ us.length by omega)
        rw [Nat.zero_add] at h2
        change RA exE w' (.slice (if cap = K1 then some ⟨b, 0, none⟩ else some ⟨b, K1 * 4, none⟩) (us.length - K1) (cap - K1)) (us.drop K1) at h2
        have h4 := ras_below (xrows2 h1 h2) ((Below.refl _ _).drew)
        have b2 : Below w.heap.size w (w'.alloc (.cells #[.slice (some ⟨b, 0, none⟩) j cap, .slice (if cap = K1 then some ⟨b, 0, none⟩ else some ⟨b, K1 * 4, none⟩) (us.length - K1) (cap - K1)] 75)).drew := (bal hb).drew
        refine (xconcat_is [us.take j, us.drop K1] _ _ h4 (by simp) (by
          simp only [xlens, List.map_cons, List.map_nil, List.sum_cons, List.sum_nil, List.length_take, List.length_drop]
          omega)).mono ?_
        rintro e w' ⟨⟨v, rfl, ho⟩, hb'⟩
        refine ⟨⟨v, rfl, ?_⟩, below_more b2 hb'⟩
        have := ho.mono b2.size
        simpa using this
      obtain ⟨U, hUu⟩ : ∃ U, us.take j ++ us.drop K1 = U := ⟨_, rfl⟩
      rw [hUu] at FIN CC
      clear hUu
      have c1 : ∀ w', Below w.heap.size w w' → w'.cell? ⟨g, 1, none⟩ = some (.slice (some ⟨b, 0, none⟩) us.length cap) := fun w' hb => by rw [hb.cell (p := ⟨g, 1, none⟩) hW.lt, Whole.at_ hW]; rfl
      have f1 : ∀ w', Below w.heap.size w w' → w'.frozen? ⟨g, 1, none⟩ = false := fun w' hb => Whole.free ((hb.block g hW.lt).trans hW) 1
      have i1 : IntKind.i64.wrap ((j : Int) + 1) = (K1 : Int) := by rw [show (j : Int) + 1 = (K1 : Int) by omega]; exact i64_nat _ (by omega)
      have i2 : (j : Int) ≤ (us.length : Int) := by omega
      have i3 : (j : Int) ≤ (cap : Int) := by omega
      have i4 : (K1 : Int) ≤ (us.length : Int) := by omega
      have i5 : (K1 : Int) ≤ (cap : Int) := by omega
      clear hW hR hF hU hP h e e1 e2 e3 hlen hwl hm hr hcm hk hku hj hat hmg g1 g2 g3 hi hii g4 hul hL hlc hcc HN
      generalize us.length = L at *
      go_enter Try.func68, Try.ntmps68
      go_wp2_with fail
      refine (C.out).mono ?_; rintro e w1 ⟨rfl, b1⟩
      have d2 := c2 w1 b1
      have d1 := c1 w1.drew b1.drew
      have C3 := Lib.hid (CC.out w1 b1)
      clear CC C c2
      go_wp2_with fail
      go_region_law (first
          | (go_simp; go_at_call 85; refine (C3.out).mono ?_; rintro e wq ⟨⟨uq, rfl, oq⟩, bq⟩
             have FQ := Lib.hid (FIN.out wq uq bq oq)
             have f2 := f1 wq bq
             have c2 := c1 wq bq
             obtain ⟨pq, cq, rfl, _, _⟩ := ra_shape oq.ra
             clear oq))
      all_goals
        go_wp2
        all_goals
          go_ret
          exact ⟨rfl, FQ.out⟩
end Go.Proofs.Ytkpefnjohdjejaa
