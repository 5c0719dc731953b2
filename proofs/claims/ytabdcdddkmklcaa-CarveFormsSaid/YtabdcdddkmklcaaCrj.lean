/-
  Contract of the reference's Carved: the blocks behind the taking.
-/
import Derived.Test.YtabdcdddkmklcaaCrh
import Derived.Test.YtabdcdddkmklcaaBkd
namespace Go.Proofs.Ytabdcdddkmklcaa
set_option maxRecDepth 100000
open Go.RowKit

section
variable {ops : Array Oper} {o : Oper} {a : Act} {w : World} {Q : Exit → Act → World → Prop} {K : Act → World → Prop}
theorem step_blk {F : Prop} (hgd : o.guard = none) (s x : Operand) (ho : o.op = .call { callee := .builtin .append, args := #[s, x], argTypes := #[22, 22] }) (B : Nat) (v : Value) (l : List Bk) (hs : a.eval s = v) (hown : OwnA blkE B w v l)
    (u : Value) (r : List Bk) (hx : a.eval x = u) (hr : RA blkE w u r) (hlen : Hid (l.length + r.length ≤ 2000)) (hB : B ≤ w.heap.size)
    (h : ∀ v' w', OwnA blkE B w' v' (l ++ r) → w.grownBy w' v.ownBlock → (v'.ownBlock = v.ownBlock ∨ v'.ownBlock = some w.heap.size) → K (a.put o.dst v') w') : if Region.wanted o (yielded ops a.tmps) = true then o.wp Try.prog a w K Q else F :=
  step_app blkE hgd s x ho B v l hs hown u r hx hr (by have := hlen.out; show _ * 24 ≤ _; omega) hB h
end

set_option maxHeartbeats 1000000 in
theorem rcarved_no (l : List Bk) (i n : Int) (v : Value) (w : World) (hv : RA blkE w v l) (hl : l.length ≤ 1000) (h : canC l i n = false) :
    Calls Try.prog 10 #[v, .int .i64 i, .int .i64 n] w fun e w' => e = .returned (.tuple #[.slice none 0 0, .bool false]) ∧ Below w.heap.size w w' := by
  have C1 := Lib.hid (rsizes_is l v w hv hl)
  have C2 := Lib.hid (fun (w' : World) (hb : Below w.heap.size w w') => rmay_is (szR l) l v (mayS l) w' (ra_below hv hb) hl (may_szR l))
  have H0 := Lib.hid (fun (w' : World) (hb : Below w.heap.size w w') => ra_below hv hb)
  obtain ⟨p, cap, rfl, hlc, hcm⟩ := ra_shape hv
  generalize szR l = z at *
  cases hm : mayS l
  · rw [hm] at C2
    generalize l.length = L at *
    clear hv hl h hlc hcm
    go_enter Try.func10, Try.ntmps10
    go_wp2_with fail
    refine (C1.out).mono ?_; rintro e w1 ⟨rfl, b1⟩
    have D1 := Lib.hid b1
    go_wp2_with fail
    refine (C2.out w1 D1.out).mono ?_; rintro e w2 ⟨rfl, b2⟩
    have D2 := Lib.hid (below_more D1.out b2)
    clear b1 b2
    go_wp2_with fail
    go_ret2
    exact ⟨rfl, D2.out⟩
  rw [hm] at C2
  rcases canC_no h with h | h | h | ⟨h0, h1, h⟩
  · rw [h] at hm
    cases hm
  · generalize l.length = L at *
    clear hv hl hm hlc hcm
    go_enter Try.func10, Try.ntmps10
    go_wp2_with fail
    refine (C1.out).mono ?_; rintro e w1 ⟨rfl, b1⟩
    have D1 := Lib.hid b1
    go_wp2_with fail
    refine (C2.out w1 D1.out).mono ?_; rintro e w2 ⟨rfl, b2⟩
    have D2 := Lib.hid (below_more D1.out b2)
    clear b1 b2
    go_wp2_with fail
    go_ret2
    exact ⟨rfl, D2.out⟩
  · have h2 : ¬ i < 0 := by omega
    have h3 : i ≥ (l.length : Int) := h
    generalize l.length = L at *
    clear hv hl hm hlc hcm h
    go_enter Try.func10, Try.ntmps10
    go_wp2_with fail
    refine (C1.out).mono ?_; rintro e w1 ⟨rfl, b1⟩
    have D1 := Lib.hid b1
    go_wp2_with fail
    refine (C2.out w1 D1.out).mono ?_; rintro e w2 ⟨rfl, b2⟩
    have D2 := Lib.hid (below_more D1.out b2)
    clear b1 b2
    go_wp2_with fail
    go_ret2
    exact ⟨rfl, D2.out⟩
  · obtain ⟨k, rfl⟩ : ∃ k : Nat, i = k := ⟨i.toNat, by omega⟩
    have h2 : ¬ (k : Int) < 0 := by omega
    have h3 : ¬ (k : Int) ≥ (l.length : Int) := by omega
    have h4 : ¬ (l.length : Int) ≤ (k : Int) := by omega
    have hk : k < l.length := by omega
    have HX := Lib.hid (fun (w' : World) (hb : Below w.heap.size w w') => blk_at (H0.out w' hb) (Nat.lt_of_le_of_lt (Nat.zero_le _) hk))
    have hwf := (ra_ok hv).at_ hk
    have HK := Lib.hid hk
    have hB : bAt l (k : Int) = l.getD k default := by rw [bAt, Int.toNat_natCast]
    rw [hB] at h
    obtain ⟨⟨a, s, u⟩, hb⟩ : ∃ c, l.getD k default = c := ⟨_, rfl⟩
    rw [hb] at h hwf
    simp only at h
    have HB := Lib.hid hb
    have HW := Lib.hid hwf
    clear hv hl hm hlc hcm hk h0 hB hb hwf
    go_enter Try.func10, Try.ntmps10
    go_wp2_with fail
    refine (C1.out).mono ?_; rintro e w1 ⟨rfl, b1⟩
    have D1 := Lib.hid b1
    go_wp2_with fail
    refine (C2.out w1 D1.out).mono ?_; rintro e w2 ⟨rfl, b2⟩
    have D2 := Lib.hid (below_more D1.out b2)
    clear b1 b2
    obtain ⟨b, off, rfl, _, hx⟩ := HX.out w2 D2.out
    obtain ⟨hld, _, hs, hu, _⟩ := hx k HK.out
    rw [HB.out] at hld hu hs
    have hu : w2.cell? ⟨b, off + k * 3 + 2, none⟩ = some (.bool u) := hu
    have hs : w2.cell? ⟨b, off + k * 3 + 1, none⟩ = some (.int .i64 s) := hs
    clear hx
    cases u with
    | true =>
      clear h
      generalize l.length = L at *
      go_wp2_with fail
      go_ret2
      exact ⟨rfl, D2.out⟩
    | false =>
      have h : takN s n = 0 := by
        rcases h with h | h
        · cases h
        · exact h
      have C3 := Lib.hid (rtakes_is s n 0 HW.out.ws h w2)
      clear h
      generalize l.length = L at *
      go_wp2_with fail
      refine (C3.out).mono ?_; rintro e w' ⟨rfl, rfl⟩
      go_wp2_with fail
      go_ret2
      exact ⟨rfl, D2.out⟩

set_option maxHeartbeats 2000000 in
theorem rcarved_yes (l : List Bk) (i n : Int) (v : Value) (w : World) (hv : RA blkE w v l) (hl : l.length ≤ 1000) (h : canC l i n = true) :
    Calls Try.prog 10 #[v, .int .i64 i, .int .i64 n] w fun e w' => (∃ u, e = .returned (.tuple #[u, .bool true]) ∧ OwnA blkE w.heap.size w' u (crvF l i n)) ∧ Below w.heap.size w w' := by
  have C1 := Lib.hid (rsizes_is l v w hv hl)
  have C2 := Lib.hid (fun (w' : World) (hb : Below w.heap.size w w') => rmay_is (szR l) l v (mayS l) w' (ra_below hv hb) hl (may_szR l))
  have H0 := Lib.hid (fun (w' : World) (hb : Below w.heap.size w w') => ra_below hv hb)
  obtain ⟨p, cap, rfl, hlc, hcm⟩ := ra_shape hv
  obtain ⟨hm, h0, h1, hu, ht⟩ := canC_yes.1 h
  have hz := mayF_sizes (mayL_yes.1 hm).2 _ (bAt_mem h0 h1)
  have hz2 := (mayL_yes.1 hm).1
  rw [hm] at C2
  generalize szR l = z at *
  obtain ⟨k, rfl⟩ : ∃ k : Nat, i = k := ⟨i.toNat, by omega⟩
  have hc : crvF l k n = l.take k ++ (prtB (bAt l k) n ++ l.drop (k + 1)) := by rw [crvF, if_pos h, Int.toNat_natCast]
  rw [hc]
  have hk : k < l.length := by omega
  have hB : bAt l (k : Int) = l.getD k default := by rw [bAt, Int.toNat_natCast]
  have hwf := (ra_ok hv).at_ hk
  rw [hB] at hu ht hz ⊢
  obtain ⟨⟨a, s, u⟩, hb⟩ : ∃ c, l.getD k default = c := ⟨_, rfl⟩
  rw [hb] at hu ht hwf hz ⊢
  simp only at hu ht hz
  subst hu
  obtain ⟨b, off, rfl, _, _⟩ := blk_at hv (by omega)
  have HX : Hid (∀ w', Below w.heap.size w w' → w'.cell? ⟨b, off + k * 3, none⟩ = some (.int .i64 a) ∧ w'.cell? ⟨b, off + k * 3 + 1, none⟩ = some (.int .i64 s) ∧ w'.cell? ⟨b, off + k * 3 + 2, none⟩ = some (.bool false)) := Lib.hid fun w' hb' => by
    obtain ⟨_, _, e, _, hx⟩ := blk_at (H0.out w' hb') (by omega)
    cases e
    obtain ⟨_, x1, x2, x3, _⟩ := hx k hk
    rw [hb] at x1 x2 x3
    exact ⟨x1, x2, x3⟩
  obtain ⟨⟨s1, s2⟩, a1, a2⟩ := hz
  obtain ⟨q1, q2, q3⟩ := hz2
  obtain ⟨t, hte⟩ : ∃ t, takN s n = t := ⟨_, rfl⟩
  obtain ⟨t1, t2, t3, t4⟩ := takN_some ht
  rw [hte] at ht t2 t3 t4
  have HS : Hid (2 ≤ s ∧ s ≤ 512 ∧ 0 ≤ a ∧ a ≤ 512 ∧ 2 ≤ t ∧ t ≤ s) := Lib.hid ⟨s1, s2, a1, by omega, by omega, t3⟩
  have C3 := Lib.hid (fun w => rtakes_is s n t hwf.ws hte w)
  have n1 : (t == 0) = false := beq_eq_false_iff_ne.2 ht
  obtain ⟨K1, hK1⟩ : ∃ x, k + 1 = x := ⟨_, rfl⟩
  rw [hK1]
  have j1 : IntKind.i64.wrap ((k : Int) + 1) = (K1 : Int) := by rw [show (k : Int) + 1 = (K1 : Int) by omega]; exact i64_nat _ (by omega)
  have i1 : (K1 : Int) ≤ (l.length : Int) := by omega
  have i2 : (k : Int) ≤ (cap : Int) := by omega
  have i3 : (K1 : Int) ≤ (cap : Int) := by omega
  have i4 : ¬ cap = 0 := by omega
  have h2 : ¬ (k : Int) < 0 := by omega
  have h3 : ¬ (k : Int) ≥ (l.length : Int) := by omega
  have h4 : ¬ (l.length : Int) ≤ (k : Int) := by omega
  obtain ⟨q, hq⟩ : ∃ q : Addr, q = if cap = K1 then ⟨b, off, none⟩ else ⟨b, off + K1 * 3, none⟩ := ⟨_, rfl⟩
  have HP : Hid (∀ w', Below w.heap.size w w' → RA blkE w' (.slice (some ⟨b, off, none⟩) k cap) (l.take k) ∧ RA blkE w' (.slice (some q) (l.length - K1) (cap - K1)) (l.drop K1)) := Lib.hid fun w' hb => by
    unfold maxLen at hcm
    refine ⟨?_, ?_⟩
    · have := ra_take (H0.out w' hb) k
      rwa [Nat.min_eq_left (by omega)] at this
    · by_cases hlt : K1 < l.length
      · have := ra_drop (H0.out w' hb) hlt
        rw [if_neg (by omega)] at hq
        rw [hq]; exact this
      · rw [List.drop_eq_nil_of_le (by omega), show l.length - K1 = 0 by omega]
        exact ⟨_, _, rfl, Nat.zero_le _, by unfold maxLen; omega, (fun _ h => by cases h), .inl rfl⟩
  have N1 : Hid (([] : List Bk).length + (l.take k).length ≤ 2000) := Lib.hid (by rw [List.length_take]; simp; omega)
  have N2 : Hid (([] ++ l.take k).length + [(⟨a, t, true⟩ : Bk)].length ≤ 2000) := Lib.hid (by rw [List.nil_append, List.length_take]; simp; omega)
  have N3 : Hid ((([] ++ l.take k) ++ [(⟨a, t, true⟩ : Bk)]).length + [(⟨a + t, s - t, false⟩ : Bk)].length ≤ 2000) := Lib.hid (by rw [List.nil_append, List.length_append, List.length_take]; simp; omega)
  have N4 : Hid ((([] ++ l.take k) ++ [(⟨a, t, true⟩ : Bk)]).length + (l.drop K1).length ≤ 2000) := Lib.hid (by rw [List.nil_append, List.length_append, List.length_take, List.length_drop]; simp; omega)
  have N5 : Hid (((([] ++ l.take k) ++ [(⟨a, t, true⟩ : Bk)]) ++ [(⟨a + t, s - t, false⟩ : Bk)]).length + (l.drop K1).length ≤ 2000) := Lib.hid (by rw [List.nil_append, List.length_append, List.length_append, List.length_take, List.length_drop]; simp; omega)
  have R1 : Hid (∀ w1 : World, RA blkE (w1.alloc (.cells (bc ⟨a, t, true⟩) 24)) (.slice (some ⟨w1.heap.size, 0, none⟩) 1 1) [⟨a, t, true⟩]) := Lib.hid fun w1 => (blk_one w1 (c := ⟨a, t, true⟩) (Bk.wf_of (by have := HS.out; simp only; omega) (by have := HS.out; simp only; omega) (by have := HS.out; simp only; omega) (by have := HS.out; simp only; omega))).ra
  have R2 : Hid (∀ w1 : World, RA blkE (w1.alloc (.cells (bc ⟨a + t, s - t, false⟩) 24)) (.slice (some ⟨w1.heap.size, 0, none⟩) 1 1) [⟨a + t, s - t, false⟩]) := Lib.hid fun w1 => (blk_one w1 (c := ⟨a + t, s - t, false⟩) (Bk.wf_of (by have := HS.out; simp only; omega) (by have := HS.out; simp only; omega) (by have := HS.out; simp only; omega) (by have := HS.out; simp only; omega))).ra
  have HPR : Hid ((t < s → prtB ⟨a, s, false⟩ n = [⟨a, t, true⟩, ⟨a + t, s - t, false⟩]) ∧ (¬ t < s → prtB ⟨a, s, false⟩ n = [⟨a, t, true⟩])) := Lib.hid ⟨fun e => by
    rw [prtB, if_neg (by rw [hte]; simp only; omega)]
    simp only [hte], fun e => by
    rw [prtB, if_pos (by rw [hte]; simp only; omega)]
    have : t = s := by omega
    rw [this]⟩
  have j2 : IntKind.i64.wrap (a + t) = a + t := IntWalk.i64_in _ (by omega)
  have j3 : IntKind.i64.wrap (s - t) = s - t := IntWalk.i64_in _ (by omega)
  obtain ⟨T, hT⟩ : ∃ T, l.take k = T := ⟨_, rfl⟩
  obtain ⟨U, hU⟩ : ∃ T, l.drop K1 = T := ⟨_, rfl⟩
  rw [hT] at HP N1 N2 N3 N4 N5 ⊢
  rw [hU] at HP N4 N5 ⊢
  clear hT hU hv hl h hc hlc hcm hk h0 hB hb hwf s1 s2 a1 a2 q1 q2 q3 hm h1 t1 t2 t3 t4 ht hte hK1 H0
  generalize l.length = L at *
  have SZ : Hid (∀ x : World, Below w.heap.size w x → w.heap.size ≤ x.heap.size) := Lib.hid fun _ h => h.size
  have GR : Hid (∀ (x y : World) (r : Option Nat), Below w.heap.size w x → x.grownBy y r → r = none → Below w.heap.size w y) := Lib.hid fun x y r h g e => by subst e; exact h.grown g h.size (fun k hk => by cases hk)
  go_enter Try.func10, Try.ntmps10
  go_wp2_with fail
  refine (C1.out).mono ?_; rintro e w1 ⟨rfl, b1⟩
  have D1 := Lib.hid b1
  go_wp2_with fail
  refine (C2.out w1 D1.out).mono ?_; rintro e w2 ⟨rfl, b2⟩
  have D2 := Lib.hid (below_more D1.out b2)
  clear b1 b2
  obtain ⟨x1, x2, x3⟩ := HX.out w2 D2.out
  go_wp2_with fail
  refine (C3.out w2).mono ?_; rintro e w' ⟨rfl, rfl⟩
  go_wp2_with fail
  refine (C3.out w2).mono ?_; rintro e w' ⟨rfl, rfl⟩
  go_wp2_with fail
  go_region_law (first
    | (refine step_blk (o := ⟨some 52, _, _, _, _, _⟩) rfl (.const (.slice none 0 0)) (.tmp 51) rfl w.heap.size (.slice none 0 0) [] (by simp [Act.eval]) (own_nil_a _ _ _) (.slice (some ⟨b, off, none⟩) k cap) T (by simp [Act.eval, Act.put]) (HP.out _ (by repeat' (first | (with_reducible exact D2.out) | (with_reducible refine Below.drew ?_) | (with_reducible refine bal ?_)))).1 N1.out (SZ.out _ (by repeat' (first | (with_reducible exact D2.out) | (with_reducible refine Below.drew ?_) | (with_reducible refine bal ?_)))) ?_
       intro vb wb ob gb _
       have OB := Lib.hid ob
       have GB : Hid (Below w.heap.size w wb) := Lib.hid (GR.out _ _ _ (by repeat' (first | (with_reducible exact D2.out) | (with_reducible refine Below.drew ?_) | (with_reducible refine bal ?_))) gb rfl)
       have GX := Lib.hid ((Below.refl _ _).grown gb (Nat.le_refl _) (by intro k hk; cases hk))
       obtain ⟨y1, y2, y3⟩ := HX.out wb GB.out
       clear ob)
    | (refine step_blk (o := ⟨some 61, _, _, _, _, _⟩) rfl (.tmp 52) (.tmp 60) rfl w.heap.size vb ([] ++ T) (by simp [Act.eval]) (OB.out.alloc _) (.slice (some ⟨wb.heap.size, 0, none⟩) 1 1) [⟨a, t, true⟩] (by simp [Act.eval]) (R1.out wb) N2.out (SZ.out _ (bal GB.out)) ?_
       intro vc wc oc gc _
       have OC := Lib.hid oc
       have GC := Lib.hid (below_app (bal GB.out) (SZ.out _ (bal GB.out)) (OB.out.alloc _) gc)
       obtain ⟨z1, z2, z3⟩ := HX.out wc GC.out
       clear oc gc)
    | (refine step_blk (o := ⟨some 61, _, _, _, _, _⟩) rfl (.tmp 52) (.tmp 60) rfl w.heap.size vb ([] ++ T) (by simp [Act.eval]) OB.out (.slice (some ⟨w2.heap.size, 0, none⟩) 1 1) [⟨a, t, true⟩] (by simp [Act.eval]) (ra_below (ra_below (R1.out w2) ((Below.refl _ _).drew)) GX.out) N2.out (SZ.out _ GB.out) ?_
       intro vc wc oc gc _
       have OC := Lib.hid oc
       have GC := Lib.hid (below_app GB.out (SZ.out _ GB.out) OB.out gc)
       obtain ⟨z1, z2, z3⟩ := HX.out wc GC.out
       clear oc gc))
  all_goals
    clear C1 C2 C3 R1 x1 x2 x3 gb
    by_cases e : t < s
    · go_wp2_with fail
      go_region_law (first
        | (refine step_blk (o := ⟨some 86, _, _, _, _, _⟩) rfl (.tmp 69) (.tmp 85) rfl w.heap.size vc (([] ++ T) ++ [(⟨a, t, true⟩ : Bk)]) (by simp [Act.eval]) ((OC.out.alloc _).drew) (.slice (some ⟨wc.heap.size, 0, none⟩) 1 1) [⟨a + t, s - t, false⟩] (by simp [Act.eval]) (ra_below (R2.out wc) ((Below.refl _ _).drew)) N3.out (SZ.out _ ((bal GC.out).drew)) ?_
           intro vd wd od gd _
           have OD := Lib.hid od
           have GD := Lib.hid (below_app ((bal GC.out).drew) (SZ.out _ ((bal GC.out).drew)) ((OC.out.alloc _).drew) gd)
           clear od gd))
      all_goals
        by_cases e9 : cap = K1
        · rw [if_pos e9] at hq
          subst hq
          have e2 : K1 = cap := e9.symm
          subst e2
          rw [Nat.sub_self] at HP
          go_wp2_with (at_builtin; refine app_blk (o := ⟨some 92, _, _, _, _, _⟩) rfl (.tmp 87) (.tmp 91) rfl w.heap.size vd ((([] ++ T) ++ [(⟨a, t, true⟩ : Bk)]) ++ [(⟨a + t, s - t, false⟩ : Bk)]) rfl OD.out _ U rfl (HP.out _ GD.out).2 N5.out (SZ.out _ GD.out) ?_)
          intro ve we oe ge _
          have OE : Hid (OwnA blkE w.heap.size we ve (T ++ (prtB ⟨a, s, false⟩ n ++ U))) := Lib.hid (by rw [HPR.out.1 e]; simpa using oe)
          have GE := Lib.hid (below_app GD.out (SZ.out _ GD.out) OD.out ge)
          clear oe ge
          go_wp2
          go_ret2
          exact ⟨⟨_, rfl, OE.out⟩, GE.out⟩
        · rw [if_neg e9] at hq
          subst hq
          go_wp2_with (at_builtin; refine app_blk (o := ⟨some 92, _, _, _, _, _⟩) rfl (.tmp 87) (.tmp 91) rfl w.heap.size vd ((([] ++ T) ++ [(⟨a, t, true⟩ : Bk)]) ++ [(⟨a + t, s - t, false⟩ : Bk)]) rfl OD.out _ U rfl (HP.out _ GD.out).2 N5.out (SZ.out _ GD.out) ?_)
          intro ve we oe ge _
          have OE : Hid (OwnA blkE w.heap.size we ve (T ++ (prtB ⟨a, s, false⟩ n ++ U))) := Lib.hid (by rw [HPR.out.1 e]; simpa using oe)
          have GE := Lib.hid (below_app GD.out (SZ.out _ GD.out) OD.out ge)
          clear oe ge
          go_wp2
          go_ret2
          exact ⟨⟨_, rfl, OE.out⟩, GE.out⟩
    · clear N3 N5 R2
      have e0 : ¬ t < s := e
      by_cases e9 : cap = K1
      · rw [if_pos e9] at hq
        subst hq
        have e2 : K1 = cap := e9.symm
        subst e2
        rw [Nat.sub_self] at HP
        go_wp2_with (at_builtin; refine app_blk (o := ⟨some 92, _, _, _, _, _⟩) rfl (.tmp 87) (.tmp 91) rfl w.heap.size vc (([] ++ T) ++ [(⟨a, t, true⟩ : Bk)]) rfl OC.out _ U rfl (HP.out _ GC.out).2 N4.out (SZ.out _ GC.out) ?_)
        intro ve we oe ge _
        have OE : Hid (OwnA blkE w.heap.size we ve (T ++ (prtB ⟨a, s, false⟩ n ++ U))) := Lib.hid (by rw [HPR.out.2 e]; simpa using oe)
        have GE := Lib.hid (below_app GC.out (SZ.out _ GC.out) OC.out ge)
        clear oe ge
        go_wp2
        go_ret2
        exact ⟨⟨_, rfl, OE.out⟩, GE.out⟩
      · rw [if_neg e9] at hq
        subst hq
        go_wp2_with (at_builtin; refine app_blk (o := ⟨some 92, _, _, _, _, _⟩) rfl (.tmp 87) (.tmp 91) rfl w.heap.size vc (([] ++ T) ++ [(⟨a, t, true⟩ : Bk)]) rfl OC.out _ U rfl (HP.out _ GC.out).2 N4.out (SZ.out _ GC.out) ?_)
        intro ve we oe ge _
        have OE : Hid (OwnA blkE w.heap.size we ve (T ++ (prtB ⟨a, s, false⟩ n ++ U))) := Lib.hid (by rw [HPR.out.2 e]; simpa using oe)
        have GE := Lib.hid (below_app GC.out (SZ.out _ GC.out) OC.out ge)
        clear oe ge
        go_wp2
        go_ret2
        exact ⟨⟨_, rfl, OE.out⟩, GE.out⟩
end Go.Proofs.Ytabdcdddkmklcaa
