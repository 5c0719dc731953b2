/-
  Contract of the reference's EditLines: each line put in at its place.
-/
import Derived.Test.YtegbeolnlpgdeaaElu
import Derived.Deep.RegionLaw
namespace Go.Proofs.Ytegbeolnlpgdeaa
set_option maxRecDepth 100000
open Go.RowKit

theorem ri_take {w : World} {b off n c : Nat} {l : List Int} (h : RI w (.slice (some ⟨b, off, none⟩) n c) l) {k : Nat} (hk : k ≤ l.length) : RI w (.slice (some ⟨b, off, none⟩) k c) (l.take k) := by
  obtain ⟨p, cap, e, h1, h2, h3⟩ := h
  cases e
  have hl : (l.take k).length = k := by rw [List.length_take]; omega
  refine ⟨_, _, by rw [hl], by rw [hl]; omega, h2, ?_⟩
  rcases h3 with h3 | ⟨b', o', e, hc⟩
  · exact .inl (by rw [h3]; simp)
  · cases e
    refine .inr ⟨b, off, rfl, fun i hi => ?_⟩
    rw [hl] at hi
    rw [hc i (by omega), List.getD_eq_getElem?_getD, List.getD_eq_getElem?_getD, List.getElem?_take, if_pos hi]
theorem ri_drop {w : World} {b off n c : Nat} {l : List Int} (h : RI w (.slice (some ⟨b, off, none⟩) n c) l) {k : Nat} (hk : k < l.length) : RI w (.slice (some ⟨b, off + k, none⟩) (n - k) (c - k)) (l.drop k) := by
  obtain ⟨p, cap, e, h1, h2, h3⟩ := h
  cases e
  have hl : (l.drop k).length = l.length - k := by rw [List.length_drop]
  refine ⟨_, _, by rw [hl], by rw [hl]; omega, by omega, ?_⟩
  rcases h3 with h3 | ⟨b', o', e, hc⟩
  · rw [h3] at hk; simp at hk
  · cases e
    refine .inr ⟨b, off + k, rfl, fun i hi => ?_⟩
    rw [hl] at hi
    rw [Nat.add_assoc, hc (k + i) (by omega), List.getD_eq_getElem?_getD, List.getD_eq_getElem?_getD, List.getElem?_drop]
theorem ri_none {w : World} {p : Option Addr} {c : Nat} (hc : c ≤ maxLen) : RI w (.slice p 0 c) [] := ⟨p, c, rfl, Nat.zero_le _, hc, .inl rfl⟩
set_option maxHeartbeats 4000000 in
theorem rlines_is (es : List Ed) (u : Value) (w : World) (hu : RA edE w u es) (hel : es.length ≤ 4000) :
    Calls Try.prog 21 #[u] w fun e w' => (∃ x l, e = .returned x ∧ OwnI w.heap.size w' x l ∧ IsL es l) ∧ Below w.heap.size w w' := by
  obtain ⟨p, c0, rfl, _, _⟩ := ra_shape hu
  have HE := Lib.hid (fun (w' : World) (hb : Below w.heap.size w w') => ra_below hu hb)
  have HL := Lib.hid hel
  clear hu hel
  go_enter Try.func21, Try.ntmps21
  go_wp2
  go_loopw [3, 5, 10] (fun y x i wr => ∃ (k : Nat) (l : List Int) (lv : Value), k ≤ es.length ∧ i = .int .i64 k ∧ lv = y ∧ Hid (OwnI w.heap.size wr lv l ∧ (IsL (es.take k) l ∧ l.length ≤ k) ∧ Below w.heap.size w wr)) (fun _ _ i _ => es.length - (intOf i).toNat)
  case atStart => exact ⟨0, [], _, Nat.zero_le _, rfl, rfl, Lib.hid ⟨own_nil_i _ _, ⟨by rw [List.take_zero]; exact IsL.nil, Nat.le_refl _⟩, Below.refl _ _⟩⟩
  case round =>
    obtain ⟨k, l, lv, hk, rfl, rfl, H⟩ := hrel
    by_cases hlt : k < es.length
    · obtain ⟨b, off, rfl, hb, hx⟩ := ed_at (HE.out _ H.out.2.2) (by omega)
      obtain ⟨hld, _, _, hwf⟩ := hx k hlt
      have hI := H.out.2.1.1
      have hll := H.out.2.1.2
      obtain ⟨⟨a, x⟩, hy⟩ : ∃ y, es.getD k default = y := ⟨_, rfl⟩
      rw [hy] at hld hwf
      have hwa := i64_wf hwf.ww
      simp only at hwa
      have hya : (es.getD k default).w = a := by rw [hy]
      obtain ⟨wo, hwo⟩ : ∃ wo, wo = wr := ⟨_, rfl⟩
      subst hwo
      obtain ⟨W, hW, HW⟩ := ed_boxed wo ⟨a, x⟩
      have d0 : W.cell? ⟨wo.heap.size, 0, none⟩ = some (.int .i64 a) := HW.out.1.c0
      have HB := Lib.hid (below_more H.out.2.2 HW.out.2)
      have HO := Lib.hid (own_up_i H.out.1 HW.out.2)
      have i0 : (0 : Int) ≤ (k : Int) := by omega
      have i1 : (k : Int) < (es.length : Int) := by omega
      have i2 : ¬ (k : Int) < 0 := by omega
      have i3 : IntKind.i64.wrap ((k : Int) + 1) = ((k + 1 : Nat) : Int) := by rw [show (k : Int) + 1 = ((k + 1 : Nat) : Int) by omega]; exact i64_nat _ (by have := HL.out; omega)
      have HK := Lib.hid hlt
      have HLl : Hid (l.length ≤ 4000) := Lib.hid (by have := HL.out; omega)
      by_cases h1 : 0 ≤ a
      · obtain ⟨z, rfl⟩ : ∃ z : Nat, a = z := ⟨a.toNat, by omega⟩
        obtain ⟨n, hn⟩ : ∃ n, z / 8 = n := ⟨_, rfl⟩
        have i4 : ¬ (z : Int) < 0 := by omega
        have m2 : IntKind.i64.wrap ((z : Int) / 8) = (n : Int) := by rw [show (z : Int) / 8 = (n : Int) by omega]; exact i64_nat _ (by omega)
        have HPu : Hid (∀ i, i ≤ l.length → (∀ j, j < i → l.getD j 0 < n) → (i < l.length → (n : Int) < l.getD i 0) → IsL (es.take (k + 1)) (l.take i ++ (n : Int) :: l.drop i) ∧ (l.take i ++ (n : Int) :: l.drop i).length ≤ k + 1) := Lib.hid fun i g1 g2 g3 => ⟨hI.put hlt (by rw [hya]; omega) (by rw [hya]; omega) g1 g2 g3, by rw [List.length_append, List.length_cons, List.length_take, List.length_drop]; omega⟩
        have HSa : Hid (∀ i, i < l.length → l.getD i 0 = n → IsL (es.take (k + 1)) l ∧ l.length ≤ k + 1) := Lib.hid fun i g1 g2 => ⟨hI.same hlt (by rw [hya]; omega) g1 (by rw [hya, g2]; omega), by omega⟩
        have SZ : Hid (∀ x : World, Below W.heap.size W x → W.heap.size ≤ x.heap.size) := Lib.hid fun _ h => h.size
        have GR : Hid (∀ (x y : World) (r : Option Nat), Below W.heap.size W x → x.grownBy y r → r = none → Below W.heap.size W y) := Lib.hid fun x y r h g e => by subst e; exact h.grown g h.size (fun k hk => by cases hk)
        have R1 := Lib.hid (fun w1 : World => ri_one w1 (n : Int))
        clear hx hb hk hlt h1 hwf hwa hI hll hy hya hn
        obtain ⟨_, ⟨rfl, h0⟩ | ⟨g, c, cur, rfl, _, _, hlc, hcm, _⟩⟩ := id HO.out
        · obtain rfl : l = [] := List.eq_nil_of_length_eq_zero h0
          clear h0
          go_wp2
          go_loopw [7] (fun y wr => y = .int .i64 0 ∧ W = wr) (fun y _ => 0)
          case atStart => exact ⟨rfl, rfl⟩
          case round =>
            obtain ⟨rfl, rfl⟩ := hrel
            have HPUT := Lib.hid (HPu.out 0 (Nat.zero_le _) (fun j h => by omega) (fun h => by simp at h))
            obtain ⟨l, hl⟩ : ∃ l : List Int, [] = l := ⟨_, rfl⟩
            have hl0 : l = [] := hl.symm
            rw [hl] at HPUT HLl
            clear hl
            have HP : Hid (∀ w', Below W.heap.size W w' → RI w' (.slice none 0 0) (l.take 0) ∧ RI w' (.slice none 0 0) (l.drop 0)) := Lib.hid fun w' hb => ⟨by rw [hl0]; exact ri_nil _, by rw [hl0]; exact ri_nil _⟩
            have N1 : Hid (([] : List Int).length + (l.take 0).length ≤ 1000000) := Lib.hid (by rw [List.length_take]; have := HLl.out; simp only [List.length_nil]; omega)
            have N2 : Hid (([] ++ l.take 0).length + [(n : Int)].length ≤ 1000000) := Lib.hid (by rw [List.nil_append, List.length_take]; have := HLl.out; simp only [List.length_singleton]; omega)
            have N3 : Hid ((([] ++ l.take 0) ++ [(n : Int)]).length + (l.drop 0).length ≤ 1000000) := Lib.hid (by rw [List.nil_append, List.length_append, List.length_take, List.length_drop]; have := HLl.out; simp only [List.length_singleton]; omega)
            obtain ⟨T, hT⟩ : ∃ T, l.take 0 = T := ⟨_, rfl⟩
            obtain ⟨U, hU⟩ : ∃ U, l.drop 0 = U := ⟨_, rfl⟩
            rw [hT] at HP N1 N2 N3
            rw [hU] at HP N3
            have hT' := Lib.hid hT.symm
            have hU' := Lib.hid hU.symm
            clear hT hU
            clear hl0
            go_wp2_with fail
            go_region_law (first
              | (refine step_app_int (o := ⟨some 49, _, _, _, _, _⟩) rfl (.const (.slice none 0 0)) (.tmp 48) rfl W.heap.size (.slice none 0 0) [] (by simp [Act.eval]) (own_nil_i _ _) (.slice none 0 0) T (by simp [Act.eval, Act.put]) (HP.out _ (by repeat' (first | (with_reducible exact Below.refl _ _) | (with_reducible refine Below.drew ?_) | (with_reducible refine bal ?_)))).1 N1.out (SZ.out _ (by repeat' (first | (with_reducible exact Below.refl _ _) | (with_reducible refine Below.drew ?_) | (with_reducible refine bal ?_)))) ?_
                 intro vb wb ob gb _
                 have OB := Lib.hid ob
                 have GB : Hid (Below W.heap.size W wb) := Lib.hid (GR.out _ _ _ (by repeat' (first | (with_reducible exact Below.refl _ _) | (with_reducible refine Below.drew ?_) | (with_reducible refine bal ?_))) gb rfl)
                 have GX := Lib.hid ((Below.refl _ _).grown gb (Nat.le_refl _) (by intro k hk; cases hk))
                 clear ob)
              | (refine step_app_int (o := ⟨some 52, _, _, _, _, _⟩) rfl (.tmp 49) (.tmp 51) rfl W.heap.size vb ([] ++ T) (by simp [Act.eval]) (own_up_i OB.out (bal (Below.refl _ _))) (.slice (some ⟨wb.heap.size, 0, none⟩) 1 1) [(n : Int)] (by simp [Act.eval]) (R1.out wb) N2.out (SZ.out _ (bal GB.out)) ?_
                 intro vc wc oc gc _
                 have OC := Lib.hid oc
                 have GC := Lib.hid (below_app_i (bal GB.out) (SZ.out _ (bal GB.out)) (own_up_i OB.out (bal (Below.refl _ _))) gc)
                 clear oc gc)
              | (refine step_app_int (o := ⟨some 52, _, _, _, _, _⟩) rfl (.tmp 49) (.tmp 51) rfl W.heap.size vb ([] ++ T) (by simp [Act.eval]) OB.out (.slice (some ⟨W.heap.size, 0, none⟩) 1 1) [(n : Int)] (by simp [Act.eval]) (ri_below (ri_below (R1.out W) ((Below.refl _ _).drew)) GX.out) N2.out (SZ.out _ GB.out) ?_
                 intro vc wc oc gc _
                 have OC := Lib.hid oc
                 have GC := Lib.hid (below_app_i GB.out (SZ.out _ GB.out) OB.out gc)
                 clear oc gc)
              | (refine step_app_int (o := ⟨some 56, _, _, _, _, _⟩) rfl (.tmp 52) (.tmp 55) rfl W.heap.size vc (([] ++ T) ++ [(n : Int)]) (by simp [Act.eval]) OC.out (.slice none 0 0) U (by simp [Act.eval]) (HP.out _ GC.out).2 N3.out (SZ.out _ GC.out) ?_
                 intro vd wd od gd _
                 have OD := Lib.hid od
                 have GD := Lib.hid (below_app_i GC.out (SZ.out _ GC.out) OC.out gd)
                 clear od gd))
            all_goals
              have HN : Hid (OwnI w.heap.size wd vd (T ++ (n : Int) :: U) ∧ Below w.heap.size w wd) := Lib.hid ⟨by have := OD.out; simp only [List.nil_append, List.append_assoc, List.cons_append] at this; exact this.mono HB.out.size, below_more HB.out GD.out⟩
              rw [hT'.out, hU'.out] at HN
              go_wp2
              exact ⟨⟨k + 1, _, _, by have := HK.out; omega, by go_num, rfl, Lib.hid ⟨HN.out.1, HPUT.out, HN.out.2⟩⟩, by have := HK.out; simp [intOf]; omega⟩
        · obtain ⟨K, hK⟩ : ∃ K, l.length = K := ⟨_, rfl⟩
          rw [hK] at hlc HO ⊢
          have HKl := Lib.hid hK
          have HCm := Lib.hid (And.intro hlc hcm)
          clear hK hlc hcm
          go_wp2
          go_loopw [7] (fun y wr => ∃ i : Nat, i ≤ K ∧ y = .int .i64 i ∧ W = wr ∧ Hid (∀ j, j < i → l.getD j 0 < n)) (fun y _ => K - (intOf y).toNat)
          case atStart => exact ⟨0, Nat.zero_le _, rfl, rfl, Lib.hid fun j h => by omega⟩
          case round =>
            obtain ⟨i, hi, rfl, rfl, HJ⟩ := hrel
            by_cases hlt : i < K
            · obtain ⟨bb, oo, e, _, hc⟩ := ri_some HO.out.ri (by rw [HKl.out]; omega)
              cases e
              have cy := hc i (by rw [HKl.out]; exact hlt)
              rw [Nat.zero_add] at cy
              have j0 : (0 : Int) ≤ (i : Int) := by omega
              have j1 : (i : Int) < (K : Int) := by omega
              have j2 : ¬ (i : Int) < 0 := by omega
              have j3 : ¬ i = K := by omega
              have j4 : ((i : Int) == (K : Int)) = false := by simp; omega
              have hil : i < l.length := by rw [HKl.out]; exact hlt
              have HIl := Lib.hid hil
              obtain ⟨y, hy⟩ : ∃ y, l.getD i 0 = y := ⟨_, rfl⟩
              rw [hy] at cy
              have HY := Lib.hid hy
              clear hc hy hil
              by_cases y1 : y < (n : Int)
              · have j5 : IntKind.i64.wrap ((i : Int) + 1) = ((i + 1 : Nat) : Int) := by rw [show (i : Int) + 1 = ((i + 1 : Nat) : Int) by omega]; exact i64_nat _ (by have := HIl.out; have := HLl.out; omega)
                have HN2 : Hid (∀ j, j < i + 1 → l.getD j 0 < n) := Lib.hid fun j h => by
                  by_cases e : j = i
                  · rw [e, HY.out]; exact y1
                  · exact HJ.out j (by omega)
                have HK2 := Lib.hid hlt
                clear hlt hi
                go_wp2
                exact ⟨⟨i + 1, by have := HK2.out; omega, by go_num, trivial, HN2⟩, by have := HK2.out; simp [intOf]; omega⟩
              · by_cases y2 : y = (n : Int)
                · have HS := Lib.hid (HSa.out i HIl.out (by rw [HY.out]; exact y2))
                  subst y2
                  have j6 : ((n : Int) == (n : Int)) = true := by simp
                  clear y1 hlt hi
                  go_wp2
                  exact ⟨⟨k + 1, l, _, by have := HK.out; omega, by go_num, rfl, Lib.hid ⟨HO.out, HS.out, HB.out⟩⟩, by have := HK.out; simp [intOf]; omega⟩
                · have j6 : (y == (n : Int)) = false := beq_eq_false_iff_ne.2 y2
                  have j7 : ¬ y = (n : Int) := y2
                  have HPUT := Lib.hid (HPu.out i (Nat.le_of_lt HIl.out) HJ.out (fun _ => by rw [HY.out]; omega))
                  have hcc := HCm.out
                  have j8 : (i : Int) ≤ (c : Int) := by omega
                  have j9 : (i : Int) ≤ (K : Int) := by omega
                  have j10 : ¬ c = i := by omega
                  have HRI : Hid (∀ w', Below W.heap.size W w' → RI w' (.slice (some ⟨g, 0, none⟩) K c) l) := Lib.hid fun w' hb => ri_below HO.out.ri hb
                  clear hcc hi hlt y2
                  have HP : Hid (∀ w', Below W.heap.size W w' → RI w' (.slice (some ⟨g, 0, none⟩) i c) (l.take i) ∧ RI w' (.slice (some ⟨g, i, none⟩) (K - i) (c - i)) (l.drop i)) := Lib.hid fun w' hb => ⟨ri_take (HRI.out _ hb) (Nat.le_of_lt HIl.out), by have := ri_drop (HRI.out _ hb) HIl.out; rwa [Nat.zero_add] at this⟩
                  have N1 : Hid (([] : List Int).length + (l.take i).length ≤ 1000000) := Lib.hid (by rw [List.length_take]; have := HLl.out; simp only [List.length_nil]; omega)
                  have N2 : Hid (([] ++ l.take i).length + [(n : Int)].length ≤ 1000000) := Lib.hid (by rw [List.nil_append, List.length_take]; have := HLl.out; simp only [List.length_singleton]; omega)
                  have N3 : Hid ((([] ++ l.take i) ++ [(n : Int)]).length + (l.drop i).length ≤ 1000000) := Lib.hid (by rw [List.nil_append, List.length_append, List.length_take, List.length_drop]; have := HLl.out; simp only [List.length_singleton]; omega)
                  obtain ⟨T, hT⟩ : ∃ T, l.take i = T := ⟨_, rfl⟩
                  obtain ⟨U, hU⟩ : ∃ U, l.drop i = U := ⟨_, rfl⟩
                  rw [hT] at HP N1 N2 N3
                  rw [hU] at HP N3
                  have hT' := Lib.hid hT.symm
                  have hU' := Lib.hid hU.symm
                  clear hT hU
                  go_wp2_with fail
                  go_region_law (first
                    | (refine step_app_int (o := ⟨some 49, _, _, _, _, _⟩) rfl (.const (.slice none 0 0)) (.tmp 48) rfl W.heap.size (.slice none 0 0) [] (by simp [Act.eval]) (own_nil_i _ _) (.slice (some ⟨g, 0, none⟩) i c) T (by simp [Act.eval, Act.put]) (HP.out _ (by repeat' (first | (with_reducible exact Below.refl _ _) | (with_reducible refine Below.drew ?_) | (with_reducible refine bal ?_)))).1 N1.out (SZ.out _ (by repeat' (first | (with_reducible exact Below.refl _ _) | (with_reducible refine Below.drew ?_) | (with_reducible refine bal ?_)))) ?_
                       intro vb wb ob gb _
                       have OB := Lib.hid ob
                       have GB : Hid (Below W.heap.size W wb) := Lib.hid (GR.out _ _ _ (by repeat' (first | (with_reducible exact Below.refl _ _) | (with_reducible refine Below.drew ?_) | (with_reducible refine bal ?_))) gb rfl)
                       have GX := Lib.hid ((Below.refl _ _).grown gb (Nat.le_refl _) (by intro k hk; cases hk))
                       clear ob)
                    | (refine step_app_int (o := ⟨some 52, _, _, _, _, _⟩) rfl (.tmp 49) (.tmp 51) rfl W.heap.size vb ([] ++ T) (by simp [Act.eval]) (own_up_i OB.out (bal (Below.refl _ _))) (.slice (some ⟨wb.heap.size, 0, none⟩) 1 1) [(n : Int)] (by simp [Act.eval]) (R1.out wb) N2.out (SZ.out _ (bal GB.out)) ?_
                       intro vc wc oc gc _
                       have OC := Lib.hid oc
                       have GC := Lib.hid (below_app_i (bal GB.out) (SZ.out _ (bal GB.out)) (own_up_i OB.out (bal (Below.refl _ _))) gc)
                       clear oc gc)
                    | (refine step_app_int (o := ⟨some 52, _, _, _, _, _⟩) rfl (.tmp 49) (.tmp 51) rfl W.heap.size vb ([] ++ T) (by simp [Act.eval]) OB.out (.slice (some ⟨W.heap.size, 0, none⟩) 1 1) [(n : Int)] (by simp [Act.eval]) (ri_below (ri_below (R1.out W) ((Below.refl _ _).drew)) GX.out) N2.out (SZ.out _ GB.out) ?_
                       intro vc wc oc gc _
                       have OC := Lib.hid oc
                       have GC := Lib.hid (below_app_i GB.out (SZ.out _ GB.out) OB.out gc)
                       clear oc gc)
                    | (refine step_app_int (o := ⟨some 56, _, _, _, _, _⟩) rfl (.tmp 52) (.tmp 55) rfl W.heap.size vc (([] ++ T) ++ [(n : Int)]) (by simp [Act.eval]) OC.out (.slice (some ⟨g, i, none⟩) (K - i) (c - i)) U (by simp [Act.eval]) (HP.out _ GC.out).2 N3.out (SZ.out _ GC.out) ?_
                       intro vd wd od gd _
                       have OD := Lib.hid od
                       have GD := Lib.hid (below_app_i GC.out (SZ.out _ GC.out) OC.out gd)
                       clear od gd))
                  all_goals
                    have HN : Hid (OwnI w.heap.size wd vd (T ++ (n : Int) :: U) ∧ Below w.heap.size w wd) := Lib.hid ⟨by have := OD.out; simp only [List.nil_append, List.append_assoc, List.cons_append] at this; exact this.mono HB.out.size, below_more HB.out GD.out⟩
                    rw [hT'.out, hU'.out] at HN
                    go_wp2
                    exact ⟨⟨k + 1, _, _, by have := HK.out; omega, by go_num, rfl, Lib.hid ⟨HN.out.1, HPUT.out, HN.out.2⟩⟩, by have := HK.out; simp [intOf]; omega⟩
            · obtain rfl : i = K := by omega
              have j1 : ¬ (i : Int) < (i : Int) := by omega
              have HPUT := Lib.hid (HPu.out i (by rw [HKl.out]; exact Nat.le_refl _) HJ.out (fun h => by rw [HKl.out] at h; omega))
              have hcc := HCm.out
              have j8 : (i : Int) ≤ (c : Int) := by omega
              have j9 : (i : Int) ≤ (i : Int) := by omega
              have HRI : Hid (∀ w', Below W.heap.size W w' → RI w' (.slice (some ⟨g, 0, none⟩) i c) l) := Lib.hid fun w' hb => ri_below HO.out.ri hb
              have HD0 : Hid (l.drop i = []) := Lib.hid (List.drop_eq_nil_of_le (by rw [HKl.out]; exact Nat.le_refl _))
              clear hi hlt
              by_cases ec : c = i
              · subst ec
                clear hcc
                have HP : Hid (∀ w', Below W.heap.size W w' → RI w' (.slice (some ⟨g, 0, none⟩) c c) (l.take c) ∧ RI w' (.slice (some ⟨g, 0, none⟩) 0 0) (l.drop c)) := Lib.hid fun w' hb => ⟨ri_take (HRI.out _ hb) (by rw [HKl.out]; exact Nat.le_refl _), by rw [HD0.out]; exact ri_none (Nat.zero_le _)⟩
                have N1 : Hid (([] : List Int).length + (l.take c).length ≤ 1000000) := Lib.hid (by rw [List.length_take]; have := HLl.out; simp only [List.length_nil]; omega)
                have N2 : Hid (([] ++ l.take c).length + [(n : Int)].length ≤ 1000000) := Lib.hid (by rw [List.nil_append, List.length_take]; have := HLl.out; simp only [List.length_singleton]; omega)
                have N3 : Hid ((([] ++ l.take c) ++ [(n : Int)]).length + (l.drop c).length ≤ 1000000) := Lib.hid (by rw [List.nil_append, List.length_append, List.length_take, List.length_drop]; have := HLl.out; simp only [List.length_singleton]; omega)
                obtain ⟨T, hT⟩ : ∃ T, l.take c = T := ⟨_, rfl⟩
                obtain ⟨U, hU⟩ : ∃ U, l.drop c = U := ⟨_, rfl⟩
                rw [hT] at HP N1 N2 N3
                rw [hU] at HP N3
                have hT' := Lib.hid hT.symm
                have hU' := Lib.hid hU.symm
                clear hT hU
                go_wp2_with fail
                go_region_law (first
                  | (refine step_app_int (o := ⟨some 49, _, _, _, _, _⟩) rfl (.const (.slice none 0 0)) (.tmp 48) rfl W.heap.size (.slice none 0 0) [] (by simp [Act.eval]) (own_nil_i _ _) (.slice (some ⟨g, 0, none⟩) c c) T (by simp [Act.eval, Act.put]) (HP.out _ (by repeat' (first | (with_reducible exact Below.refl _ _) | (with_reducible refine Below.drew ?_) | (with_reducible refine bal ?_)))).1 N1.out (SZ.out _ (by repeat' (first | (with_reducible exact Below.refl _ _) | (with_reducible refine Below.drew ?_) | (with_reducible refine bal ?_)))) ?_
                     intro vb wb ob gb _
                     have OB := Lib.hid ob
                     have GB : Hid (Below W.heap.size W wb) := Lib.hid (GR.out _ _ _ (by repeat' (first | (with_reducible exact Below.refl _ _) | (with_reducible refine Below.drew ?_) | (with_reducible refine bal ?_))) gb rfl)
                     have GX := Lib.hid ((Below.refl _ _).grown gb (Nat.le_refl _) (by intro k hk; cases hk))
                     clear ob)
                  | (refine step_app_int (o := ⟨some 52, _, _, _, _, _⟩) rfl (.tmp 49) (.tmp 51) rfl W.heap.size vb ([] ++ T) (by simp [Act.eval]) (own_up_i OB.out (bal (Below.refl _ _))) (.slice (some ⟨wb.heap.size, 0, none⟩) 1 1) [(n : Int)] (by simp [Act.eval]) (R1.out wb) N2.out (SZ.out _ (bal GB.out)) ?_
                     intro vc wc oc gc _
                     have OC := Lib.hid oc
                     have GC := Lib.hid (below_app_i (bal GB.out) (SZ.out _ (bal GB.out)) (own_up_i OB.out (bal (Below.refl _ _))) gc)
                     clear oc gc)
                  | (refine step_app_int (o := ⟨some 52, _, _, _, _, _⟩) rfl (.tmp 49) (.tmp 51) rfl W.heap.size vb ([] ++ T) (by simp [Act.eval]) OB.out (.slice (some ⟨W.heap.size, 0, none⟩) 1 1) [(n : Int)] (by simp [Act.eval]) (ri_below (ri_below (R1.out W) ((Below.refl _ _).drew)) GX.out) N2.out (SZ.out _ GB.out) ?_
                     intro vc wc oc gc _
                     have OC := Lib.hid oc
                     have GC := Lib.hid (below_app_i GB.out (SZ.out _ GB.out) OB.out gc)
                     clear oc gc)
                  | (refine step_app_int (o := ⟨some 56, _, _, _, _, _⟩) rfl (.tmp 52) (.tmp 55) rfl W.heap.size vc (([] ++ T) ++ [(n : Int)]) (by simp [Act.eval]) OC.out (.slice (some ⟨g, 0, none⟩) 0 0) U (by simp [Act.eval]) (HP.out _ GC.out).2 N3.out (SZ.out _ GC.out) ?_
                     intro vd wd od gd _
                     have OD := Lib.hid od
                     have GD := Lib.hid (below_app_i GC.out (SZ.out _ GC.out) OC.out gd)
                     clear od gd))
                all_goals
                  have HN : Hid (OwnI w.heap.size wd vd (T ++ (n : Int) :: U) ∧ Below w.heap.size w wd) := Lib.hid ⟨by have := OD.out; simp only [List.nil_append, List.append_assoc, List.cons_append] at this; exact this.mono HB.out.size, below_more HB.out GD.out⟩
                  rw [hT'.out, hU'.out] at HN
                  go_wp2
                  exact ⟨⟨k + 1, _, _, by have := HK.out; omega, by go_num, rfl, Lib.hid ⟨HN.out.1, HPUT.out, HN.out.2⟩⟩, by have := HK.out; simp [intOf]; omega⟩
              · clear hcc
                have HP : Hid (∀ w', Below W.heap.size W w' → RI w' (.slice (some ⟨g, 0, none⟩) i c) (l.take i) ∧ RI w' (.slice (some ⟨g, i, none⟩) 0 (c - i)) (l.drop i)) := Lib.hid fun w' hb => ⟨ri_take (HRI.out _ hb) (by rw [HKl.out]; exact Nat.le_refl _), by rw [HD0.out]; exact ri_none (by have := HCm.out; unfold maxLen at *; omega)⟩
                have N1 : Hid (([] : List Int).length + (l.take i).length ≤ 1000000) := Lib.hid (by rw [List.length_take]; have := HLl.out; simp only [List.length_nil]; omega)
                have N2 : Hid (([] ++ l.take i).length + [(n : Int)].length ≤ 1000000) := Lib.hid (by rw [List.nil_append, List.length_take]; have := HLl.out; simp only [List.length_singleton]; omega)
                have N3 : Hid ((([] ++ l.take i) ++ [(n : Int)]).length + (l.drop i).length ≤ 1000000) := Lib.hid (by rw [List.nil_append, List.length_append, List.length_take, List.length_drop]; have := HLl.out; simp only [List.length_singleton]; omega)
                obtain ⟨T, hT⟩ : ∃ T, l.take i = T := ⟨_, rfl⟩
                obtain ⟨U, hU⟩ : ∃ U, l.drop i = U := ⟨_, rfl⟩
                rw [hT] at HP N1 N2 N3
                rw [hU] at HP N3
                have hT' := Lib.hid hT.symm
                have hU' := Lib.hid hU.symm
                clear hT hU
                go_wp2_with fail
                go_region_law (first
                  | (refine step_app_int (o := ⟨some 49, _, _, _, _, _⟩) rfl (.const (.slice none 0 0)) (.tmp 48) rfl W.heap.size (.slice none 0 0) [] (by simp [Act.eval]) (own_nil_i _ _) (.slice (some ⟨g, 0, none⟩) i c) T (by simp [Act.eval, Act.put]) (HP.out _ (by repeat' (first | (with_reducible exact Below.refl _ _) | (with_reducible refine Below.drew ?_) | (with_reducible refine bal ?_)))).1 N1.out (SZ.out _ (by repeat' (first | (with_reducible exact Below.refl _ _) | (with_reducible refine Below.drew ?_) | (with_reducible refine bal ?_)))) ?_
                     intro vb wb ob gb _
                     have OB := Lib.hid ob
                     have GB : Hid (Below W.heap.size W wb) := Lib.hid (GR.out _ _ _ (by repeat' (first | (with_reducible exact Below.refl _ _) | (with_reducible refine Below.drew ?_) | (with_reducible refine bal ?_))) gb rfl)
                     have GX := Lib.hid ((Below.refl _ _).grown gb (Nat.le_refl _) (by intro k hk; cases hk))
                     clear ob)
                  | (refine step_app_int (o := ⟨some 52, _, _, _, _, _⟩) rfl (.tmp 49) (.tmp 51) rfl W.heap.size vb ([] ++ T) (by simp [Act.eval]) (own_up_i OB.out (bal (Below.refl _ _))) (.slice (some ⟨wb.heap.size, 0, none⟩) 1 1) [(n : Int)] (by simp [Act.eval]) (R1.out wb) N2.out (SZ.out _ (bal GB.out)) ?_
                     intro vc wc oc gc _
                     have OC := Lib.hid oc
                     have GC := Lib.hid (below_app_i (bal GB.out) (SZ.out _ (bal GB.out)) (own_up_i OB.out (bal (Below.refl _ _))) gc)
                     clear oc gc)
                  | (refine step_app_int (o := ⟨some 52, _, _, _, _, _⟩) rfl (.tmp 49) (.tmp 51) rfl W.heap.size vb ([] ++ T) (by simp [Act.eval]) OB.out (.slice (some ⟨W.heap.size, 0, none⟩) 1 1) [(n : Int)] (by simp [Act.eval]) (ri_below (ri_below (R1.out W) ((Below.refl _ _).drew)) GX.out) N2.out (SZ.out _ GB.out) ?_
                     intro vc wc oc gc _
                     have OC := Lib.hid oc
                     have GC := Lib.hid (below_app_i GB.out (SZ.out _ GB.out) OB.out gc)
                     clear oc gc)
                  | (refine step_app_int (o := ⟨some 56, _, _, _, _, _⟩) rfl (.tmp 52) (.tmp 55) rfl W.heap.size vc (([] ++ T) ++ [(n : Int)]) (by simp [Act.eval]) OC.out (.slice (some ⟨g, i, none⟩) 0 (c - i)) U (by simp [Act.eval]) (HP.out _ GC.out).2 N3.out (SZ.out _ GC.out) ?_
                     intro vd wd od gd _
                     have OD := Lib.hid od
                     have GD := Lib.hid (below_app_i GC.out (SZ.out _ GC.out) OC.out gd)
                     clear od gd))
                all_goals
                  have HN : Hid (OwnI w.heap.size wd vd (T ++ (n : Int) :: U) ∧ Below w.heap.size w wd) := Lib.hid ⟨by have := OD.out; simp only [List.nil_append, List.append_assoc, List.cons_append] at this; exact this.mono HB.out.size, below_more HB.out GD.out⟩
                  rw [hT'.out, hU'.out] at HN
                  go_wp2
                  exact ⟨⟨k + 1, _, _, by have := HK.out; omega, by go_num, rfl, Lib.hid ⟨HN.out.1, HPUT.out, HN.out.2⟩⟩, by have := HK.out; simp [intOf]; omega⟩
      · have i4 : a < 0 := by omega
        have HN : Hid (OwnI w.heap.size W lv l ∧ (IsL (es.take (k + 1)) l ∧ l.length ≤ k + 1) ∧ Below w.heap.size w W) := Lib.hid ⟨HO.out, ⟨hI.skip hlt (by rw [hya]; exact h1), by omega⟩, HB.out⟩
        clear hx hb hk hlt h1 hwf hwa hI hll hy hya
        go_wp2
        exact ⟨⟨k + 1, l, lv, by have := HK.out; omega, by go_num, rfl, HN⟩, by have := HK.out; simp [intOf]; omega⟩
    · obtain rfl : k = es.length := by omega
      have hF := H.out
      rw [List.take_length] at hF
      have HF := Lib.hid hF
      clear hF H hk hlt
      go_wp2
      go_ret
      exact ⟨⟨_, l, rfl, HF.out.1, HF.out.2.1.1⟩, HF.out.2.2⟩
end Go.Proofs.Ytegbeolnlpgdeaa
