/- texts written together: Rft Crj Crk Mgr Mgq Iar -/
import Derived.Test.YtkpefnjohdjejaaZmb
import Derived.BigQuiet
import Derived.Test.YtkpefnjohdjejaaZma
import Derived.Deep.DeepCutAuto
import Derived.Test.YtkpefnjohdjejaaZmc

/-
  Contracts of the reference: how many words bytes need, which blocks fit, how often a page was written, which one is chosen.
-/
namespace Go.Proofs.Ytkpefnjohdjejaa
set_option maxRecDepth 100000
open Go.RowKit

theorem rneed_is (n : Int) (w : World) : Calls Try.prog 29 #[.int .i64 n] w fun e w' => e = .returned (.int .i64 (needN n)) ∧ w = w' := by
  by_cases h1 : n < 1
  · rw [needN, if_neg (by omega)]
    go_enter Try.func29, Try.ntmps29
    go_wp2_with fail
    go_ret
    exact ⟨rfl, rfl⟩
  · by_cases h2 : n > 448
    · rw [needN, if_neg (by omega)]
      go_enter Try.func29, Try.ntmps29
      go_wp2_with fail
      go_ret
      exact ⟨rfl, rfl⟩
    · rw [needN, if_pos (by omega)]
      obtain ⟨k, rfl⟩ : ∃ k : Nat, n = k := ⟨n.toNat, by omega⟩
      obtain ⟨q, hq⟩ : ∃ q, (k + 7) / 8 = q := ⟨_, rfl⟩
      obtain ⟨b, hb⟩ : ∃ a, k + 7 = a := ⟨_, rfl⟩
      obtain ⟨c, hc⟩ : ∃ a, q + 1 = a := ⟨_, rfl⟩
      have j2 : IntKind.i64.wrap ((k : Int) + 7) = (b : Int) := by rw [show (k : Int) + 7 = (b : Int) by omega]; exact i64_nat _ (by omega)
      have j3 : (b : Int).tdiv 8 = (q : Int) := by rw [← hq, ← hb]; exact tdiv_nat (k + 7) 8
      have j4 : IntKind.i64.wrap (q : Int) = (q : Int) := i64_nat _ (by omega)
      have j5 : IntKind.i64.wrap (1 + (q : Int)) = (c : Int) := by rw [show 1 + (q : Int) = (c : Int) by omega]; exact i64_nat _ (by omega)
      have e : ((k : Int) + 7) / 8 + 1 = (c : Int) := by omega
      rw [e]
      clear hb hc hq e
      go_enter Try.func29, Try.ntmps29
      go_wp2_with fail
      go_ret
      exact ⟨rfl, rfl⟩


/-- those that fit of the first ones, one more -/
theorem tgS_snoc (n : Int) (b : Bk) : ∀ (l : List Bk) (m : Int), tgS n m (l ++ [b]) = if fitB n b = true ∧ (tgS n m l = 0 ∨ b.s < tgS n m l) then b.s else tgS n m l
  | [], m => by rw [List.nil_append, tgS, tgS, tgS]
  | c :: r, m => by rw [List.cons_append, tgS, tgS_snoc n b r, tgS]
theorem plS_snoc (z : Int) (b : Bk) : ∀ (l : List Bk) (k : Nat), plS z k (l ++ [b]) = plS z k l ++ (if hasS z b = true then [k + l.length] else [])
  | [], k => by rw [List.nil_append, plS, plS, plS, List.nil_append]; rfl
  | c :: r, k => by
    rw [List.cons_append, plS, plS_snoc z b r, plS, List.length_cons, show k + 1 + r.length = k + (r.length + 1) by omega]
    split
    · rw [List.cons_append]
    · rfl
theorem plS_len (z : Int) : ∀ (l : List Bk) (k : Nat), (plS z k l).length ≤ l.length
  | [], k => by rw [plS]; exact Nat.le_refl _
  | b :: r, k => by
    have := plS_len z r (k + 1)
    rw [plS, List.length_cons]
    split
    · rw [List.length_cons]; omega
    · omega
theorem plS_nil {z : Int} {l : List Bk} (h : ∀ b ∈ l, hasS z b = false) : plS z 0 l = [] := by
  cases e : plS z 0 l with
  | nil => rfl
  | cons i r =>
    obtain ⟨_, h1, h2⟩ := plS_mem (l := l) (k := 0) (i := i) (by rw [e]; exact List.mem_cons_self ..)
    rw [h _ (getD_mem h1)] at h2
    cases h2
theorem fitN_ne {n : Int} {l : List Bk} (h : fitN n l ≠ []) : tgS n 0 l ≠ 0 ∧ 0 < (fitN n l).length ∧ (fitN n l).getD 0 0 < l.length ∧ (l.getD ((fitN n l).getD 0 0) default).s = tgS n 0 l := by
  have h0 : tgS n 0 l ≠ 0 := fun e => h (by rw [fitN, if_pos e])
  have hl : 0 < (fitN n l).length := List.length_pos_iff.2 h
  obtain ⟨g1, _, _, g4⟩ := fitN_mem (n := n) (l := l) (getD_mem_n hl)
  exact ⟨h0, hl, g1, g4⟩
theorem fitN_snoc_no {n : Int} {l : List Bk} {b : Bk} (h : fitB n b = false) : fitN n (l ++ [b]) = fitN n l := by
  have e : tgS n 0 (l ++ [b]) = tgS n 0 l := by rw [tgS_snoc, if_neg (by rw [h]; simp)]
  rw [fitN, fitN, e]
  split
  · rfl
  · rename_i h0
    obtain ⟨g, _, _⟩ := tgS_spec n l 0 (Int.le_refl _)
    rw [plS_snoc, if_neg, List.append_nil]
    intro hs
    obtain ⟨hu, hz⟩ := hasS_iff.1 hs
    rcases g with g | ⟨c, _, hc, ec⟩
    · exact h0 g
    · obtain ⟨_, q1, q2⟩ := fitB_iff.1 hc
      rw [fitB_iff.2 ⟨hu, q1, by omega⟩] at h
      cases h
theorem fitN_snoc_first {n : Int} {l : List Bk} {b : Bk} (h : fitB n b = true) (hl : tgS n 0 l = 0 ∨ b.s < tgS n 0 l) : fitN n (l ++ [b]) = [l.length] := by
  obtain ⟨hu, h1, h2⟩ := fitB_iff.1 h
  have e : tgS n 0 (l ++ [b]) = b.s := by rw [tgS_snoc, if_pos ⟨h, hl⟩]
  rw [fitN, e, if_neg (by omega), plS_snoc, if_pos (hasS_iff.2 ⟨hu, rfl⟩), plS_nil, List.nil_append, Nat.zero_add]
  intro c hc
  rw [Bool.eq_false_iff, Ne, hasS_iff]
  rintro ⟨cu, cs⟩
  obtain ⟨_, g, _⟩ := tgS_spec n l 0 (Int.le_refl _)
  have := g c hc (fitB_iff.2 ⟨cu, h1, by omega⟩)
  omega
theorem fitN_snoc_more {n : Int} {l : List Bk} {b : Bk} (h : fitB n b = true) (hl : tgS n 0 l ≠ 0) (hs : b.s = tgS n 0 l) : fitN n (l ++ [b]) = fitN n l ++ [l.length] := by
  obtain ⟨hu, h1, h2⟩ := fitB_iff.1 h
  have e : tgS n 0 (l ++ [b]) = tgS n 0 l := by rw [tgS_snoc, if_neg (by omega)]
  rw [fitN, fitN, e, if_neg hl, if_neg hl, plS_snoc, if_pos (hasS_iff.2 ⟨hu, hs⟩), Nat.zero_add]
theorem fitN_snoc_less {n : Int} {l : List Bk} {b : Bk} (hl : tgS n 0 l ≠ 0) (hs : tgS n 0 l < b.s) : fitN n (l ++ [b]) = fitN n l := by
  have e : tgS n 0 (l ++ [b]) = tgS n 0 l := by rw [tgS_snoc, if_neg (by omega)]
  rw [fitN, fitN, e, if_neg hl, if_neg hl, plS_snoc, if_neg, List.append_nil]
  rw [hasS_iff]
  omega
theorem take_snoc {l : List Bk} {k : Nat} (hk : k < l.length) : l.take (k + 1) = l.take k ++ [l.getD k default] := by
  rw [List.take_add_one, List.getElem?_eq_getElem hk, List.getD_eq_getElem?_getD, List.getElem?_eq_getElem hk]; rfl

/-- places being gathered by the reference -/
structure Rg (n : Int) (l : List Bk) (w0 wr : World) (lv : Value) (k : Nat) : Prop where
  own : OwnI w0.heap.size wr lv (ins (fitN n (l.take k)))
  up : Below w0.heap.size w0 wr
theorem Rg.skip {n : Int} {l : List Bk} {w0 wr w' : World} {lv : Value} {k : Nat} (h : Rg n l w0 wr lv k) (hb : Below wr.heap.size wr w') (he : fitN n (l.take (k + 1)) = fitN n (l.take k)) : Rg n l w0 w' lv (k + 1) :=
  ⟨by rw [he]; exact own_below_i' h.own hb, below_more h.up hb⟩
theorem Rg.app {n : Int} {l : List Bk} {w0 W : World} {lv : Value} {k : Nat} {f : List Nat} (ho : OwnI w0.heap.size W lv (ins f)) (hf : f.length ≤ 1000) (hB : Below w0.heap.size w0 W) (he : fitN n (l.take (k + 1)) = f ++ [k]) :
    Hid ((ins f).length + 1 ≤ 1000000) ∧ OwnI w0.heap.size (W.alloc (.cells #[.int .i64 (k : Int)] 3)) lv (ins f) ∧ w0.heap.size ≤ (W.alloc (.cells #[.int .i64 (k : Int)] 3)).heap.size ∧
      ∀ v' w', OwnI w0.heap.size w' v' (ins f ++ [(k : Int)]) → (W.alloc (.cells #[.int .i64 (k : Int)] 3)).grownBy w' lv.ownBlock → Rg n l w0 w' v' (k + 1) :=
  ⟨Lib.hid (by rw [ins_length]; omega), World.ownsRow.alloc ho _, by rw [size_alloc]; exact Nat.le_succ_of_le hB.size, fun v' w' h1 h2 => ⟨by rw [he, ins_app]; exact h1, Below.grown (bal hB) h2 (by rw [size_alloc]; exact Nat.le_succ_of_le hB.size) (fun q hq => (World.ownsRow.lt ho q hq).1)⟩⟩

set_option maxHeartbeats 2000000 in
theorem rfits_is (n : Int) (l : List Bk) (v : Value) (w : World) (hv : RA blkE w v l) (hl : l.length ≤ 1000) :
    Calls Try.prog 51 #[v, .int .i64 n] w fun e w' => (∃ u, e = .returned u ∧ OwnI w.heap.size w' u (ins (fitN n l))) ∧ Below w.heap.size w w' := by
  obtain ⟨p, cap, rfl, hlc, hcm⟩ := ra_shape hv
  have HL := Lib.hid hl
  have HV := Lib.hid hv
  clear hcm hlc hv hl
  by_cases h2 : n < 2
  · have e0 : fitN n l = [] := fitN_none fun b _ => by rw [Bool.eq_false_iff, Ne, fitB_iff]; omega
    rw [e0]
    generalize l.length = L at *
    go_enter Try.func51, Try.ntmps51
    go_wp2_with fail
    go_ret
    exact ⟨⟨_, rfl, ownI_nil' _ _⟩, Below.refl _ _⟩
  · have HN2 : Hid (2 ≤ n) := Lib.hid (by omega)
    go_enter Try.func51, Try.ntmps51
    go_wp2
    go_loopw [5, 12] (fun y i wr => ∃ (k : Nat) (lv : Value), k ≤ l.length ∧ i = .int .i64 k ∧ y = lv ∧ Hid (Rg n l w wr lv k)) (fun _ i _ => l.length - (intOf i).toNat)
    case atStart => exact ⟨0, _, Nat.zero_le _, rfl, rfl, Lib.hid ⟨by rw [List.take_zero, fitN_none (fun b hb => by cases hb)]; exact ownI_nil' _ _, Below.refl _ _⟩⟩
    case round =>
      obtain ⟨k, lv, hk, rfl, rfl, H⟩ := hrel
      by_cases hlt : k < l.length
      · obtain ⟨b, off, rfl, hb, hx⟩ := blk_at (ra_below HV.out H.out.up) (by omega)
        obtain ⟨hld, _, _, _, hwf⟩ := hx k hlt
        have i0 : (0 : Int) ≤ (k : Int) := by omega
        have i1 : (k : Int) < (l.length : Int) := by omega
        have i2 : ¬ (k : Int) < 0 := by omega
        have i3 : IntKind.i64.wrap ((k : Int) + 1) = ((k + 1 : Nat) : Int) := by rw [show (k : Int) + 1 = ((k + 1 : Nat) : Int) by omega]; exact i64_nat _ (by have := HL.out; omega)
        have HK := Lib.hid hlt
        have HT := Lib.hid (take_snoc hlt)
        have HTL : Hid ((l.take k).length = k) := Lib.hid (by rw [List.length_take]; omega)
        have HC : Hid (∀ w', Below w.heap.size w w' → ∀ j, j < l.length → w'.cell? ⟨b, off + j * 3 + 1, none⟩ = some (.int .i64 (l.getD j default).s)) := Lib.hid fun w' hb j hj => by
          obtain ⟨_, _, e, _, hx'⟩ := blk_at (ra_below HV.out hb) (by omega)
          cases e
          exact (hx' j hj).2.2.1
        have HFL : Hid ((fitN n (l.take k)).length ≤ 1000) := Lib.hid (by
          unfold fitN
          split
          · simp
          · exact Nat.le_trans (plS_len _ _ _) (by rw [List.length_take]; have := HL.out; omega))
        generalize l.getD k default = y at *
        obtain ⟨a, s, u⟩ := y
        obtain ⟨W, hW, HW⟩ := blk_boxed wr ⟨a, s, u⟩
        have c1 : W.cell? ⟨wr.heap.size, 1, none⟩ = some (.int .i64 s) := HW.out.1.c1
        have c2 : W.cell? ⟨wr.heap.size, 2, none⟩ = some (.bool u) := HW.out.1.c2
        have HB := Lib.hid HW.out.2
        clear hx hk hb hwf
        have SKIP := Lib.hid (fun (h : fitN n (l.take (k + 1)) = fitN n (l.take k)) (w' : World) (hb : Below W.heap.size W w') => H.out.skip (below_more HB.out hb) h)
        cases u
        · by_cases h3 : s < n
          · have HN := Lib.hid (SKIP.out (by rw [HT.out]; exact fitN_snoc_no (by rw [Bool.eq_false_iff, Ne, fitB_iff]; simp only; omega)) W (Below.refl _ _))
            clear SKIP
            go_wp2
            go_roundw
            case rel => exact ⟨k + 1, _, by have := HK.out; omega, by go_num, rfl, HN⟩
            case measure => have := HK.out; simp [intOf]; omega
          · have HF : Hid (fitB n ⟨a, s, false⟩ = true) := Lib.hid (fitB_iff.2 ⟨rfl, HN2.out, by simp only; omega⟩)
            have HO := Lib.hid (own_below_i' H.out.own HB.out)
            have HU := Lib.hid (below_more H.out.up HB.out)
            by_cases hf0 : fitN n (l.take k) = []
            · have ht0 : tgS n 0 (l.take k) = 0 := by
                by_cases q : tgS n 0 (l.take k) = 0
                · exact q
                · exfalso
                  obtain ⟨g, _, _⟩ := tgS_spec n (l.take k) 0 (Int.le_refl _)
                  rcases g with g | ⟨c, hc, hcf, _⟩
                  · exact q g
                  · exact fitN_some hc hcf hf0
              have hfin : fitN n (l.take (k + 1)) = [] ++ [k] := by rw [HT.out, fitN_snoc_first HF.out (.inl ht0), HTL.out, List.nil_append]
              obtain ⟨q, cq, rfl⟩ := HO.out.shape
              rw [hf0] at HO ⊢
              have HFIN := Lib.hid hfin
              clear hf0 ht0 hfin SKIP HFL
              simp only [ins, List.map_nil, List.length_nil] at HO ⊢
              go_wp2_with fail
              go_quiet (fail)
              have hV1 : Below W.heap.size W (W.drewN nq) := below_drewN (Below.refl _ _) _
              generalize W.drewN nq = V1 at *
              have HV1 := Lib.hid hV1
              clear hV1
              go_wp2_with fail
              go_quiet (fail)
              have hV2 : Below W.heap.size W (V1.drewN nq) := below_drewN HV1.out _
              generalize V1.drewN nq = V2 at *
              obtain ⟨hlen, o1, hB, hmore⟩ := Rg.app (f := []) (n := n) (l := l) (w0 := w) (W := V2) (k := k) (own_below_i' HO.out hV2) (by simp) (below_more HU.out hV2) HFIN.out
              have O1 := Lib.hid o1
              have HB1 := Lib.hid hB
              have HM := Lib.hid hmore
              clear o1 hB hmore hV2
              simp only [ins, List.map_nil] at O1 HM hlen
              go_wp2_with (at_builtin; refine list_app_int (o := ⟨some 58, _, _, _, _, _⟩) rfl (.tmp 55) (.tmp 57) rfl w.heap.size _ [] rfl O1.out _ [(k : Int)] rfl (ri_one _ _) hlen.out HB1.out ?_; intro v1 w2 hown hg _)
              have HN := Lib.hid (HM.out _ _ hown hg)
              clear hown hg
              go_wp2
              go_roundw
              case rel => exact ⟨k + 1, _, by have := HK.out; omega, by go_num, rfl, HN⟩
              case measure => have := HK.out; simp [intOf]; omega
            · obtain ⟨ht0, hl0, hfk, hfs⟩ := fitN_ne hf0
              rw [HTL.out] at hfk
              obtain ⟨q, cq, rfl⟩ := HO.out.shape
              have HR := Lib.hid HO.out.ri
              rw [ins_length] at HO HR ⊢
              obtain ⟨bq, oq, rfl, _, _⟩ := ri_some HR.out (by rw [ins_length]; omega)
              have hfl : (fitN n (l.take k)).getD 0 0 < l.length := by have := HK.out; omega
              have hfs2 : (l.getD ((fitN n (l.take k)).getD 0 0) default).s = tgS n 0 (l.take k) := by
                rw [← hfs]
                rw [List.getD_eq_getElem?_getD, List.getD_eq_getElem?_getD (l := l.take k), List.getElem?_take_of_lt hfk]
              have HC2 : Hid (∀ w', Below W.heap.size W w' → w'.cell? ⟨bq, oq, none⟩ = some (.int .i64 ((fitN n (l.take k)).getD 0 0 : Nat)) ∧ w'.cell? ⟨b, off + (fitN n (l.take k)).getD 0 0 * 3 + 1, none⟩ = some (.int .i64 (tgS n 0 (l.take k))) ∧ w'.cell? ⟨wr.heap.size, 1, none⟩ = some (.int .i64 s)) := Lib.hid fun w' hb => by
                obtain ⟨_, _, e, _, hfr⟩ := ri_some (ri_below HR.out hb) (by rw [ins_length]; omega)
                cases e
                have cf1 := hfr 0 (by rw [ins_length]; exact hl0)
                rw [ins_getD hl0, Nat.add_zero] at cf1
                have cf2 := HC.out w' (below_more HU.out hb) _ hfl
                rw [hfs2] at cf2
                exact ⟨cf1, cf2, (HW.out.1.below hb).c1⟩
              have FIRST := Lib.hid (fun (h : s < tgS n 0 (l.take k)) => show fitN n (l.take (k + 1)) = [] ++ [k] by rw [HT.out, fitN_snoc_first HF.out (.inr h), HTL.out, List.nil_append])
              have MORE := Lib.hid (fun (h : s = tgS n 0 (l.take k)) => show fitN n (l.take (k + 1)) = fitN n (l.take k) ++ [k] by rw [HT.out, fitN_snoc_more HF.out ht0 h, HTL.out])
              have LESS := Lib.hid (fun (h : tgS n 0 (l.take k) < s) => show fitN n (l.take (k + 1)) = fitN n (l.take k) by rw [HT.out, fitN_snoc_less ht0 h])
              have g1 : decide (((fitN n (l.take k)).length : Int) > 0) = true := decide_eq_true (by omega)
              have g2 : (((fitN n (l.take k)).length : Int) == 0) = false := beq_eq_false_iff_ne.2 (by omega)
              have q1 : (((fitN n (l.take k)).getD 0 0 : Nat) : Int) < (l.length : Int) := by omega
              have q2 : ¬ (((fitN n (l.take k)).getD 0 0 : Nat) : Int) < 0 := by omega
              have q3 : (0 : Int) ≤ (((fitN n (l.take k)).getD 0 0 : Nat) : Int) := by omega
              have q4 : 0 < (fitN n (l.take k)).length := hl0
              clear hfs hfs2 hfl hfk ht0 hl0 hf0
              generalize tgS n 0 (l.take k) = m at *
              generalize fitN n (l.take k) = f at *
              generalize f.getD 0 0 = I at *
              have HFF := Lib.hid (show f.length ≤ 1000 from HFL.out)
              obtain ⟨F, hF⟩ : ∃ F, f.length = F := ⟨_, rfl⟩
              rw [hF] at g1 g2 q4 HO ⊢
              obtain ⟨k1, k2, k3⟩ := HC2.out W (Below.refl _ _)
              by_cases c1' : m > s
              · have d1 : decide (m > s) = true := decide_eq_true c1'
                have HFIN := Lib.hid (FIRST.out c1')
                clear FIRST MORE LESS SKIP c1'
                go_wp2_with fail
                go_quiet (fail)
                have hV1 : Below W.heap.size W (W.drewN nq) := below_drewN (Below.refl _ _) _
                generalize W.drewN nq = V1 at *
                have HV1 := Lib.hid hV1
                clear hV1
                go_wp2_with fail
                go_quiet (fail)
                have hV2 : Below W.heap.size W (V1.drewN nq) := below_drewN HV1.out _
                generalize V1.drewN nq = V2 at *
                obtain ⟨hlen, o1, hB, hmore⟩ := Rg.app (f := []) (n := n) (l := l) (w0 := w) (W := V2) (k := k) (ownI_nil' _ _) (by simp) (below_more HU.out hV2) HFIN.out
                have O1 := Lib.hid o1
                have HB1 := Lib.hid hB
                have HM := Lib.hid hmore
                clear o1 hB hmore hV2
                simp only [ins, List.map_nil] at O1 HM hlen
                go_wp2_with (at_builtin; refine list_app_int (o := ⟨some 58, _, _, _, _, _⟩) rfl (.tmp 55) (.tmp 57) rfl w.heap.size _ [] rfl O1.out _ [(k : Int)] rfl (ri_one _ _) hlen.out HB1.out ?_; intro v1 w2 hown hg _)
                have HN := Lib.hid (HM.out _ _ hown hg)
                clear hown hg
                go_wp2
                go_roundw
                case rel => exact ⟨k + 1, _, by have := HK.out; omega, by go_num, rfl, HN⟩
                case measure => have := HK.out; simp [intOf]; omega
              · have d1 : decide (m > s) = false := decide_eq_false c1'
                have BV1 : Hid (∀ n, Below W.heap.size W (W.drewN n)) := Lib.hid fun n => below_drewN (Below.refl _ _) n
                by_cases c2' : m = s
                · have d2 : (m == s) = true := by rw [c2']; simp
                  have HFIN := Lib.hid (MORE.out c2'.symm)
                  clear FIRST MORE LESS SKIP c1' c2'
                  go_wp2_with fail
                  go_quiet (fail)
                  have hV1 := BV1.out nq
                  generalize W.drewN nq = V1 at *
                  have HV1 := Lib.hid hV1
                  obtain ⟨k4, k5, k6⟩ := HC2.out V1 HV1.out
                  clear hV1 k1 k2 k3
                  go_wp2_with fail
                  go_quiet (fail)
                  have hV2 : Below W.heap.size W (V1.drewN nq) := below_drewN HV1.out _
                  generalize V1.drewN nq = V2 at *
                  obtain ⟨hlen, o1, hB, hmore⟩ := Rg.app (f := f) (n := n) (l := l) (w0 := w) (W := V2) (k := k) (own_below_i' HO.out hV2) HFF.out (below_more HU.out hV2) HFIN.out
                  have O1 := Lib.hid o1
                  have HB1 := Lib.hid hB
                  have HM := Lib.hid hmore
                  clear o1 hB hmore hV2
                  go_wp2_with (at_builtin; refine list_app_int (o := ⟨some 58, _, _, _, _, _⟩) rfl (.tmp 55) (.tmp 57) rfl w.heap.size _ (ins f) rfl O1.out _ [(k : Int)] rfl (ri_one _ _) hlen.out HB1.out ?_; intro v1 w2 hown hg _)
                  have HN := Lib.hid (HM.out _ _ hown hg)
                  clear hown hg
                  go_wp2
                  go_roundw
                  case rel => exact ⟨k + 1, _, by have := HK.out; omega, by go_num, rfl, HN⟩
                  case measure => have := HK.out; simp [intOf]; omega
                · have d2 : (m == s) = false := beq_eq_false_iff_ne.2 c2'
                  have HFIN := Lib.hid (LESS.out (by omega))
                  clear FIRST MORE LESS c1' c2'
                  go_wp2_with fail
                  go_quiet (fail)
                  have hV1 := BV1.out nq
                  generalize W.drewN nq = V1 at *
                  have HV1 := Lib.hid hV1
                  obtain ⟨k4, k5, k6⟩ := HC2.out V1 HV1.out
                  clear hV1 k1 k2 k3
                  go_wp2_with fail
                  go_quiet (fail)
                  have hV2 : Below W.heap.size W (V1.drewN nq) := below_drewN HV1.out _
                  generalize V1.drewN nq = V2 at *
                  have HN := Lib.hid (SKIP.out HFIN.out V2 hV2)
                  rw [ins_length, hF] at HN
                  clear hV2 SKIP
                  go_wp2
                  go_roundw
                  case rel => exact ⟨k + 1, _, by have := HK.out; omega, by go_num, rfl, HN⟩
                  case measure => have := HK.out; simp [intOf]; omega
        · have HN := Lib.hid (SKIP.out (by rw [HT.out]; exact fitN_snoc_no (by simp [fitB])) W (Below.refl _ _))
          clear SKIP
          go_wp2
          go_roundw
          case rel => exact ⟨k + 1, _, by have := HK.out; omega, by go_num, rfl, HN⟩
          case measure => have := HK.out; simp [intOf]; omega
      · obtain rfl : k = l.length := by omega
        have h1 := H.out.own
        rw [List.take_length] at h1
        have HO := Lib.hid h1
        have HB := Lib.hid H.out.up
        clear h1
        go_wp2
        go_ret
        exact ⟨⟨_, rfl, HO.out⟩, HB.out⟩

end Go.Proofs.Ytkpefnjohdjejaa

/-
  Contract of the reference's Carved: the blocks behind the taking.
-/
namespace Go.Proofs.Ytkpefnjohdjejaa
set_option maxRecDepth 100000
open Go.RowKit

section
variable {ops : Array Oper} {o : Oper} {a : Act} {w : World} {Q : Exit → Act → World → Prop} {K : Act → World → Prop}
theorem step_blk {F : Prop} (hgd : o.guard = none) (s x : Operand) (ho : o.op = .call { callee := .builtin .append, args := #[s, x], argTypes := #[45, 45] }) (B : Nat) (v : Value) (l : List Bk) (hs : a.eval s = v) (hown : OwnA blkE B w v l)
    (u : Value) (r : List Bk) (hx : a.eval x = u) (hr : RA blkE w u r) (hlen : Hid (l.length + r.length ≤ 2000)) (hB : B ≤ w.heap.size)
    (h : ∀ v' w', OwnA blkE B w' v' (l ++ r) → w.grownBy w' v.ownBlock → (v'.ownBlock = v.ownBlock ∨ v'.ownBlock = some w.heap.size) → K (a.put o.dst v') w') : if Region.wanted o (yielded ops a.tmps) = true then o.wp Try.prog a w K Q else F :=
  step_app blkE hgd s x ho B v l hs hown u r hx hr (by have := hlen.out; show _ * 24 ≤ _; omega) hB h
end

set_option maxHeartbeats 1000000 in
theorem rcarved_no (l : List Bk) (i n : Int) (v : Value) (w : World) (hv : RA blkE w v l) (hl : l.length ≤ 1000) (h : canC l i n = false) :
    Calls Try.prog 77 #[v, .int .i64 i, .int .i64 n] w fun e w' => e = .returned (.tuple #[.slice none 0 0, .bool false]) ∧ Below w.heap.size w w' := by
  have C1 := Lib.hid (rsizes_is l v w hv hl)
  have C2 := Lib.hid (fun (w' : World) (hb : Below w.heap.size w w') => rmay_is (szR l) l v (mayS l) w' (ra_below hv hb) hl (may_szR l))
  have H0 := Lib.hid (fun (w' : World) (hb : Below w.heap.size w w') => ra_below hv hb)
  obtain ⟨p, cap, rfl, hlc, hcm⟩ := ra_shape hv
  generalize szR l = z at *
  cases hm : mayS l
  · rw [hm] at C2
    generalize l.length = L at *
    clear hv hl h hlc hcm
    go_enter Try.func77, Try.ntmps77
    go_wp2_with fail
    refine (C1.out).mono ?_; rintro e w1 ⟨rfl, b1⟩
    have D1 := Lib.hid b1
    go_wp2_with fail
    refine (C2.out w1 D1.out).mono ?_; rintro e w2 ⟨rfl, b2⟩
    have D2 := Lib.hid (below_more D1.out b2)
    clear b1 b2
    go_wp2_with fail
    go_ret2
    exact ⟨rfl, D2.out⟩
  rw [hm] at C2
  rcases canC_no h with h | h | h | ⟨h0, h1, h⟩
  · rw [h] at hm
    cases hm
  · generalize l.length = L at *
    clear hv hl hm hlc hcm
    go_enter Try.func77, Try.ntmps77
    go_wp2_with fail
    refine (C1.out).mono ?_; rintro e w1 ⟨rfl, b1⟩
    have D1 := Lib.hid b1
    go_wp2_with fail
    refine (C2.out w1 D1.out).mono ?_; rintro e w2 ⟨rfl, b2⟩
    have D2 := Lib.hid (below_more D1.out b2)
    clear b1 b2
    go_wp2_with fail
    go_ret2
    exact ⟨rfl, D2.out⟩
  · have h2 : ¬ i < 0 := by omega
    have h3 : i ≥ (l.length : Int) := h
    generalize l.length = L at *
    clear hv hl hm hlc hcm h
    go_enter Try.func77, Try.ntmps77
    go_wp2_with fail
    refine (C1.out).mono ?_; rintro e w1 ⟨rfl, b1⟩
    have D1 := Lib.hid b1
    go_wp2_with fail
    refine (C2.out w1 D1.out).mono ?_; rintro e w2 ⟨rfl, b2⟩
    have D2 := Lib.hid (below_more D1.out b2)
    clear b1 b2
    go_wp2_with fail
    go_ret2
    exact ⟨rfl, D2.out⟩
  · obtain ⟨k, rfl⟩ : ∃ k : Nat, i = k := ⟨i.toNat, by omega⟩
    have h2 : ¬ (k : Int) < 0 := by omega
    have h3 : ¬ (k : Int) ≥ (l.length : Int) := by omega
    have h4 : ¬ (l.length : Int) ≤ (k : Int) := by omega
    have hk : k < l.length := by omega
    have HX := Lib.hid (fun (w' : World) (hb : Below w.heap.size w w') => blk_at (H0.out w' hb) (Nat.lt_of_le_of_lt (Nat.zero_le _) hk))
    have hwf := (ra_ok hv).at_ hk
    have HK := Lib.hid hk
    have hB : bAt l (k : Int) = l.getD k default := by rw [bAt, Int.toNat_natCast]
    rw [hB] at h
    obtain ⟨⟨a, s, u⟩, hb⟩ : ∃ c, l.getD k default = c := ⟨_, rfl⟩
    rw [hb] at h hwf
    simp only at h
    have HB := Lib.hid hb
    have HW := Lib.hid hwf
    clear hv hl hm hlc hcm hk h0 hB hb hwf
    go_enter Try.func77, Try.ntmps77
    go_wp2_with fail
    refine (C1.out).mono ?_; rintro e w1 ⟨rfl, b1⟩
    have D1 := Lib.hid b1
    go_wp2_with fail
    refine (C2.out w1 D1.out).mono ?_; rintro e w2 ⟨rfl, b2⟩
    have D2 := Lib.hid (below_more D1.out b2)
    clear b1 b2
    obtain ⟨b, off, rfl, _, hx⟩ := HX.out w2 D2.out
    obtain ⟨hld, _, hs, hu, _⟩ := hx k HK.out
    rw [HB.out] at hld hu hs
    have hu : w2.cell? ⟨b, off + k * 3 + 2, none⟩ = some (.bool u) := hu
    have hs : w2.cell? ⟨b, off + k * 3 + 1, none⟩ = some (.int .i64 s) := hs
    clear hx
    cases u with
    | true =>
      clear h
      generalize l.length = L at *
      go_wp2_with fail
      go_ret2
      exact ⟨rfl, D2.out⟩
    | false =>
      have h : takN s n = 0 := by
        rcases h with h | h
        · cases h
        · exact h
      have C3 := Lib.hid (rtakes_is s n 0 HW.out.ws h w2)
      clear h
      generalize l.length = L at *
      go_wp2_with fail
      refine (C3.out).mono ?_; rintro e w' ⟨rfl, rfl⟩
      go_wp2_with fail
      go_ret2
      exact ⟨rfl, D2.out⟩

set_option maxHeartbeats 2000000 in
theorem rcarved_yes (l : List Bk) (i n : Int) (v : Value) (w : World) (hv : RA blkE w v l) (hl : l.length ≤ 1000) (h : canC l i n = true) :
    Calls Try.prog 77 #[v, .int .i64 i, .int .i64 n] w fun e w' => (∃ u, e = .returned (.tuple #[u, .bool true]) ∧ OwnA blkE w.heap.size w' u (crvF l i n)) ∧ Below w.heap.size w w' := by
  have C1 := Lib.hid (rsizes_is l v w hv hl)
  have C2 := Lib.hid (fun (w' : World) (hb : Below w.heap.size w w') => rmay_is (szR l) l v (mayS l) w' (ra_below hv hb) hl (may_szR l))
  have H0 := Lib.hid (fun (w' : World) (hb : Below w.heap.size w w') => ra_below hv hb)
  obtain ⟨p, cap, rfl, hlc, hcm⟩ := ra_shape hv
  obtain ⟨hm, h0, h1, hu, ht⟩ := canC_yes.1 h
  have hz := mayF_sizes (mayL_yes.1 hm).2 _ (bAt_mem h0 h1)
  have hz2 := (mayL_yes.1 hm).1
  rw [hm] at C2
  generalize szR l = z at *
  obtain ⟨k, rfl⟩ : ∃ k : Nat, i = k := ⟨i.toNat, by omega⟩
  have hc : crvF l k n = l.take k ++ (prtB (bAt l k) n ++ l.drop (k + 1)) := by rw [crvF, if_pos h, Int.toNat_natCast]
  rw [hc]
  have hk : k < l.length := by omega
  have hB : bAt l (k : Int) = l.getD k default := by rw [bAt, Int.toNat_natCast]
  have hwf := (ra_ok hv).at_ hk
  rw [hB] at hu ht hz ⊢
  obtain ⟨⟨a, s, u⟩, hb⟩ : ∃ c, l.getD k default = c := ⟨_, rfl⟩
  rw [hb] at hu ht hwf hz ⊢
  simp only at hu ht hz
  subst hu
  obtain ⟨b, off, rfl, _, _⟩ := blk_at hv (by omega)
  have HX : Hid (∀ w', Below w.heap.size w w' → w'.cell? ⟨b, off + k * 3, none⟩ = some (.int .i64 a) ∧ w'.cell? ⟨b, off + k * 3 + 1, none⟩ = some (.int .i64 s) ∧ w'.cell? ⟨b, off + k * 3 + 2, none⟩ = some (.bool false)) := Lib.hid fun w' hb' => by
    obtain ⟨_, _, e, _, hx⟩ := blk_at (H0.out w' hb') (by omega)
    cases e
    obtain ⟨_, x1, x2, x3, _⟩ := hx k hk
    rw [hb] at x1 x2 x3
    exact ⟨x1, x2, x3⟩
  obtain ⟨⟨s1, s2⟩, a1, a2⟩ := hz
  obtain ⟨q1, q2, q3⟩ := hz2
  obtain ⟨t, hte⟩ : ∃ t, takN s n = t := ⟨_, rfl⟩
  obtain ⟨t1, t2, t3, t4⟩ := takN_some ht
  rw [hte] at ht t2 t3 t4
  have HS : Hid (2 ≤ s ∧ s ≤ 512 ∧ 0 ≤ a ∧ a ≤ 512 ∧ 2 ≤ t ∧ t ≤ s) := Lib.hid ⟨s1, s2, a1, by omega, by omega, t3⟩
  have C3 := Lib.hid (fun w => rtakes_is s n t hwf.ws hte w)
  have n1 : (t == 0) = false := beq_eq_false_iff_ne.2 ht
  obtain ⟨K1, hK1⟩ : ∃ x, k + 1 = x := ⟨_, rfl⟩
  rw [hK1]
  have j1 : IntKind.i64.wrap ((k : Int) + 1) = (K1 : Int) := by rw [show (k : Int) + 1 = (K1 : Int) by omega]; exact i64_nat _ (by omega)
  have i1 : (K1 : Int) ≤ (l.length : Int) := by omega
  have i2 : (k : Int) ≤ (cap : Int) := by omega
  have i3 : (K1 : Int) ≤ (cap : Int) := by omega
  have i4 : ¬ cap = 0 := by omega
  have h2 : ¬ (k : Int) < 0 := by omega
  have h3 : ¬ (k : Int) ≥ (l.length : Int) := by omega
  have h4 : ¬ (l.length : Int) ≤ (k : Int) := by omega
  obtain ⟨q, hq⟩ : ∃ q : Addr, q = if cap = K1 then ⟨b, off, none⟩ else ⟨b, off + K1 * 3, none⟩ := ⟨_, rfl⟩
  have HP : Hid (∀ w', Below w.heap.size w w' → RA blkE w' (.slice (some ⟨b, off, none⟩) k cap) (l.take k) ∧ RA blkE w' (.slice (some q) (l.length - K1) (cap - K1)) (l.drop K1)) := Lib.hid fun w' hb => by
    unfold maxLen at hcm
    refine ⟨?_, ?_⟩
    · have := ra_take (H0.out w' hb) k
      rwa [Nat.min_eq_left (by omega)] at this
    · by_cases hlt : K1 < l.length
      · have := ra_drop (H0.out w' hb) hlt
        rw [if_neg (by omega)] at hq
        rw [hq]; exact this
      · rw [List.drop_eq_nil_of_le (by omega), show l.length - K1 = 0 by omega]
        exact ⟨_, _, rfl, Nat.zero_le _, by unfold maxLen; omega, (fun _ h => by cases h), .inl rfl⟩
  have N1 : Hid (([] : List Bk).length + (l.take k).length ≤ 2000) := Lib.hid (by rw [List.length_take]; simp; omega)
  have N2 : Hid (([] ++ l.take k).length + [(⟨a, t, true⟩ : Bk)].length ≤ 2000) := Lib.hid (by rw [List.nil_append, List.length_take]; simp; omega)
  have N3 : Hid ((([] ++ l.take k) ++ [(⟨a, t, true⟩ : Bk)]).length + [(⟨a + t, s - t, false⟩ : Bk)].length ≤ 2000) := Lib.hid (by rw [List.nil_append, List.length_append, List.length_take]; simp; omega)
  have N4 : Hid ((([] ++ l.take k) ++ [(⟨a, t, true⟩ : Bk)]).length + (l.drop K1).length ≤ 2000) := Lib.hid (by rw [List.nil_append, List.length_append, List.length_take, List.length_drop]; simp; omega)
  have N5 : Hid (((([] ++ l.take k) ++ [(⟨a, t, true⟩ : Bk)]) ++ [(⟨a + t, s - t, false⟩ : Bk)]).length + (l.drop K1).length ≤ 2000) := Lib.hid (by rw [List.nil_append, List.length_append, List.length_append, List.length_take, List.length_drop]; simp; omega)
  have R1 : Hid (∀ w1 : World, RA blkE (w1.alloc (.cells (bc ⟨a, t, true⟩) 72)) (.slice (some ⟨w1.heap.size, 0, none⟩) 1 1) [⟨a, t, true⟩]) := Lib.hid fun w1 => (blk_one w1 (c := ⟨a, t, true⟩) (Bk.wf_of (by have := HS.out; simp only; omega) (by have := HS.out; simp only; omega) (by have := HS.out; simp only; omega) (by have := HS.out; simp only; omega))).ra
  have R2 : Hid (∀ w1 : World, RA blkE (w1.alloc (.cells (bc ⟨a + t, s - t, false⟩) 72)) (.slice (some ⟨w1.heap.size, 0, none⟩) 1 1) [⟨a + t, s - t, false⟩]) := Lib.hid fun w1 => (blk_one w1 (c := ⟨a + t, s - t, false⟩) (Bk.wf_of (by have := HS.out; simp only; omega) (by have := HS.out; simp only; omega) (by have := HS.out; simp only; omega) (by have := HS.out; simp only; omega))).ra
  have HPR : Hid ((t < s → prtB ⟨a, s, false⟩ n = [⟨a, t, true⟩, ⟨a + t, s - t, false⟩]) ∧ (¬ t < s → prtB ⟨a, s, false⟩ n = [⟨a, t, true⟩])) := Lib.hid ⟨fun e => by
    rw [prtB, if_neg (by rw [hte]; simp only; omega)]
    simp only [hte], fun e => by
    rw [prtB, if_pos (by rw [hte]; simp only; omega)]
    have : t = s := by omega
    rw [this]⟩
  have j2 : IntKind.i64.wrap (a + t) = a + t := IntWalk.i64_in _ (by omega)
  have j3 : IntKind.i64.wrap (s - t) = s - t := IntWalk.i64_in _ (by omega)
  obtain ⟨T, hT⟩ : ∃ T, l.take k = T := ⟨_, rfl⟩
  obtain ⟨U, hU⟩ : ∃ T, l.drop K1 = T := ⟨_, rfl⟩
  rw [hT] at HP N1 N2 N3 N4 N5 ⊢
  rw [hU] at HP N4 N5 ⊢
  clear hT hU hv hl h hc hlc hcm hk h0 hB hb hwf s1 s2 a1 a2 q1 q2 q3 hm h1 t1 t2 t3 t4 ht hte hK1 H0
  generalize l.length = L at *
  have SZ : Hid (∀ x : World, Below w.heap.size w x → w.heap.size ≤ x.heap.size) := Lib.hid fun _ h => h.size
  have GR : Hid (∀ (x y : World) (r : Option Nat), Below w.heap.size w x → x.grownBy y r → r = none → Below w.heap.size w y) := Lib.hid fun x y r h g e => by subst e; exact h.grown g h.size (fun k hk => by cases hk)
  go_enter Try.func77, Try.ntmps77
  go_wp2_with fail
  refine (C1.out).mono ?_; rintro e w1 ⟨rfl, b1⟩
  have D1 := Lib.hid b1
  go_wp2_with fail
  refine (C2.out w1 D1.out).mono ?_; rintro e w2 ⟨rfl, b2⟩
  have D2 := Lib.hid (below_more D1.out b2)
  clear b1 b2
  obtain ⟨x1, x2, x3⟩ := HX.out w2 D2.out
  go_wp2_with fail
  refine (C3.out w2).mono ?_; rintro e w' ⟨rfl, rfl⟩
  go_wp2_with fail
  refine (C3.out w2).mono ?_; rintro e w' ⟨rfl, rfl⟩
  go_wp2_with fail
  go_region_law (first
    | (refine step_blk (o := ⟨some 52, _, _, _, _, _⟩) rfl (.const (.slice none 0 0)) (.tmp 51) rfl w.heap.size (.slice none 0 0) [] (by simp [Act.eval]) (own_nil_a _ _ _) (.slice (some ⟨b, off, none⟩) k cap) T (by simp [Act.eval, Act.put]) (HP.out _ (by repeat' (first | (with_reducible exact D2.out) | (with_reducible refine Below.drew ?_) | (with_reducible refine bal ?_)))).1 N1.out (SZ.out _ (by repeat' (first | (with_reducible exact D2.out) | (with_reducible refine Below.drew ?_) | (with_reducible refine bal ?_)))) ?_
       intro vb wb ob gb _
       have OB := Lib.hid ob
       have GB : Hid (Below w.heap.size w wb) := Lib.hid (GR.out _ _ _ (by repeat' (first | (with_reducible exact D2.out) | (with_reducible refine Below.drew ?_) | (with_reducible refine bal ?_))) gb rfl)
       have GX := Lib.hid ((Below.refl _ _).grown gb (Nat.le_refl _) (by intro k hk; cases hk))
       obtain ⟨y1, y2, y3⟩ := HX.out wb GB.out
       clear ob)
    | (refine step_blk (o := ⟨some 61, _, _, _, _, _⟩) rfl (.tmp 52) (.tmp 60) rfl w.heap.size vb ([] ++ T) (by simp [Act.eval]) (OB.out.alloc _) (.slice (some ⟨wb.heap.size, 0, none⟩) 1 1) [⟨a, t, true⟩] (by simp [Act.eval]) (R1.out wb) N2.out (SZ.out _ (bal GB.out)) ?_
       intro vc wc oc gc _
       have OC := Lib.hid oc
       have GC := Lib.hid (below_app (bal GB.out) (SZ.out _ (bal GB.out)) (OB.out.alloc _) gc)
       obtain ⟨z1, z2, z3⟩ := HX.out wc GC.out
       clear oc gc)
    | (refine step_blk (o := ⟨some 61, _, _, _, _, _⟩) rfl (.tmp 52) (.tmp 60) rfl w.heap.size vb ([] ++ T) (by simp [Act.eval]) OB.out (.slice (some ⟨w2.heap.size, 0, none⟩) 1 1) [⟨a, t, true⟩] (by simp [Act.eval]) (ra_below (ra_below (R1.out w2) ((Below.refl _ _).drew)) GX.out) N2.out (SZ.out _ GB.out) ?_
       intro vc wc oc gc _
       have OC := Lib.hid oc
       have GC := Lib.hid (below_app GB.out (SZ.out _ GB.out) OB.out gc)
       obtain ⟨z1, z2, z3⟩ := HX.out wc GC.out
       clear oc gc))
  all_goals
    clear C1 C2 C3 R1 x1 x2 x3 gb
    by_cases e : t < s
    · go_wp2_with fail
      go_region_law (first
        | (refine step_blk (o := ⟨some 86, _, _, _, _, _⟩) rfl (.tmp 69) (.tmp 85) rfl w.heap.size vc (([] ++ T) ++ [(⟨a, t, true⟩ : Bk)]) (by simp [Act.eval]) ((OC.out.alloc _).drew) (.slice (some ⟨wc.heap.size, 0, none⟩) 1 1) [⟨a + t, s - t, false⟩] (by simp [Act.eval]) (ra_below (R2.out wc) ((Below.refl _ _).drew)) N3.out (SZ.out _ ((bal GC.out).drew)) ?_
           intro vd wd od gd _
           have OD := Lib.hid od
           have GD := Lib.hid (below_app ((bal GC.out).drew) (SZ.out _ ((bal GC.out).drew)) ((OC.out.alloc _).drew) gd)
           clear od gd))
      all_goals
        by_cases e9 : cap = K1
        · rw [if_pos e9] at hq
          subst hq
          have e2 : K1 = cap := e9.symm
          subst e2
          rw [Nat.sub_self] at HP
          go_wp2_with (at_builtin; refine app_blk (o := ⟨some 92, _, _, _, _, _⟩) rfl (.tmp 87) (.tmp 91) rfl w.heap.size vd ((([] ++ T) ++ [(⟨a, t, true⟩ : Bk)]) ++ [(⟨a + t, s - t, false⟩ : Bk)]) rfl OD.out _ U rfl (HP.out _ GD.out).2 N5.out (SZ.out _ GD.out) ?_)
          intro ve we oe ge _
          have OE : Hid (OwnA blkE w.heap.size we ve (T ++ (prtB ⟨a, s, false⟩ n ++ U))) := Lib.hid (by rw [HPR.out.1 e]; simpa using oe)
          have GE := Lib.hid (below_app GD.out (SZ.out _ GD.out) OD.out ge)
          clear oe ge
          go_wp2
          go_ret2
          exact ⟨⟨_, rfl, OE.out⟩, GE.out⟩
        · rw [if_neg e9] at hq
          subst hq
          go_wp2_with (at_builtin; refine app_blk (o := ⟨some 92, _, _, _, _, _⟩) rfl (.tmp 87) (.tmp 91) rfl w.heap.size vd ((([] ++ T) ++ [(⟨a, t, true⟩ : Bk)]) ++ [(⟨a + t, s - t, false⟩ : Bk)]) rfl OD.out _ U rfl (HP.out _ GD.out).2 N5.out (SZ.out _ GD.out) ?_)
          intro ve we oe ge _
          have OE : Hid (OwnA blkE w.heap.size we ve (T ++ (prtB ⟨a, s, false⟩ n ++ U))) := Lib.hid (by rw [HPR.out.1 e]; simpa using oe)
          have GE := Lib.hid (below_app GD.out (SZ.out _ GD.out) OD.out ge)
          clear oe ge
          go_wp2
          go_ret2
          exact ⟨⟨_, rfl, OE.out⟩, GE.out⟩
    · clear N3 N5 R2
      have e0 : ¬ t < s := e
      by_cases e9 : cap = K1
      · rw [if_pos e9] at hq
        subst hq
        have e2 : K1 = cap := e9.symm
        subst e2
        rw [Nat.sub_self] at HP
        go_wp2_with (at_builtin; refine app_blk (o := ⟨some 92, _, _, _, _, _⟩) rfl (.tmp 87) (.tmp 91) rfl w.heap.size vc (([] ++ T) ++ [(⟨a, t, true⟩ : Bk)]) rfl OC.out _ U rfl (HP.out _ GC.out).2 N4.out (SZ.out _ GC.out) ?_)
        intro ve we oe ge _
        have OE : Hid (OwnA blkE w.heap.size we ve (T ++ (prtB ⟨a, s, false⟩ n ++ U))) := Lib.hid (by rw [HPR.out.2 e]; simpa using oe)
        have GE := Lib.hid (below_app GC.out (SZ.out _ GC.out) OC.out ge)
        clear oe ge
        go_wp2
        go_ret2
        exact ⟨⟨_, rfl, OE.out⟩, GE.out⟩
      · rw [if_neg e9] at hq
        subst hq
        go_wp2_with (at_builtin; refine app_blk (o := ⟨some 92, _, _, _, _, _⟩) rfl (.tmp 87) (.tmp 91) rfl w.heap.size vc (([] ++ T) ++ [(⟨a, t, true⟩ : Bk)]) rfl OC.out _ U rfl (HP.out _ GC.out).2 N4.out (SZ.out _ GC.out) ?_)
        intro ve we oe ge _
        have OE : Hid (OwnA blkE w.heap.size we ve (T ++ (prtB ⟨a, s, false⟩ n ++ U))) := Lib.hid (by rw [HPR.out.2 e]; simpa using oe)
        have GE := Lib.hid (below_app GC.out (SZ.out _ GC.out) OC.out ge)
        clear oe ge
        go_wp2
        go_ret2
        exact ⟨⟨_, rfl, OE.out⟩, GE.out⟩
end Go.Proofs.Ytkpefnjohdjejaa

/-
  Contracts of the reference: the words that are written, whether edits are the same, edits written into words.
-/
namespace Go.Proofs.Ytkpefnjohdjejaa
set_option maxRecDepth 100000
open Go.RowKit

theorem rcarved_is (l : List Bk) (i n : Int) (v : Value) (w : World) (hv : RA blkE w v l) (hl : l.length ≤ 1000) (r : Bool) (h : canC l i n = r) :
    Calls Try.prog 77 #[v, .int .i64 i, .int .i64 n] w fun e w' => (∃ u, e = .returned (.tuple #[u, .bool r]) ∧ OwnA blkE w.heap.size w' u (crvF l i n)) ∧ Below w.heap.size w w' := by
  cases r with
  | false => exact (rcarved_no l i n v w hv hl h).mono fun e w' ⟨h1, h2⟩ => ⟨⟨_, h1, by rw [crvF_no h]; exact own_nil_a _ _ _⟩, h2⟩
  | true => exact rcarved_yes l i n v w hv hl h

theorem rise_hd (a hd : Int) (k : Nat) : rise a (hd :: List.replicate (k + 1) 0) = rise a (hd :: List.replicate k 0) ++ [⟨a + ((k + 1 : Nat) : Int), 0⟩] := by
  rw [List.replicate_succ', ← List.cons_append, rise_app, List.length_cons, List.length_replicate]
  rfl

set_option maxHeartbeats 2000000 in
theorem rcedits_is (l : List Bk) (i n : Int) (v : Value) (w : World) (hv : RA blkE w v l) (hl : l.length ≤ 1000) :
    Calls Try.prog 54 #[v, .int .i64 i, .int .i64 n] w fun e w' => (∃ u, e = .returned u ∧ OwnA edE w.heap.size w' u (cedF l i n)) ∧ Below w.heap.size w w' := by
  cases h : canC l i n with
  | false =>
    have C1 := Lib.hid (rcarved_is l i n v w hv hl false h)
    rw [cedF_no h]
    obtain ⟨p, cap, rfl, _⟩ := ra_shape hv
    generalize l.length = L at *
    clear hv hl h
    go_enter Try.func54, Try.ntmps54
    go_wp2_with fail
    refine (C1.out).mono ?_; rintro e w1 ⟨⟨u1, rfl, _⟩, b1⟩
    have D1 := Lib.hid b1
    clear b1
    go_wp2_with fail
    go_ret
    exact ⟨⟨_, rfl, own_nil_a _ _ _⟩, D1.out⟩
  | true =>
    have C1 := Lib.hid (rcarved_is l i n v w hv hl true h)
    have hc : cedF l i n = edF (prtB (bAt l i) n) := by rw [cedF, if_pos h]
    have H0 := Lib.hid (fun (w' : World) (hb : Below w.heap.size w w') => ra_below hv hb)
    obtain ⟨p, cap, rfl, _⟩ := ra_shape hv
    obtain ⟨hm, h0, h1, hu, ht⟩ := canC_yes.1 h
    have hz := mayF_sizes (mayL_yes.1 hm).2 _ (bAt_mem h0 h1)
    have hz2 := (mayL_yes.1 hm).1
    obtain ⟨k0, rfl⟩ : ∃ k : Nat, i = k := ⟨i.toNat, by omega⟩
    rw [hc, edF_prt ht]
    have hk : k0 < l.length := by omega
    have hB : bAt l (k0 : Int) = l.getD k0 default := by rw [bAt, Int.toNat_natCast]
    have hwf := (ra_ok hv).at_ hk
    rw [hB] at hu ht hz ⊢
    obtain ⟨⟨a, s, u⟩, hb⟩ : ∃ c, l.getD k0 default = c := ⟨_, rfl⟩
    rw [hb] at hu ht hwf hz ⊢
    simp only at hu ht hz ⊢
    obtain ⟨b, off, rfl, _, _⟩ := blk_at hv (by omega)
    have HX : Hid (∀ w', Below w.heap.size w w' → w'.cell? ⟨b, off + k0 * 3, none⟩ = some (.int .i64 a) ∧ w'.cell? ⟨b, off + k0 * 3 + 1, none⟩ = some (.int .i64 s)) := Lib.hid fun w' hb' => by
      obtain ⟨_, _, e, _, hx⟩ := blk_at (H0.out w' hb') (by omega)
      cases e
      obtain ⟨_, x1, x2, _, _⟩ := hx k0 hk
      rw [hb] at x1 x2
      exact ⟨x1, x2⟩
    obtain ⟨⟨s1, s2⟩, a1, a2⟩ := hz
    obtain ⟨q1, q2, q3⟩ := hz2
    obtain ⟨t', hte⟩ : ∃ t, takN s n = t := ⟨_, rfl⟩
    obtain ⟨t1, t2, t3, t4⟩ := takN_some ht
    rw [hte] at ht t2 t3 t4
    obtain ⟨t, rfl⟩ : ∃ t : Nat, t' = t := ⟨t'.toNat, by omega⟩
    obtain ⟨z, rfl⟩ : ∃ z : Nat, a = z := ⟨a.toNat, by omega⟩
    obtain ⟨m, rfl⟩ : ∃ m : Nat, s = m := ⟨s.toNat, by omega⟩
    have HS : Hid (2 ≤ m ∧ m ≤ 512 ∧ z ≤ 512 ∧ 2 ≤ t ∧ t ≤ m) := Lib.hid (by omega)
    have C3 := Lib.hid (fun w => rtakes_is m n t hwf.ws hte w)
    have CW := Lib.hid (fun n u w => rwordb_is n u w)
    obtain ⟨hd, hhd⟩ : ∃ x, hdB t true = x := ⟨_, rfl⟩
    obtain ⟨he, hhe⟩ : ∃ x, hdB ((m : Int) - t) false = x := ⟨_, rfl⟩
    have hin := hdB_in t true
    have hin2 := hdB_in ((m : Int) - t) false
    rw [hhd] at hin
    rw [hhe] at hin2
    have CW1 : Hid (∀ w, Calls Try.prog 39 #[.int .i64 t, .bool true] w fun e w' => e = .returned (.int .u64 hd) ∧ w = w') := Lib.hid fun w => by rw [← hhd]; exact CW.out t true w
    obtain ⟨D, hD⟩ : ∃ D : Int, (m : Int) - t = D := ⟨_, rfl⟩
    have CW2 : Hid (∀ w, Calls Try.prog 39 #[.int .i64 D, .bool false] w fun e w' => e = .returned (.int .u64 he) ∧ w = w') := Lib.hid fun w => by rw [← hhe, ← hD]; exact CW.out _ false w
    have hTV : takV ⟨z, m, u⟩ n = (hd :: List.replicate (t - 1) 0) ++ (if t = m then [] else [he]) := by
      rw [takV]
      simp only [hte, hhd, hhe]
      have e1 : ((t : Int) - 1).toNat = t - 1 := by omega
      rw [e1]
      by_cases e : t = m
      · rw [if_pos e, if_pos (by omega)]; rfl
      · rw [if_neg e, if_neg (by omega)]; rfl
    have HT : Hid ((t = m → rise (z : Int) (takV ⟨z, m, u⟩ n) = rise (z : Int) (hd :: List.replicate (t - 1) 0)) ∧ (¬ t = m → rise (z : Int) (takV ⟨z, m, u⟩ n) = rise (z : Int) (hd :: List.replicate (t - 1) 0) ++ [⟨((z + t : Nat) : Int), he⟩])) := Lib.hid ⟨fun e => by rw [hTV, if_pos e, List.append_nil], fun e => by
      rw [hTV, if_neg e, rise_app, List.length_cons, List.length_replicate]
      congr 2
      first | omega | (rw [show (z : Int) + ((t - 1 + 1 : Nat) : Int) = ((z + t : Nat) : Int) by omega]; rfl)⟩
    have j1 : IntKind.i64.wrap ((z : Int) + (t : Int)) = ((z + t : Nat) : Int) := by rw [show (z : Int) + (t : Int) = ((z + t : Nat) : Int) by omega]; exact i64_nat _ (by omega)
    have j2 : IntKind.i64.wrap ((m : Int) - (t : Int)) = D := by rw [hD]; exact IntWalk.i64_in _ (by omega)
    have h2 : ¬ (k0 : Int) < 0 := by omega
    have h3 : ¬ (k0 : Int) ≥ (l.length : Int) := by omega
    have h4 : ¬ (l.length : Int) ≤ (k0 : Int) := by omega
    obtain ⟨ZT, hZT⟩ : ∃ x, z + t = x := ⟨_, rfl⟩
    rw [hZT] at HT j1
    have O1 : Hid (∀ w1 : World, Below w.heap.size w w1 → OwnA edE w.heap.size (w1.alloc (.cells (ec ⟨z, hd⟩) 114)).drew (.slice (some ⟨w1.heap.size, 0, none⟩) 1 1) (rise (z : Int) (hd :: List.replicate 0 0))) := Lib.hid fun w1 hb => ((ed_one w1 (c := ⟨z, hd⟩) (Ed.wf_of (by simp only; omega) (by simp only; omega) hin.1 hin.2)).mono hb.size).drew
    have R1 : Hid (∀ (x : Nat) (w1 : World), x ≤ 2000 → RA edE (w1.alloc (.cells (ec ⟨x, 0⟩) 114)) (.slice (some ⟨w1.heap.size, 0, none⟩) 1 1) [⟨x, 0⟩]) := Lib.hid fun x w1 hx => (ed_one w1 (c := ⟨x, 0⟩) (Ed.wf_of (by simp only; omega) (by simp only; omega) (by simp only; omega) (by simp only; omega))).ra
    have R2 : Hid (∀ w1 : World, RA edE (w1.alloc (.cells (ec ⟨ZT, he⟩) 114)).drew (.slice (some ⟨w1.heap.size, 0, none⟩) 1 1) [⟨ZT, he⟩]) := Lib.hid fun w1 => ra_below (ed_one w1 (c := ⟨ZT, he⟩) (Ed.wf_of (by simp only; omega) (by simp only; omega) hin2.1 hin2.2)).ra ((Below.refl _ _).drew)
    generalize rise (z : Int) (takV ⟨z, m, u⟩ n) = RT at *
    have SZ : Hid (∀ x : World, Below w.heap.size w x → w.heap.size ≤ x.heap.size) := Lib.hid fun _ h => h.size
    clear CW hTV hhd hhe hin hin2 hD hv hl h hc hk h0 hB hb hwf s1 s2 a1 a2 q1 q2 q3 hm h1 t1 t2 t3 t4 ht hte H0 hu hZT
    generalize l.length = L at *
    go_enter Try.func54, Try.ntmps54
    go_wp2_with fail
    refine (C1.out).mono ?_; rintro e w1 ⟨⟨u1, rfl, _⟩, b1⟩
    have D1 := Lib.hid b1
    obtain ⟨x1, x2⟩ := HX.out w1 D1.out
    clear b1
    go_wp2_with fail
    refine (C3.out w1).mono ?_; rintro e w' ⟨rfl, rfl⟩
    go_wp2_with fail
    go_region_law (first
      | (go_simp; go_at_call 39; refine (CW1.out _).mono ?_; rintro e wq ⟨rfl, rfl⟩))
    all_goals
      have OX := Lib.hid (O1.out w1 D1.out)
      have DX : Hid (Below w.heap.size w (w1.alloc (.cells (ec ⟨z, hd⟩) 114)).drew) := Lib.hid ((bal D1.out).drew)
      clear C1 C3 CW1 x1 x2
      go_wp2
      go_loopw [10, 11] (fun e i wr => ∃ k : Nat, k + 1 ≤ t ∧ i = .int .i64 ((k + 1 : Nat) : Int) ∧ Hid (OwnA edE w.heap.size wr e (rise (z : Int) (hd :: List.replicate k 0)) ∧ Below w.heap.size w wr)) (fun _ i _ => t - (intOf i).toNat)
      case atStart => exact ⟨0, by have := HS.out; omega, by go_num, Lib.hid ⟨OX.out, DX.out⟩⟩
      case round =>
        obtain ⟨k, hk, rfl, H⟩ := hrel
        obtain ⟨x1, x2⟩ := HX.out wr H.out.2
        obtain ⟨K, hK⟩ : ∃ x, k + 1 = x := ⟨_, rfl⟩
        rw [hK]
        by_cases hlt : K < t
        · have i1 : (K : Int) < (t : Int) := by omega
          have i3 : IntKind.i64.wrap ((K : Int) + 1) = ((K + 1 : Nat) : Int) := by rw [show (K : Int) + 1 = ((K + 1 : Nat) : Int) by omega]; exact i64_nat _ (by have := HS.out; omega)
          have i4 : IntKind.i64.wrap ((z : Int) + (K : Int)) = ((z + K : Nat) : Int) := by rw [show (z : Int) + (K : Int) = ((z + K : Nat) : Int) by omega]; exact i64_nat _ (by have := HS.out; omega)
          have hR := rise_hd (z : Int) hd k
          rw [hK] at hR
          obtain ⟨x, hx⟩ : ∃ x, z + K = x := ⟨_, rfl⟩
          rw [hx] at i4
          rw [show (z : Int) + ((K : Nat) : Int) = (x : Int) by omega] at hR
          have HR := Lib.hid hR
          have RX := Lib.hid (R1.out x wr (by have := HS.out; omega))
          have DW : Hid (Below w.heap.size w (wr.alloc (.cells (ec ⟨x, 0⟩) 114))) := Lib.hid (bal H.out.2)
          have NL : Hid ((rise (z : Int) (hd :: List.replicate k 0)).length + [(⟨x, 0⟩ : Ed)].length ≤ 4000) := Lib.hid (by rw [rise_length, List.length_cons, List.length_replicate]; simp; have := HS.out; omega)
          have OW : Hid (OwnA edE w.heap.size (wr.alloc (.cells (ec ⟨x, 0⟩) 114)) _ (rise (z : Int) (hd :: List.replicate k 0))) := Lib.hid (H.out.1.alloc _)
          have HK := Lib.hid (And.intro hK hlt)
          clear hR hx hk hK hlt
          go_wp2_with (at_builtin; refine app_ed rfl _ _ rfl w.heap.size _ (rise (z : Int) (hd :: List.replicate k 0)) rfl OW.out _ [⟨x, 0⟩] rfl RX.out NL (SZ.out _ DW.out) ?_)
          intro v' w' ho hg _
          have HN : Hid (OwnA edE w.heap.size w' v' (rise (z : Int) (hd :: List.replicate K 0)) ∧ Below w.heap.size w w') := Lib.hid ⟨by rw [HR.out]; exact ho, below_app DW.out (SZ.out _ DW.out) OW.out hg⟩
          clear ho hg
          go_wp2
          go_roundw
          case rel => exact ⟨K, by have := HK.out; omega, by go_num, HN⟩
          case measure => have := HK.out; simp [intOf]; omega
        · have i1 : ¬ (K : Int) < (t : Int) := by omega
          have ek : k = t - 1 := by omega
          have HO := H.out.1
          rw [ek] at HO
          have HO := Lib.hid HO
          have DR := Lib.hid H.out.2
          clear ek hK H hk hlt
          by_cases e : t = m
          · have i5 : ¬ (t : Int) < (m : Int) := by omega
            rw [← HT.out.1 e] at HO
            go_wp2
            go_ret
            exact ⟨⟨_, rfl, HO.out⟩, DR.out⟩
          · have i5 : (t : Int) < (m : Int) := by have := HS.out; omega
            have DW : Hid (Below w.heap.size w (wr.alloc (.cells (ec ⟨ZT, he⟩) 114)).drew) := Lib.hid ((bal DR.out).drew)
            have NL : Hid ((rise (z : Int) (hd :: List.replicate (t - 1) 0)).length + [(⟨ZT, he⟩ : Ed)].length ≤ 4000) := Lib.hid (by rw [rise_length, List.length_cons, List.length_replicate]; simp; have := HS.out; omega)
            have OW := Lib.hid ((HO.out.alloc (.cells (ec ⟨ZT, he⟩) 114)).drew)
            go_wp2_with fail
            go_region_law (first
              | (go_simp; go_at_call 39; refine (CW2.out _).mono ?_; rintro e wq ⟨rfl, rfl⟩)
              | (refine step_ed (o := ⟨some 78, _, _, _, _, _⟩) rfl (.tmp 60) (.tmp 77) rfl w.heap.size _ (rise (z : Int) (hd :: List.replicate (t - 1) 0)) (by simp [Act.eval]) OW.out (.slice (some ⟨wr.heap.size, 0, none⟩) 1 1) [⟨ZT, he⟩] (by simp [Act.eval]) (R2.out wr) NL (SZ.out _ DW.out) ?_
                 intro vb wb ob gb _
                 have OB : Hid (OwnA edE w.heap.size wb vb RT) := Lib.hid (by rw [HT.out.2 e]; exact ob)
                 have GB := Lib.hid (below_app DW.out (SZ.out _ DW.out) OW.out gb)
                 clear ob gb))
            all_goals
              go_wp2
              go_ret
              exact ⟨⟨_, rfl, OB.out⟩, GB.out⟩
end Go.Proofs.Ytkpefnjohdjejaa

/-
  Contract of the reference's Merged: the blocks behind the giving back, and where the free one is.
-/
namespace Go.Proofs.Ytkpefnjohdjejaa
set_option maxRecDepth 100000
open Go.ChangeShapes Go.WideShapes Go.ChangeAt Go.RowKit

set_option maxHeartbeats 1000000 in
theorem rmerged_no (l : List Bk) (i : Int) (v : Value) (w : World) (hv : RA blkE w v l) (hl : l.length ≤ 1000) (h : canM l i = false) :
    Calls Try.prog 79 #[v, .int .i64 i] w fun e w' => e = .returned (.tuple #[.slice none 0 0, .int .i64 0, .bool false]) ∧ Below w.heap.size w w' := by
  have C1 := Lib.hid (rsizes_is l v w hv hl)
  have C2 := Lib.hid (fun (w' : World) (hb : Below w.heap.size w w') => rmay_is (szR l) l v (mayS l) w' (ra_below hv hb) hl (may_szR l))
  have H0 := Lib.hid (fun (w' : World) (hb : Below w.heap.size w w') => ra_below hv hb)
  obtain ⟨p, cap, rfl, hlc, hcm⟩ := ra_shape hv
  generalize szR l = z at *
  cases hm : mayS l
  · rw [hm] at C2
    generalize l.length = L at *
    clear hv hl h hlc hcm
    go_enter Try.func79, Try.ntmps79
    go_wp2_with fail
    refine (C1.out).mono ?_; rintro e w' ⟨rfl, b1⟩
    have D1 := Lib.hid b1
    go_wp2_with fail
    refine (C2.out _ D1.out).mono ?_; rintro e w2 ⟨rfl, b2⟩
    have D2 := Lib.hid (below_more D1.out b2)
    clear b1 b2
    go_wp2_with fail
    go_ret3
    exact ⟨rfl, D2.out⟩
  rw [hm] at C2
  rcases canM_no h with h | h | h | ⟨h0, h1, h⟩
  · rw [h] at hm
    cases hm
  · generalize l.length = L at *
    clear hv hl hm hlc hcm
    go_enter Try.func79, Try.ntmps79
    go_wp2_with fail
    refine (C1.out).mono ?_; rintro e w' ⟨rfl, b1⟩
    have D1 := Lib.hid b1
    go_wp2_with fail
    refine (C2.out _ D1.out).mono ?_; rintro e w2 ⟨rfl, b2⟩
    have D2 := Lib.hid (below_more D1.out b2)
    clear b1 b2
    go_wp2_with fail
    go_ret3
    exact ⟨rfl, D2.out⟩
  · have h2 : ¬ i < 0 := by omega
    have h3 : i ≥ (l.length : Int) := h
    generalize l.length = L at *
    clear hv hl hm hlc hcm h
    go_enter Try.func79, Try.ntmps79
    go_wp2_with fail
    refine (C1.out).mono ?_; rintro e w' ⟨rfl, b1⟩
    have D1 := Lib.hid b1
    go_wp2_with fail
    refine (C2.out _ D1.out).mono ?_; rintro e w2 ⟨rfl, b2⟩
    have D2 := Lib.hid (below_more D1.out b2)
    clear b1 b2
    go_wp2_with fail
    go_ret3
    exact ⟨rfl, D2.out⟩
  · obtain ⟨k, rfl⟩ : ∃ k : Nat, i = k := ⟨i.toNat, by omega⟩
    have h2 : ¬ (k : Int) < 0 := by omega
    have h3 : ¬ (k : Int) ≥ (l.length : Int) := by omega
    have h4 : ¬ (l.length : Int) ≤ (k : Int) := by omega
    have hk : k < l.length := by omega
    have HX := Lib.hid (fun (w' : World) (hb : Below w.heap.size w w') => blk_at (H0.out w' hb) (Nat.lt_of_le_of_lt (Nat.zero_le _) hk))
    have HK := Lib.hid hk
    rw [bAt_nat] at h
    have HU := Lib.hid h
    clear hv hl hm hlc hcm hk h0 h
    go_enter Try.func79, Try.ntmps79
    go_wp2_with fail
    refine (C1.out).mono ?_; rintro e w' ⟨rfl, b1⟩
    have D1 := Lib.hid b1
    go_wp2_with fail
    refine (C2.out _ D1.out).mono ?_; rintro e w2 ⟨rfl, b2⟩
    have D2 := Lib.hid (below_more D1.out b2)
    clear b1 b2
    obtain ⟨b, off, rfl, _, hx⟩ := HX.out w2 D2.out
    obtain ⟨_, _, _, hu, _⟩ := hx k HK.out
    rw [HU.out] at hu
    clear hx
    generalize l.length = L at *
    go_wp2_with fail
    go_ret3
    exact ⟨rfl, D2.out⟩

theorem ahead_b (l : List Bk) (k : Nat) (hk : k < l.length) (hl : l.length ≤ 1000) : ∃ (K0 F : Nat) (f : Bool), frm l k = F ∧ (f = true → IntKind.i64.wrap ((k : Int) - 1) = (F : Int)) ∧ (f = false → k = F) ∧
    ((¬ (k : Int) > 0 ∧ f = false) ∨ ((k : Int) > 0 ∧ IntKind.i64.wrap ((k : Int) - 1) = (K0 : Int) ∧ K0 < l.length ∧ (l.getD K0 default).u = !f)) := by
  obtain ⟨K0, F, h, h1 | ⟨h1, h2, h3, h4 | h4⟩⟩ := ahead_of l k hk hl
  · exact ⟨K0, F, false, h, (fun e => by cases e), (fun _ => h1.2.symm), .inl ⟨h1.1, rfl⟩⟩
  · exact ⟨K0, F, false, h, (fun e => by cases e), (fun _ => h4.2.symm), .inr ⟨h1, h2, h3, h4.1⟩⟩
  · exact ⟨K0, F, true, h, (fun _ => by rw [h2, h4.2]), (fun e => by cases e), .inr ⟨h1, h2, h3, h4.1⟩⟩
theorem behind_b (l : List Bk) (k : Nat) (hk : k < l.length) (hl : l.length ≤ 1000) : ∃ (K1 T : Nat) (f : Bool), too l k = T ∧ IntKind.i64.wrap ((k : Int) + 1) = (K1 : Int) ∧ (f = true → IntKind.i64.wrap ((K1 : Int) + 1) = (T : Int)) ∧ (f = false → K1 = T) ∧
    ((¬ (K1 : Int) < (l.length : Int) ∧ f = false) ∨ ((K1 : Int) < (l.length : Int) ∧ K1 < l.length ∧ (l.getD K1 default).u = !f)) := by
  obtain ⟨K1, K2, T, h, _, j1, j2, h1 | ⟨h1, h3, h4 | h4⟩⟩ := behind_of l k hk hl
  · exact ⟨K1, T, false, h, j1, (fun e => by cases e), (fun _ => h1.2.symm), .inl ⟨h1.1, rfl⟩⟩
  · exact ⟨K1, T, false, h, j1, (fun e => by cases e), (fun _ => h4.2.symm), .inr ⟨h1, h3, h4.1⟩⟩
  · exact ⟨K1, T, true, h, j1, (fun _ => by rw [j2, h4.2]), (fun e => by cases e), .inr ⟨h1, h3, h4.1⟩⟩
theorem szs_drop {m : List Bk} {j : Nat} (h : j < m.length) : szs (m.drop j) = (m.getD j default).s + szs (m.drop (j + 1)) := by rw [getD_cut h, szs]

set_option maxHeartbeats 4000000 in
theorem rmerged_yes (l : List Bk) (k : Nat) (v : Value) (w : World) (hv : RA blkE w v l) (hl : l.length ≤ 1000) (h : canM l k = true) :
    Calls Try.prog 79 #[v, .int .i64 k] w fun e w' => (∃ u, e = .returned (.tuple #[u, .int .i64 (frm l k : Nat), .bool true]) ∧ OwnA blkE w.heap.size w' u (mrgF l k)) ∧ Below w.heap.size w w' := by
  have C1 := Lib.hid (rsizes_is l v w hv hl)
  have C2 := Lib.hid (fun (w' : World) (hb : Below w.heap.size w w') => rmay_is (szR l) l v (mayS l) w' (ra_below hv hb) hl (may_szR l))
  have H0 := Lib.hid (fun (w' : World) (hb : Below w.heap.size w w') => ra_below hv hb)
  obtain ⟨p, cap, rfl, hlc, hcm⟩ := ra_shape hv
  obtain ⟨hm, hk, hu⟩ := canM_nat h
  have hz := (mayL_yes.1 hm).2
  rw [hm] at C2
  generalize szR l = z at *
  obtain ⟨b, off, rfl, _, _⟩ := blk_at hv (by omega)
  have HX : Hid (∀ w', Below w.heap.size w w' → ∀ j, j < l.length → w'.cell? ⟨b, off + j * 3, none⟩ = some (.int .i64 (l.getD j default).a) ∧ w'.cell? ⟨b, off + j * 3 + 2, none⟩ = some (.bool (l.getD j default).u)) := Lib.hid fun w' hb' j hj => by
    obtain ⟨_, _, e, _, hx⟩ := blk_at (H0.out w' hb') (by omega)
    cases e
    exact ⟨(hx j hj).2.1, (hx j hj).2.2.2.1⟩
  obtain ⟨K0, F, f0, hF, hA1, hA2, hA⟩ := ahead_b l k hk hl
  obtain ⟨K1, T, f1, hT, j1, hB1, hB2, hB⟩ := behind_b l k hk hl
  have h2 : ¬ (k : Int) < 0 := by omega
  have h3 : ¬ (k : Int) ≥ (l.length : Int) := by omega
  have h4 : ¬ (l.length : Int) ≤ (k : Int) := by omega
  have HU := Lib.hid (And.intro hk hu)
  rw [mrgF_yes h, hF, hT]
  have hft := frm_too hk
  have HM := Lib.hid (fun (w' : World) (hb : Below w.heap.size w w') => ra_mid hk (H0.out w' hb))
  have hml := mid_length hk
  rw [hF, hT] at hft HM hml
  have HS : Hid (∀ j, j < (midB l k).length → ∃ n : Nat, ((midB l k).getD j default).s = n ∧ n ≤ 512) := Lib.hid fun j hj => by
    have hmem : (midB l k).getD j default ∈ l := mid_in hk _ (by rw [List.getD_eq_getElem?_getD, List.getElem?_eq_getElem hj]; exact List.getElem_mem _)
    obtain ⟨g1, g2⟩ := (mayF_sizes hz _ hmem).1
    exact ⟨((midB l k).getD j default).s.toNat, by omega, by omega⟩
  obtain ⟨howf, hos, hoa, hoa2⟩ := one_wf h
  have hz0 : szs ((midB l k).drop 0) = (oneB l k).s := rfl
  have hla : (l.getD F default).a = (oneB l k).a := by rw [← hF]; rfl
  have eo : oneB l k = ⟨(oneB l k).a, (oneB l k).s, false⟩ := rfl
  obtain ⟨a, ha⟩ : ∃ a, (oneB l k).a = a := ⟨_, rfl⟩
  obtain ⟨s, hs⟩ : ∃ a, (oneB l k).s = a := ⟨_, rfl⟩
  rw [ha, hs] at eo
  rw [eo] at howf ⊢
  rw [hs] at hz0
  rw [ha] at hla
  have HZ := Lib.hid hz0
  have HLA := Lib.hid hla
  obtain ⟨q, hq⟩ : ∃ q : Addr, q = if cap = T then ⟨b, off, none⟩ else ⟨b, off + T * 3, none⟩ := ⟨_, rfl⟩
  have HP : Hid (∀ w', Below w.heap.size w w' → RA blkE w' (.slice (some ⟨b, off, none⟩) F cap) (l.take F) ∧ RA blkE w' (.slice (some q) (l.length - T) (cap - T)) (l.drop T)) := Lib.hid fun w' hb => by
    unfold maxLen at hcm
    refine ⟨?_, ?_⟩
    · have := ra_take (H0.out w' hb) F
      rwa [Nat.min_eq_left (by omega)] at this
    · by_cases hlt : T < l.length
      · have := ra_drop (H0.out w' hb) hlt
        rw [if_neg (by omega)] at hq
        rw [hq]; exact this
      · rw [List.drop_eq_nil_of_le (by omega), show l.length - T = 0 by omega]
        exact ⟨_, _, rfl, Nat.zero_le _, by unfold maxLen; omega, (fun _ h => by cases h), .inl rfl⟩
  have N1 : Hid (([] : List Bk).length + (l.take F).length ≤ 2000) := Lib.hid (by rw [List.length_take]; simp; omega)
  have N2 : Hid (([] ++ l.take F).length + [(⟨a, s, false⟩ : Bk)].length ≤ 2000) := Lib.hid (by rw [List.nil_append, List.length_take]; simp; omega)
  have N4 : Hid ((([] ++ l.take F) ++ [(⟨a, s, false⟩ : Bk)]).length + (l.drop T).length ≤ 2000) := Lib.hid (by rw [List.nil_append, List.length_append, List.length_take, List.length_drop]; simp; omega)
  have R1 : Hid (∀ w1 : World, RA blkE (w1.alloc (.cells (bc ⟨a, s, false⟩) 72)) (.slice (some ⟨w1.heap.size, 0, none⟩) 1 1) [⟨a, s, false⟩]) := Lib.hid fun w1 => (blk_one w1 howf).ra
  obtain ⟨U0, hU0⟩ : ∃ T, l.take F = T := ⟨_, rfl⟩
  obtain ⟨U1, hU1⟩ : ∃ x, l.drop T = x := ⟨_, rfl⟩
  rw [hU0] at HP N1 N2 N4 ⊢
  rw [hU1] at HP N4 ⊢
  have i1 : (F : Int) ≤ (T : Int) := by omega
  have i2 : (T : Int) ≤ (l.length : Int) := by omega
  have i3 : (F : Int) ≤ (cap : Int) := by omega
  have i4 : (T : Int) ≤ (cap : Int) := by omega
  have i5 : ¬ cap = 0 := by omega
  have i6 : ¬ cap = F := by omega
  have i7 : ¬ (F : Int) < 0 := by omega
  have i8 : ¬ (l.length : Int) ≤ (F : Int) := by omega
  have HF : Hid (F < l.length ∧ T - F ≤ 3) := Lib.hid (by omega)
  rw [hml] at HS
  have HML := Lib.hid hml
  clear hv h hlc hcm hm hk hu hF hT H0 hz hz0 hla eo ha hs howf hos hoa hoa2 hft hl hU0 hU1 hml
  generalize midB l k = M at *
  have SZ : Hid (∀ x : World, Below w.heap.size w x → w.heap.size ≤ x.heap.size) := Lib.hid fun _ h => h.size
  have GR : Hid (∀ (x y : World) (r : Option Nat), Below w.heap.size w x → x.grownBy y r → r = none → Below w.heap.size w y) := Lib.hid fun x y r h g e => by subst e; exact h.grown g h.size (fun k hk => by cases hk)
  go_enter Try.func79, Try.ntmps79
  go_wp2_with fail
  refine (C1.out).mono ?_; rintro e w' ⟨rfl, b1⟩
  have D1 := Lib.hid b1
  go_wp2_with fail
  refine (C2.out _ D1.out).mono ?_; rintro e w2 ⟨rfl, b2⟩
  have D2 := Lib.hid (below_more D1.out b2)
  clear b1 b2 C1 C2 D1
  have x1 := (HX.out w2 D2.out k HU.out.1).2
  rw [HU.out.2] at x1
  have HA1 := Lib.hid hA1
  have HA2 := Lib.hid hA2
  have HB1 := Lib.hid hB1
  have HB2 := Lib.hid hB2
  clear hA1 hA2 hB1 hB2
  go_upto_region 4 with fail
  go_cut [49] (fun v49 wx => v49 = .bool f0 ∧ wx = w2)
  case first =>
    rcases hA with ⟨a1, rfl⟩ | ⟨a1, a2, a3, a4⟩
    · go_wp2_with fail
      go_meet
      exact ⟨rfl, rfl⟩
    · have z1 := (HX.out w2 D2.out K0 a3).2
      have a5 : (K0 : Int) < (l.length : Int) := by omega
      have a6 : ¬ (l.length : Int) ≤ (K0 : Int) := by omega
      rw [a4] at z1
      cases f0 <;> (go_wp2_with fail; go_meet; exact ⟨rfl, rfl⟩)
  case rest =>
    obtain ⟨rfl, rfl⟩ := hcut
    clear hA
    go_upto_if 49 with fail
    go_cut [7] (fun v7 wx => v7 = .int .i64 (F : Int) ∧ wx = wc)
    case first =>
      cases f0
      · have e := HA2.out rfl
        subst e
        go_wp2_with fail
        go_meet
        exact ⟨rfl, rfl⟩
      · have e := HA1.out rfl
        go_wp2_with fail
        go_meet
        exact ⟨rfl, rfl⟩
    case rest =>
      obtain ⟨rfl, rfl⟩ := hcut
      clear HA1 HA2
      go_upto_region 6 with fail
      go_cut [63] (fun v63 wx => v63 = .bool f1 ∧ wx = wc)
      case first =>
        rcases hB with ⟨a1, rfl⟩ | ⟨a1, a3, a4⟩
        · go_wp2_with fail
          go_meet
          exact ⟨rfl, rfl⟩
        · have z1 := (HX.out _ D2.out K1 a3).2
          have a6 : ¬ (l.length : Int) ≤ (K1 : Int) := by omega
          rw [a4] at z1
          cases f1 <;> (go_wp2_with fail; go_meet; exact ⟨rfl, rfl⟩)
      case rest =>
        obtain ⟨rfl, rfl⟩ := hcut
        clear hB
        go_upto_if 63 with fail
        go_cut [8] (fun v8 wx => v8 = .int .i64 (T : Int) ∧ wx = wc)
        case first =>
          cases f1
          · have e := HB2.out rfl
            subst e
            go_wp2_with fail
            go_meet
            exact ⟨rfl, rfl⟩
          · have e := HB1.out rfl
            go_wp2_with fail
            go_meet
            exact ⟨rfl, rfl⟩
        case rest =>
          obtain ⟨rfl, rfl⟩ := hcut
          clear HB1 HB2
          clear x1 HU j1
          go_wp2
          go_loopw [9, 11, 71] (fun z x i wr => ∃ j z' : Nat, j ≤ T - F ∧ i = .int .i64 j ∧ z = .int .i64 z' ∧ z' ≤ 512 * j ∧ Hid ((z' : Int) + szs (M.drop j) = s ∧ Below w.heap.size w wr)) (fun _ _ i _ => (T - F) - (intOf i).toNat)
          case atStart => exact ⟨0, 0, Nat.zero_le _, rfl, rfl, Nat.zero_le _, Lib.hid ⟨by have := HZ.out; simpa using this, D2.out⟩⟩
          case round =>
            obtain ⟨j, z', hj, rfl, rfl, hz', H⟩ := hrel
            by_cases hlt : j < T - F
            · have hjm : j < M.length := by rw [HML.out]; exact hlt
              obtain ⟨_, _, e, _, hx⟩ := blk_at (HM.out wr H.out.2) (by omega)
              cases e
              obtain ⟨hld, _, _, _, _⟩ := hx j hjm
              obtain ⟨n, hn, hn2⟩ := HS.out j hlt
              have hF := H.out.1
              rw [szs_drop hjm, hn] at hF
              obtain ⟨⟨ya, ys, yu⟩, hy⟩ : ∃ y, M.getD j default = y := ⟨_, rfl⟩
              rw [hy] at hld hn
              simp only at hn
              subst hn
              obtain ⟨W, hW, HW⟩ := blk_boxed wr ⟨ya, n, yu⟩
              have c1 : W.cell? ⟨wr.heap.size, 1, none⟩ = some (.int .i64 n) := HW.out.1.c1
              have HB := Lib.hid (below_more H.out.2 HW.out.2)
              have k0 : (0 : Int) ≤ (j : Int) := by omega
              have k1 : (j : Int) < ((T - F : Nat) : Int) := by omega
              have k2 : ¬ (j : Int) < 0 := by omega
              have k3 : IntKind.i64.wrap ((j : Int) + 1) = ((j + 1 : Nat) : Int) := by rw [show (j : Int) + 1 = ((j + 1 : Nat) : Int) by omega]; exact i64_nat _ (by have := HF.out; omega)
              have k4 : IntKind.i64.wrap ((z' : Int) + (n : Int)) = ((z' + n : Nat) : Int) := by rw [show (z' : Int) + (n : Int) = ((z' + n : Nat) : Int) by omega]; exact i64_nat _ (by have := HF.out; omega)
              have k5 : ¬ ((T - F : Nat) : Int) ≤ (j : Int) := by omega
              have k6 : ¬ T - F ≤ j := by omega
              have HK := Lib.hid (And.intro hlt (And.intro hz' hn2))
              have HN : Hid (((z' + n : Nat) : Int) + szs (M.drop (j + 1)) = s ∧ Below w.heap.size w W) := Lib.hid ⟨by rw [← hF]; push_cast; rw [Int.add_assoc], HB.out⟩
              clear hx hF hz' hn2 hjm hj hy
              go_wp2
              go_roundw
              case rel => exact ⟨j + 1, z' + n, by have := HK.out; omega, by go_num, rfl, by have := HK.out; omega, HN⟩
              case measure => have := HK.out; simp [intOf]; omega
            · obtain rfl : j = T - F := by omega
              have hF := H.out.1
              rw [← HML.out, List.drop_length, szs, Int.add_zero] at hF
              have DR := Lib.hid H.out.2
              have HFS := Lib.hid hF
              subst hF
              have x := (HX.out wr DR.out F HF.out.1).1
              rw [HLA.out] at x
              have HXF : Hid (∀ w', Below w.heap.size w w' → w'.cell? ⟨b, off + F * 3, none⟩ = some (.int .i64 a)) := Lib.hid fun w' hb => by
                have := (HX.out w' hb F HF.out.1).1
                rw [HLA.out] at this
                exact this
              clear H hj hlt hz' HM HS HML HZ HX HLA
              generalize l.length = L at *
              go_wp2_with fail
              go_region_law (first
                | (refine step_blk (o := ⟨some 83, _, _, _, _, _⟩) rfl (.const (.slice none 0 0)) (.tmp 82) rfl w.heap.size (.slice none 0 0) [] (by simp [Act.eval]) (own_nil_a _ _ _) (.slice (some ⟨b, off, none⟩) F cap) U0 (by simp [Act.eval, Act.put]) (HP.out _ (by repeat' (first | (with_reducible exact DR.out) | (with_reducible refine Below.drew ?_) | (with_reducible refine bal ?_)))).1 N1.out (SZ.out _ (by repeat' (first | (with_reducible exact DR.out) | (with_reducible refine Below.drew ?_) | (with_reducible refine bal ?_)))) ?_
                   intro vb wb ob gb _
                   have OB := Lib.hid ob
                   have GB : Hid (Below w.heap.size w wb) := Lib.hid (GR.out _ _ _ (by repeat' (first | (with_reducible exact DR.out) | (with_reducible refine Below.drew ?_) | (with_reducible refine bal ?_))) gb rfl)
                   have GX := Lib.hid ((Below.refl _ _).grown gb (Nat.le_refl _) (by intro k hk; cases hk))
                   have y1 := HXF.out wb GB.out
                   clear ob)
                | (refine step_blk (o := ⟨some 92, _, _, _, _, _⟩) rfl (.tmp 83) (.tmp 91) rfl w.heap.size vb ([] ++ U0) (by simp [Act.eval]) (OB.out.alloc _) (.slice (some ⟨wb.heap.size, 0, none⟩) 1 1) [⟨a, z', false⟩] (by simp [Act.eval]) (R1.out wb) N2.out (SZ.out _ (bal GB.out)) ?_
                   intro vc wc oc gc _
                   have OC := Lib.hid oc
                   have GC := Lib.hid (below_app (bal GB.out) (SZ.out _ (bal GB.out)) (OB.out.alloc _) gc)
                   clear oc gc)
                | (refine step_blk (o := ⟨some 92, _, _, _, _, _⟩) rfl (.tmp 83) (.tmp 91) rfl w.heap.size vb ([] ++ U0) (by simp [Act.eval]) OB.out (.slice (some ⟨wr.heap.size, 0, none⟩) 1 1) [⟨a, z', false⟩] (by simp [Act.eval]) (ra_below (ra_below (R1.out wr) ((Below.refl _ _).drew)) GX.out) N2.out (SZ.out _ GB.out) ?_
                   intro vc wc oc gc _
                   have OC := Lib.hid oc
                   have GC := Lib.hid (below_app GB.out (SZ.out _ GB.out) OB.out gc)
                   clear oc gc))
              all_goals
                clear R1 gb
                by_cases e9 : cap = T
                · rw [if_pos e9] at hq
                  subst hq
                  have e2 : T = cap := e9.symm
                  subst e2
                  rw [Nat.sub_self] at HP
                  go_wp2_with (at_builtin; refine app_blk (o := ⟨some 97, _, _, _, _, _⟩) rfl (.tmp 93) (.tmp 96) rfl w.heap.size vc (([] ++ U0) ++ [(⟨a, z', false⟩ : Bk)]) rfl OC.out _ U1 rfl (HP.out _ GC.out).2 N4.out (SZ.out _ GC.out) ?_)
                  intro ve we oe ge _
                  have OE : Hid (OwnA blkE w.heap.size we ve (U0 ++ (⟨a, z', false⟩ :: U1))) := Lib.hid (by simpa using oe)
                  have GE := Lib.hid (below_app GC.out (SZ.out _ GC.out) OC.out ge)
                  clear oe ge
                  go_wp2
                  go_ret3
                  exact ⟨⟨_, rfl, OE.out⟩, GE.out⟩
                · rw [if_neg e9] at hq
                  subst hq
                  go_wp2_with (at_builtin; refine app_blk (o := ⟨some 97, _, _, _, _, _⟩) rfl (.tmp 93) (.tmp 96) rfl w.heap.size vc (([] ++ U0) ++ [(⟨a, z', false⟩ : Bk)]) rfl OC.out _ U1 rfl (HP.out _ GC.out).2 N4.out (SZ.out _ GC.out) ?_)
                  intro ve we oe ge _
                  have OE : Hid (OwnA blkE w.heap.size we ve (U0 ++ (⟨a, z', false⟩ :: U1))) := Lib.hid (by simpa using oe)
                  have GE := Lib.hid (below_app GC.out (SZ.out _ GC.out) OC.out ge)
                  clear oe ge
                  go_wp2
                  go_ret3
                  exact ⟨⟨_, rfl, OE.out⟩, GE.out⟩
end Go.Proofs.Ytkpefnjohdjejaa

/-
  The reference's Merged, whether one can be given back or not.
-/
namespace Go.Proofs.Ytkpefnjohdjejaa
set_option maxRecDepth 100000
open Go.RowKit

theorem rmerged_is (l : List Bk) (i : Int) (v : Value) (w : World) (hv : RA blkE w v l) (hl : l.length ≤ 1000) (r : Bool) (h : canM l i = r) :
    Calls Try.prog 79 #[v, .int .i64 i] w fun e w' => (∃ u, e = .returned (.tuple #[u, .int .i64 (if r = true then frm l i.toNat else 0 : Nat), .bool r]) ∧ OwnA blkE w.heap.size w' u (mrgF l i)) ∧ Below w.heap.size w w' := by
  cases r with
  | false =>
    refine (rmerged_no l i v w hv hl h).mono ?_
    rintro e w' ⟨rfl, hb⟩
    rw [mrgF_no h]
    exact ⟨⟨_, rfl, own_nil_a _ _ _⟩, hb⟩
  | true =>
    obtain ⟨k, rfl⟩ : ∃ k : Nat, i = k := ⟨i.toNat, by have := (canM_yes.1 h).2.1; omega⟩
    rw [if_pos rfl, Int.toNat_natCast]
    exact rmerged_yes l k v w hv hl h
end Go.Proofs.Ytkpefnjohdjejaa

/-
  Contracts of the reference: what a taking, a giving back, a reading and a writing of a heap as words tell.
-/
namespace Go.Proofs.Ytkpefnjohdjejaa
set_option maxRecDepth 100000
open Go.ChangeShapes Go.WideShapes Go.ChangeAt Go.RowKit


set_option maxHeartbeats 2000000 in
theorem rfr_is (wl : List Int) (o : Int) (v : Value) (w : World) (hv : RU w v wl) (hl : wl.length ≤ 1000) (hw : WordsOk wl) :
    Calls Try.prog 55 #[v, .int .i64 o] w fun e w' => (∃ x, e = .returned (.tuple #[x, .int .i64 (frR wl o).2]) ∧ OwnA edE w.heap.size w' x (frR wl o).1) ∧ Below w.heap.size w w' := by
  unfold frR
  cases hB : blkF wl with
  | none =>
    have T := Lib.hid (rblocks_main wl v none w hv hl hw hB)
    clear hv hl hw hB
    simp only [Option.isSome_none, Option.getD_none] at T ⊢
    go_enter Try.func55, Try.ntmps55
    go_wp2_with fail
    refine (T.out).mono ?_; rintro e w1 ⟨⟨v1, rfl, _⟩, b1⟩
    go_wp2
    go_ret2
    exact ⟨⟨_, rfl, own_nil_e _ _⟩, b1⟩
  | some l =>
    have T := Lib.hid (rblocks_main wl v (some l) w hv hl hw hB)
    obtain ⟨hlen, _⟩ := blkF_len hB
    simp only [Option.isSome_some, Option.getD_some] at T ⊢
    cases hR : isN o l with
    | none =>
      have CU := Lib.hid (fun (v1 : Value) (w' : World) (h : RA blkE w' v1 l) => ris_is o l v1 none w' h hR)
      have CM := Lib.hid (fun (v1 : Value) (w' : World) (h : RA blkE w' v1 l) => rmerged_is l (-1) v1 w' h (by omega) false (canM_neg l))
      rw [mrgF_no (canM_neg l), if_neg Bool.false_ne_true] at CM
      simp only [oi] at CU ⊢
      obtain ⟨y, hy⟩ : ∃ y : Int, (-1 : Int) = y := ⟨_, rfl⟩
      rw [hy] at CU CM
      clear hv hl hw hB hlen hR hy
      go_enter Try.func55, Try.ntmps55
      go_wp2_with fail
      refine (T.out).mono ?_; rintro e w1 ⟨⟨v1, rfl, o1⟩, b1⟩
      have D1 := Lib.hid b1
      have O1 := Lib.hid o1.ra
      clear o1 b1 T
      go_wp2_with fail
      refine (CU.out _ _ O1.out).mono ?_; rintro e w2 ⟨rfl, b2⟩
      have D2 := Lib.hid (below_more D1.out b2)
      have O2 := Lib.hid (ra_below O1.out b2)
      clear b2 CU
      go_wp2_with fail
      refine (CM.out _ _ O2.out).mono ?_; rintro e w3 ⟨⟨v3, rfl, _⟩, b3⟩
      have D3 := Lib.hid (below_more D2.out b3)
      clear b3 CM
      go_wp2
      go_ret2
      exact ⟨⟨_, rfl, own_nil_e _ _⟩, D3.out⟩
    | some k =>
      have CU := Lib.hid (fun (v1 : Value) (w' : World) (h : RA blkE w' v1 l) => ris_is o l v1 (some k) w' h hR)
      have hcan := isN_can hB hR
      obtain ⟨q1, q2, _⟩ := mrg_length hcan
      have hml : frm l k < (mrgF l k).length := q1
      have CM := Lib.hid (fun (v1 : Value) (w' : World) (h : RA blkE w' v1 l) => rmerged_is l k v1 w' h (by omega) true hcan)
      rw [if_pos rfl, Int.toNat_natCast] at CM
      have LD := Lib.hid (fun (v1 : Value) (w' : World) (h : RA blkE w' v1 (mrgF l k)) => blk_ld h hml)
      rw [mrg_at hcan] at LD
      obtain ⟨⟨a, s, u⟩, hone⟩ : ∃ b, oneB l k = b := ⟨_, rfl⟩
      have hmed : medF l k = ⟨a, hdB s false⟩ := by rw [medF_yes hcan, hone]
      have CW := Lib.hid (fun w' => rwordb_is s false w')
      have hwf : Hid (medF l k).Wf := Lib.hid (by
        rw [medF_yes hcan]
        obtain ⟨g1, g2, g3⟩ := one_in (blkF_some hB) hcan
        obtain ⟨_, h5, _⟩ := (mayL_yes.1 (blkF_some hB)).1
        have := hdB_in (oneB l k).s false
        obtain ⟨g4, _⟩ := g1
        exact Ed.wf_of (by simp only; omega) (by simp only; omega) this.1 this.2)
      simp only [oi] at CU ⊢
      rw [hmed] at hwf ⊢
      rw [hone] at LD
      simp only at LD
      generalize hdB s false = x at *
      have i0 : (frm l k : Int) < ((mrgF l k).length : Int) := by omega
      have i1 : ¬ (frm l k : Int) < 0 := by omega
      have i2 : (0 : Int) ≤ (frm l k : Int) := by omega
      generalize frm l k = F at *
      generalize mrgF l k = M at *
      clear hv hl hw hB hlen hR hcan hmed hone hml q1 q2
      go_enter Try.func55, Try.ntmps55
      go_wp2_with fail
      refine (T.out).mono ?_; rintro e w1 ⟨⟨v1, rfl, o1⟩, b1⟩
      have D1 := Lib.hid b1
      have O1 := Lib.hid o1.ra
      clear o1 b1 T
      go_wp2_with fail
      refine (CU.out _ _ O1.out).mono ?_; rintro e w2 ⟨rfl, b2⟩
      have D2 := Lib.hid (below_more D1.out b2)
      have O2 := Lib.hid (ra_below O1.out b2)
      clear b2 CU
      go_wp2_with fail
      refine (CM.out _ _ O2.out).mono ?_; rintro e w3 ⟨⟨v3, rfl, o3⟩, b3⟩
      have D3 := Lib.hid (below_more D2.out b3)
      have O3 := Lib.hid o3.ra
      obtain ⟨b, off, c3, rfl, _, _, _⟩ := LD.out _ _ O3.out
      have cc : ∀ w', Below w3.heap.size w3 w' → w'.cell? ⟨b, off + F * 3, none⟩ = some (.int .i64 a) ∧ w'.cell? ⟨b, off + F * 3 + 1, none⟩ = some (.int .i64 s) := fun w' hb => by
        obtain ⟨_, _, _, e, _, h1, h2⟩ := LD.out _ _ (ra_below O3.out hb)
        cases e
        exact ⟨h1, h2⟩
      have c0 : ∀ w', Below w3.heap.size w3 w' → w'.cell? ⟨b, off + F * 3, none⟩ = some (.int .i64 a) := fun w' hb => (cc w' hb).1
      have c1 : ∀ w', Below w3.heap.size w3 w' → w'.cell? ⟨b, off + F * 3 + 1, none⟩ = some (.int .i64 s) := fun w' hb => (cc w' hb).2
      have HE := Lib.hid (fun w' => ed_one w' hwf.out)
      clear b3 CM cc o3 LD O1 O2 O3
      generalize M.length = L at *
      go_wp2_with fail
      go_region_held3 (fun w' => Below w3.heap.size w3 w')
        (first | assumption | exact (Below.refl _ _).drew | exact bal (by assumption))
        (first
          | (go_at_call 39; refine (CW.out _).mono ?_; rintro e wz ⟨rfl, rfl⟩))
      go_wp2
      go_ret2
      exact ⟨⟨_, rfl, ((HE.out w3).drew).mono D3.out.size⟩, below_more D3.out (by assumption)⟩

theorem rrd_is (wl : List Int) (o n : Int) (v : Value) (w : World) (hv : RU w v wl) (hl : wl.length ≤ 1000) (hw : WordsOk wl) (ho : -9223372036854775808 ≤ o ∧ o ≤ 9223372036854775807) (hn : -9223372036854775808 ≤ n ∧ n ≤ 9223372036854775807) :
    Calls Try.prog 58 #[v, .int .i64 o, .int .i64 n] w fun e w' => (∃ x, e = .returned (.tuple #[x, .int .i64 (refF wl o n)]) ∧ OwnA byE w.heap.size w' x (rdR wl o n)) ∧ Below w.heap.size w w' := by
  have CR := Lib.hid (fun (w' : World) (hb : Below w.heap.size w w') => rread_is wl v o n w' (ru_below hv hb) (wd_ok hw) ho hn hl)
  cases hB : blkF wl with
  | none =>
    have T := Lib.hid (rblocks_main wl v none w hv hl hw hB)
    have e0 : refF wl o n = 6 := by unfold refF; rw [hB]
    have e1 : rdR wl o n = [] := by rw [rdR, e0]; rfl
    rw [e0, e1]
    clear hv hl hw hB ho hn e0 e1
    simp only [Option.isSome_none, Option.getD_none] at T ⊢
    go_enter Try.func58, Try.ntmps58
    go_wp2_with fail
    refine (T.out).mono ?_; rintro e w1 ⟨⟨v1, rfl, _⟩, b1⟩
    go_wp2
    go_ret2
    exact ⟨⟨_, rfl, own_nil_by _ _⟩, b1⟩
  | some l =>
    have T := Lib.hid (rblocks_main wl v (some l) w hv hl hw hB)
    obtain ⟨hlen, _⟩ := blkF_len hB
    have CI := Lib.hid (fun (v1 : Value) (w' : World) (h : RA blkE w' v1 l) => rwi_is l o n v1 w' h (by omega) (sm_of hB))
    simp only [Option.isSome_some, Option.getD_some] at T ⊢
    obtain ⟨r, hr⟩ : ∃ r, inL o n l = r := ⟨_, rfl⟩
    have e0 : refF wl o n = if r = true then 0 else 1 := by unfold refF; rw [hB]; simp only [hr]
    have e1 : rdR wl o n = if r = true then rdL wl o n else [] := by
      rw [rdR, e0]
      cases r <;> rfl
    rw [hr] at CI
    rw [e0, e1]
    clear hv hl hw hB hlen hr ho hn e0 e1
    generalize rdL wl o n = B at *
    cases r
    · rw [if_neg Bool.false_ne_true, if_neg Bool.false_ne_true]
      go_enter Try.func58, Try.ntmps58
      go_wp2_with fail
      refine (T.out).mono ?_; rintro e w1 ⟨⟨v1, rfl, o1⟩, b1⟩
      have D1 := Lib.hid b1
      have O1 := Lib.hid o1.ra
      clear o1 b1 T
      go_wp2_with fail
      refine (CI.out _ _ O1.out).mono ?_; rintro e w2 ⟨rfl, b2⟩
      have D2 := Lib.hid (below_more D1.out b2)
      clear b2 CI
      go_wp2
      go_ret2
      exact ⟨⟨_, rfl, own_nil_by _ _⟩, D2.out⟩
    · rw [if_pos rfl, if_pos rfl]
      go_enter Try.func58, Try.ntmps58
      go_wp2_with fail
      refine (T.out).mono ?_; rintro e w1 ⟨⟨v1, rfl, o1⟩, b1⟩
      have D1 := Lib.hid b1
      have O1 := Lib.hid o1.ra
      clear o1 b1 T
      go_wp2_with fail
      refine (CI.out _ _ O1.out).mono ?_; rintro e w2 ⟨rfl, b2⟩
      have D2 := Lib.hid (below_more D1.out b2)
      clear b2 CI
      go_wp2_with fail
      refine (CR.out _ D2.out).mono ?_; rintro e w3 ⟨⟨x, rfl, ox⟩, b3⟩
      have D3 := Lib.hid (below_more D2.out b3)
      have OX := Lib.hid (ox.mono D2.out.size)
      clear b3 CR ox
      go_wp2
      go_ret2
      exact ⟨⟨_, rfl, OX.out⟩, D3.out⟩

theorem rwr_is (wl bl : List Int) (o : Int) (v u : Value) (w : World) (hv : RU w v wl) (hu : RA byE w u bl) (hl : wl.length ≤ 1000) (hbl : bl.length ≤ 100000) (hw : WordsOk wl) (ho : -9223372036854775808 ≤ o ∧ o ≤ 9223372036854775807) :
    Calls Try.prog 56 #[v, .int .i64 o, u] w fun e w' => (∃ x L, e = .returned (.tuple #[x, .int .i64 (refF wl o bl.length)]) ∧ OwnA edE w.heap.size w' x L ∧ WrT wl bl o L) ∧ Below w.heap.size w w' := by
  have CR := Lib.hid (fun (w' : World) (hb : Below w.heap.size w w') => redits_is wl bl v u o w' (ru_below hv hb) (ra_below hu hb) (wd_ok hw) ho hl hbl)
  have HT : Hid ((∀ X, refF wl o bl.length = 0 → Tells wl bl o X → WrT wl bl o X) ∧ (refF wl o bl.length ≠ 0 → WrT wl bl o [])) := Lib.hid ⟨fun X h0 h => by unfold WrT; rw [if_pos h0]; exact h, fun h0 => by unfold WrT; rw [if_neg h0]⟩
  obtain ⟨p, c, rfl, _, _⟩ := ra_shape hu
  cases hB : blkF wl with
  | none =>
    have T := Lib.hid (rblocks_main wl v none w hv hl hw hB)
    have e0 : refF wl o bl.length = 6 := by unfold refF; rw [hB]
    have HT1 := Lib.hid (HT.out.2 (by rw [e0]; decide))
    rw [e0]
    clear hv hl hw hB ho hu hbl HT e0
    simp only [Option.isSome_none, Option.getD_none] at T ⊢
    generalize bl.length = L at *
    go_enter Try.func56, Try.ntmps56
    go_wp2_with fail
    refine (T.out).mono ?_; rintro e w1 ⟨⟨v1, rfl, _⟩, b1⟩
    go_wp2
    go_ret2
    exact ⟨⟨_, [], rfl, own_nil_e _ _, HT1.out⟩, b1⟩
  | some l =>
    have T := Lib.hid (rblocks_main wl v (some l) w hv hl hw hB)
    obtain ⟨hlen, _⟩ := blkF_len hB
    have CI := Lib.hid (fun (v1 : Value) (w' : World) (h : RA blkE w' v1 l) => rwi_is l o bl.length v1 w' h (by omega) (sm_of hB))
    simp only [Option.isSome_some, Option.getD_some] at T ⊢
    obtain ⟨r, hr⟩ : ∃ r, inL o bl.length l = r := ⟨_, rfl⟩
    have e0 : refF wl o bl.length = if r = true then 0 else 1 := by unfold refF; rw [hB]; simp only [hr]
    rw [hr] at CI
    rw [e0]
    cases r
    · have HT1 := Lib.hid (HT.out.2 (by rw [e0]; decide))
      rw [if_neg Bool.false_ne_true]
      clear hv hl hw hB ho hu hbl HT e0 hlen hr CR
      generalize bl.length = L at *
      go_enter Try.func56, Try.ntmps56
      go_wp2_with fail
      refine (T.out).mono ?_; rintro e w1 ⟨⟨v1, rfl, o1⟩, b1⟩
      have D1 := Lib.hid b1
      have O1 := Lib.hid o1.ra
      clear o1 b1 T
      go_wp2_with fail
      refine (CI.out _ _ O1.out).mono ?_; rintro e w2 ⟨rfl, b2⟩
      have D2 := Lib.hid (below_more D1.out b2)
      clear b2 CI
      go_wp2
      go_ret2
      exact ⟨⟨_, [], rfl, own_nil_e _ _, HT1.out⟩, D2.out⟩
    · have HT1 := Lib.hid (fun X => HT.out.1 X (by rw [e0]; rfl))
      rw [if_pos rfl]
      clear hv hl hw hB ho hu hbl HT e0 hlen hr
      generalize bl.length = L at *
      go_enter Try.func56, Try.ntmps56
      go_wp2_with fail
      refine (T.out).mono ?_; rintro e w1 ⟨⟨v1, rfl, o1⟩, b1⟩
      have D1 := Lib.hid b1
      have O1 := Lib.hid o1.ra
      clear o1 b1 T
      go_wp2_with fail
      refine (CI.out _ _ O1.out).mono ?_; rintro e w2 ⟨rfl, b2⟩
      have D2 := Lib.hid (below_more D1.out b2)
      clear b2 CI
      go_wp2_with fail
      refine (CR.out _ D2.out).mono ?_; rintro e w3 ⟨⟨x, X, rfl, ox, tx⟩, b3⟩
      have D3 := Lib.hid (below_more D2.out b3)
      have OX := Lib.hid (And.intro (ox.mono D2.out.size) tx)
      clear b3 CR ox tx
      go_wp2
      go_ret2
      exact ⟨⟨_, X, rfl, OX.out.1, HT1.out X OX.out.2⟩, D3.out⟩
end Go.Proofs.Ytkpefnjohdjejaa
