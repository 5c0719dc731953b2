/-
  Contract of carve.Edits: the words that are written.
-/
import Derived.Test.YtabdcdddkmklcaaCrh
import Derived.Test.YtabdcdddkmklcaaBkk
namespace Go.Proofs.Ytabdcdddkmklcaa
set_option maxRecDepth 100000
open Go.RowKit

/-- what Edits asks of the blocks that it is told -/
def EdOk (P : List Bk) : Prop := ∀ b ∈ P, 0 ≤ b.a ∧ b.a ≤ 512 ∧ 2 ≤ b.s ∧ b.s ≤ 512
theorem edF_take {P : List Bk} {k : Nat} (h : k < P.length) : edF (P.take (k + 1)) = edF (P.take k) ++ edB (P.getD k default) := by
  rw [List.take_add_one, List.getElem?_eq_getElem h, List.getD_eq_getElem?_getD, List.getElem?_eq_getElem h]
  simp only [edF, Option.toList_some, List.flatMap_append, List.flatMap_cons, List.flatMap_nil, List.append_nil, Option.getD_some]
theorem edB_length {b : Bk} (h : b.s ≤ 512) : (edB b).length ≤ 513 := by
  rw [edB, rise_length, edV, List.length_cons]
  split
  · rw [List.length_replicate]; omega
  · simp
theorem edF_length {P : List Bk} (h : EdOk P) : ∀ k, k ≤ P.length → (edF (P.take k)).length ≤ 513 * k
  | 0, _ => by simp [edF]
  | k + 1, hk => by
    have h1 := edF_length h k (by omega)
    have h2 := h (P.getD k default) (by rw [List.getD_eq_getElem?_getD, List.getElem?_eq_getElem (by omega)]; exact List.getElem_mem _)
    have h3 := edB_length h2.2.2.2
    rw [edF_take (by omega), List.length_append]
    omega
theorem edOk_prt {l : List Bk} {i n : Int} (h : canC l i n = true) : EdOk (prtB (bAt l i) n) := by
  obtain ⟨hm, h0, h1, hu, ht⟩ := canC_yes.1 h
  have hz := mayF_sizes (mayL_yes.1 hm).2 _ (bAt_mem h0 h1)
  obtain ⟨g1, g2, g3⟩ := (mayL_yes.1 hm).1
  obtain ⟨⟨s1, s2⟩, a1, a2⟩ := hz
  obtain ⟨t1, t2, t3, t4⟩ := takN_some ht
  intro b hb
  unfold prtB at hb
  split at hb
  · obtain rfl := List.mem_singleton.1 hb
    exact ⟨a1, by simp only; omega, s1, s2⟩
  · simp only [List.mem_cons, List.not_mem_nil, or_false] at hb
    rcases hb with rfl | rfl
    · refine ⟨a1, ?_, ?_, ?_⟩ <;> simp only <;> omega
    · refine ⟨?_, ?_, ?_, ?_⟩ <;> simp only <;> omega
theorem edRise_ok {a : Int} (h1 : 0 ≤ a) (h2 : a ≤ 9223372036854774807) : ∀ n : Nat, n ≤ 1000 → AllOk edE (rise a (List.replicate n 0))
  | 0, _ => fun _ h => by cases h
  | n + 1, hn => by
    intro x hx
    rw [rise_more] at hx
    rcases List.mem_append.1 hx with hx | hx
    · exact edRise_ok h1 h2 n (by omega) x hx
    · obtain rfl := List.mem_singleton.1 hx
      refine Ed.wf_of ?_ ?_ ?_ ?_ <;> simp only <;> omega

set_option maxHeartbeats 2000000 in
theorem cedits_is (l : List Bk) (i n : Int) (v : Value) (w : World) (hv : RA blkE w v l) (hl : l.length ≤ 1000) :
    Calls Try.prog 13 #[v, .int .i64 i, .int .i64 n] w fun e w' => (∃ u, e = .returned u ∧ OwnA edE w.heap.size w' u (cedF l i n)) ∧ Below w.heap.size w w' := by
  cases h : canC l i n with
  | false =>
    have C1 := Lib.hid (parts_no l i n v w hv hl h)
    rw [cedF_no h]
    obtain ⟨p, cap, rfl, _⟩ := ra_shape hv
    generalize l.length = L at *
    clear hv hl h
    go_enter Try.func13, Try.ntmps13
    go_wp2_with fail
    refine (C1.out).mono ?_; rintro e w1 ⟨rfl, b1⟩
    have D1 := Lib.hid b1
    clear b1
    go_wp2
    go_loopw [7, 9, 15] (fun e x i wr => e = .slice none 0 0 ∧ i = .int .i64 0 ∧ wr = w1) (fun _ _ i _ => 0)
    case atStart => exact ⟨rfl, rfl, rfl⟩
    case round =>
      obtain ⟨rfl, rfl, rfl⟩ := hrel
      go_wp2
      go_ret
      exact ⟨⟨_, rfl, own_nil_a _ _ _⟩, D1.out⟩
  | true =>
    have C1 := Lib.hid (parts_yes l i n v w hv hl h)
    have hok := edOk_prt h
    have hc : cedF l i n = edF (prtB (bAt l i) n) := by rw [cedF, if_pos h]
    rw [hc]
    have hp : (prtB (bAt l i) n).length ≤ 2 := by
      unfold prtB
      split <;> simp
    obtain ⟨p, cap, rfl, _⟩ := ra_shape hv
    generalize l.length = L at *
    have HOK := Lib.hid hok
    have HQ := Lib.hid hp
    clear hv hl h hc hp hok
    generalize prtB (bAt l i) n = P at *
    go_enter Try.func13, Try.ntmps13
    go_wp2_with fail
    refine (C1.out).mono ?_; rintro e w1 ⟨⟨u1, rfl, o1⟩, b1⟩
    have D1 := Lib.hid b1
    have O1 := Lib.hid o1
    obtain ⟨g, d, rfl, _, _⟩ := o1.shape
    clear b1 C1 o1
    go_wp2
    go_loopw [7, 9, 15] (fun e x i wr => ∃ k : Nat, k ≤ P.length ∧ i = .int .i64 k ∧ Hid (OwnA edE w1.heap.size wr e (edF (P.take k)) ∧ Below w1.heap.size w1 wr)) (fun _ _ i _ => P.length - (intOf i).toNat)
    case atStart => exact ⟨0, Nat.zero_le _, rfl, Lib.hid ⟨own_nil_a _ _ _, Below.refl _ _⟩⟩
    case round =>
      obtain ⟨k, hk, rfl, H⟩ := hrel
      by_cases hlt : k < P.length
      · obtain ⟨b, off, rfl, hb, hx⟩ := blk_at (ra_below O1.out.ra H.out.2) (by omega)
        obtain ⟨hld, _, _, _, hwf⟩ := hx k hlt
        have hF := edF_take hlt
        have hy : P.getD k default ∈ P := by rw [List.getD_eq_getElem?_getD, List.getElem?_eq_getElem hlt]; exact List.getElem_mem _
        have hY := HOK.out _ hy
        have hlen := edF_length HOK.out k hk
        have hlen2 := edB_length hY.2.2.2
        generalize P.getD k default = y at *
        obtain ⟨a, s, u⟩ := y
        simp only at hY
        obtain ⟨W, hW, HW⟩ := blk_boxed wr ⟨a, s, u⟩
        have c0 : W.cell? ⟨wr.heap.size, 0, none⟩ = some (.int .i64 a) := HW.out.1.c0
        have c1 : W.cell? ⟨wr.heap.size, 1, none⟩ = some (.int .i64 s) := HW.out.1.c1
        have c2 : W.cell? ⟨wr.heap.size, 2, none⟩ = some (.bool u) := HW.out.1.c2
        have C2 := Lib.hid (fun w => wordb_is s u w)
        obtain ⟨hd, hhd⟩ : ∃ x, hdB s u = x := ⟨_, rfl⟩
        have hin := hdB_in s u
        rw [hhd] at C2 hin
        have hB1 := below_more H.out.2 HW.out.2
        have hB2 : Below w1.heap.size w1 (W.alloc (.cells (ec ⟨a, hd⟩) 45)).drew := (bal hB1).drew
        have hB3 : Below wr.heap.size wr (W.alloc (.cells (ec ⟨a, hd⟩) 45)).drew := (bal HW.out.2).drew
        have O2 := Lib.hid (H.out.1.below hB3)
        have R2 : Hid (RA edE (W.alloc (.cells (ec ⟨a, hd⟩) 45)).drew (.slice (some ⟨W.heap.size, 0, none⟩) 1 1) [⟨a, hd⟩]) := Lib.hid (by
          have := (ed_one W (c := ⟨a, hd⟩) (Ed.wf_of (by simp only; omega) (by simp only; omega) hin.1 hin.2)).ra
          exact ra_below this ((Below.refl _ _).drew))
        have V2 := Lib.hid (HW.out.1.below ((bal (o := .cells (ec ⟨a, hd⟩) 45) (Below.refl _ _)).drew))
        have L2 : Hid ((edF (P.take k)).length + [(⟨a, hd⟩ : Ed)].length ≤ 4000) := Lib.hid (by simp; have := HQ.out; omega)
        obtain ⟨RR, hRR⟩ : ∃ R, rise (a + 1) (List.replicate (s - 1).toNat 0) = R := ⟨_, rfl⟩
        have L3 : Hid ((edF (P.take k) ++ [(⟨a, hd⟩ : Ed)]).length + RR.length ≤ 4000) := Lib.hid (by rw [← hRR, List.length_append, rise_length, List.length_replicate]; simp; have := HQ.out; omega)
        have C3 : Hid (∀ w, Calls Try.prog 28 #[.agg (bc ⟨a, s, u⟩)] w fun e w' => (∃ x, e = .returned x ∧ OwnA edE w.heap.size w' x RR) ∧ Below w.heap.size w w') := Lib.hid fun w => by rw [← hRR]; exact noughts_is ⟨a, s, u⟩ w hY.1 hY.2.1 hY.2.2.1 hY.2.2.2
        have HB2 := Lib.hid hB2
        have HBW := Lib.hid (Nat.le_trans D1.out.size hB2.size)
        have LT : Hid (wr.heap.size < (W.alloc (.cells (ec ⟨a, hd⟩) 45)).drew.heap.size) := Lib.hid V2.out.lt
        have HU : Hid ((u = true → edF (P.take (k + 1)) = edF (P.take k) ++ ⟨a, hd⟩ :: RR) ∧ (u = false → edF (P.take (k + 1)) = edF (P.take k) ++ [⟨a, hd⟩])) := Lib.hid ⟨fun e => by
            rw [hF, edB_used _ e]
            simp only
            rw [hhd, hRR], fun e => by
            rw [hF, edB_free _ e]
            simp only
            rw [hhd]⟩
        have i0 : (0 : Int) ≤ (k : Int) := by omega
        have i1 : (k : Int) < (P.length : Int) := by omega
        have i2 : ¬ (k : Int) < 0 := by omega
        have i3 : IntKind.i64.wrap ((k : Int) + 1) = ((k + 1 : Nat) : Int) := by rw [show (k : Int) + 1 = ((k + 1 : Nat) : Int) by omega]; exact i64_nat _ (by have := HQ.out; omega)
        have HK := Lib.hid hlt
        have HY := Lib.hid hY
        have WR : Hid (w.heap.size ≤ wr.heap.size) := Lib.hid (Nat.le_trans D1.out.size H.out.2.size)
        clear hx hF hy hY hlen hlen2 hhd hin hB1 hB2 hB3 hwf hk hlt hb HW hRR
        go_wp2_with fail
        go_region_law (first
          | (go_simp; go_at_call 27; refine (C2.out _).mono ?_; rintro e wq ⟨rfl, rfl⟩)
          | (refine step_ed (o := ⟨some 29, _, _, _, _, _⟩) rfl (.tmp 19) (.tmp 28) rfl w1.heap.size _ (edF (P.take k)) (by simp [Act.eval]) O2.out (.slice (some ⟨W.heap.size, 0, none⟩) 1 1) [⟨a, hd⟩] (by simp [Act.eval]) R2.out L2.out HB2.out.size ?_
             intro vb wb ob gb _
             have OB := Lib.hid ob
             have GB := Lib.hid (below_app HB2.out HB2.out.size O2.out gb)
             have VB : Hid (Bv wb wr.heap.size ⟨a, s, u⟩) := Lib.hid ((gb.block _ LT.out (fun e => by have := (H.out.1.lt _ e.symm).2; omega)).trans V2.out)
             clear ob))
        all_goals
          have v2 : wb.cell? ⟨wr.heap.size, 2, none⟩ = some (.bool u) := VB.out.c2
          have hl2 := VB.out.load
          cases u with
          | false =>
            rw [← HU.out.2 rfl] at OB
            go_wp2
            go_roundw
            case rel => exact ⟨k + 1, by have := HK.out; omega, by go_num, Lib.hid ⟨OB.out, GB.out⟩⟩
            case measure => have := HK.out; simp [intOf]; omega
          | true =>
            have hu := HU.out.1 rfl
            have HU2 := Lib.hid hu
            clear hu
            go_wp2_with fail
            refine (C3.out _).mono ?_; rintro e wc ⟨⟨uc, rfl, oc⟩, bc'⟩
            have RC := Lib.hid oc.ra
            have OC := Lib.hid (OB.out.below bc')
            have GC := Lib.hid (below_more GB.out bc')
            clear oc bc'
            obtain ⟨pc, cc, rfl, _⟩ := ra_shape RC.out
            obtain ⟨Y, hY⟩ : ∃ Y, RR.length = Y := ⟨_, rfl⟩
            rw [hY] at RC
            rw [hY]
            clear hY
            go_wp2_with (at_builtin; refine app_ed rfl _ _ rfl _ _ _ rfl OC.out _ RR rfl RC.out L3 GC.out.size ?_)
            intro vd wd od gd _
            have HN : Hid (OwnA edE w1.heap.size wd vd (edF (P.take (k + 1))) ∧ Below w1.heap.size w1 wd) := Lib.hid ⟨by rw [HU2.out]; exact od, below_app GC.out GC.out.size OC.out gd⟩
            clear od gd
            go_wp2
            go_roundw
            case rel => exact ⟨k + 1, by have := HK.out; omega, by go_num, HN⟩
            case measure => have := HK.out; simp [intOf]; omega
      · obtain rfl : k = P.length := by omega
        have hF := H.out.1
        rw [List.take_length] at hF
        have HF := Lib.hid hF
        have DD := Lib.hid (below_more D1.out H.out.2)
        clear hF
        go_wp2
        go_ret
        exact ⟨⟨_, rfl, HF.out.mono D1.out.size⟩, DD.out⟩
end Go.Proofs.Ytabdcdddkmklcaa
