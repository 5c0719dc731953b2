/-
  Contracts of the reference: the words that are written, whether edits are the same, edits written into words.
-/
import Derived.Test.YtabdcdddkmklcaaCrj
import Derived.Test.YtabdcdddkmklcaaCri
import Derived.Test.YtabdcdddkmklcaaRu
import Derived.BigQuiet
namespace Go.Proofs.Ytabdcdddkmklcaa
set_option maxRecDepth 100000
open Go.RowKit

theorem rcarved_is (l : List Bk) (i n : Int) (v : Value) (w : World) (hv : RA blkE w v l) (hl : l.length ≤ 1000) (r : Bool) (h : canC l i n = r) :
    Calls Try.prog 10 #[v, .int .i64 i, .int .i64 n] w fun e w' => (∃ u, e = .returned (.tuple #[u, .bool r]) ∧ OwnA blkE w.heap.size w' u (crvF l i n)) ∧ Below w.heap.size w w' := by
  cases r with
  | false => exact (rcarved_no l i n v w hv hl h).mono fun e w' ⟨h1, h2⟩ => ⟨⟨_, h1, by rw [crvF_no h]; exact own_nil_a _ _ _⟩, h2⟩
  | true => exact rcarved_yes l i n v w hv hl h

theorem rise_hd (a hd : Int) (k : Nat) : rise a (hd :: List.replicate (k + 1) 0) = rise a (hd :: List.replicate k 0) ++ [⟨a + ((k + 1 : Nat) : Int), 0⟩] := by
  rw [List.replicate_succ', ← List.cons_append, rise_app, List.length_cons, List.length_replicate]
  rfl

set_option maxHeartbeats 2000000 in
theorem rcedits_is (l : List Bk) (i n : Int) (v : Value) (w : World) (hv : RA blkE w v l) (hl : l.length ≤ 1000) :
    Calls Try.prog 14 #[v, .int .i64 i, .int .i64 n] w fun e w' => (∃ u, e = .returned u ∧ OwnA edE w.heap.size w' u (cedF l i n)) ∧ Below w.heap.size w w' := by
  cases h : canC l i n with
  | false =>
    have C1 := Lib.hid (rcarved_is l i n v w hv hl false h)
    rw [cedF_no h]
    obtain ⟨p, cap, rfl, _⟩ := ra_shape hv
    generalize l.length = L at *
    clear hv hl h
    go_enter Try.func14, Try.ntmps14
    go_wp2_with fail
    refine (C1.out).mono ?_; rintro e w1 ⟨⟨u1, rfl, _⟩, b1⟩
    have D1 := Lib.hid b1
    clear b1
    go_wp2_with fail
    go_ret
    exact ⟨⟨_, rfl, own_nil_a _ _ _⟩, D1.out⟩
  | true =>
    have C1 := Lib.hid (rcarved_is l i n v w hv hl true h)
    have hc : cedF l i n = edF (prtB (bAt l i) n) := by rw [cedF, if_pos h]
    have H0 := Lib.hid (fun (w' : World) (hb : Below w.heap.size w w') => ra_below hv hb)
    obtain ⟨p, cap, rfl, _⟩ := ra_shape hv
    obtain ⟨hm, h0, h1, hu, ht⟩ := canC_yes.1 h
    have hz := mayF_sizes (mayL_yes.1 hm).2 _ (bAt_mem h0 h1)
    have hz2 := (mayL_yes.1 hm).1
    obtain ⟨k0, rfl⟩ : ∃ k : Nat, i = k := ⟨i.toNat, by omega⟩
    rw [hc, edF_prt ht]
    have hk : k0 < l.length := by omega
    have hB : bAt l (k0 : Int) = l.getD k0 default := by rw [bAt, Int.toNat_natCast]
    have hwf := (ra_ok hv).at_ hk
    rw [hB] at hu ht hz ⊢
    obtain ⟨⟨a, s, u⟩, hb⟩ : ∃ c, l.getD k0 default = c := ⟨_, rfl⟩
    rw [hb] at hu ht hwf hz ⊢
    simp only at hu ht hz ⊢
    obtain ⟨b, off, rfl, _, _⟩ := blk_at hv (by omega)
    have HX : Hid (∀ w', Below w.heap.size w w' → w'.cell? ⟨b, off + k0 * 3, none⟩ = some (.int .i64 a) ∧ w'.cell? ⟨b, off + k0 * 3 + 1, none⟩ = some (.int .i64 s)) := Lib.hid fun w' hb' => by
      obtain ⟨_, _, e, _, hx⟩ := blk_at (H0.out w' hb') (by omega)
      cases e
      obtain ⟨_, x1, x2, _, _⟩ := hx k0 hk
      rw [hb] at x1 x2
      exact ⟨x1, x2⟩
    obtain ⟨⟨s1, s2⟩, a1, a2⟩ := hz
    obtain ⟨q1, q2, q3⟩ := hz2
    obtain ⟨t', hte⟩ : ∃ t, takN s n = t := ⟨_, rfl⟩
    obtain ⟨t1, t2, t3, t4⟩ := takN_some ht
    rw [hte] at ht t2 t3 t4
    obtain ⟨t, rfl⟩ : ∃ t : Nat, t' = t := ⟨t'.toNat, by omega⟩
    obtain ⟨z, rfl⟩ : ∃ z : Nat, a = z := ⟨a.toNat, by omega⟩
    obtain ⟨m, rfl⟩ : ∃ m : Nat, s = m := ⟨s.toNat, by omega⟩
    have HS : Hid (2 ≤ m ∧ m ≤ 512 ∧ z ≤ 512 ∧ 2 ≤ t ∧ t ≤ m) := Lib.hid (by omega)
    have C3 := Lib.hid (fun w => rtakes_is m n t hwf.ws hte w)
    have CW := Lib.hid (fun n u w => rwordb_is n u w)
    obtain ⟨hd, hhd⟩ : ∃ x, hdB t true = x := ⟨_, rfl⟩
    obtain ⟨he, hhe⟩ : ∃ x, hdB ((m : Int) - t) false = x := ⟨_, rfl⟩
    have hin := hdB_in t true
    have hin2 := hdB_in ((m : Int) - t) false
    rw [hhd] at hin
    rw [hhe] at hin2
    have CW1 : Hid (∀ w, Calls Try.prog 29 #[.int .i64 t, .bool true] w fun e w' => e = .returned (.int .u64 hd) ∧ w = w') := Lib.hid fun w => by rw [← hhd]; exact CW.out t true w
    obtain ⟨D, hD⟩ : ∃ D : Int, (m : Int) - t = D := ⟨_, rfl⟩
    have CW2 : Hid (∀ w, Calls Try.prog 29 #[.int .i64 D, .bool false] w fun e w' => e = .returned (.int .u64 he) ∧ w = w') := Lib.hid fun w => by rw [← hhe, ← hD]; exact CW.out _ false w
    have hTV : takV ⟨z, m, u⟩ n = (hd :: List.replicate (t - 1) 0) ++ (if t = m then [] else [he]) := by
      rw [takV]
      simp only [hte, hhd, hhe]
      have e1 : ((t : Int) - 1).toNat = t - 1 := by omega
      rw [e1]
      by_cases e : t = m
      · rw [if_pos e, if_pos (by omega)]; rfl
      · rw [if_neg e, if_neg (by omega)]; rfl
    have HT : Hid ((t = m → rise (z : Int) (takV ⟨z, m, u⟩ n) = rise (z : Int) (hd :: List.replicate (t - 1) 0)) ∧ (¬ t = m → rise (z : Int) (takV ⟨z, m, u⟩ n) = rise (z : Int) (hd :: List.replicate (t - 1) 0) ++ [⟨((z + t : Nat) : Int), he⟩])) := Lib.hid ⟨fun e => by rw [hTV, if_pos e, List.append_nil], fun e => by
      rw [hTV, if_neg e, rise_app, List.length_cons, List.length_replicate]
      congr 2
      first | omega | (rw [show (z : Int) + ((t - 1 + 1 : Nat) : Int) = ((z + t : Nat) : Int) by omega]; rfl)⟩
    have j1 : IntKind.i64.wrap ((z : Int) + (t : Int)) = ((z + t : Nat) : Int) := by rw [show (z : Int) + (t : Int) = ((z + t : Nat) : Int) by omega]; exact i64_nat _ (by omega)
    have j2 : IntKind.i64.wrap ((m : Int) - (t : Int)) = D := by rw [hD]; exact IntWalk.i64_in _ (by omega)
    have h2 : ¬ (k0 : Int) < 0 := by omega
    have h3 : ¬ (k0 : Int) ≥ (l.length : Int) := by omega
    have h4 : ¬ (l.length : Int) ≤ (k0 : Int) := by omega
    obtain ⟨ZT, hZT⟩ : ∃ x, z + t = x := ⟨_, rfl⟩
    rw [hZT] at HT j1
    have O1 : Hid (∀ w1 : World, Below w.heap.size w w1 → OwnA edE w.heap.size (w1.alloc (.cells (ec ⟨z, hd⟩) 45)).drew (.slice (some ⟨w1.heap.size, 0, none⟩) 1 1) (rise (z : Int) (hd :: List.replicate 0 0))) := Lib.hid fun w1 hb => ((ed_one w1 (c := ⟨z, hd⟩) (Ed.wf_of (by simp only; omega) (by simp only; omega) hin.1 hin.2)).mono hb.size).drew
    have R1 : Hid (∀ (x : Nat) (w1 : World), x ≤ 2000 → RA edE (w1.alloc (.cells (ec ⟨x, 0⟩) 45)) (.slice (some ⟨w1.heap.size, 0, none⟩) 1 1) [⟨x, 0⟩]) := Lib.hid fun x w1 hx => (ed_one w1 (c := ⟨x, 0⟩) (Ed.wf_of (by simp only; omega) (by simp only; omega) (by simp only; omega) (by simp only; omega))).ra
    have R2 : Hid (∀ w1 : World, RA edE (w1.alloc (.cells (ec ⟨ZT, he⟩) 45)).drew (.slice (some ⟨w1.heap.size, 0, none⟩) 1 1) [⟨ZT, he⟩]) := Lib.hid fun w1 => ra_below (ed_one w1 (c := ⟨ZT, he⟩) (Ed.wf_of (by simp only; omega) (by simp only; omega) hin2.1 hin2.2)).ra ((Below.refl _ _).drew)
    generalize rise (z : Int) (takV ⟨z, m, u⟩ n) = RT at *
    have SZ : Hid (∀ x : World, Below w.heap.size w x → w.heap.size ≤ x.heap.size) := Lib.hid fun _ h => h.size
    clear CW hTV hhd hhe hin hin2 hD hv hl h hc hk h0 hB hb hwf s1 s2 a1 a2 q1 q2 q3 hm h1 t1 t2 t3 t4 ht hte H0 hu hZT
    generalize l.length = L at *
    go_enter Try.func14, Try.ntmps14
    go_wp2_with fail
    refine (C1.out).mono ?_; rintro e w1 ⟨⟨u1, rfl, _⟩, b1⟩
    have D1 := Lib.hid b1
    obtain ⟨x1, x2⟩ := HX.out w1 D1.out
    clear b1
    go_wp2_with fail
    refine (C3.out w1).mono ?_; rintro e w' ⟨rfl, rfl⟩
    go_wp2_with fail
    go_region_law (first
      | (go_simp; go_at_call 29; refine (CW1.out _).mono ?_; rintro e wq ⟨rfl, rfl⟩))
    all_goals
      have OX := Lib.hid (O1.out w1 D1.out)
      have DX : Hid (Below w.heap.size w (w1.alloc (.cells (ec ⟨z, hd⟩) 45)).drew) := Lib.hid ((bal D1.out).drew)
      clear C1 C3 CW1 x1 x2
      go_wp2
      go_loopw [10, 11] (fun e i wr => ∃ k : Nat, k + 1 ≤ t ∧ i = .int .i64 ((k + 1 : Nat) : Int) ∧ Hid (OwnA edE w.heap.size wr e (rise (z : Int) (hd :: List.replicate k 0)) ∧ Below w.heap.size w wr)) (fun _ i _ => t - (intOf i).toNat)
      case atStart => exact ⟨0, by have := HS.out; omega, by go_num, Lib.hid ⟨OX.out, DX.out⟩⟩
      case round =>
        obtain ⟨k, hk, rfl, H⟩ := hrel
        obtain ⟨x1, x2⟩ := HX.out wr H.out.2
        obtain ⟨K, hK⟩ : ∃ x, k + 1 = x := ⟨_, rfl⟩
        rw [hK]
        by_cases hlt : K < t
        · have i1 : (K : Int) < (t : Int) := by omega
          have i3 : IntKind.i64.wrap ((K : Int) + 1) = ((K + 1 : Nat) : Int) := by rw [show (K : Int) + 1 = ((K + 1 : Nat) : Int) by omega]; exact i64_nat _ (by have := HS.out; omega)
          have i4 : IntKind.i64.wrap ((z : Int) + (K : Int)) = ((z + K : Nat) : Int) := by rw [show (z : Int) + (K : Int) = ((z + K : Nat) : Int) by omega]; exact i64_nat _ (by have := HS.out; omega)
          have hR := rise_hd (z : Int) hd k
          rw [hK] at hR
          obtain ⟨x, hx⟩ : ∃ x, z + K = x := ⟨_, rfl⟩
          rw [hx] at i4
          rw [show (z : Int) + ((K : Nat) : Int) = (x : Int) by omega] at hR
          have HR := Lib.hid hR
          have RX := Lib.hid (R1.out x wr (by have := HS.out; omega))
          have DW : Hid (Below w.heap.size w (wr.alloc (.cells (ec ⟨x, 0⟩) 45))) := Lib.hid (bal H.out.2)
          have NL : Hid ((rise (z : Int) (hd :: List.replicate k 0)).length + [(⟨x, 0⟩ : Ed)].length ≤ 4000) := Lib.hid (by rw [rise_length, List.length_cons, List.length_replicate]; simp; have := HS.out; omega)
          have OW : Hid (OwnA edE w.heap.size (wr.alloc (.cells (ec ⟨x, 0⟩) 45)) _ (rise (z : Int) (hd :: List.replicate k 0))) := Lib.hid (H.out.1.alloc _)
          have HK := Lib.hid (And.intro hK hlt)
          clear hR hx hk hK hlt
          go_wp2_with (at_builtin; refine app_ed rfl _ _ rfl w.heap.size _ (rise (z : Int) (hd :: List.replicate k 0)) rfl OW.out _ [⟨x, 0⟩] rfl RX.out NL (SZ.out _ DW.out) ?_)
          intro v' w' ho hg _
          have HN : Hid (OwnA edE w.heap.size w' v' (rise (z : Int) (hd :: List.replicate K 0)) ∧ Below w.heap.size w w') := Lib.hid ⟨by rw [HR.out]; exact ho, below_app DW.out (SZ.out _ DW.out) OW.out hg⟩
          clear ho hg
          go_wp2
          go_roundw
          case rel => exact ⟨K, by have := HK.out; omega, by go_num, HN⟩
          case measure => have := HK.out; simp [intOf]; omega
        · have i1 : ¬ (K : Int) < (t : Int) := by omega
          have ek : k = t - 1 := by omega
          have HO := H.out.1
          rw [ek] at HO
          have HO := Lib.hid HO
          have DR := Lib.hid H.out.2
          clear ek hK H hk hlt
          by_cases e : t = m
          · have i5 : ¬ (t : Int) < (m : Int) := by omega
            rw [← HT.out.1 e] at HO
            go_wp2
            go_ret
            exact ⟨⟨_, rfl, HO.out⟩, DR.out⟩
          · have i5 : (t : Int) < (m : Int) := by have := HS.out; omega
            have DW : Hid (Below w.heap.size w (wr.alloc (.cells (ec ⟨ZT, he⟩) 45)).drew) := Lib.hid ((bal DR.out).drew)
            have NL : Hid ((rise (z : Int) (hd :: List.replicate (t - 1) 0)).length + [(⟨ZT, he⟩ : Ed)].length ≤ 4000) := Lib.hid (by rw [rise_length, List.length_cons, List.length_replicate]; simp; have := HS.out; omega)
            have OW := Lib.hid ((HO.out.alloc (.cells (ec ⟨ZT, he⟩) 45)).drew)
            go_wp2_with fail
            go_region_law (first
              | (go_simp; go_at_call 29; refine (CW2.out _).mono ?_; rintro e wq ⟨rfl, rfl⟩)
              | (refine step_ed (o := ⟨some 78, _, _, _, _, _⟩) rfl (.tmp 60) (.tmp 77) rfl w.heap.size _ (rise (z : Int) (hd :: List.replicate (t - 1) 0)) (by simp [Act.eval]) OW.out (.slice (some ⟨wr.heap.size, 0, none⟩) 1 1) [⟨ZT, he⟩] (by simp [Act.eval]) (R2.out wr) NL (SZ.out _ DW.out) ?_
                 intro vb wb ob gb _
                 have OB : Hid (OwnA edE w.heap.size wb vb RT) := Lib.hid (by rw [HT.out.2 e]; exact ob)
                 have GB := Lib.hid (below_app DW.out (SZ.out _ DW.out) OW.out gb)
                 clear ob gb))
            all_goals
              go_wp2
              go_ret
              exact ⟨⟨_, rfl, OB.out⟩, GB.out⟩
end Go.Proofs.Ytabdcdddkmklcaa
