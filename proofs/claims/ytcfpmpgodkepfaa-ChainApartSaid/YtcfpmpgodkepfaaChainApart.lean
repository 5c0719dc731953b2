/-
  Two free blocks side by side may not be; neither may blocks of which one was taken away, nor blocks with a gap between, nor blocks of another number of words. No conditions.
-/
import Derived.Test.YtcfpmpgodkepfaaBkk
namespace Go.Proofs.Ytcfpmpgodkepfaa.chainApart
set_option maxRecDepth 100000
open Go.Proofs.Ytcfpmpgodkepfaa Go.ChangeShapes Go.WideShapes Go.ChangeAt Go.RowKit

theorem two_free {n : Int} {x y : Bk} {r : List Bk} (hx : x.u = false) (hy : y.u = false) : ∀ {p : List Bk} {a : Int} {f : Bool}, mayF n a f (p ++ x :: y :: r) = true → False
  | [], a, f, h => by
    obtain ⟨_, _, _, h⟩ := mayF_cons.1 h
    obtain ⟨_, _, h, _⟩ := mayF_cons.1 h
    rw [hx] at h
    exact h ⟨rfl, hy⟩
  | b :: p, a, f, h => two_free hx hy (mayF_cons.1 h).2.2.2
theorem szs_app : ∀ p r : List Bk, szs (p ++ r) = szs p + szs r
  | [], r => by simp [szs]
  | b :: p, r => by rw [List.cons_append, szs, szs, szs_app p r, Int.add_assoc]
theorem set_one (x' : Bk) {x : Bk} {r : List Bk} : ∀ p : List Bk, (p ++ x :: r).set p.length x' = p ++ x' :: r
  | [] => rfl
  | b :: p => by rw [List.cons_append, List.length_cons, List.set_cons_succ, set_one x' p, List.cons_append]
theorem set_next (y' : Bk) {x y : Bk} {r : List Bk} (p : List Bk) : (p ++ x :: y :: r).set (p.length + 1) y' = p ++ x :: y' :: r := by
  have := set_one y' (x := y) (r := r) (p ++ [x])
  rw [List.length_append, List.append_assoc, List.append_assoc] at this
  exact this
theorem no_may {n : Int} {l : List Bk} (h : mayF n 0 false l = true → False) : mayL n l = false := by
  cases e : mayL n l
  · rfl
  · exact absurd (mayL_yes.1 e).2 h
theorem apart {n : Int} {p r : List Bk} {x y : Bk} (h : mayL n (p ++ x :: y :: r) = true) :
    mayL n (((p ++ x :: y :: r).set p.length ⟨x.a, x.s, false⟩).set (p.length + 1) ⟨y.a, y.s, false⟩) = false ∧ mayL n (p ++ y :: r) = false ∧
      mayL n ((p ++ x :: y :: r).set (p.length + 1) ⟨y.a + 1, y.s, y.u⟩) = false ∧ mayL (n + 8) (p ++ x :: y :: r) = false := by
  have hf := (mayL_yes.1 h).2
  have he := (mayF_end hf).1
  obtain ⟨g, hg, _⟩ := mayF_app hf
  obtain ⟨_, hx, _, hg⟩ := mayF_cons.1 hg
  obtain ⟨hy, _⟩ := mayF_cons.1 hg
  obtain ⟨hx1, _⟩ := hx
  rw [szs_app, szs, szs] at he
  refine ⟨no_may fun q => ?_, no_may fun q => ?_, no_may fun q => ?_, no_may fun q => ?_⟩
  · rw [set_one, set_next] at q
    exact two_free rfl rfl q
  · have := (mayF_end q).1
    rw [szs_app, szs] at this
    omega
  · rw [set_next] at q
    obtain ⟨g, q, _⟩ := mayF_app q
    obtain ⟨_, _, _, q⟩ := mayF_cons.1 q
    obtain ⟨q, _⟩ := mayF_cons.1 q
    simp only at q
    omega
  · have := (mayF_end q).1
    rw [szs_app, szs, szs] at this
    omega
theorem split2 {l : List Bk} {k : Nat} (hk : k + 1 < l.length) : l = l.take k ++ l.getD k default :: l.getD (k + 1) default :: l.drop (k + 2) := by
  have := getD_split (l := l) (k := k) (by omega)
  rw [getD_cut hk] at this
  exact this
theorem apart_at {n : Int} {l : List Bk} {k : Nat} (hk : k + 1 < l.length) (h : mayL n l = true) :
    mayL n ((l.set k ⟨(l.getD k default).a, (l.getD k default).s, false⟩).set (k + 1) ⟨(l.getD (k + 1) default).a, (l.getD (k + 1) default).s, false⟩) = false ∧ mayL n (l.take k ++ l.drop (k + 1)) = false ∧
      mayL n (l.set (k + 1) ⟨(l.getD (k + 1) default).a + 1, (l.getD (k + 1) default).s, (l.getD (k + 1) default).u⟩) = false ∧ mayL (n + 8) l = false := by
  have hl : (l.take k).length = k := by rw [List.length_take]; omega
  have hs := split2 hk
  have h' := h
  rw [hs] at h'
  have := apart h'
  rw [← hs, hl, ← getD_cut hk] at this
  exact this

section
variable {ops : Array Oper} {o : Oper} {a : Act} {w : World} {Q : Exit → Act → World → Prop} {K : Act → World → Prop}
theorem step_blk {F : Prop} (hgd : o.guard = none) (s x : Operand) (ho : o.op = .call { callee := .builtin .append, args := #[s, x], argTypes := #[23, 23] }) (B : Nat) (v : Value) (l : List Bk) (hs : a.eval s = v) (hown : OwnA blkE B w v l)
    (u : Value) (r : List Bk) (hx : a.eval x = u) (hr : RA blkE w u r) (hlen : Hid (l.length + r.length ≤ 2000)) (hB : B ≤ w.heap.size)
    (h : ∀ v' w', OwnA blkE B w' v' (l ++ r) → w.grownBy w' v.ownBlock → (v'.ownBlock = v.ownBlock ∨ v'.ownBlock = some w.heap.size) → K (a.put o.dst v') w') : if Region.wanted o (yielded ops a.tmps) = true then o.wp Try.prog a w K Q else F :=
  step_app blkE hgd s x ho B v l hs hown u r hx hr (by have := hlen.out; show _ * 24 ≤ _; omega) hB h
end

set_option maxHeartbeats 1000000 in
theorem far (l : List Bk) (p : Option Addr) (c : Nat) (n k : Int) (w : World) (hv : RA blkE w (.slice p l.length c) l) (h : 300 < l.length ∨ l.length < 2 ∨ mayL n l = false) :
    Calls Try.prog 7 #[.slice p l.length c, .int .i64 n, .int .i64 k] w fun e w' => e = .returned (.bool true) ∧ Below w.heap.size w w' := by
  by_cases h1 : 300 < l.length
  · clear hv h
    generalize l.length = L at *
    have i1 : (L : Int) > 300 := by omega
    go_enter Try.func7, Try.ntmps7
    go_wp2_with fail
    refine (awake_any _).mono ?_; rintro e w' ⟨rfl, hb⟩
    go_wp2_with fail
    go_ret
    exact ⟨rfl, hb⟩
  by_cases h2 : l.length < 2
  · clear hv h
    generalize l.length = L at *
    have i1 : ¬ (L : Int) > 300 := by omega
    have i2 : (L : Int) < 2 := by omega
    go_enter Try.func7, Try.ntmps7
    go_wp2_with fail
    refine (awake_any _).mono ?_; rintro e w' ⟨rfl, hb⟩
    go_wp2_with fail
    go_ret
    exact ⟨rfl, hb⟩
  have h3 : mayL n l = false := (h.resolve_left h1).resolve_left h2
  have M := Lib.hid (rmay_is n l _ false w hv (by omega) h3)
  have i1 : ¬ (l.length : Int) > 300 := by omega
  have i2 : ¬ (l.length : Int) < 2 := by omega
  clear hv h h1 h3
  generalize l.length = L at *
  go_enter Try.func7, Try.ntmps7
  go_wp2_with fail
  refine (M.out).mono ?_; rintro e w1 ⟨rfl, b1⟩
  have D1 := Lib.hid b1
  clear b1
  go_wp2_with fail
  refine (awake_any _).mono ?_; rintro e w2 ⟨rfl, b2⟩
  have D2 := Lib.hid (below_more D1.out b2)
  clear b2
  go_wp2_with fail
  go_ret
  exact ⟨rfl, D2.out⟩

set_option maxHeartbeats 2000000 in
theorem near (l : List Bk) (p : Option Addr) (c : Nat) (n : Int) (k : Int) (w : World) (hv : RA blkE w (.slice p l.length c) l) (h1 : l.length ≤ 300) (h2 : 2 ≤ l.length) (h3 : mayL n l = true) :
    Calls Try.prog 7 #[.slice p l.length c, .int .i64 n, .int .i64 k] w fun e w' => e = .returned (.bool true) ∧ Below w.heap.size w w' := by
  obtain ⟨N, rfl⟩ : ∃ N : Nat, n = N := ⟨n.toNat, by obtain ⟨⟨h, _⟩, _⟩ := mayL_yes.1 h3; omega⟩
  have hN : 8 ≤ N ∧ N ≤ 512 := by obtain ⟨⟨h, h', _⟩, _⟩ := mayL_yes.1 h3; omega
  obtain ⟨L, hL⟩ : ∃ L, l.length = L := ⟨_, rfl⟩
  obtain ⟨u1, hu1, _⟩ := u64_nat k
  obtain ⟨J, hJ⟩ : ∃ J, L - 1 = J := ⟨_, rfl⟩
  have t0 : IntKind.i64.wrap ((L : Int) - 1) = J := by rw [show (L : Int) - 1 = (J : Int) by omega]; exact i64_nat _ (by omega)
  have t1 : (u1 : Int).tmod (J : Int) = ((u1 % J : Nat) : Int) := tmod_nat u1 J
  obtain ⟨K, hK⟩ : ∃ K, u1 % J = K := ⟨_, rfl⟩
  rw [hK] at t1
  have hKJ : K < J := by rw [← hK]; exact Nat.mod_lt _ (by omega)
  have t2 : IntKind.i64.wrap (K : Int) = K := i64_nat _ (by omega)
  have t3 : IntKind.u64.wrap (J : Int) = J := by rw [IntKind.wrap_u64]; omega
  obtain ⟨K1, hK1⟩ : ∃ K1, K + 1 = K1 := ⟨_, rfl⟩
  have t4 : IntKind.i64.wrap ((K : Int) + 1) = K1 := by rw [show (K : Int) + 1 = (K1 : Int) by omega]; exact i64_nat _ (by omega)
  have t5 : IntKind.i64.wrap ((N : Int) + 8) = ((N + 8 : Nat) : Int) := by rw [show (N : Int) + 8 = ((N + 8 : Nat) : Int) by omega]; exact i64_nat _ (by omega)
  obtain ⟨fa, fb, fc, fd⟩ := apart_at (k := K) (by omega) h3
  rw [hK1] at fa fb fc
  have hf := (mayL_yes.1 h3).2
  have sJ := mayF_sizes hf (l.getD K1 default) (by rw [List.getD_eq_getElem?_getD, List.getElem?_eq_getElem (by omega)]; exact List.getElem_mem _)
  have hok := ra_ok hv
  obtain ⟨b, off, rfl, hbw, _⟩ := blk_at hv (by omega)
  obtain ⟨_, _, e0, hlc, hcm⟩ := ra_shape hv
  cases e0
  have hw1 := hok.at_ (k := K) (by omega)
  have hw2 := hok.at_ (k := K1) (by omega)
  obtain ⟨x, hx⟩ : ∃ x, l.getD K default = x := ⟨_, rfl⟩
  obtain ⟨y, hy⟩ : ∃ x, l.getD K1 default = x := ⟨_, rfl⟩
  rw [hx, hy] at fa
  rw [hy] at fc sJ hw2
  rw [hx] at hw1
  obtain ⟨xa, xs, xu⟩ := x
  obtain ⟨ya, ys, yu⟩ := y
  simp only at fa fc sJ
  obtain ⟨⟨g1, g2⟩, g3, g4⟩ := sJ
  have t6 : IntKind.i64.wrap (ya + 1) = ya + 1 := IntWalk.i64_in _ (by omega)
  have m0 : 2 ≤ L := by omega
  have CA := Lib.hid (fun (v : Value) (w : World) (hv : RA blkE w v _) => may_is N _ v false w hv (by rw [List.length_set, List.length_set]; omega) fa)
  have CB := Lib.hid (fun (v : Value) (w : World) (hv : RA blkE w v _) => may_is N _ v false w hv (by rw [List.length_append, List.length_take, List.length_drop]; omega) fb)
  have CC := Lib.hid (fun (v : Value) (w : World) (hv : RA blkE w v _) => may_is N _ v false w hv (by rw [List.length_set]; omega) fc)
  rw [hL] at hv
  have CD := Lib.hid (fun (w' : World) (hb : Below w.heap.size w w') => may_is ((N + 8 : Nat) : Int) l _ false w' (ra_below hv hb) (by omega) (by rw [show ((N + 8 : Nat) : Int) = (N : Int) + 8 by omega]; exact fd))
  have M := Lib.hid (rmay_is N l _ true w hv (by omega) h3)
  have HV := Lib.hid hv
  have HW1 : Hid (Bk.Wf ⟨xa, xs, false⟩) := Lib.hid ⟨hw1.1, hw1.2⟩
  have HW2 : Hid (Bk.Wf ⟨ya, ys, false⟩) := Lib.hid ⟨hw2.1, hw2.2⟩
  have HW3 : Hid (Bk.Wf ⟨ya + 1, ys, yu⟩) := Lib.hid ⟨i64_of (show -9223372036854775808 ≤ ya + 1 by omega) (show ya + 1 ≤ 9223372036854775807 by omega), hw2.2⟩
  have HL := Lib.hid hL
  have HX := Lib.hid hx
  have HY := Lib.hid hy
  have HK : Hid (K + 1 = K1 ∧ K1 < L ∧ L ≤ 300) := Lib.hid (by omega)
  have hT := ra_take hv K
  rw [show min K l.length = K by omega] at hT
  have HT := Lib.hid hT
  have hD := ra_drop hv (k := K1) (by omega)
  rw [show off + K1 * blkE.size = off + K1 * 3 from rfl] at hD
  have HD := Lib.hid hD
  have lA : Hid (([] : List Bk).length + l.length ≤ 2000) := Lib.hid (by simp; omega)
  have lT : Hid (([] : List Bk).length + (l.take K).length ≤ 2000) := Lib.hid (by simp; omega)
  have lD : Hid (([] ++ l.take K).length + (l.drop K1).length ≤ 2000) := Lib.hid (by simp; omega)
  rw [hL]
  rw [hL] at hlc
  have i0 : ¬ (L : Int) > 300 := by omega
  have i1 : ¬ (L : Int) < 2 := by omega
  have i2 : ¬ (J : Int) = 0 := by omega
  have i2' : ¬ J = 0 := by omega
  have i3 : (0 : Int) ≤ (K : Int) := by omega
  have i4 : (K : Int) < (L : Int) := by omega
  have i5 : ¬ (K : Int) < 0 := by omega
  have i6 : (0 : Int) ≤ (K1 : Int) := by omega
  have i7 : (K1 : Int) < (L : Int) := by omega
  have i8 : ¬ (K1 : Int) < 0 := by omega
  have i9 : (K : Int) ≤ (c : Int) := by omega
  have ia : (K1 : Int) ≤ (L : Int) := by omega
  have ib : ¬ c = K1 := by omega
  have ic : ¬ (c : Int) < (K : Int) := by omega
  clear hv h1 h2 h3 hN hJ hK hKJ hK1 fa fb fc fd hf hok hbw hlc hcm hw1 hw2 hx hy g1 g2 g3 g4 hT hD hL
  go_enter Try.func7, Try.ntmps7
  go_wp2_with fail
  refine (M.out).mono ?_; rintro e w1 ⟨rfl, b1⟩
  have D1 := Lib.hid b1
  obtain ⟨W1, hW1⟩ : ∃ W, w1.alloc (.cells #[] 37) = W := ⟨_, rfl⟩
  have O1 := Lib.hid (show OwnA blkE w1.heap.size W1 (.slice (some ⟨w1.heap.size, 0, none⟩) 0 0) [] by rw [← hW1]; exact blk_none w1)
  have E1 : Hid (Below w1.heap.size w1 W1) := Lib.hid (by rw [← hW1]; exact bal (Below.refl _ _))
  have R1 := Lib.hid (ra_below HV.out (below_more D1.out E1.out))
  have Z1 := Lib.hid E1.out.size
  clear b1
  go_wp2_with (at_builtin; refine app_blk (o := ⟨some 35, _, _, _, _, _⟩) rfl (.tmp 33) (.tmp 34) rfl w1.heap.size _ [] rfl O1.out _ l rfl R1.out lA Z1.out ?_)
  intro va w2 oa ga _
  have oa : OwnA blkE w1.heap.size w2 va l := oa
  obtain ⟨a2, ca, rfl, hga, hgb, hca, _⟩ := oa.block (by have := HL.out; omega)
  have E2 := Lib.hid (below_app E1.out Z1.out O1.out ga)
  have s2 := oa.setCell (k := K) (j := 2) (x := ⟨xa, xs, false⟩) (u := .bool false) (by have := HL.out; have := HK.out; omega) (by decide) HW1.out (by rw [HX.out]; rfl)
  have s3 := s2.setCell (k := K1) (j := 2) (x := ⟨ya, ys, false⟩) (u := .bool false) (by rw [List.length_set]; have := HL.out; have := HK.out; omega) (by decide) HW2.out (by rw [List.getD_eq_getElem?_getD, List.getElem?_set_ne (by have := HK.out; omega), ← List.getD_eq_getElem?_getD, HY.out]; rfl)
  have f2 := oa.free (K * 3 + 2)
  have f3 := s2.free (K1 * 3 + 2)
  have q2 : w2.cell? ⟨a2, K * 3 + 2, none⟩ = some (.bool xu) := by
    obtain ⟨b, off, e, _, hx⟩ := blk_at oa.ra (by have := HL.out; omega)
    cases e
    obtain ⟨_, _, _, h, _⟩ := hx K (by have := HL.out; have := HK.out; omega)
    rw [HX.out, Nat.zero_add] at h; exact h
  have q3 : (w2.setCell ⟨a2, K * 3 + 2, none⟩ (.bool false)).cell? ⟨a2, K1 * 3 + 2, none⟩ = some (.bool yu) := by
    obtain ⟨b, off, e, _, hx⟩ := blk_at s2.ra (by rw [List.length_set]; have := HL.out; omega)
    cases e
    obtain ⟨_, _, _, h, _⟩ := hx K1 (by rw [List.length_set]; have := HL.out; have := HK.out; omega)
    rw [List.getD_eq_getElem?_getD, List.getElem?_set_ne (by have := HK.out; omega), ← List.getD_eq_getElem?_getD, HY.out, Nat.zero_add] at h; exact h
  obtain ⟨w3, hw3⟩ : ∃ w3, w2.setCell ⟨a2, K * 3 + 2, none⟩ (.bool false) = w3 := ⟨_, rfl⟩
  obtain ⟨w4, hw4⟩ : ∃ w4, w3.setCell ⟨a2, K1 * 3 + 2, none⟩ (.bool false) = w4 := ⟨_, rfl⟩
  have s2 : OwnA blkE w1.heap.size (w2.setCell ⟨a2, K * 3 + 2, none⟩ (.bool false)) (.slice (some ⟨a2, 0, none⟩) l.length ca) (l.set K ⟨xa, xs, false⟩) := s2
  have s3 : OwnA blkE w1.heap.size ((w2.setCell ⟨a2, K * 3 + 2, none⟩ (.bool false)).setCell ⟨a2, K1 * 3 + 2, none⟩ (.bool false)) (.slice (some ⟨a2, 0, none⟩) l.length ca) ((l.set K ⟨xa, xs, false⟩).set K1 ⟨ya, ys, false⟩) := s3
  have f3 : (w2.setCell ⟨a2, K * 3 + 2, none⟩ (.bool false)).frozen? ⟨a2, K1 * 3 + 2, none⟩ = false := f3
  have E4 := Lib.hid ((E2.out.setCell (p := ⟨a2, K * 3 + 2, none⟩) hga (.bool false)).setCell (p := ⟨a2, K1 * 3 + 2, none⟩) hga (.bool false))
  rw [HL.out] at s3
  rw [hw3] at s3 f3 q3 E4
  rw [hw4] at s3 E4
  have OA := Lib.hid s3
  have D4 := Lib.hid (below_more D1.out E4.out)
  obtain ⟨W4, hW4⟩ : ∃ W, w4.alloc (.cells #[] 37) = W := ⟨_, rfl⟩
  have O4 := Lib.hid (show OwnA blkE w4.heap.size W4.drew (.slice (some ⟨w4.heap.size, 0, none⟩) 0 0) [] by rw [← hW4]; exact (blk_none w4).drew)
  have E5 : Hid (Below w4.heap.size w4 W4.drew) := Lib.hid (by rw [← hW4]; exact (bal (Below.refl _ _)).drew)
  have T4 := Lib.hid (ra_below HT.out (below_more D4.out E5.out))
  have Z4 := Lib.hid E5.out.size
  rw [HL.out]
  have j1 : (K : Int) < (L : Int) := i4
  clear ga oa s2 hgb hca s3 E2 E4
  go_wp2_with fail
  go_region_law (first
    | (refine step_blk (o := ⟨some 49, _, _, _, _, _⟩) rfl (.tmp 45) (.tmp 48) rfl w4.heap.size (.slice (some ⟨w4.heap.size, 0, none⟩) 0 0) [] (by simp [Act.eval]) O4.out (.slice (some ⟨b, off, none⟩) K c) (l.take K) (by simp [Act.eval]) T4.out lT Z4.out ?_
       intro vb wb ob gb _
       have OB := Lib.hid ob
       have GB := Lib.hid (below_app E5.out Z4.out O4.out gb)
       have TD := Lib.hid (ra_below HD.out (below_more D4.out GB.out))
       have ZB := Lib.hid GB.out.size
       clear ob gb)
    | (refine step_blk (o := ⟨some 54, _, _, _, _, _⟩) rfl (.tmp 49) (.tmp 53) rfl w4.heap.size vb ([] ++ l.take K) (by simp [Act.eval]) OB.out (.slice (some ⟨b, off + K1 * 3, none⟩) (L - K1) (c - K1)) (l.drop K1) (by simp [Act.eval]) TD.out lD ZB.out ?_
       intro vc wc oc gc _
       have OC := Lib.hid (show OwnA blkE w4.heap.size wc vc (l.take K ++ l.drop K1) from oc)
       have GC := Lib.hid (below_app GB.out ZB.out OB.out gc)
       clear oc gc))
  all_goals
    have Dc := Lib.hid (below_more D4.out GC.out)
    have OA2 := Lib.hid (OA.out.below GC.out)
    obtain ⟨W5, hW5⟩ : ∃ W, wc.alloc (.cells #[] 37) = W := ⟨_, rfl⟩
    have O5 := Lib.hid (show OwnA blkE wc.heap.size W5 (.slice (some ⟨wc.heap.size, 0, none⟩) 0 0) [] by rw [← hW5]; exact blk_none wc)
    have E6 : Hid (Below wc.heap.size wc W5) := Lib.hid (by rw [← hW5]; exact bal (Below.refl _ _))
    have R5 := Lib.hid (ra_below HV.out (below_more Dc.out E6.out))
    have Z5 := Lib.hid E6.out.size
    clear GB GC TD ZB O4 E5 T4 Z4 OA hw3 hw4 hW4 f2 f3 q2 q3
    go_wp2_with (at_builtin; refine app_blk (o := ⟨some 57, _, _, _, _, _⟩) rfl (.tmp 55) (.tmp 56) rfl wc.heap.size _ [] rfl O5.out _ l rfl R5.out lA Z5.out ?_)
    intro vd wd od gd _
    have od : OwnA blkE wc.heap.size wd vd l := od
    obtain ⟨d2, cd, rfl, hgd, hgb, hcd, _⟩ := od.block (by have := HL.out; omega)
    have Ed := Lib.hid (below_app E6.out Z5.out O5.out gd)
    have sd := od.setCell (k := K1) (j := 0) (x := ⟨ya + 1, ys, yu⟩) (u := .int .i64 (ya + 1)) (by have := HL.out; have := HK.out; omega) (by decide) HW3.out (by rw [HY.out]; rfl)
    have fd := od.free (K1 * 3)
    have qd : wd.cell? ⟨d2, K1 * 3, none⟩ = some (.int .i64 ya) := by
      obtain ⟨b, off, e, _, hx⟩ := blk_at od.ra (by have := HL.out; omega)
      cases e
      obtain ⟨_, h, _⟩ := hx K1 (by have := HL.out; have := HK.out; omega)
      rw [HY.out, Nat.zero_add] at h; exact h
    have sd : OwnA blkE wc.heap.size (wd.setCell ⟨d2, K1 * 3, none⟩ (.int .i64 (ya + 1))) (.slice (some ⟨d2, 0, none⟩) l.length cd) (l.set K1 ⟨ya + 1, ys, yu⟩) := sd
    have Es := Lib.hid (Ed.out.setCell (p := ⟨d2, K1 * 3, none⟩) hgd (.int .i64 (ya + 1)))
    obtain ⟨we, hwe⟩ : ∃ w, wd.setCell ⟨d2, K1 * 3, none⟩ (.int .i64 (ya + 1)) = w := ⟨_, rfl⟩
    rw [HL.out] at sd
    rw [hwe] at sd Es
    have OD := Lib.hid sd
    have De := Lib.hid (below_more Dc.out Es.out)
    have OA3 := Lib.hid (OA2.out.below Es.out)
    have OB3 := Lib.hid (OC.out.below Es.out)
    rw [HL.out]
    clear gd od sd hgd hgb hcd Ed
    go_wp2_with fail
    refine (CA.out _ we OA3.out.ra).mono ?_; rintro e x1 ⟨rfl, hb⟩
    have X1 := Lib.hid hb
    have Y1 := Lib.hid (OB3.out.below hb)
    clear hb
    go_wp2_with fail
    refine (CB.out _ x1 Y1.out.ra).mono ?_; rintro e x2 ⟨rfl, hb⟩
    have X2 := Lib.hid (below_more X1.out hb)
    have Y2 := Lib.hid (OD.out.below X2.out)
    clear hb
    go_wp2_with fail
    refine (CC.out _ x2 Y2.out.ra).mono ?_; rintro e x3 ⟨rfl, hb⟩
    have X3 := Lib.hid (below_more De.out (below_more X2.out hb))
    clear hb
    go_wp2_with fail
    refine (CD.out x3 X3.out).mono ?_; rintro e x4 ⟨rfl, hb⟩
    have X4 := Lib.hid (below_more X3.out hb)
    clear hb
    go_wp2_with fail
    refine (awake_any _).mono ?_; rintro e x5 ⟨rfl, hb⟩
    have X5 := Lib.hid (below_more X4.out hb)
    clear hb
    go_wp2_with fail
    go_ret
    exact ⟨rfl, X5.out⟩

theorem walk (l0 : List Bk) (v0 : Value) (a1 a2 : Int) (w : World) (h0 : RA blkE w v0 l0) (_ : (Lit.int .i64 a1).wf = true) (_ : (Lit.int .i64 a2).wf = true) :
    Calls Try.prog 7 #[v0, .int .i64 a1, .int .i64 a2] w fun e w' => e = .returned (.bool true) ∧ Below w.heap.size w w' := by
  obtain ⟨p, c, rfl, _⟩ := ra_shape h0
  by_cases h : 300 < l0.length ∨ l0.length < 2 ∨ mayL a1 l0 = false
  · exact far l0 p c a1 a2 w h0 h
  · refine near l0 p c a1 a2 w h0 (by omega) (by omega) ?_
    cases e : mayL a1 l0
    · exact absurd (.inr (.inr e)) h
    · rfl

set_option maxRecDepth 100000 in
theorem lifted (os : Os) (started : os.Started) (H : Type) (enc : TypeId × Value → H) :
    ReturnsInHanded {} Try.checked os 7 .any (Rows.chainApartSpec.pre6 enc Try.prog Try.f7 Rows.chainApartRow.domain false) (Rows.chainApartSpec.post enc Try.prog Try.f7 false true false false) := by
  refine returnsInHanded_of_change (C := Try.checked) own started (by kernel_rfl) Try.func7
    (ChangeSpec.witness6 (enc := enc) (C := Try.checked) false ⟨#[], #[.slice none 0 0, .int .i64 0, .int .i64 0], []⟩ 8 (by kernel_rfl) (by kernel_rfl) (by kernel_rfl) (by kernel_rfl)) ?_
  intro W base args ds gs before hval0 hW hcnd _
  have hval : ∀ (j : Nat) t v, Try.f7.params[j]? = some t → args[j]? = some v → Value.okWide Try.prog W .any base t v := hval0
  have hW' := hW
  have hlt := hW.lt
  obtain ⟨p, q, hA0, hV, hpq, hfz, hnd⟩ := hW
  have hA : DataW.TrodAll enc Try.prog W 0 (fun _ => true) true Try.f7.params.toList args.toList ds p := hA0
  rw [Try.params7] at hA hval
  obtain ⟨v0, vs0, d0, ds0, p0, q0, hargs, rfl, hp, h0, r0⟩ := trodAll_cons hA
  obtain ⟨v1, vs1, d1, ds1, p1, q1, rfl, rfl, rfl, h1, r1⟩ := trodAll_cons r0
  obtain ⟨v2, vs2, d2, ds2, p2, q2, rfl, rfl, rfl, h2, r2⟩ := trodAll_cons r1
  obtain ⟨rfl, rfl, rfl⟩ := trodAll_nil r2
  obtain rfl : args = #[v0, v1, v2] := by cases args; simp_all
  obtain ⟨rfl, rfl⟩ := trodVars_none hV
  have hlt' : ∀ x ∈ before, x.block < W.heap.size := fun x hx => hlt x hx
  obtain ⟨l0, w0⟩ := blocks_in (hval 0 23 v0 rfl rfl) h0
  obtain ⟨a1, rfl, rfl, rfl, w1⟩ := open_int Try.underlying3 (hval 1 3 v1 rfl rfl) h1
  obtain ⟨a2, rfl, rfl, rfl, w2⟩ := open_int Try.underlying3 (hval 2 3 v2 rfl rfl) h2
  refine (walk l0 v0 a1 a2 W w0 w1 w2).mono fun e W' ⟨he, hb⟩ => ?_
  subst he
  exact ⟨_, rfl, law_post rfl (by kernel_rfl) hW' (by rw [Try.params7]; intro t ht; simp only [List.mem_cons, List.not_mem_nil, or_false] at ht; (repeat' (first | (rcases ht with rfl | ht) | subst ht)) <;> exact ⟨by kernel_rfl, of_decide_eq_true (by kernel_rfl)⟩) rfl hb⟩

theorem over : Rows.chainApartRow.holds Try.pinned (OpenSpec.ofChange Rows.chainApartSpec) :=
  OpenClaim.holds_of_wide 7 Try.f7 rfl rfl rfl rfl rfl rfl rfl ⟨rfl, rfl, rfl, rfl, rfl⟩ rfl rfl rfl rfl rfl (by kernel_rfl) Try.func7 (by kernel_rfl)
    (of_decide_eq_true (by kernel_rfl)) (by unfold Func.isWrapper; first | (rw [if_pos (by decide +kernel)]; kernel_rfl) | (rw [if_neg (by decide +kernel)]; exact ⟨rfl, rfl⟩))
    (fun os started H enc _ => lifted os started H enc)

theorem proved : Rows.ChainApartSaid := over
end Go.Proofs.Ytcfpmpgodkepfaa.chainApart
