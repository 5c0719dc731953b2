/-
  Of words with a header turned into none, and of words with a last block that reaches beyond the end, package chain tells no blocks. No conditions.
-/
import Derived.Test.YtcfpmpgodkepfaaBkk
namespace Go.Proofs.Ytcfpmpgodkepfaa.chainSpoilt
set_option maxRecDepth 100000
open Go.Proofs.Ytcfpmpgodkepfaa Go.ChangeShapes Go.WideShapes Go.ChangeAt Go.RowKit

theorem and3 (u : Nat) (h : u < 2 ^ 64) : ∃ x : Nat, bits .and .u64 (u : Int) 3 = (x : Int) ∧ x ≤ 3 := by
  refine ⟨u &&& 3, ?_, Nat.and_le_right⟩
  rw [u64_and _ _ (by omega) (by omega) (by omega) (by omega)]
  rfl
theorem set_ok {l : List Int} (h : WordsOk l) {j : Nat} {x : Int} (h0 : 0 ≤ x) (h1 : x ≤ 18446744073709551615) : WordsOk (l.set j x) := fun i hi => by
  rw [List.length_set] at hi
  have := h i hi
  rw [List.getD_eq_getElem?_getD] at this ⊢
  by_cases e : j = i
  · subst e
    rw [List.getElem?_set_self hi]
    exact ⟨h0, h1⟩
  · rw [List.getElem?_set_ne e]; exact this
theorem hdB_in (n : Int) (u : Bool) : 0 ≤ hdB n u ∧ hdB n u ≤ 18446744073709551615 := by
  by_cases h : MayB n
  · rw [hdB_yes h]
    obtain ⟨h1, h2⟩ := h
    rcases useB_or u with ⟨_, e⟩ | ⟨_, e⟩ <;> omega
  · rw [hdB_no h]; decide
theorem wrF_ok : ∀ (l : List Bk) (w : List Int), WordsOk w → WordsOk (wrF w l)
  | [], _, h => h
  | _ :: r, _, h => wrF_ok r _ (set_ok h (hdB_in _ _).1 (hdB_in _ _).2)
theorem zeros_ok (n : Nat) : WordsOk (List.replicate n 0) := fun j hj => by
  rw [List.length_replicate] at hj
  simp [hj]

set_option maxHeartbeats 1000000 in
theorem far (l : List Bk) (p : Option Addr) (c : Nat) (n k m : Int) (w : World) (hv : RA blkE w (.slice p l.length c) l) (h : 300 < l.length ∨ l.length = 0 ∨ mayL n l = false) :
    Calls Try.prog 5 #[.slice p l.length c, .int .i64 n, .int .i64 k, .int .i64 m] w fun e w' => e = .returned (.bool true) ∧ Below w.heap.size w w' := by
  by_cases h1 : 300 < l.length
  · clear hv h
    generalize l.length = L at *
    have i1 : (L : Int) > 300 := by omega
    go_enter Try.func5, Try.ntmps5
    go_wp2_with fail
    refine (awake_any _).mono ?_; rintro e w' ⟨rfl, hb⟩
    go_wp2_with fail
    go_ret
    exact ⟨rfl, hb⟩
  by_cases h2 : l.length = 0
  · rw [h2] at hv ⊢
    clear hv h h1
    go_enter Try.func5, Try.ntmps5
    go_wp2_with fail
    refine (awake_any _).mono ?_; rintro e w' ⟨rfl, hb⟩
    go_wp2_with fail
    go_ret
    exact ⟨rfl, hb⟩
  have h3 : mayL n l = false := (h.resolve_left h1).resolve_left h2
  have M := Lib.hid (rmay_is n l _ false w hv (by omega) h3)
  have i1 : ¬ (l.length : Int) > 300 := by omega
  have i2 : ¬ (l.length : Int) = 0 := by omega
  have i3 : ((l.length : Int) == 0) = false := beq_eq_false_iff_ne.2 i2
  clear hv h h1 h3
  generalize l.length = L at *
  go_enter Try.func5, Try.ntmps5
  go_wp2_with fail
  refine (M.out).mono ?_; rintro e w1 ⟨rfl, b1⟩
  have D1 := Lib.hid b1
  clear b1
  go_wp2_with fail
  refine (awake_any _).mono ?_; rintro e w2 ⟨rfl, b2⟩
  have D2 := Lib.hid (below_more D1.out b2)
  clear b2
  go_wp2_with fail
  go_ret
  exact ⟨rfl, D2.out⟩

set_option maxHeartbeats 2000000 in
theorem near (l : List Bk) (p : Option Addr) (c : Nat) (n : Int) (k m : Int) (w : World) (hv : RA blkE w (.slice p l.length c) l) (h1 : l.length ≤ 300) (h2 : 0 < l.length) (h3 : mayL n l = true) :
    Calls Try.prog 5 #[.slice p l.length c, .int .i64 n, .int .i64 k, .int .i64 m] w fun e w' => e = .returned (.bool true) ∧ Below w.heap.size w w' := by
  obtain ⟨N, rfl⟩ : ∃ N : Nat, n = N := ⟨n.toNat, by obtain ⟨⟨h, _⟩, _⟩ := mayL_yes.1 h3; omega⟩
  obtain ⟨L, hL⟩ : ∃ L, l.length = L := ⟨_, rfl⟩
  rw [hL] at hv ⊢
  obtain ⟨u1, hu1, _⟩ := u64_nat k
  have t1 : (u1 : Int).tmod (L : Int) = ((u1 % L : Nat) : Int) := tmod_nat u1 L
  obtain ⟨K, hK⟩ : ∃ K, u1 % L = K := ⟨_, rfl⟩
  rw [hK] at t1
  have hKL : K < L := by rw [← hK]; exact Nat.mod_lt _ (by omega)
  have t2 : IntKind.i64.wrap (K : Int) = K := i64_nat _ (by omega)
  have t3 : IntKind.u64.wrap (L : Int) = L := by rw [IntKind.wrap_u64]; omega
  obtain ⟨u2, hu2, hu2l⟩ := u64_nat m
  obtain ⟨X, hX, hX3⟩ := and3 u2 hu2l
  have t4 : (u2 : Int).tmod 100 = ((u2 % 100 : Nat) : Int) := tmod_nat u2 100
  obtain ⟨D, hD⟩ : ∃ D, u2 % 100 = D := ⟨_, rfl⟩
  rw [hD] at t4
  have hD100 : D < 100 := by omega
  have t5 : IntKind.i64.wrap (D : Int) = D := i64_nat _ (by omega)
  obtain ⟨J, hJ⟩ : ∃ J, L - 1 = J := ⟨_, rfl⟩
  have t6 : IntKind.i64.wrap ((L : Int) - 1) = J := by rw [show (L : Int) - 1 = (J : Int) by omega]; exact i64_nat _ (by omega)
  -- the two words that are spoilt
  have hmay := h3
  rw [getD_split (show K < l.length by omega), show (N : Int) = ((List.replicate N 0 : List Int).length : Int) by rw [List.length_replicate]] at hmay
  have hs := blkF_spoilt (x := (X : Int)) hmay (by unfold MayB; omega)
  rw [← getD_split (show K < l.length by omega)] at hs
  have hmay2 := h3
  have hl1 : l = l.take J ++ [l.getD J default] := by
    have := getD_split (l := l) (k := J) (by omega)
    rw [List.drop_eq_nil_of_le (by omega)] at this
    exact this
  rw [hl1, show (N : Int) = ((List.replicate N 0 : List Int).length : Int) by rw [List.length_replicate]] at hmay2
  have ho := blkF_over (d := 1 + (D : Int)) hmay2 (by omega)
  rw [← hl1] at ho
  have hf := (mayL_yes.1 h3).2
  have sK := mayF_sizes hf (l.getD K default) (by rw [List.getD_eq_getElem?_getD, List.getElem?_eq_getElem (by omega)]; exact List.getElem_mem _)
  have sJ := mayF_sizes hf (l.getD J default) (by rw [List.getD_eq_getElem?_getD, List.getElem?_eq_getElem (by omega)]; exact List.getElem_mem _)
  have hWL := wrF_length l (List.replicate N 0)
  rw [List.length_replicate] at hWL
  have hOk := wrF_ok l _ (zeros_ok N)
  have HW1 := Lib.hid (fun (v : Value) (w : World) (hv : RU w v ((wrF (List.replicate N 0) l).set (l.getD K default).a.toNat X)) => blocks_is _ v none w hv (by rw [List.length_set, hWL]; obtain ⟨⟨_, h, _⟩, _⟩ := mayL_yes.1 h3; omega) (set_ok hOk (by omega) (by omega)) hs)
  have HW2 := Lib.hid (fun (v : Value) (w : World) (hv : RU w v ((wrF (List.replicate N 0) l).set (l.getD J default).a.toNat (hdB ((l.getD J default).s + (1 + (D : Int))) (l.getD J default).u))) => blocks_is _ v none w hv (by rw [List.length_set, hWL]; obtain ⟨⟨_, h, _⟩, _⟩ := mayL_yes.1 h3; omega) (set_ok hOk (hdB_in _ _).1 (hdB_in _ _).2) ho)
  have M := Lib.hid (rmay_is N l _ true w hv (by omega) h3)
  have HH := Lib.hid (fun (w' : World) (hb : Below w.heap.size w w') => headers_is N l _ w' (ra_below hv hb) h3)
  have HV := Lib.hid hv
  have HN : Hid (8 ≤ N ∧ N ≤ 512) := Lib.hid (by obtain ⟨⟨h, h', _⟩, _⟩ := mayL_yes.1 h3; omega)
  obtain ⟨b, off, rfl, _, _⟩ := blk_at hv h2
  have HCK : Hid (∀ w', Below w.heap.size w w' → w'.cell? ⟨b, off + K * 3, none⟩ = some (.int .i64 (l.getD K default).a) ∧ (blkLoad (.pointer (some ⟨b, off + J * 3, none⟩))).run Try.prog w' = .ok (.agg (bc (l.getD J default))) w') := Lib.hid fun w' hb => by
    obtain ⟨b, off, e, _, hx⟩ := blk_at (ra_below hv hb) h2
    cases e
    exact ⟨(hx K (by omega)).2.1, (hx J (by omega)).1⟩
  have i0 : ¬ (L : Int) > 300 := by omega
  have i1 : ¬ (L : Int) = 0 := by omega
  have i2 : ((L : Int) == 0) = false := beq_eq_false_iff_ne.2 i1
  generalize l.getD K default = x at *
  generalize l.getD J default = y at *
  obtain ⟨xa, xs, xu⟩ := x
  obtain ⟨ya, ys, yu⟩ := y
  obtain ⟨⟨g1, g2⟩, q1, q2⟩ := sK
  obtain ⟨⟨g3, g4⟩, q3, q4⟩ := sJ
  simp only at g1 g2 g3 g4 q1 q2 q3 q4 HW1 HW2
  obtain ⟨A, rfl⟩ : ∃ A : Nat, xa = A := ⟨xa.toNat, by omega⟩
  obtain ⟨B, rfl⟩ : ∃ B : Nat, ya = B := ⟨ya.toNat, by omega⟩
  rw [Int.toNat_natCast] at HW1 HW2
  generalize hWW : wrF (List.replicate N 0) l = ww at *
  have HWL := Lib.hid hWL
  have HAB : Hid (A < N ∧ B < N) := Lib.hid (by omega)
  obtain ⟨s1, hs1⟩ : ∃ s1, ys + 1 = s1 := ⟨_, rfl⟩
  obtain ⟨S, hS⟩ : ∃ S, ys + (1 + (D : Int)) = S := ⟨_, rfl⟩
  have t7 : IntKind.i64.wrap (ys + 1) = s1 := by rw [hs1]; exact IntWalk.i64_in _ (by omega)
  have t8 : IntKind.i64.wrap (s1 + (D : Int)) = S := by rw [show s1 + (D : Int) = S by omega]; exact IntWalk.i64_in _ (by omega)
  rw [hS] at HW2
  have C := Lib.hid (fun w => wordb_is S yu w)
  generalize hdB S yu = hd at *
  have k0 : (0 : Int) ≤ (K : Int) := by omega
  have k1 : (K : Int) < (L : Int) := by omega
  have k2 : ¬ (K : Int) < 0 := by omega
  have k3 : (0 : Int) ≤ (J : Int) := by omega
  have k4 : (J : Int) < (L : Int) := by omega
  have k5 : ¬ (J : Int) < 0 := by omega
  have a0 : (0 : Int) ≤ (A : Int) := by omega
  have a1 : (A : Int) < (N : Int) := by omega
  have a2 : ¬ (A : Int) < 0 := by omega
  have b0 : (0 : Int) ≤ (B : Int) := by omega
  have b1 : (B : Int) < (N : Int) := by omega
  have b2 : ¬ (B : Int) < 0 := by omega
  have hL0 : ¬ L = 0 := by omega
  clear hv h1 h2 h3 hmay hmay2 hs ho hf hOk hWL hWW hl1 hK hKL hX3 hD hD100 hJ hs1 hS g1 g2 g3 g4 q1 q2 q3 q4
  go_enter Try.func5, Try.ntmps5
  go_wp2_with fail
  refine (M.out).mono ?_; rintro e w1 ⟨rfl, b1'⟩
  have D1 := Lib.hid b1'
  clear b1'
  go_wp2_with fail
  refine (HH.out w1 D1.out).mono ?_; rintro e w2 ⟨⟨c2, rfl, o2⟩, b2'⟩
  have D2 := Lib.hid (below_more D1.out b2')
  obtain ⟨x1, x2⟩ := HCK.out w2 D2.out
  obtain ⟨c3, z3⟩ := OwnU.cells o2 (j := A) (by rw [HWL.out]; exact HAB.out.1)
  have own3 := OwnU.stored o2 A (X : Int)
  have B3 : Below w.heap.size w (w2.setCell ⟨w1.heap.size, A, none⟩ (.int .u64 X)) := D2.out.setCell (p := ⟨w1.heap.size, A, none⟩) D1.out.size _
  obtain ⟨w3, hw3⟩ : ∃ w3, w2.setCell ⟨w1.heap.size, A, none⟩ (.int .u64 X) = w3 := ⟨_, rfl⟩
  rw [hw3] at own3 B3
  have O3 := Lib.hid own3
  have D3 := Lib.hid B3
  generalize ww.getD A 0 = yy at c3
  clear own3 B3 b2' x2 o2
  go_wp2_with fail
  refine (HW1.out _ w3 O3.out.ru).mono ?_; rintro e w4 ⟨⟨u4, rfl, _⟩, b4⟩
  have D4 := Lib.hid (below_more D3.out b4)
  clear b4 hw3 x1 c3 z3
  go_wp2_with fail
  refine (HH.out w4 D4.out).mono ?_; rintro e w5 ⟨⟨c5, rfl, o5⟩, b5⟩
  have D5 := Lib.hid (below_more D4.out b5)
  obtain ⟨_, x2⟩ := HCK.out w5 D5.out
  obtain ⟨W, hW, HW⟩ := blk_boxed w5 ⟨B, ys, yu⟩
  have y0 : W.cell? ⟨w5.heap.size, 0, none⟩ = some (.int .i64 B) := HW.out.1.c0
  have y1 : W.cell? ⟨w5.heap.size, 1, none⟩ = some (.int .i64 ys) := HW.out.1.c1
  have y2 : W.cell? ⟨w5.heap.size, 2, none⟩ = some (.bool yu) := HW.out.1.c2
  have o6 := o5.below HW.out.2
  have hB6 := below_more D5.out HW.out.2
  obtain ⟨c3, z3⟩ := OwnU.cells o6.drew (j := B) (by rw [HWL.out]; exact HAB.out.2)
  have own7 := OwnU.stored o6.drew B hd
  have B7 : Below w.heap.size w (W.drew.setCell ⟨w4.heap.size, B, none⟩ (.int .u64 hd)) := hB6.drew.setCell (p := ⟨w4.heap.size, B, none⟩) D4.out.size _
  have O7 := Lib.hid own7
  have D7 := Lib.hid B7
  generalize ww.getD B 0 = yz at c3
  clear own7 B7 o5 o6 b5 hB6
  go_wp2_with fail
  go_region_law (first
    | (go_simp; go_at_call 24; refine (C.out _).mono ?_; rintro e wq ⟨rfl, rfl⟩))
  all_goals
    go_wp2_with fail
    refine (HW2.out _ _ O7.out.ru).mono ?_; rintro e w8 ⟨⟨u8, rfl, _⟩, b8⟩
    have D8 := Lib.hid (below_more D7.out b8)
    clear b8
    go_wp2_with fail
    refine (awake_any _).mono ?_; rintro e w9 ⟨rfl, b9⟩
    have D9 := Lib.hid (below_more D8.out b9)
    clear b9
    go_wp2_with fail
    go_ret
    exact ⟨rfl, D9.out⟩

theorem walk (l0 : List Bk) (v0 : Value) (a1 a2 a3 : Int) (w : World) (h0 : RA blkE w v0 l0) (_ : (Lit.int .i64 a1).wf = true) (_ : (Lit.int .i64 a2).wf = true) (_ : (Lit.int .i64 a3).wf = true) :
    Calls Try.prog 5 #[v0, .int .i64 a1, .int .i64 a2, .int .i64 a3] w fun e w' => e = .returned (.bool true) ∧ Below w.heap.size w w' := by
  obtain ⟨p, c, rfl, _⟩ := ra_shape h0
  by_cases h : 300 < l0.length ∨ l0.length = 0 ∨ mayL a1 l0 = false
  · exact far l0 p c a1 a2 a3 w h0 h
  · refine near l0 p c a1 a2 a3 w h0 (by omega) (by omega) ?_
    cases e : mayL a1 l0
    · exact absurd (.inr (.inr e)) h
    · rfl

set_option maxRecDepth 100000 in
theorem lifted (os : Os) (started : os.Started) (H : Type) (enc : TypeId × Value → H) :
    ReturnsInHanded {} Try.checked os 5 .any (Rows.chainSpoiltSpec.pre6 enc Try.prog Try.f5 Rows.chainSpoiltRow.domain false) (Rows.chainSpoiltSpec.post enc Try.prog Try.f5 false true false false) := by
  refine returnsInHanded_of_change (C := Try.checked) own started (by kernel_rfl) Try.func5
    (ChangeSpec.witness6 (enc := enc) (C := Try.checked) false ⟨#[], #[.slice none 0 0, .int .i64 0, .int .i64 0, .int .i64 0], []⟩ 8 (by kernel_rfl) (by kernel_rfl) (by kernel_rfl) (by kernel_rfl)) ?_
  intro W base args ds gs before hval0 hW hcnd _
  have hval : ∀ (j : Nat) t v, Try.f5.params[j]? = some t → args[j]? = some v → Value.okWide Try.prog W .any base t v := hval0
  have hW' := hW
  have hlt := hW.lt
  obtain ⟨p, q, hA0, hV, hpq, hfz, hnd⟩ := hW
  have hA : DataW.TrodAll enc Try.prog W 0 (fun _ => true) true Try.f5.params.toList args.toList ds p := hA0
  rw [Try.params5] at hA hval
  obtain ⟨v0, vs0, d0, ds0, p0, q0, hargs, rfl, hp, h0, r0⟩ := trodAll_cons hA
  obtain ⟨v1, vs1, d1, ds1, p1, q1, rfl, rfl, rfl, h1, r1⟩ := trodAll_cons r0
  obtain ⟨v2, vs2, d2, ds2, p2, q2, rfl, rfl, rfl, h2, r2⟩ := trodAll_cons r1
  obtain ⟨v3, vs3, d3, ds3, p3, q3, rfl, rfl, rfl, h3, r3⟩ := trodAll_cons r2
  obtain ⟨rfl, rfl, rfl⟩ := trodAll_nil r3
  obtain rfl : args = #[v0, v1, v2, v3] := by cases args; simp_all
  obtain ⟨rfl, rfl⟩ := trodVars_none hV
  have hlt' : ∀ x ∈ before, x.block < W.heap.size := fun x hx => hlt x hx
  obtain ⟨l0, w0⟩ := blocks_in (hval 0 23 v0 rfl rfl) h0
  obtain ⟨a1, rfl, rfl, rfl, w1⟩ := open_int Try.underlying3 (hval 1 3 v1 rfl rfl) h1
  obtain ⟨a2, rfl, rfl, rfl, w2⟩ := open_int Try.underlying3 (hval 2 3 v2 rfl rfl) h2
  obtain ⟨a3, rfl, rfl, rfl, w3⟩ := open_int Try.underlying3 (hval 3 3 v3 rfl rfl) h3
  refine (walk l0 v0 a1 a2 a3 W w0 w1 w2 w3).mono fun e W' ⟨he, hb⟩ => ?_
  subst he
  exact ⟨_, rfl, law_post rfl (by kernel_rfl) hW' (by rw [Try.params5]; intro t ht; simp only [List.mem_cons, List.not_mem_nil, or_false] at ht; (repeat' (first | (rcases ht with rfl | ht) | subst ht)) <;> exact ⟨by kernel_rfl, of_decide_eq_true (by kernel_rfl)⟩) rfl hb⟩

theorem over : Rows.chainSpoiltRow.holds Try.pinned (OpenSpec.ofChange Rows.chainSpoiltSpec) :=
  OpenClaim.holds_of_wide 5 Try.f5 rfl rfl rfl rfl rfl rfl rfl ⟨rfl, rfl, rfl, rfl, rfl⟩ rfl rfl rfl rfl rfl (by kernel_rfl) Try.func5 (by kernel_rfl)
    (of_decide_eq_true (by kernel_rfl)) (by unfold Func.isWrapper; first | (rw [if_pos (by decide +kernel)]; kernel_rfl) | (rw [if_neg (by decide +kernel)]; exact ⟨rfl, rfl⟩))
    (fun os started H enc _ => lifted os started H enc)

theorem proved : Rows.ChainSpoiltSaid := over
end Go.Proofs.Ytcfpmpgodkepfaa.chainSpoilt
