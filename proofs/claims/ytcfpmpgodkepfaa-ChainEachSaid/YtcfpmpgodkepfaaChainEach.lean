/-
  Each word is in one block: of blocks that may be, written as headers, package chain reads the same; it finds each word in the one that it is in, and tells what is free whole. No conditions.
-/
import Derived.Test.YtcfpmpgodkepfaaBkk
namespace Go.Proofs.Ytcfpmpgodkepfaa.chainEach
set_option maxRecDepth 100000
open Go.Proofs.Ytcfpmpgodkepfaa Go.ChangeShapes Go.WideShapes Go.ChangeAt Go.RowKit

theorem far (l : List Bk) (p : Option Addr) (c : Nat) (n x : Int) (w : World) (h : 300 < l.length) :
    Calls Try.prog 4 #[.slice p l.length c, .int .i64 n, .int .i64 x] w fun e w' => e = .returned (.bool true) ∧ Below w.heap.size w w' := by
  generalize l.length = L at *
  have i1 : (L : Int) > 300 := by omega
  go_enter Try.func4, Try.ntmps4
  go_wp2_with fail
  refine (awake_any _).mono ?_; rintro e w' ⟨rfl, hb⟩
  go_wp2_with fail
  go_ret
  exact ⟨rfl, hb⟩
theorem bad (l : List Bk) (p : Option Addr) (c : Nat) (n x : Int) (w : World) (hv : RA blkE w (.slice p l.length c) l) (h1 : l.length ≤ 300) (h3 : mayL n l = false) :
    Calls Try.prog 4 #[.slice p l.length c, .int .i64 n, .int .i64 x] w fun e w' => e = .returned (.bool true) ∧ Below w.heap.size w w' := by
  have M := Lib.hid (rmay_is n l _ false w hv (by omega) h3)
  have M2 := Lib.hid (fun (w' : World) (hb : Below w.heap.size w w') => may_is n l _ false w' (ra_below hv hb) (by omega) h3)
  have i1 : ¬ (l.length : Int) > 300 := by omega
  clear hv h1 h3
  generalize l.length = L at *
  go_enter Try.func4, Try.ntmps4
  go_wp2_with fail
  refine (M.out).mono ?_; rintro e w1 ⟨rfl, b1⟩
  have D1 := Lib.hid b1
  clear b1
  go_wp2_with fail
  refine (M2.out w1 D1.out).mono ?_; rintro e w2 ⟨rfl, b2⟩
  have D2 := Lib.hid (below_more D1.out b2)
  clear b2
  go_wp2_with fail
  refine (awake_any _).mono ?_; rintro e w3 ⟨rfl, b3⟩
  have D3 := Lib.hid (below_more D2.out b3)
  clear b3
  go_wp2_with fail
  go_ret
  exact ⟨rfl, D3.out⟩

set_option maxHeartbeats 2000000 in
theorem near (l : List Bk) (p : Option Addr) (c : Nat) (n x : Int) (w : World) (hv : RA blkE w (.slice p l.length c) l) (h1 : l.length ≤ 300) (h3 : mayL n l = true) :
    Calls Try.prog 4 #[.slice p l.length c, .int .i64 n, .int .i64 x] w fun e w' => e = .returned (.bool true) ∧ Below w.heap.size w w' := by
  obtain ⟨N, rfl⟩ : ∃ N : Nat, n = N := ⟨n.toNat, by obtain ⟨⟨h, _⟩, _⟩ := mayL_yes.1 h3; omega⟩
  obtain ⟨L, hL⟩ : ∃ L, l.length = L := ⟨_, rfl⟩
  rw [hL] at hv ⊢
  have hN : 8 ≤ N ∧ N ≤ 512 := by obtain ⟨⟨h, h', _⟩, _⟩ := mayL_yes.1 h3; omega
  obtain ⟨u1, hu1, _⟩ := u64_nat x
  have t1 : (u1 : Int).tmod (N : Int) = ((u1 % N : Nat) : Int) := tmod_nat u1 N
  obtain ⟨X, hX⟩ : ∃ X, u1 % N = X := ⟨_, rfl⟩
  rw [hX] at t1
  have hXN : X < N := by rw [← hX]; exact Nat.mod_lt _ (by omega)
  have t2 : IntKind.i64.wrap (X : Int) = X := i64_nat _ (by omega)
  have t3 : IntKind.u64.wrap (N : Int) = N := by rw [IntKind.wrap_u64]; omega
  have hf := (mayL_yes.1 h3).2
  have he := mayF_end hf
  obtain ⟨I, hI, hat, g1, g2⟩ := atS_in (x := (X : Int)) (k := 0) hf (by omega) (by omega)
  rw [Nat.zero_add] at hat
  have hL0 : 0 < l.length := by omega
  have sI := mayF_sizes hf (l.getD I default) (by rw [List.getD_eq_getElem?_getD, List.getElem?_eq_getElem (by omega)]; exact List.getElem_mem _)
  obtain ⟨b, off, rfl, _, _⟩ := blk_at hv hL0
  have HCI : Hid (∀ w', Below w.heap.size w w' → w'.cell? ⟨b, off + I * 3, none⟩ = some (.int .i64 (l.getD I default).a) ∧ w'.cell? ⟨b, off + I * 3 + 1, none⟩ = some (.int .i64 (l.getD I default).s)) := Lib.hid fun w' hb => by
    obtain ⟨b, off, e, _, hx⟩ := blk_at (ra_below hv hb) hL0
    cases e
    exact ⟨(hx I hI).2.1, (hx I hI).2.2.1⟩
  obtain ⟨ai, hai⟩ : ∃ a, (l.getD I default).a = a := ⟨_, rfl⟩
  obtain ⟨si, hsi⟩ : ∃ a, (l.getD I default).s = a := ⟨_, rfl⟩
  rw [hai, hsi] at HCI sI g2
  rw [hai] at g1
  obtain ⟨⟨_, _⟩, _, _⟩ := sI
  obtain ⟨ei, hei⟩ : ∃ a, ai + si = a := ⟨_, rfl⟩
  have t4 : IntKind.i64.wrap (ai + si) = ei := by rw [hei]; exact IntWalk.i64_in _ (by omega)
  have n1 : ¬ (X : Int) < ai := by omega
  have n2 : ¬ (X : Int) ≥ ei := by omega
  have n3 : ¬ ei ≤ (X : Int) := by omega
  have HR := blkF_wrF (w := List.replicate N 0) (l := l) (by rw [List.length_replicate]; exact h3)
  have hWL := wrF_length l (List.replicate N 0)
  rw [List.length_replicate] at hWL
  have hOk := wrF_ok l _ (zeros_ok N)
  have HB := Lib.hid (fun (v : Value) (w : World) (hv : RU w v (wrF (List.replicate N 0) l)) => blocks_is _ v _ w hv (by rw [hWL]; omega) hOk HR)
  have HH := Lib.hid (fun (w' : World) (hb : Below w.heap.size w w') => headers_is N l _ w' (ra_below hv hb) h3)
  have M := Lib.hid (rmay_is N l _ true w hv (by omega) h3)
  have M2 := Lib.hid (fun (w' : World) (hb : Below w.heap.size w w') => may_is N l _ true w' (ra_below hv hb) (by omega) h3)
  have A1 := Lib.hid (fun (w' : World) (hb : Below w.heap.size w w') => at_is X l _ _ w' (ra_below hv hb) (i64_of (by omega) (by omega)) hat)
  have A2 := Lib.hid (fun (w' : World) (hb : Below w.heap.size w w') => at_is (-1) l _ _ w' (ra_below hv hb) (by decide) (atS_out hf (.inl (by decide))))
  have A3 := Lib.hid (fun (w' : World) (hb : Below w.heap.size w w') => at_is N l _ _ w' (ra_below hv hb) (i64_of (by omega) (by omega)) (atS_out hf (.inr (by omega))))
  have hok := mayL_okL h3
  have F := Lib.hid (fun (w' : World) (hb : Below w.heap.size w w') => free_is l _ (frS l) w' (ra_below hv hb) (frL_yes hok))
  have HS := Lib.hid (fr_us l)
  have HZ : Hid (szs l = N) := Lib.hid (by omega)
  have HV := Lib.hid hv
  have HA : Hid (allB l = true) := Lib.hid (by rw [okL_is, Bool.and_eq_true] at hok; exact hok.2)
  have i0 : ¬ (L : Int) > 300 := by omega
  have i1 : (I : Int) < (L : Int) := by omega
  have i2 : ¬ (I : Int) < 0 := by omega
  have i3 : ¬ (I : Int) ≥ (L : Int) := by omega
  have i4 : (0 : Int) ≤ (I : Int) := by omega
  have i5 : I < L := by omega
  have i6 : ¬ L ≤ I := by omega
  have hN0 : ¬ N = 0 := by omega
  have HLL : Hid (L ≤ 300) := Lib.hid (by omega)
  have HL := Lib.hid hL
  have HN : Hid (N ≤ 512) := Lib.hid hN.2
  clear hv h1 h3 hX hXN hf he hat g1 g2 hI hL0 hai hsi hei HR hWL hOk hok hL hN
  go_enter Try.func4, Try.ntmps4
  go_wp2_with fail
  refine (M.out).mono ?_; rintro e w1 ⟨rfl, b1⟩
  have D1 := Lib.hid b1
  clear b1
  go_wp2_with fail
  refine (M2.out w1 D1.out).mono ?_; rintro e w2 ⟨rfl, b2⟩
  have D2 := Lib.hid (below_more D1.out b2)
  clear b2
  go_wp2_with fail
  refine (HH.out w2 D2.out).mono ?_; rintro e w3 ⟨⟨c3, rfl, o3⟩, b3⟩
  have D3 := Lib.hid (below_more D2.out b3)
  have O3 := Lib.hid o3
  clear b3 o3
  go_wp2_with fail
  refine (HB.out _ w3 O3.out.ru).mono ?_; rintro e w4 ⟨⟨u4, rfl, o4⟩, b4⟩
  have D4 := Lib.hid (below_more D3.out b4)
  have O4 : Hid (OwnA blkE w3.heap.size w4 u4 l) := Lib.hid o4
  clear b4 o4
  go_wp2_with fail
  refine (A1.out w4 D4.out).mono ?_; rintro e w5 ⟨rfl, b5⟩
  have D5 := Lib.hid (below_more D4.out b5)
  have O5 := Lib.hid (O4.out.below b5)
  obtain ⟨c0, c1⟩ := HCI.out w5 D5.out
  have SB := Lib.hid (fun (n : Nat) => blks_same (w := w5.drewN n) (ra_below O5.out.ra (below_drewN (Below.refl _ _) n)) (ra_below HV.out (below_drewN D5.out n)))
  clear b5
  go_wp2_with fail
  go_quiet (refine Calls.quiet_of (SB.out _))
  have D6 := Lib.hid (below_drewN D5.out nq)
  have HCX := Lib.hid (fun (wr : World) (hb : Below w.heap.size w wr) => blk_at (ra_below HV.out hb))
  clear SB c0 c1 t4
  have n4 : ai ≤ (X : Int) := by omega
  have n5 : (X : Int) < ei := by omega
  go_wp2
  go_loopw [10, 92] (fun z i wr => ∃ k z' : Nat, k ≤ L ∧ i = .int .i64 k ∧ z = .int .i64 z' ∧ z' ≤ 512 * k ∧ Hid ((z' : Int) + usS (l.drop k) = usS l ∧ Below w.heap.size w wr)) (fun _ i _ => L - (intOf i).toNat)
  case atStart => exact ⟨0, 0, Nat.zero_le _, rfl, rfl, Nat.zero_le _, Lib.hid ⟨by rw [List.drop_zero]; omega, D6.out⟩⟩
  case round =>
    obtain ⟨k, z, hk, rfl, rfl, hz, H⟩ := hrel
    clear n1 n2 n3 n4 n5 i1 i2 i3 i4 i5 i6 t1 t2 t3 hu1
    by_cases hlt : k < L
    · obtain ⟨b2, off2, e2, hb, hx⟩ := HCX.out wr H.out.2 (by have := HL.out; omega)
      cases e2
      obtain ⟨hld, _, _, _, hwf⟩ := hx k (by have := HL.out; omega)
      have hF := H.out.1
      rw [getD_cut (by have := HL.out; omega), usS] at hF
      have hs := allB_at HA.out (k := k) (by have := HL.out; omega)
      generalize l.getD k default = y at *
      obtain ⟨a, s, u⟩ := y
      obtain ⟨W, hW, HW⟩ := blk_boxed wr ⟨a, s, u⟩
      have c1 : W.cell? ⟨wr.heap.size, 1, none⟩ = some (.int .i64 s) := HW.out.1.c1
      have c2 : W.cell? ⟨wr.heap.size, 2, none⟩ = some (.bool u) := HW.out.1.c2
      have HB := Lib.hid (below_more H.out.2 HW.out.2)
      have i0 : (0 : Int) ≤ (k : Int) := by omega
      have i1 : (k : Int) < (L : Int) := by omega
      have i2 : ¬ (k : Int) < 0 := by omega
      have i3 : IntKind.i64.wrap ((k : Int) + 1) = ((k + 1 : Nat) : Int) := by rw [show (k : Int) + 1 = ((k + 1 : Nat) : Int) by omega]; exact i64_nat _ (by have := HLL.out; omega)
      have HK := Lib.hid hlt
      have HZZ := Lib.hid hz
      simp only at hF hs
      obtain ⟨sn, rfl⟩ : ∃ m : Nat, s = m := ⟨s.toNat, by obtain ⟨h, _⟩ := hs; omega⟩
      have HS2 : Hid (sn ≤ 512) := Lib.hid (by obtain ⟨_, h⟩ := hs; omega)
      have i4 : IntKind.i64.wrap ((z : Int) + (sn : Int)) = ((z + sn : Nat) : Int) := by rw [show (z : Int) + (sn : Int) = ((z + sn : Nat) : Int) by omega]; exact i64_nat _ (by have := HLL.out; have := HS2.out; omega)
      clear hx hk hb hwf hz hs
      cases u
      · rw [if_neg Bool.false_ne_true] at hF
        have HF := Lib.hid hF
        clear hF
        go_wp2
        go_roundw
        case rel => exact ⟨k + 1, z, by have := HK.out; omega, by go_num, rfl, by have := HZZ.out; omega, Lib.hid ⟨by have := HF.out; omega, HB.out⟩⟩
        case measure => have := HK.out; simp [intOf]; omega
      · rw [if_pos rfl] at hF
        have HF := Lib.hid hF
        clear hF
        go_wp2
        go_roundw
        case rel => exact ⟨k + 1, z + sn, by have := HK.out; omega, by go_num, rfl, by have := HZZ.out; have := HS2.out; omega, Lib.hid ⟨by have := HF.out; omega, HB.out⟩⟩
        case measure => have := HK.out; simp [intOf]; omega
    · obtain rfl : k = L := by omega
      have hF := H.out.1
      rw [List.drop_eq_nil_of_le (by have := HL.out; omega), usS, Int.add_zero] at hF
      obtain ⟨fr, hfr⟩ : ∃ f, frS l = f := ⟨_, rfl⟩
      have j1 : IntKind.i64.wrap (fr + (z : Int)) = (N : Int) := by
        have := HS.out; have := HZ.out
        rw [show fr + (z : Int) = (N : Int) by omega]; exact i64_nat _ (by have := HN.out; omega)
      rw [hfr] at F
      have D7 := Lib.hid H.out.2
      clear hF hfr hk hz H
      go_wp2_with fail
      refine (F.out _ D7.out).mono ?_; rintro e w7 ⟨rfl, b7⟩
      have D8 := Lib.hid (below_more D7.out b7)
      clear b7
      go_wp2_with fail
      refine (A2.out _ D8.out).mono ?_; rintro e w8 ⟨rfl, b8⟩
      have D9 := Lib.hid (below_more D8.out b8)
      clear b8
      go_wp2_with fail
      refine (A3.out _ D9.out).mono ?_; rintro e w9 ⟨rfl, b9⟩
      have Da := Lib.hid (below_more D9.out b9)
      clear b9
      go_wp2_with fail
      refine (awake_any _).mono ?_; rintro e wa ⟨rfl, ba⟩
      have Db := Lib.hid (below_more Da.out ba)
      clear ba
      go_wp2_with fail
      go_ret
      exact ⟨rfl, Db.out⟩

theorem walk (l0 : List Bk) (v0 : Value) (a1 a2 : Int) (w : World) (h0 : RA blkE w v0 l0) (_ : (Lit.int .i64 a1).wf = true) (_ : (Lit.int .i64 a2).wf = true) :
    Calls Try.prog 4 #[v0, .int .i64 a1, .int .i64 a2] w fun e w' => e = .returned (.bool true) ∧ Below w.heap.size w w' := by
  obtain ⟨p, c, rfl, _⟩ := ra_shape h0
  by_cases h : 300 < l0.length
  · exact far l0 p c a1 a2 w h
  · cases e : mayL a1 l0
    · exact bad l0 p c a1 a2 w h0 (by omega) e
    · exact near l0 p c a1 a2 w h0 (by omega) e

set_option maxRecDepth 100000 in
theorem lifted (os : Os) (started : os.Started) (H : Type) (enc : TypeId × Value → H) :
    ReturnsInHanded {} Try.checked os 4 .any (Rows.chainEachSpec.pre6 enc Try.prog Try.f4 Rows.chainEachRow.domain false) (Rows.chainEachSpec.post enc Try.prog Try.f4 false true false false) := by
  refine returnsInHanded_of_change (C := Try.checked) own started (by kernel_rfl) Try.func4
    (ChangeSpec.witness6 (enc := enc) (C := Try.checked) false ⟨#[], #[.slice none 0 0, .int .i64 0, .int .i64 0], []⟩ 8 (by kernel_rfl) (by kernel_rfl) (by kernel_rfl) (by kernel_rfl)) ?_
  intro W base args ds gs before hval0 hW hcnd _
  have hval : ∀ (j : Nat) t v, Try.f4.params[j]? = some t → args[j]? = some v → Value.okWide Try.prog W .any base t v := hval0
  have hW' := hW
  have hlt := hW.lt
  obtain ⟨p, q, hA0, hV, hpq, hfz, hnd⟩ := hW
  have hA : DataW.TrodAll enc Try.prog W 0 (fun _ => true) true Try.f4.params.toList args.toList ds p := hA0
  rw [Try.params4] at hA hval
  obtain ⟨v0, vs0, d0, ds0, p0, q0, hargs, rfl, hp, h0, r0⟩ := trodAll_cons hA
  obtain ⟨v1, vs1, d1, ds1, p1, q1, rfl, rfl, rfl, h1, r1⟩ := trodAll_cons r0
  obtain ⟨v2, vs2, d2, ds2, p2, q2, rfl, rfl, rfl, h2, r2⟩ := trodAll_cons r1
  obtain ⟨rfl, rfl, rfl⟩ := trodAll_nil r2
  obtain rfl : args = #[v0, v1, v2] := by cases args; simp_all
  obtain ⟨rfl, rfl⟩ := trodVars_none hV
  have hlt' : ∀ x ∈ before, x.block < W.heap.size := fun x hx => hlt x hx
  obtain ⟨l0, w0⟩ := blocks_in (hval 0 23 v0 rfl rfl) h0
  obtain ⟨a1, rfl, rfl, rfl, w1⟩ := open_int Try.underlying3 (hval 1 3 v1 rfl rfl) h1
  obtain ⟨a2, rfl, rfl, rfl, w2⟩ := open_int Try.underlying3 (hval 2 3 v2 rfl rfl) h2
  refine (walk l0 v0 a1 a2 W w0 w1 w2).mono fun e W' ⟨he, hb⟩ => ?_
  subst he
  exact ⟨_, rfl, law_post rfl (by kernel_rfl) hW' (by rw [Try.params4]; intro t ht; simp only [List.mem_cons, List.not_mem_nil, or_false] at ht; (repeat' (first | (rcases ht with rfl | ht) | subst ht)) <;> exact ⟨by kernel_rfl, of_decide_eq_true (by kernel_rfl)⟩) rfl hb⟩

theorem over : Rows.chainEachRow.holds Try.pinned (OpenSpec.ofChange Rows.chainEachSpec) :=
  OpenClaim.holds_of_wide 4 Try.f4 rfl rfl rfl rfl rfl rfl rfl ⟨rfl, rfl, rfl, rfl, rfl⟩ rfl rfl rfl rfl rfl (by kernel_rfl) Try.func4 (by kernel_rfl)
    (of_decide_eq_true (by kernel_rfl)) (by unfold Func.isWrapper; first | (rw [if_pos (by decide +kernel)]; kernel_rfl) | (rw [if_neg (by decide +kernel)]; exact ⟨rfl, rfl⟩))
    (fun os started H enc _ => lifted os started H enc)

theorem proved : Rows.ChainEachSaid := over
end Go.Proofs.Ytcfpmpgodkepfaa.chainEach
