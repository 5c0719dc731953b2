/-
  A heap at first is one free block of all its words. No conditions.
-/
import Derived.Test.YtcfpmpgodkepfaaBkk
namespace Go.Proofs.Ytcfpmpgodkepfaa.chainFirst
set_option maxRecDepth 100000
open Go.Proofs.Ytcfpmpgodkepfaa Go.ChangeShapes Go.WideShapes Go.ChangeAt Go.RowKit

theorem one_may {n : Nat} (h : Mw n) : mayL n [⟨0, n, false⟩] = true :=
  mayL_yes.2 ⟨h, mayF_cons.2 ⟨rfl, h.mayB, by simp, mayF_nil.2 (by simp)⟩⟩
theorem one_reads {n : Nat} (h : Mw n) : blkF (firstL n) = some [⟨0, n, false⟩] := by
  have := blkF_wrF (w := List.replicate n 0) (l := [⟨0, n, false⟩]) (by rw [List.length_replicate]; exact one_may h)
  rw [wrF, wrF] at this
  simp only at this
  rw [hdB_yes h.mayB, show useB false = 0 from rfl, Int.add_zero] at this
  rw [firstL_yes h]; exact this
theorem one_free {n : Nat} (h : Mw n) : frL [⟨0, n, false⟩] = n ∧ moL [⟨0, n, false⟩] = n := by
  have ho := mayL_okL (one_may h)
  rw [frL_yes ho, moL_yes ho]
  simp [frS, moS]
theorem first_words {n : Nat} (h : Mw n) : (firstL n).length = n ∧ WordsOk (firstL n) ∧ ∀ k, 0 < k → k < n → (firstL n).getD k 0 = 0 := by
  have h2 : MayB n := h.mayB
  obtain ⟨h1, h3⟩ := h2
  rw [firstL_yes h]
  refine ⟨by simp, fun j hj => ?_, fun k hk hn => ?_⟩
  · simp only [List.length_set, List.length_replicate] at hj
    simp only [List.getD_eq_getElem?_getD, List.getElem?_set]
    split
    · simp; split <;> simp <;> omega
    · simp [hj]
  · simp only [List.getD_eq_getElem?_getD, List.getElem?_set]
    rw [if_neg (by omega)]
    simp [hn]

set_option maxHeartbeats 2000000 in
theorem walk (a0 : Int) (w : World) (_ : (Lit.int .i64 a0).wf = true) :
    Calls Try.prog 6 #[.int .i64 a0] w fun e w' => e = .returned (.bool true) ∧ Below w.heap.size w w' := by
  obtain ⟨u, hu, _⟩ := u64_nat a0
  have t1 : (u : Int).tmod 64 = ((u % 64 : Nat) : Int) := tmod_nat u 64
  obtain ⟨r, hr⟩ : ∃ r, u % 64 = r := ⟨_, rfl⟩
  rw [hr] at t1
  have hr64 : r < 64 := by omega
  have k1 : IntKind.i64.wrap (r : Int) = r := i64_nat _ (by omega)
  obtain ⟨m, hm⟩ : ∃ m : Nat, 1 + r = m := ⟨_, rfl⟩
  have k2 : IntKind.i64.wrap (1 + (r : Int)) = (m : Int) := by rw [show 1 + (r : Int) = (m : Int) by omega]; exact i64_nat _ (by omega)
  obtain ⟨n, hn⟩ : ∃ n : Nat, 8 * m = n := ⟨_, rfl⟩
  have k3 : IntKind.i64.wrap (8 * (m : Int)) = (n : Int) := by rw [show 8 * (m : Int) = (n : Int) by omega]; exact i64_nat _ (by omega)
  have hM : Mw n := ⟨by omega, by omega, by omega⟩
  have hM1 : ¬ Mw ((n + 1 : Nat) : Int) := fun h => by obtain ⟨_, _, h⟩ := h; omega
  have hM0 : ¬ Mw 0 := fun h => by obtain ⟨h, _⟩ := h; omega
  obtain ⟨hl, hw, hz⟩ := first_words hM
  have C1 := Lib.hid (first_is n w)
  have C2 := Lib.hid (first_is ((n + 1 : Nat) : Int))
  have C3 := Lib.hid (first_is 0)
  rw [firstL_no hM1] at C2
  rw [firstL_no hM0] at C3
  have k4 : IntKind.i64.wrap ((n : Int) + 1) = ((n + 1 : Nat) : Int) := by rw [show (n : Int) + 1 = ((n + 1 : Nat) : Int) by omega]; exact i64_nat _ (by omega)
  obtain ⟨ff, fm⟩ := one_free hM
  have FF := Lib.hid (fun (v : Value) (w : World) (hv : RA blkE w v [⟨0, n, false⟩]) => free_is _ v _ w hv ff)
  have FM := Lib.hid (fun (v : Value) (w : World) (hv : RA blkE w v [⟨0, n, false⟩]) => most_is _ v _ w hv fm)
  have hB := one_reads hM
  have HN : Hid (8 ≤ n ∧ n ≤ 512) := Lib.hid (by omega)
  generalize hf : firstL n = f at *
  have HZ := Lib.hid hz
  have HL := Lib.hid hl
  have HWO := Lib.hid hw
  have HBK := Lib.hid hB
  have e0 := eqB_self ⟨0, n, false⟩
  clear hr hr64 hm hn hM hM1 hM0 hl hw hz ff fm hB hf
  go_enter Try.func6, Try.ntmps6
  go_wp2_with fail
  refine (C1.out).mono ?_; rintro e w1 ⟨⟨v, rfl, o1⟩, b1⟩
  obtain ⟨g, c, rfl, _, hg, hc, _⟩ := OwnU.block o1 (by rw [HL.out]; exact Nat.lt_of_lt_of_le (by decide) HN.out.1)
  have D1 := Lib.hid b1
  have O1 := Lib.hid o1
  have B := Lib.hid (blocks_is f _ _ w1 o1.ru (by rw [HL.out]; exact Nat.le_trans HN.out.2 (by decide)) HWO.out HBK.out)
  clear o1 b1
  rw [HL.out] at O1 B ⊢
  go_wp2_with fail
  refine (B.out).mono ?_; rintro e w2 ⟨⟨u2, rfl, o2⟩, b2⟩
  have O2 := Lib.hid (O1.out.below b2)
  have D2 := Lib.hid (below_more D1.out b2)
  have o2 : OwnA blkE w1.heap.size w2 u2 [⟨0, n, false⟩] := o2
  obtain ⟨gb, cb, rfl, _, hgb, hcb, _⟩ := o2.block (by simp)
  have A2 := Lib.hid o2
  clear o2 b2 B O1 hg hgb
  go_wp2
  go_loopw [23] (fun i wr => ∃ k : Nat, k ≤ n ∧ i = .int .i64 k ∧ wr = w2) (fun i _ => n - (intOf i).toNat)
  case atStart => exact ⟨0, Nat.zero_le _, rfl, rfl⟩
  case round =>
    obtain ⟨k, hk, rfl, rfl⟩ := hrel
    by_cases hlt : k < n
    · obtain ⟨x1, _⟩ := OwnU.cells O2.out (j := k) (by rw [HL.out]; exact hlt)
      have i0 : (0 : Int) ≤ (k : Int) := by omega
      have i1 : (k : Int) < (n : Int) := by omega
      have i2 : ¬ (k : Int) < 0 := by omega
      have i3 : IntKind.i64.wrap ((k : Int) + 1) = ((k + 1 : Nat) : Int) := by rw [show (k : Int) + 1 = ((k + 1 : Nat) : Int) by omega]; exact i64_nat _ (by have := HN.out; omega)
      have HK := Lib.hid hlt
      by_cases hk0 : 0 < k
      · rw [HZ.out k hk0 hlt] at x1
        have i4 : (k : Int) > 0 := by omega
        clear hk
        go_wp2
        go_roundw
        case rel => exact ⟨k + 1, by have := HK.out; omega, by go_num, trivial⟩
        case measure => have := HK.out; simp [intOf]; omega
      · have i4 : ¬ (k : Int) > 0 := by omega
        generalize f.getD k 0 = y at x1
        clear hk
        go_wp2
        go_roundw
        case rel => exact ⟨k + 1, by have := HK.out; omega, by go_num, trivial⟩
        case measure => have := HK.out; simp [intOf]; omega
    · obtain rfl : k = n := by omega
      have lb := OwnA.elem A2.out (k := 0) (by simp)
      have lb : (blkLoad (.pointer (some ⟨gb, 0, none⟩))).run Try.prog wr = .ok (.agg (bc ⟨0, k, false⟩)) wr := lb
      have M := Lib.hid (FM.out _ wr A2.out.ra)
      have LB := Lib.hid A2.out
      clear hk
      go_wp2_with fail
      refine (M.out).mono ?_; rintro e w3 ⟨rfl, b3⟩
      have D3 := Lib.hid (below_more D2.out b3)
      have F := Lib.hid (FF.out _ w3 (LB.out.below b3).ra)
      clear b3
      go_wp2_with fail
      refine (F.out).mono ?_; rintro e w4 ⟨rfl, b4⟩
      have D4 := Lib.hid (below_more D3.out b4)
      clear b4
      go_wp2_with fail
      refine (C2.out w4).mono ?_; rintro e w5 ⟨⟨v5, rfl, o5⟩, b5⟩
      obtain ⟨p5, c5, rfl⟩ := o5.shape
      have D5 := Lib.hid (below_more D4.out b5)
      clear b5 o5
      go_wp2_with fail
      refine (C3.out w5).mono ?_; rintro e w6 ⟨⟨v6, rfl, o6⟩, b6⟩
      obtain ⟨p6, c6, rfl⟩ := o6.shape
      have D6 := Lib.hid (below_more D5.out b6)
      clear b6 o6
      go_wp2_with fail
      refine (awake_any _).mono ?_; rintro e w7 ⟨rfl, b7⟩
      have D7 := Lib.hid (below_more D6.out b7)
      clear b7
      go_wp2_with fail
      go_ret
      exact ⟨rfl, D7.out⟩

set_option maxRecDepth 100000 in
theorem lifted (os : Os) (started : os.Started) (H : Type) (enc : TypeId × Value → H) :
    ReturnsInHanded {} Try.checked os 6 .any (Rows.chainFirstSpec.pre6 enc Try.prog Try.f6 Rows.chainFirstRow.domain false) (Rows.chainFirstSpec.post enc Try.prog Try.f6 false true false false) := by
  refine returnsInHanded_of_change (C := Try.checked) own started (by kernel_rfl) Try.func6
    (ChangeSpec.witness6 (enc := enc) (C := Try.checked) false ⟨#[], #[.int .i64 0], []⟩ 8 (by kernel_rfl) (by kernel_rfl) (by kernel_rfl) (by kernel_rfl)) ?_
  intro W base args ds gs before hval0 hW hcnd _
  have hval : ∀ (j : Nat) t v, Try.f6.params[j]? = some t → args[j]? = some v → Value.okWide Try.prog W .any base t v := hval0
  have hW' := hW
  have hlt := hW.lt
  obtain ⟨p, q, hA0, hV, hpq, hfz, hnd⟩ := hW
  have hA : DataW.TrodAll enc Try.prog W 0 (fun _ => true) true Try.f6.params.toList args.toList ds p := hA0
  rw [Try.params6] at hA hval
  obtain ⟨v0, vs0, d0, ds0, p0, q0, hargs, rfl, hp, h0, r0⟩ := trodAll_cons hA
  obtain ⟨rfl, rfl, rfl⟩ := trodAll_nil r0
  obtain rfl : args = #[v0] := by cases args; simp_all
  obtain ⟨rfl, rfl⟩ := trodVars_none hV
  have hlt' : ∀ x ∈ before, x.block < W.heap.size := fun x hx => hlt x hx
  obtain ⟨a0, rfl, rfl, rfl, w0⟩ := open_int Try.underlying3 (hval 0 3 v0 rfl rfl) h0
  refine (walk a0 W w0).mono fun e W' ⟨he, hb⟩ => ?_
  subst he
  exact ⟨_, rfl, law_post rfl (by kernel_rfl) hW' (by rw [Try.params6]; intro t ht; simp only [List.mem_cons, List.not_mem_nil, or_false] at ht; (repeat' (first | (rcases ht with rfl | ht) | subst ht)) <;> exact ⟨by kernel_rfl, of_decide_eq_true (by kernel_rfl)⟩) rfl hb⟩

theorem over : Rows.chainFirstRow.holds Try.pinned (OpenSpec.ofChange Rows.chainFirstSpec) :=
  OpenClaim.holds_of_wide 6 Try.f6 rfl rfl rfl rfl rfl rfl rfl ⟨rfl, rfl, rfl, rfl, rfl⟩ rfl rfl rfl rfl rfl (by kernel_rfl) Try.func6 (by kernel_rfl)
    (of_decide_eq_true (by kernel_rfl)) (by unfold Func.isWrapper; first | (rw [if_pos (by decide +kernel)]; kernel_rfl) | (rw [if_neg (by decide +kernel)]; exact ⟨rfl, rfl⟩))
    (fun os started H enc _ => lifted os started H enc)

theorem proved : Rows.ChainFirstSaid := over
end Go.Proofs.Ytcfpmpgodkepfaa.chainFirst
