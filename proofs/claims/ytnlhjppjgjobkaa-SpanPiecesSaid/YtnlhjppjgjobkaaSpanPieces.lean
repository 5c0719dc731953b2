/-
  Pieces are the bytes, one behind the other, none is empty, and none goes beyond its word. No conditions.
-/
import Derived.Test.YtnlhjppjgjobkaaSpv
namespace Go.Proofs.Ytnlhjppjgjobkaa.spanPieces
set_option maxRecDepth 100000
open Go.Proofs.Ytnlhjppjgjobkaa Go.ChangeShapes Go.WideShapes Go.ChangeAt Go.RowKit

/-- pieces under way -/
structure Pw (O N : Nat) (w1 wr : World) (k a m : Nat) : Prop where
  sum : a + m = O + N
  rest : (pcs O N).drop k = pcs a m
  below : Below w1.heap.size w1 wr
set_option maxHeartbeats 2000000 in
theorem walk (a0 a1 : Int) (w : World) (_ : (Lit.int .i64 a0).wf = true) (_ : (Lit.int .i64 a1).wf = true) :
    Calls Try.prog 5 #[.int .i64 a0, .int .i64 a1] w fun e w' => e = .returned (.bool true) ∧ Below w.heap.size w w' := by
  obtain ⟨u, hu, _⟩ := u64_nat a0
  obtain ⟨v, hv, _⟩ := u64_nat a1
  obtain ⟨O, hO⟩ : ∃ O, u % 1000001 = O := ⟨_, rfl⟩
  obtain ⟨N, hN⟩ : ∃ N, v % 449 = N := ⟨_, rfl⟩
  have t1 : (u : Int).tmod 1000001 = (O : Int) := by rw [← hO]; exact tmod_nat u 1000001
  have t2 : (v : Int).tmod 449 = (N : Int) := by rw [← hN]; exact tmod_nat v 449
  have t3 : (u : Int) % 1000001 = (O : Int) := by omega
  have t4 : (v : Int) % 449 = (N : Int) := by omega
  have t5 : IntKind.i64.wrap (O : Int) = (O : Int) := i64_nat _ (by omega)
  have t6 : IntKind.i64.wrap (N : Int) = (N : Int) := i64_nat _ (by omega)
  have C := Lib.hid (pieces_yes O N (by omega) (by omega) w)
  have HON : Hid (O ≤ 1000000 ∧ N ≤ 448) := Lib.hid ⟨by omega, by omega⟩
  have t7 : IntKind.i64.wrap ((O : Int) + (N : Int)) = ((O + N : Nat) : Int) := by rw [← Int.natCast_add]; exact i64_nat _ (by omega)
  clear hO hN
  obtain ⟨E, hE⟩ : ∃ E, O + N = E := ⟨_, rfl⟩
  rw [hE] at t7
  have HE := Lib.hid hE
  clear hE
  go_enter Try.func5, Try.ntmps5
  go_wp2_with fail
  refine (C.out).mono ?_; rintro e w1 ⟨⟨u1, rfl, o1⟩, b1⟩
  have D1 := Lib.hid b1
  have O1 := Lib.hid o1
  obtain ⟨g, d, rfl, _, _⟩ := o1.shape
  have HP : Hid ((pcs O N).length ≤ 1000) := Lib.hid (by rw [pcs_length]; have := HON.out; unfold cnt; split <;> omega)
  clear b1 o1 C
  obtain ⟨P, hP⟩ : ∃ P, pcs O N = P := ⟨_, rfl⟩
  rw [hP] at O1 HP ⊢
  have HPe := Lib.hid hP
  clear hP
  go_wp2
  go_loopw [5, 7, 21] (fun y x i wr => ∃ (k a m : Nat), k ≤ P.length ∧ i = .int .i64 k ∧ y = .int .i64 a ∧ Hid (Pw O N w1 wr k a m)) (fun _ _ i _ => P.length - (intOf i).toNat)
  case atStart => exact ⟨0, O, N, Nat.zero_le _, rfl, rfl, Lib.hid ⟨rfl, rfl, Below.refl _ _⟩⟩
  case round =>
    obtain ⟨k, a, m, hk, rfl, rfl, H⟩ := hrel
    by_cases hlt : k < P.length
    · have hst := pcs_step H.out.rest (by rw [HPe.out]; exact hlt)
      rw [HPe.out] at hst
      obtain ⟨hm0, hg1, hdr⟩ := hst
      obtain ⟨k1, k2, k3, k4⟩ := pcK_le (a := a) hm0
      obtain ⟨b, off, e, hb, hx⟩ := pc_at (ra_below O1.out.ra H.out.below) (by omega)
      cases e
      obtain ⟨hld, _, _, _⟩ := hx k hlt
      rw [hg1] at hld
      have hsum := H.out.sum
      obtain ⟨h1, h2⟩ := HON.out
      obtain ⟨Q, hQ⟩ : ∃ Q, a / 8 = Q := ⟨_, rfl⟩
      obtain ⟨F, hF⟩ : ∃ F, a % 8 = F := ⟨_, rfl⟩
      obtain ⟨K, hK⟩ : ∃ K, pcK a m = K := ⟨_, rfl⟩
      rw [hQ, hF, hK] at hld
      rw [hK] at k1 k2 k3 hdr
      rw [hF] at k3
      obtain ⟨W, hW, HW⟩ := pc_boxed wr ⟨Q, F, K⟩
      have c0 : W.cell? ⟨wr.heap.size, 0, none⟩ = some (.int .i64 Q) := HW.out.1.c0
      have c1 : W.cell? ⟨wr.heap.size, 1, none⟩ = some (.int .i64 F) := HW.out.1.c1
      have c2 : W.cell? ⟨wr.heap.size, 2, none⟩ = some (.int .i64 K) := HW.out.1.c2
      obtain ⟨S, hS⟩ : ∃ S, F + K = S := ⟨_, rfl⟩
      obtain ⟨R, hR⟩ : ∃ R, Q * 8 = R := ⟨_, rfl⟩
      obtain ⟨A, hA⟩ : ∃ A, a + K = A := ⟨_, rfl⟩
      have i0 : (0 : Int) ≤ (k : Int) := by omega
      have i1 : (k : Int) < (P.length : Int) := by omega
      have i2 : ¬ (k : Int) < 0 := by omega
      have i3 : IntKind.i64.wrap ((k : Int) + 1) = ((k + 1 : Nat) : Int) := by rw [show (k : Int) + 1 = ((k + 1 : Nat) : Int) by omega]; exact i64_nat _ (by have := HP.out; omega)
      have j1 : ¬ (K : Int) < 1 := by omega
      have j2 : ¬ (F : Int) < 0 := by omega
      have j3 : IntKind.i64.wrap ((F : Int) + (K : Int)) = (S : Int) := by rw [show (F : Int) + (K : Int) = (S : Int) by omega]; exact i64_nat _ (by omega)
      have j4 : ¬ (S : Int) > 8 := by omega
      have j5 : IntKind.i64.wrap ((Q : Int) * 8) = (R : Int) := by rw [show (Q : Int) * 8 = (R : Int) by omega]; exact i64_nat _ (by omega)
      have j6 : IntKind.i64.wrap ((R : Int) + (F : Int)) = (a : Int) := by rw [show (R : Int) + (F : Int) = (a : Int) by omega]; exact i64_nat _ (by omega)
      have j7 : IntKind.i64.wrap ((a : Int) + (K : Int)) = (A : Int) := by rw [show (a : Int) + (K : Int) = (A : Int) by omega]; exact i64_nat _ (by omega)
      have j8 : ¬ K < 1 := by omega
      have j9 : ¬ S > 8 := by omega
      have HN : Hid (Pw O N w1 W (k + 1) A (m - K)) := Lib.hid ⟨by omega, by rw [HPe.out, hdr, hA], below_more H.out.below HW.out.2⟩
      have HKk := Lib.hid hlt
      clear hx hb hQ hF hK hsum h1 h2 hlt hk hm0 hg1 hdr k1 k2 k3 hS hR hA H
      go_wp2
      go_roundw
      case rel => exact ⟨k + 1, A, m - K, by have := HKk.out; omega, by go_num, rfl, HN⟩
      case measure => have := HKk.out; simp [intOf]; omega
    · obtain rfl : k = P.length := by omega
      have h0 := H.out.rest
      have hm : m = 0 := by
        rw [HPe.out, List.drop_length] at h0
        rcases Nat.eq_zero_or_pos m with h | h
        · exact h
        · rw [pcs_more (by omega)] at h0; cases h0
      subst hm
      obtain rfl : a = E := by have := H.out.sum; have := HE.out; omega
      have D2 := Lib.hid (below_more D1.out H.out.below)
      clear h0 H hk hlt
      go_wp2_with fail
      refine (awake_any _).mono ?_; rintro e w2 ⟨rfl, b2⟩
      have D3 := Lib.hid (below_more D2.out b2)
      clear b2
      go_wp2_with fail
      go_ret
      exact ⟨rfl, D3.out⟩

set_option maxRecDepth 100000 in
theorem lifted (os : Os) (started : os.Started) (H : Type) (enc : TypeId × Value → H) :
    ReturnsInHanded {} Try.checked os 5 .any (Rows.spanPiecesSpec.pre6 enc Try.prog Try.f5 Rows.spanPiecesRow.domain false) (Rows.spanPiecesSpec.post enc Try.prog Try.f5 false true false false) := by
  refine returnsInHanded_of_change (C := Try.checked) own started (by kernel_rfl) Try.func5
    (ChangeSpec.witness6 (enc := enc) (C := Try.checked) false ⟨#[], #[.int .i64 0, .int .i64 0], []⟩ 8 (by kernel_rfl) (by kernel_rfl) (by kernel_rfl) (by kernel_rfl)) ?_
  intro W base args ds gs before hval0 hW hcnd _
  have hval : ∀ (j : Nat) t v, Try.f5.params[j]? = some t → args[j]? = some v → Value.okWide Try.prog W .any base t v := hval0
  have hW' := hW
  have hlt := hW.lt
  obtain ⟨p, q, hA0, hV, hpq, hfz, hnd⟩ := hW
  have hA : DataW.TrodAll enc Try.prog W 0 (fun _ => true) true Try.f5.params.toList args.toList ds p := hA0
  rw [Try.params5] at hA hval
  obtain ⟨v0, vs0, d0, ds0, p0, q0, hargs, rfl, hp, h0, r0⟩ := trodAll_cons hA
  obtain ⟨v1, vs1, d1, ds1, p1, q1, rfl, rfl, rfl, h1, r1⟩ := trodAll_cons r0
  obtain ⟨rfl, rfl, rfl⟩ := trodAll_nil r1
  obtain rfl : args = #[v0, v1] := by cases args; simp_all
  obtain ⟨rfl, rfl⟩ := trodVars_none hV
  have hlt' : ∀ x ∈ before, x.block < W.heap.size := fun x hx => hlt x hx
  obtain ⟨a0, rfl, rfl, rfl, w0⟩ := open_int Try.underlying3 (hval 0 3 v0 rfl rfl) h0
  obtain ⟨a1, rfl, rfl, rfl, w1⟩ := open_int Try.underlying3 (hval 1 3 v1 rfl rfl) h1
  refine (walk a0 a1 W w0 w1).mono fun e W' ⟨he, hb⟩ => ?_
  subst he
  exact ⟨_, rfl, law_post rfl (by kernel_rfl) hW' (by rw [Try.params5]; intro t ht; simp only [List.mem_cons, List.not_mem_nil, or_false] at ht; (repeat' (first | (rcases ht with rfl | ht) | subst ht)) <;> exact ⟨by kernel_rfl, of_decide_eq_true (by kernel_rfl)⟩) rfl hb⟩

theorem over : Rows.spanPiecesRow.holds Try.pinned (OpenSpec.ofChange Rows.spanPiecesSpec) :=
  OpenClaim.holds_of_wide 5 Try.f5 rfl rfl rfl rfl rfl rfl rfl ⟨rfl, rfl, rfl, rfl, rfl⟩ rfl rfl rfl rfl rfl (by kernel_rfl) Try.func5 (by kernel_rfl)
    (of_decide_eq_true (by kernel_rfl)) (by unfold Func.isWrapper; first | (rw [if_pos (by decide +kernel)]; kernel_rfl) | (rw [if_neg (by decide +kernel)]; exact ⟨rfl, rfl⟩))
    (fun os started H enc _ => lifted os started H enc)

theorem proved : Rows.SpanPiecesSaid := over
end Go.Proofs.Ytnlhjppjgjobkaa.spanPieces
