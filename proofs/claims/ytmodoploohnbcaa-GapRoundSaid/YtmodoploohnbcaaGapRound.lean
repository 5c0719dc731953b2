/-
  In n + 1 moves each line moves, and each by one slot on, round; in n times as many all are where they were. No conditions.
-/
import Derived.Test.YtmodoploohnbcaaGpc
namespace Go.Proofs.Ytmodoploohnbcaa.gapRound
open Go.Proofs.Ytmodoploohnbcaa Go.ChangeShapes Go.WideShapes Go.ChangeAt Go.RowKit

set_option maxHeartbeats 2000000 in
theorem walk (a0 a1 a2 : Int) (w : World) (_ : (Lit.int .i64 a0).wf = true) (_ : (Lit.int .i64 a1).wf = true) (_ : (Lit.int .i64 a2).wf = true) :
    Calls Try.prog 5 #[.int .i64 a0, .int .i64 a1, .int .i64 a2] w fun e w' => e = .returned (.bool true) ∧ Below w.heap.size w w' := by
  obtain ⟨u, hu, _⟩ := u64_nat a0
  obtain ⟨c, hc⟩ : ∃ c, c = u % 40 := ⟨_, rfl⟩
  have t1 : (u : Int).tmod 40 = (c : Int) := by rw [hc]; exact tmod_nat u 40
  have k0 : IntKind.i64.wrap (c : Int) = c := i64_nat _ (by omega)
  obtain ⟨n, hn⟩ : ∃ n : Nat, n = 1 + c := ⟨_, rfl⟩
  have k1 : IntKind.i64.wrap (1 + (c : Int)) = (n : Int) := by rw [show 1 + (c : Int) = (n : Int) by omega]; exact i64_nat _ (by omega)
  obtain ⟨v, hv, _⟩ := u64_nat a1
  obtain ⟨m, hm⟩ : ∃ m, m = v % 100000 := ⟨_, rfl⟩
  have t2 : (v : Int).tmod 100000 = (m : Int) := by rw [hm]; exact tmod_nat v 100000
  have k2 : IntKind.i64.wrap (m : Int) = m := i64_nat _ (by omega)
  obtain ⟨x, hx, _⟩ := u64_nat a2
  obtain ⟨l, hl⟩ : ∃ l, l = x % n := ⟨_, rfl⟩
  have hln : l < n := by rw [hl]; exact Nat.mod_lt _ (by omega)
  have t3 : (x : Int).tmod (n : Int) = (l : Int) := by rw [hl]; exact tmod_nat x n
  have k3 : IntKind.u64.wrap (n : Int) = (n : Int) := by simp [IntKind.wrap, IntKind.signed, IntKind.bits]; omega
  have k4 : IntKind.i64.wrap (l : Int) = l := i64_nat _ (by omega)
  have k5 : ¬ n = 0 := by omega
  have k6 : ¬ (n : Int) = 0 := by omega
  obtain ⟨N, hN⟩ : ∃ N, N = n + 1 := ⟨_, rfl⟩
  have k7 : IntKind.i64.wrap ((n : Int) + 1) = (N : Int) := by rw [show (n : Int) + 1 = (N : Int) by omega]; exact i64_nat _ (by omega)
  obtain ⟨p, hp⟩ : ∃ p, p = n * N := ⟨_, rfl⟩
  have hpb : p ≤ 40 * 41 := by rw [hp]; exact Nat.mul_le_mul (by omega) (by omega)
  have k8 : IntKind.i64.wrap ((n : Int) * (N : Int)) = (p : Int) := by rw [show (n : Int) * (N : Int) = (p : Int) by rw [hp]; push_cast; rfl]; exact i64_nat _ (by omega)
  obtain ⟨P, hP⟩ : ∃ P, P = m + p := ⟨_, rfl⟩
  have k9 : IntKind.i64.wrap ((m : Int) + (p : Int)) = (P : Int) := by rw [show (m : Int) + (p : Int) = (P : Int) by omega]; exact i64_nat _ (by omega)
  obtain ⟨R, hR⟩ : ∃ R, R = m + n := ⟨_, rfl⟩
  have k10 : IntKind.i64.wrap ((m : Int) + (n : Int)) = (R : Int) := by rw [show (m : Int) + (n : Int) = (R : Int) by omega]; exact i64_nat _ (by omega)
  obtain ⟨T, hT⟩ : ∃ T, T = R + 1 := ⟨_, rfl⟩
  have k11 : IntKind.i64.wrap ((R : Int) + 1) = (T : Int) := by rw [show (R : Int) + 1 = (T : Int) by omega]; exact i64_nat _ (by omega)
  have hn2 : n ≤ 100000 := by omega
  have hm2 : m < 100000 := by omega
  have CS := Lib.hid fun k w (h : k < 200000) => slot_yes n k l w hn2 (by omega) hln
  have CA := Lib.hid fun w => slot_yes n m l w hn2 (by omega) hln
  have CB := Lib.hid fun w => slot_yes n P l w hn2 (by omega) hln
  have CG := Lib.hid fun w => gap_yes n m w (by omega) hn2
  have CH := Lib.hid fun w => gap_yes n T w (by omega) hn2
  rw [show slN n P l = slN n m l by rw [hP, hp, hN]; exact slN_whole hln m] at CB
  rw [show gN n T = gN n m by rw [hT, hR]; exact gN_round n m] at CH
  have FS := Lib.hid fun k (d : ¬ n ∣ l + (m + k) + 1) => slN_stay hln (m := m + k) d
  have FT := Lib.hid fun k (d : n ∣ l + (m + k) + 1) => slN_turn hln (m := m + k) d
  have FM := Lib.hid (moved_next n l m)
  obtain ⟨b, hb⟩ : ∃ b, b = (l + m) / n := ⟨_, rfl⟩
  have FR := moved_round (n := n) (by omega) l m
  rw [← hN, ← hb] at FR
  have HR := Lib.hid FR
  have HB := Lib.hid (show 0 + b = (l + (m + 0)) / n by rw [hb]; simp)
  have FK := Lib.hid fun k => slN_le (n := n) (by omega) k l
  have HN := Lib.hid (show N = n + 1 ∧ n ≤ 40 ∧ m < 100000 by omega)
  clear hc hn hm hl hN hp hpb hP hR hT hn2 hm2 hb FR
  go_enter Try.func5, Try.ntmps5
  go_wp2_with fail
  refine (CA.out _).mono ?_; rintro e w' ⟨rfl, rfl⟩
  go_wp2
  go_loop [7, 8, 32] (fun at_ ch i => ∃ k d : Nat, k ≤ N ∧ i = .int .i64 k ∧ at_ = .int .i64 (slN n (m + k) l : Nat) ∧ ch = .int .i64 d ∧ Hid (d + b = (l + (m + k)) / n ∧ d ≤ k)) (fun _ _ i => N - (intOf i).toNat)
  case atStart => exact ⟨0, 0, Nat.zero_le _, rfl, rfl, rfl, Lib.hid ⟨HB.out, Nat.le_refl _⟩⟩
  case round =>
    obtain ⟨k, d, hk, rfl, rfl, rfl, H⟩ := hrel
    by_cases hlt : k < N
    · have j0 : IntKind.i64.wrap ((k : Int) + 1) = ((k + 1 : Nat) : Int) := by rw [show (k : Int) + 1 = ((k + 1 : Nat) : Int) by omega]; exact i64_nat _ (by have := HN.out; omega)
      have j1 : IntKind.i64.wrap ((d : Int) + 1) = ((d + 1 : Nat) : Int) := by rw [show (d : Int) + 1 = ((d + 1 : Nat) : Int) by omega]; exact i64_nat _ (by have := HN.out; have := H.out.2; omega)
      obtain ⟨q, hq⟩ : ∃ q, q = m + k := ⟨_, rfl⟩
      obtain ⟨r, hr⟩ : ∃ r, r = q + 1 := ⟨_, rfl⟩
      have j2 : IntKind.i64.wrap ((m : Int) + (k : Int)) = (q : Int) := by rw [show (m : Int) + (k : Int) = (q : Int) by omega]; exact i64_nat _ (by have := HN.out; omega)
      have j3 : IntKind.i64.wrap ((q : Int) + 1) = (r : Int) := by rw [show (q : Int) + 1 = (r : Int) by omega]; exact i64_nat _ (by have := HN.out; omega)
      have D1 := Lib.hid fun w => CS.out r w (by have := HN.out; omega)
      have e1 := FM.out k
      have hqr : m + (k + 1) = r := by omega
      have e2 := FK.out (m + k)
      have e3 := FK.out r
      obtain ⟨A, hA⟩ : ∃ A, slN n (m + k) l = A := ⟨_, rfl⟩
      obtain ⟨B, hB⟩ : ∃ B, slN n r l = B := ⟨_, rfl⟩
      rw [hB] at D1 e3
      by_cases hd : n ∣ l + (m + k) + 1
      · have f := FT.out k hd
        rw [if_pos hd] at e1
        rw [show m + k + 1 = r by omega, hA, hB] at f
        have j4 : ¬ (B : Int) = (A : Int) := by omega
        have E1 := Lib.hid e1
        have HBr : Hid (slN n (m + (k + 1)) l = B) := Lib.hid (by rw [hqr]; exact hB)
        rw [hA]
        clear e1 hqr hA hB hd hr hq f
        go_wp2_with fail
        refine (D1.out _).mono ?_; rintro e w' ⟨rfl, rfl⟩
        go_wp2
        go_round
        case rel => exact ⟨k + 1, d + 1, by omega, by go_num, by rw [HBr.out], by go_num, Lib.hid ⟨by rw [E1.out]; have := H.out.1; omega, by have := H.out.2; omega⟩⟩
        case measure => simp [intOf]; omega
      · have f := FS.out k hd
        rw [if_neg hd] at e1
        rw [show m + k + 1 = r by omega, hA, hB] at f
        subst f
        have E1 := Lib.hid e1
        have HBr : Hid (slN n (m + (k + 1)) l = B) := Lib.hid (by rw [hqr]; exact hB)
        rw [hA]
        clear e1 hqr hA hB hd hr hq
        go_wp2_with fail
        refine (D1.out _).mono ?_; rintro e w' ⟨rfl, rfl⟩
        go_wp2
        go_round
        case rel => exact ⟨k + 1, d, by omega, by go_num, by rw [HBr.out], rfl, Lib.hid ⟨by rw [E1.out]; have := H.out.1; omega, by have := H.out.2; omega⟩⟩
        case measure => simp [intOf]; omega
    · obtain rfl : k = N := by omega
      have j0 : (1 : Int) ≤ (d : Int) := by have := HR.out; have := H.out.1; omega
      have j1 : (d : Int) ≤ 2 := by have := HR.out; have := H.out.1; omega
      have j2 : 1 ≤ d := by omega
      have j3 : d ≤ 2 := by omega
      clear H
      go_wp2_with fail
      refine (CB.out _).mono ?_; rintro e w' ⟨rfl, rfl⟩
      go_wp2_with fail
      refine (CA.out _).mono ?_; rintro e w' ⟨rfl, rfl⟩
      go_wp2_with fail
      refine (CH.out _).mono ?_; rintro e w' ⟨rfl, rfl⟩
      go_wp2_with fail
      refine (CG.out _).mono ?_; rintro e w' ⟨rfl, rfl⟩
      go_wp2_with fail
      refine (awake_any _).mono ?_; rintro e w' ⟨rfl, hb⟩
      go_wp2_with fail
      go_ret
      exact ⟨rfl, hb⟩

set_option maxRecDepth 100000 in
theorem lifted (os : Os) (started : os.Started) (H : Type) (enc : TypeId × Value → H) :
    ReturnsInHanded {} Try.checked os 5 .any (Rows.gapRoundSpec.pre6 enc Try.prog Try.f5 Rows.gapRoundRow.domain false) (Rows.gapRoundSpec.post enc Try.prog Try.f5 false true false false) := by
  refine returnsInHanded_of_change (C := Try.checked) own started (by kernel_rfl) Try.func5
    (ChangeSpec.witness6 (enc := enc) (C := Try.checked) false ⟨#[], #[.int .i64 0, .int .i64 0, .int .i64 0], []⟩ 8 (by kernel_rfl) (by kernel_rfl) (by kernel_rfl) (by kernel_rfl)) ?_
  intro W base args ds gs before hval0 hW hcnd _
  have hval : ∀ (j : Nat) t v, Try.f5.params[j]? = some t → args[j]? = some v → Value.okWide Try.prog W .any base t v := hval0
  have hW' := hW
  have hlt := hW.lt
  obtain ⟨p, q, hA0, hV, hpq, hfz, hnd⟩ := hW
  have hA : DataW.TrodAll enc Try.prog W 0 (fun _ => true) true Try.f5.params.toList args.toList ds p := hA0
  rw [Try.params5] at hA hval
  obtain ⟨v0, vs0, d0, ds0, p0, q0, hargs, rfl, hp, h0, r0⟩ := trodAll_cons hA
  obtain ⟨v1, vs1, d1, ds1, p1, q1, rfl, rfl, rfl, h1, r1⟩ := trodAll_cons r0
  obtain ⟨v2, vs2, d2, ds2, p2, q2, rfl, rfl, rfl, h2, r2⟩ := trodAll_cons r1
  obtain ⟨rfl, rfl, rfl⟩ := trodAll_nil r2
  obtain rfl : args = #[v0, v1, v2] := by cases args; simp_all
  obtain ⟨rfl, rfl⟩ := trodVars_none hV
  have hlt' : ∀ x ∈ before, x.block < W.heap.size := fun x hx => hlt x hx
  obtain ⟨a0, rfl, rfl, rfl, w0⟩ := open_int Try.underlying3 (hval 0 3 v0 rfl rfl) h0
  obtain ⟨a1, rfl, rfl, rfl, w1⟩ := open_int Try.underlying3 (hval 1 3 v1 rfl rfl) h1
  obtain ⟨a2, rfl, rfl, rfl, w2⟩ := open_int Try.underlying3 (hval 2 3 v2 rfl rfl) h2
  refine (walk a0 a1 a2 W w0 w1 w2).mono fun e W' ⟨he, hb⟩ => ?_
  subst he
  exact ⟨_, rfl, law_post rfl (by kernel_rfl) hW' (by rw [Try.params5]; intro t ht; simp only [List.mem_cons, List.not_mem_nil, or_false] at ht; (repeat' (first | (rcases ht with rfl | ht) | subst ht)) <;> exact ⟨by kernel_rfl, of_decide_eq_true (by kernel_rfl)⟩) rfl hb⟩

theorem over : Rows.gapRoundRow.holds Try.pinned (OpenSpec.ofChange Rows.gapRoundSpec) :=
  OpenClaim.holds_of_wide 5 Try.f5 rfl rfl rfl rfl rfl rfl rfl ⟨rfl, rfl, rfl, rfl, rfl⟩ rfl rfl rfl rfl rfl (by kernel_rfl) Try.func5 (by kernel_rfl)
    (of_decide_eq_true (by kernel_rfl)) (by unfold Func.isWrapper; first | (rw [if_pos (by decide +kernel)]; kernel_rfl) | (rw [if_neg (by decide +kernel)]; exact ⟨rfl, rfl⟩))
    (fun os started H enc _ => lifted os started H enc)

theorem proved : Rows.GapRoundSaid := over
end Go.Proofs.Ytmodoploohnbcaa.gapRound
