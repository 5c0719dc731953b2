/-
  Each line is found where it stands; the gap is nobody's; outside there is nothing. No conditions.
-/
import Derived.Test.YtmodoploohnbcaaGpc
namespace Go.Proofs.Ytmodoploohnbcaa.gapOnce
open Go.Proofs.Ytmodoploohnbcaa Go.ChangeShapes Go.WideShapes Go.ChangeAt Go.RowKit

set_option maxHeartbeats 2000000 in
theorem walk (a0 a1 a2 : Int) (w : World) (_ : (Lit.int .i64 a0).wf = true) (_ : (Lit.int .i64 a1).wf = true) (_ : (Lit.int .i64 a2).wf = true) :
    Calls Try.prog 6 #[.int .i64 a0, .int .i64 a1, .int .i64 a2] w fun e w' => e = .returned (.bool true) ∧ Below w.heap.size w w' := by
  obtain ⟨u, hu, _⟩ := u64_nat a0
  obtain ⟨c, hc⟩ : ∃ c, c = u % 60 := ⟨_, rfl⟩
  have t1 : (u : Int).tmod 60 = (c : Int) := by rw [hc]; exact tmod_nat u 60
  have k0 : IntKind.i64.wrap (c : Int) = c := i64_nat _ (by omega)
  obtain ⟨n, hn⟩ : ∃ n : Nat, n = 1 + c := ⟨_, rfl⟩
  have k1 : IntKind.i64.wrap (1 + (c : Int)) = (n : Int) := by rw [show 1 + (c : Int) = (n : Int) by omega]; exact i64_nat _ (by omega)
  obtain ⟨v, hv, _⟩ := u64_nat a1
  obtain ⟨m, hm⟩ : ∃ m, m = v % 100000 := ⟨_, rfl⟩
  have t2 : (v : Int).tmod 100000 = (m : Int) := by rw [hm]; exact tmod_nat v 100000
  have k2 : IntKind.i64.wrap (m : Int) = m := i64_nat _ (by omega)
  obtain ⟨x, hx, _⟩ := u64_nat a2
  obtain ⟨y, hy⟩ : ∃ y, y = x % 100 := ⟨_, rfl⟩
  have t3 : (x : Int).tmod 100 = (y : Int) := by rw [hy]; exact tmod_nat x 100
  have k3 : IntKind.i64.wrap (y : Int) = y := i64_nat _ (by omega)
  obtain ⟨z, hz⟩ : ∃ z : Int, -1 - (y : Int) = z := ⟨_, rfl⟩
  have k4 : IntKind.i64.wrap (-1 - (y : Int)) = z := by rw [hz]; exact IntWalk.i64_in _ (by omega)
  obtain ⟨N, hN⟩ : ∃ N, N = n + 1 := ⟨_, rfl⟩
  have k5 : IntKind.i64.wrap ((n : Int) + 1) = (N : Int) := by rw [show (n : Int) + 1 = (N : Int) by omega]; exact i64_nat _ (by omega)
  have hn1 : 1 ≤ n := by omega
  have hn2 : n ≤ 100000 := by omega
  have hm2 : m < 9223372036854775808 := by omega
  have CL := Lib.hid fun s w (h : s ≤ n) (hg : s ≠ gN n m) => line_yes n m s w hn1 hn2 hm2 h hg
  have CS := Lib.hid fun l w (h : l < n) => slot_yes n m l w hn2 hm2 h
  have CG := Lib.hid fun w => gap_yes n m w hn1 hn2
  have CN := Lib.hid fun w => line_gap n m w hn1 hn2
  have E1 := Lib.hid fun w => slot_out n m n w hn1 hn2 (.inr (Int.le_refl _))
  have E2 := Lib.hid fun w => slot_out n m (-1) w hn1 hn2 (.inl (by decide))
  have E3 := Lib.hid fun w => line_out n m N w hn1 hn2 (.inr (by omega))
  have E4 := Lib.hid fun w => gap_no 0 m w (.inl (by decide))
  have E5 := Lib.hid fun w => gap_no n z w (.inr (.inr (by omega)))
  have FL := Lib.hid fun s => lnN_lt (n := n) hn1 m s
  have FS := Lib.hid fun s (h : s ≤ n) (hg : s ≠ gN n m) => slN_lnN hn1 m h hg
  have HG := Lib.hid (gN_le n m)
  have HN := Lib.hid (show N = n + 1 ∧ n ≤ 60 by omega)
  obtain ⟨g, hg⟩ : ∃ g, gN n m = g := ⟨_, rfl⟩
  rw [hg] at CG CN HG
  have HQ := Lib.hid hg
  clear hc hn hm hy hz hN hn1 hn2 hm2 hg
  go_enter Try.func6, Try.ntmps6
  go_wp2
  go_loop [7, 21] (fun e i => ∃ k : Nat, k ≤ N ∧ i = .int .i64 k ∧ e = .int .i64 (if g < k then 1 else 0)) (fun _ i => N - (intOf i).toNat)
  case atStart => exact ⟨0, Nat.zero_le _, rfl, rfl⟩
  case round =>
    obtain ⟨k, hk, rfl, rfl⟩ := hrel
    by_cases hlt : k < N
    · have j0 : IntKind.i64.wrap ((k : Int) + 1) = ((k + 1 : Nat) : Int) := by rw [show (k : Int) + 1 = ((k + 1 : Nat) : Int) by omega]; exact i64_nat _ (by have := HN.out; omega)
      by_cases hkg : k = g
      · subst hkg
        rw [if_neg (by omega)]
        have j1 : IntKind.i64.wrap (0 + 1) = 1 := by decide
        go_wp2_with fail
        refine (CN.out _).mono ?_; rintro e w' ⟨rfl, rfl⟩
        go_wp2_with fail
        refine (CG.out _).mono ?_; rintro e w' ⟨rfl, rfl⟩
        go_wp2
        go_round
        case rel => exact ⟨k + 1, by omega, by go_num, by rw [if_pos (by omega)]⟩
        case measure => simp [intOf]; omega
      · obtain ⟨E, hE⟩ : ∃ E : Int, (if g < k then (1 : Int) else 0) = E := ⟨_, rfl⟩
        rw [hE]
        have hE2 : (if g < k + 1 then (1 : Int) else 0) = E := by
          rw [← hE]
          by_cases q : g < k
          · rw [if_pos q, if_pos (by omega)]
          · rw [if_neg q, if_neg (by omega)]
        obtain ⟨l, hl⟩ : ∃ l, lnN n m k = l := ⟨_, rfl⟩
        have hln := FL.out k
        have hsl := FS.out k (by have := HN.out; omega) (by rw [HQ.out]; exact hkg)
        have D1 := Lib.hid fun w => CL.out k w (by have := HN.out; omega) (by rw [HQ.out]; exact hkg)
        rw [hl] at D1 hln hsl
        have D2 := Lib.hid fun w => CS.out l w hln
        rw [hsl] at D2
        have j2 : ¬ (l : Int) = -1 := by omega
        have j3 : ¬ (l : Int) < 0 := by omega
        have j4 : ¬ (n : Int) ≤ (l : Int) := by omega
        have HE := Lib.hid hE2
        clear hE hE2 hl hsl
        go_wp2_with fail
        refine (D1.out _).mono ?_; rintro e w' ⟨rfl, rfl⟩
        go_wp2_with fail
        refine (D2.out _).mono ?_; rintro e w' ⟨rfl, rfl⟩
        go_wp2
        go_round
        case rel => exact ⟨k + 1, by omega, by go_num, by rw [HE.out]⟩
        case measure => simp [intOf]; omega
    · obtain rfl : k = N := by omega
      rw [if_pos (by have := HG.out; have := HN.out; omega)]
      go_wp2_with fail
      refine (E1.out _).mono ?_; rintro e w' ⟨rfl, rfl⟩
      go_wp2_with fail
      refine (E2.out _).mono ?_; rintro e w' ⟨rfl, rfl⟩
      go_wp2_with fail
      refine (E3.out _).mono ?_; rintro e w' ⟨rfl, rfl⟩
      go_wp2_with fail
      refine (E4.out _).mono ?_; rintro e w' ⟨rfl, rfl⟩
      go_wp2_with fail
      refine (E5.out _).mono ?_; rintro e w' ⟨rfl, rfl⟩
      go_wp2_with fail
      refine (awake_any _).mono ?_; rintro e w' ⟨rfl, hb⟩
      go_wp2_with fail
      go_ret
      exact ⟨rfl, hb⟩

set_option maxRecDepth 100000 in
theorem lifted (os : Os) (started : os.Started) (H : Type) (enc : TypeId × Value → H) :
    ReturnsInHanded {} Try.checked os 6 .any (Rows.gapOnceSpec.pre6 enc Try.prog Try.f6 Rows.gapOnceRow.domain false) (Rows.gapOnceSpec.post enc Try.prog Try.f6 false true false false) := by
  refine returnsInHanded_of_change (C := Try.checked) own started (by kernel_rfl) Try.func6
    (ChangeSpec.witness6 (enc := enc) (C := Try.checked) false ⟨#[], #[.int .i64 0, .int .i64 0, .int .i64 0], []⟩ 8 (by kernel_rfl) (by kernel_rfl) (by kernel_rfl) (by kernel_rfl)) ?_
  intro W base args ds gs before hval0 hW hcnd _
  have hval : ∀ (j : Nat) t v, Try.f6.params[j]? = some t → args[j]? = some v → Value.okWide Try.prog W .any base t v := hval0
  have hW' := hW
  have hlt := hW.lt
  obtain ⟨p, q, hA0, hV, hpq, hfz, hnd⟩ := hW
  have hA : DataW.TrodAll enc Try.prog W 0 (fun _ => true) true Try.f6.params.toList args.toList ds p := hA0
  rw [Try.params6] at hA hval
  obtain ⟨v0, vs0, d0, ds0, p0, q0, hargs, rfl, hp, h0, r0⟩ := trodAll_cons hA
  obtain ⟨v1, vs1, d1, ds1, p1, q1, rfl, rfl, rfl, h1, r1⟩ := trodAll_cons r0
  obtain ⟨v2, vs2, d2, ds2, p2, q2, rfl, rfl, rfl, h2, r2⟩ := trodAll_cons r1
  obtain ⟨rfl, rfl, rfl⟩ := trodAll_nil r2
  obtain rfl : args = #[v0, v1, v2] := by cases args; simp_all
  obtain ⟨rfl, rfl⟩ := trodVars_none hV
  have hlt' : ∀ x ∈ before, x.block < W.heap.size := fun x hx => hlt x hx
  obtain ⟨a0, rfl, rfl, rfl, w0⟩ := open_int Try.underlying3 (hval 0 3 v0 rfl rfl) h0
  obtain ⟨a1, rfl, rfl, rfl, w1⟩ := open_int Try.underlying3 (hval 1 3 v1 rfl rfl) h1
  obtain ⟨a2, rfl, rfl, rfl, w2⟩ := open_int Try.underlying3 (hval 2 3 v2 rfl rfl) h2
  refine (walk a0 a1 a2 W w0 w1 w2).mono fun e W' ⟨he, hb⟩ => ?_
  subst he
  exact ⟨_, rfl, law_post rfl (by kernel_rfl) hW' (by rw [Try.params6]; intro t ht; simp only [List.mem_cons, List.not_mem_nil, or_false] at ht; (repeat' (first | (rcases ht with rfl | ht) | subst ht)) <;> exact ⟨by kernel_rfl, of_decide_eq_true (by kernel_rfl)⟩) rfl hb⟩

theorem over : Rows.gapOnceRow.holds Try.pinned (OpenSpec.ofChange Rows.gapOnceSpec) :=
  OpenClaim.holds_of_wide 6 Try.f6 rfl rfl rfl rfl rfl rfl rfl ⟨rfl, rfl, rfl, rfl, rfl⟩ rfl rfl rfl rfl rfl (by kernel_rfl) Try.func6 (by kernel_rfl)
    (of_decide_eq_true (by kernel_rfl)) (by unfold Func.isWrapper; first | (rw [if_pos (by decide +kernel)]; kernel_rfl) | (rw [if_neg (by decide +kernel)]; exact ⟨rfl, rfl⟩))
    (fun os started H enc _ => lifted os started H enc)

theorem proved : Rows.GapOnceSaid := over
end Go.Proofs.Ytmodoploohnbcaa.gapOnce
