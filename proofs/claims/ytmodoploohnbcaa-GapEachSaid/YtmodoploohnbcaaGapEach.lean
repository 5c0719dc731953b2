/-
  In a whole round of rounds each line stands once, for as long as a round, on each slot. No conditions.
-/
import Derived.Test.YtmodoploohnbcaaGpc
import Derived.Test.YtmodoploohnbcaaOwi
namespace Go.Proofs.Ytmodoploohnbcaa.gapEach
open Go.Proofs.Ytmodoploohnbcaa Go.ChangeShapes Go.WideShapes Go.ChangeAt Go.RowKit

/-- of i numbers from y on, how many are at slot s -/
def ct (n s y : Nat) : Nat → Nat
  | 0 => 0
  | i + 1 => ct n s y i + if (y + i) / n % (n + 1) = s then 1 else 0
theorem ct_shift (n s y : Nat) : ∀ i, ct n s y (i + 1) = (if y / n % (n + 1) = s then 1 else 0) + ct n s (y + 1) i
  | 0 => by simp [ct]
  | i + 1 => by
    rw [ct, ct_shift n s y i, ct, show y + (i + 1) = y + 1 + i by omega]; omega
theorem ct_on {n : Nat} (hn : 0 < n) (s y : Nat) : ct n s (y + 1) (n * (n + 1)) = ct n s y (n * (n + 1)) := by
  have h1 := ct_shift n s y (n * (n + 1))
  rw [ct, Nat.add_mul_div_left _ _ hn, Nat.add_mod_right] at h1
  omega
theorem ct_any {n : Nat} (hn : 0 < n) (s : Nat) : ∀ y, ct n s y (n * (n + 1)) = ct n s 0 (n * (n + 1))
  | 0 => rfl
  | y + 1 => (ct_on hn s y).trans (ct_any hn s y)
theorem ct_zero {n s : Nat} (hn : 0 < n) : ∀ i, i ≤ n * (n + 1) → ct n s 0 i = min i (s * n + n) - s * n
  | 0, _ => by simp [ct]
  | i + 1, h => by
    rw [ct, ct_zero hn i (by omega), Nat.zero_add]
    have hq : i / n < n + 1 := by rw [Nat.div_lt_iff_lt_mul hn, Nat.mul_comm]; omega
    rw [Nat.mod_eq_of_lt hq]
    have e1 : i = n * (i / n) + i % n := (Nat.div_add_mod i n).symm
    have e2 : i % n < n := Nat.mod_lt _ hn
    by_cases c : i / n = s
    · rw [if_pos c]
      rw [c, Nat.mul_comm] at e1
      omega
    · rw [if_neg c]
      rcases Nat.lt_or_gt_of_ne c with h1 | h1
      · have := Nat.mul_le_mul_left n h1
        rw [Nat.mul_succ, Nat.mul_comm n s] at this
        omega
      · have := Nat.mul_le_mul_left n h1
        rw [Nat.mul_succ, Nat.mul_comm n s] at this
        omega
theorem ct_whole {n s : Nat} (hn : 0 < n) (hs : s ≤ n) (y : Nat) : ct n s y (n * (n + 1)) = n := by
  rw [ct_any hn, ct_zero hn _ (Nat.le_refl _)]
  have := Nat.mul_le_mul_right n hs
  rw [Nat.mul_succ]
  omega
theorem ct_le (n s y : Nat) : ∀ i, ct n s y i ≤ i
  | 0 => Nat.le_refl _
  | i + 1 => by rw [ct]; have := ct_le n s y i; split <;> omega
/-- at which slot a line is, as a number of 'ct' -/
theorem slot_ct {n l : Nat} (h : l < n) (m i : Nat) : slN n (m + i) l = (n * l + (l + m) + i) / n % (n + 1) := by
  rw [slN_eq h, Nat.add_assoc (n * l), Nat.mul_add_div (by omega), Nat.add_assoc]

set_option maxHeartbeats 2000000 in
theorem walk (a0 a1 a2 : Int) (w : World) (_ : (Lit.int .i64 a0).wf = true) (_ : (Lit.int .i64 a1).wf = true) (_ : (Lit.int .i64 a2).wf = true) :
    Calls Try.prog 7 #[.int .i64 a0, .int .i64 a1, .int .i64 a2] w fun e w' => e = .returned (.bool true) ∧ Below w.heap.size w w' := by
  obtain ⟨u, hu, _⟩ := u64_nat a0
  obtain ⟨c, hc⟩ : ∃ c, c = u % 15 := ⟨_, rfl⟩
  have t1 : (u : Int).tmod 15 = (c : Int) := by rw [hc]; exact tmod_nat u 15
  have k0 : IntKind.i64.wrap (c : Int) = c := i64_nat _ (by omega)
  obtain ⟨n, hn⟩ : ∃ n : Nat, n = 1 + c := ⟨_, rfl⟩
  have k1 : IntKind.i64.wrap (1 + (c : Int)) = (n : Int) := by rw [show 1 + (c : Int) = (n : Int) by omega]; exact i64_nat _ (by omega)
  obtain ⟨v, hv, _⟩ := u64_nat a1
  obtain ⟨m, hm⟩ : ∃ m, m = v % 10000 := ⟨_, rfl⟩
  have t2 : (v : Int).tmod 10000 = (m : Int) := by rw [hm]; exact tmod_nat v 10000
  have k2 : IntKind.i64.wrap (m : Int) = m := i64_nat _ (by omega)
  obtain ⟨x, hx, _⟩ := u64_nat a2
  obtain ⟨l, hl⟩ : ∃ l, l = x % n := ⟨_, rfl⟩
  have hln : l < n := by rw [hl]; exact Nat.mod_lt _ (by omega)
  have t3 : (x : Int).tmod (n : Int) = (l : Int) := by rw [hl]; exact tmod_nat x n
  have k3 : IntKind.u64.wrap (n : Int) = (n : Int) := by simp [IntKind.wrap, IntKind.signed, IntKind.bits]; omega
  have k4 : IntKind.i64.wrap (l : Int) = l := i64_nat _ (by omega)
  have k5 : ¬ n = 0 := by omega
  have k6 : ¬ (n : Int) = 0 := by omega
  obtain ⟨N, hN⟩ : ∃ N, N = n + 1 := ⟨_, rfl⟩
  have k7 : IntKind.i64.wrap ((n : Int) + 1) = (N : Int) := by rw [show (n : Int) + 1 = (N : Int) by omega]; exact i64_nat _ (by omega)
  obtain ⟨p, hp⟩ : ∃ p, p = n * N := ⟨_, rfl⟩
  have hpb : p ≤ 15 * 16 := by rw [hp]; exact Nat.mul_le_mul (by omega) (by omega)
  have k8 : IntKind.i64.wrap ((n : Int) * (N : Int)) = (p : Int) := by rw [show (n : Int) * (N : Int) = (p : Int) by rw [hp]; push_cast; rfl]; exact i64_nat _ (by omega)
  have hn2 : n ≤ 100000 := by omega
  have CS := Lib.hid fun k w (h : k < 200000) => slot_yes n k l w hn2 (by omega) hln
  obtain ⟨Y, hY⟩ : ∃ Y, Y = n * l + (l + m) := ⟨_, rfl⟩
  have FC := Lib.hid fun i => slot_ct hln m i
  rw [← hY] at FC
  have FK := Lib.hid fun k => slN_le (n := n) (by omega) k l
  have FW := Lib.hid fun s (h : s ≤ n) => ct_whole (n := n) (by omega) h Y
  rw [← hN, ← hp] at FW
  have hmk := run_make_row' (P := Try.prog) 32 3 (.int .i64 0) 8 Try.underlying32 info_int rfl .i64 .i64 N (by omega) (by omega)
  have O0 := made_own_i w N (by unfold maxLen; omega)
  rw [byF_zero N (f := fun s => (ct n s Y 0 : Int)) fun k => rfl] at O0
  have O := Lib.hid O0
  have B := Lib.hid (bal (o := .cells (madeCells #[.int .i64 0] N) 3) (Below.refl w.heap.size w))
  have HN := Lib.hid (show N = n + 1 ∧ n ≤ 15 ∧ m < 10000 ∧ p ≤ 240 ∧ 1 ≤ n by omega)
  clear hc hn hm hl hN hp hpb hY hn2 hln O0
  go_enter Try.func7, Try.ntmps7
  go_wp2
  go_loopw [34] (fun i wr => ∃ k : Nat, k ≤ p ∧ i = .int .i64 k ∧ Hid (OwnI w.heap.size wr (.slice (some ⟨w.heap.size, 0, none⟩) N N) (byF N fun s => (ct n s Y k : Int)) ∧ Below w.heap.size w wr)) (fun i _ => p - (intOf i).toNat)
  case atStart => exact ⟨0, Nat.zero_le _, rfl, Lib.hid ⟨O.out, B.out⟩⟩
  case round =>
    obtain ⟨k, hk, rfl, H⟩ := hrel
    clear hmk
    by_cases hlt : k < p
    · have j0 : IntKind.i64.wrap ((k : Int) + 1) = ((k + 1 : Nat) : Int) := by rw [show (k : Int) + 1 = ((k + 1 : Nat) : Int) by omega]; exact i64_nat _ (by have := HN.out; omega)
      obtain ⟨q, hq⟩ : ∃ q, q = m + k := ⟨_, rfl⟩
      have j2 : IntKind.i64.wrap ((m : Int) + (k : Int)) = (q : Int) := by rw [show (m : Int) + (k : Int) = (q : Int) by omega]; exact i64_nat _ (by have := HN.out; omega)
      obtain ⟨s, hs⟩ : ∃ s, slN n q l = s := ⟨_, rfl⟩
      have hsn : s ≤ n := by rw [← hs]; exact FK.out q
      have hsc : (Y + k) / n % (n + 1) = s := by rw [← hs, hq]; exact (FC.out k).symm
      have D1 := Lib.hid fun w => CS.out q w (by have := HN.out; omega)
      rw [hs] at D1
      obtain ⟨y, hy⟩ : ∃ y, ct n s Y k = y := ⟨_, rfl⟩
      have hyk : y ≤ k := by rw [← hy]; exact ct_le _ _ _ _
      have j3 : IntKind.i64.wrap ((y : Int) + 1) = ((y + 1 : Nat) : Int) := by rw [show (y : Int) + 1 = ((y + 1 : Nat) : Int) by omega]; exact i64_nat _ (by have := HN.out; omega)
      have hsN : s < N := by have := HN.out; omega
      have own2 := own_stored_i H.out.1 s ((y + 1 : Nat) : Int)
      rw [byF_set (f' := fun s => (ct n s Y (k + 1) : Int)) (by rw [ct, hsc, if_pos rfl, hy]) (fun r hr => by rw [ct, hsc, if_neg fun e => hr e.symm]; rfl)] at own2
      obtain ⟨c1, f1⟩ := own_cell_i H.out.1 (j := s) (by rw [byF_length]; exact hsN)
      rw [byF_getD _ hsN, hy] at c1
      have B2 := H.out.2.setCell (p := ⟨w.heap.size, s, none⟩) (Nat.le_refl _) (.int .i64 ((y + 1 : Nat) : Int))
      have H2 := Lib.hid (And.intro own2 B2)
      have i0 : (0 : Int) ≤ (s : Int) := by omega
      have i1 : (s : Int) < (N : Int) := by omega
      have i2 : ¬ (s : Int) < 0 := by omega
      have i3 : ¬ (n : Int) < (s : Int) := by omega
      clear own2 B2 hs hsc hy hq H
      go_wp2_with fail
      refine (D1.out _).mono ?_; rintro e w' ⟨rfl, rfl⟩
      go_wp2
      exact ⟨⟨k + 1, by omega, by go_num, H2⟩, by simp [intOf]; omega⟩
    · obtain rfl : k = p := by omega
      have B1 := Lib.hid H.out.2
      go_wp2
      go_loop [59] (fun i => ∃ j : Nat, j ≤ N ∧ i = .int .i64 j) (fun i => N - (intOf i).toNat)
      case atStart => exact ⟨0, Nat.zero_le _, rfl⟩
      case round =>
        obtain ⟨j, hj, rfl⟩ := hrel
        by_cases hlt2 : j < N
        · have j0 : IntKind.i64.wrap ((j : Int) + 1) = ((j + 1 : Nat) : Int) := by rw [show (j : Int) + 1 = ((j + 1 : Nat) : Int) by omega]; exact i64_nat _ (by have := HN.out; omega)
          obtain ⟨c1, f1⟩ := own_cell_i H.out.1 (j := j) (by rw [byF_length]; exact hlt2)
          rw [byF_getD _ hlt2, FW.out j (by have := HN.out; omega)] at c1
          have i0 : (0 : Int) ≤ (j : Int) := by omega
          have i1 : (j : Int) < (N : Int) := by omega
          have i2 : ¬ (n : Int) < 1 := by have := HN.out; omega
          have i3 : ¬ (N : Int) < (n : Int) := by have := HN.out; omega
          have i4 : ¬ n < 1 := by have := HN.out; omega
          have i5 : ¬ N < n := by have := HN.out; omega
          go_wp2
          go_round
          case rel => exact ⟨j + 1, by omega, by go_num⟩
          case measure => simp [intOf]; omega
        · obtain rfl : j = N := by omega
          go_wp2_with fail
          refine (awake_any _).mono ?_; rintro e w' ⟨rfl, hb⟩
          have B5 := Lib.hid (below_more B1.out hb)
          go_wp2
          go_ret
          exact ⟨rfl, B5.out⟩

set_option maxRecDepth 100000 in
theorem lifted (os : Os) (started : os.Started) (H : Type) (enc : TypeId × Value → H) :
    ReturnsInHanded {} Try.checked os 7 .any (Rows.gapEachSpec.pre6 enc Try.prog Try.f7 Rows.gapEachRow.domain false) (Rows.gapEachSpec.post enc Try.prog Try.f7 false true false false) := by
  refine returnsInHanded_of_change (C := Try.checked) own started (by kernel_rfl) Try.func7
    (ChangeSpec.witness6 (enc := enc) (C := Try.checked) false ⟨#[], #[.int .i64 0, .int .i64 0, .int .i64 0], []⟩ 8 (by kernel_rfl) (by kernel_rfl) (by kernel_rfl) (by kernel_rfl)) ?_
  intro W base args ds gs before hval0 hW hcnd _
  have hval : ∀ (j : Nat) t v, Try.f7.params[j]? = some t → args[j]? = some v → Value.okWide Try.prog W .any base t v := hval0
  have hW' := hW
  have hlt := hW.lt
  obtain ⟨p, q, hA0, hV, hpq, hfz, hnd⟩ := hW
  have hA : DataW.TrodAll enc Try.prog W 0 (fun _ => true) true Try.f7.params.toList args.toList ds p := hA0
  rw [Try.params7] at hA hval
  obtain ⟨v0, vs0, d0, ds0, p0, q0, hargs, rfl, hp, h0, r0⟩ := trodAll_cons hA
  obtain ⟨v1, vs1, d1, ds1, p1, q1, rfl, rfl, rfl, h1, r1⟩ := trodAll_cons r0
  obtain ⟨v2, vs2, d2, ds2, p2, q2, rfl, rfl, rfl, h2, r2⟩ := trodAll_cons r1
  obtain ⟨rfl, rfl, rfl⟩ := trodAll_nil r2
  obtain rfl : args = #[v0, v1, v2] := by cases args; simp_all
  obtain ⟨rfl, rfl⟩ := trodVars_none hV
  have hlt' : ∀ x ∈ before, x.block < W.heap.size := fun x hx => hlt x hx
  obtain ⟨a0, rfl, rfl, rfl, w0⟩ := open_int Try.underlying3 (hval 0 3 v0 rfl rfl) h0
  obtain ⟨a1, rfl, rfl, rfl, w1⟩ := open_int Try.underlying3 (hval 1 3 v1 rfl rfl) h1
  obtain ⟨a2, rfl, rfl, rfl, w2⟩ := open_int Try.underlying3 (hval 2 3 v2 rfl rfl) h2
  refine (walk a0 a1 a2 W w0 w1 w2).mono fun e W' ⟨he, hb⟩ => ?_
  subst he
  exact ⟨_, rfl, law_post rfl (by kernel_rfl) hW' (by rw [Try.params7]; intro t ht; simp only [List.mem_cons, List.not_mem_nil, or_false] at ht; (repeat' (first | (rcases ht with rfl | ht) | subst ht)) <;> exact ⟨by kernel_rfl, of_decide_eq_true (by kernel_rfl)⟩) rfl hb⟩

theorem over : Rows.gapEachRow.holds Try.pinned (OpenSpec.ofChange Rows.gapEachSpec) :=
  OpenClaim.holds_of_wide 7 Try.f7 rfl rfl rfl rfl rfl rfl rfl ⟨rfl, rfl, rfl, rfl, rfl⟩ rfl rfl rfl rfl rfl (by kernel_rfl) Try.func7 (by kernel_rfl)
    (of_decide_eq_true (by kernel_rfl)) (by unfold Func.isWrapper; first | (rw [if_pos (by decide +kernel)]; kernel_rfl) | (rw [if_neg (by decide +kernel)]; exact ⟨rfl, rfl⟩))
    (fun os started H enc _ => lifted os started H enc)

theorem proved : Rows.GapEachSaid := over
end Go.Proofs.Ytmodoploohnbcaa.gapEach
