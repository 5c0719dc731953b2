/-
  Package edge answers as the document's reference does, whatever the numbers are, by their bits. No conditions.
-/
import Derived.Test.YtcccfmclcpldlaaRef2
namespace Go.Proofs.Ytcccfmclcpldlaa.edgeForms
open Go.Proofs.Ytcccfmclcpldlaa Go.Proofs.Ytcccfmclcpldlaa.D Go.ChangeShapes Go.WideShapes Go.ChangeAt Go.RowKit

theorem sorted_same {l a b : List Nat} (h1 : l.Perm a) (h2 : l.Perm b) (s1 : AscP a) (s2 : AscP b) : sameL a b = true := by
  unfold sameL
  rw [decide_eq_true_eq]
  have hp : (a.map rk).Perm (b.map rk) := (h1.symm.trans h2).map rk
  have p1 : (a.map rk).Pairwise (· ≤ ·) := List.pairwise_map.2 s1
  have p2 : (b.map rk).Pairwise (· ≤ ·) := List.pairwise_map.2 s2
  exact hp.eq_of_pairwise (fun _ _ _ _ h g => Int.le_antisymm h g) p1 p2

theorem rcmp_is (a b : Nat) (ha : a < 2 ^ 64) (hb : b < 2 ^ 64) (c : Int) (h : cmp3 (rk a) (rk b) = c) (w : World) : Calls Try.prog 20 #[.float .f64 a, .float .f64 b] w fun e w' => e = .returned (.int .i64 c) ∧ w = w' := by
  rw [← h]; exact rcmp_any a b w ha hb
theorem same_c (a b : Nat) (c : Int) (h : cmp3 (rk a) (rk b) = c) (w : World) : Calls Try.prog 21 #[.float .f64 a, .float .f64 b] w fun e w' => e = .returned (.bool (c == 0)) ∧ w = w' := by
  rw [← h]; exact same_all a b w
theorem c_eq {x y : Int} (h : x = y) : cmp3 x y = 0 := by unfold cmp3; rw [if_neg (by omega), if_neg (by omega)]
theorem below_more {w w1 w2 : World} (h : Below w.heap.size w w1) (h2 : Below w1.heap.size w1 w2) : Below w.heap.size w w2 := h.trans (h2.mono h.size)
theorem d_any (x y : Nat) (hx : x < 2 ^ 64) (hy : y < 2 ^ 64) (v : Nat) (b : Bool) (hv : divV x y = v) (hb : divB x y = b) (w : World) :
    Calls Try.prog 15 #[.float .f64 x, .float .f64 y] w fun e w' => e = .returned (.tuple #[.float .f64 v, .bool b]) ∧ Below w.heap.size w w' :=
  (div_any x y w hx hy).mono fun e w' ⟨h, n, g⟩ => ⟨by rw [h, hv, hb], by rw [g]; exact below_drewN (Below.refl _ _) n⟩
theorem rd_any (x y : Nat) (hx : x < 2 ^ 64) (hy : y < 2 ^ 64) (v : Nat) (b : Bool) (hv : divV x y = v) (hb : divB x y = b) (w : World) :
    Calls Try.prog 16 #[.float .f64 x, .float .f64 y] w fun e w' => e = .returned (.tuple #[.float .f64 v, .bool b]) ∧ Below w.heap.size w w' :=
  (rdiv_any x y w hx hy).mono fun e w' ⟨h, n, g⟩ => ⟨by rw [h, hv, hb], by rw [g]; exact below_drewN (Below.refl _ _) n⟩
theorem divV_lt (x y : Nat) : divV x y < 2 ^ 64 := by
  unfold divV divR
  split
  · decide
  · cases h : Ieee.double.div x y with
    | none => decide
    | some q =>
      simp only
      split
      · decide
      · exact Ieee.double.div_lt h
theorem clampW_lt {x lo hi : Nat} (hx : x < 2 ^ 64) (hlo : lo < 2 ^ 64) (hhi : hi < 2 ^ 64) : clampW x lo hi < 2 ^ 64 := by
  unfold clampW; repeat' split
  all_goals assumption
theorem minV_lt {l : List Nat} (h : Small l) : minV l < 2 ^ 64 := by
  unfold minV; split
  · decide
  · exact minAt_small h _ (by omega)
theorem maxV_lt {l : List Nat} (h : Small l) : maxV l < 2 ^ 64 := by
  unfold maxV; split
  · decide
  · exact maxAt_small h _ (by omega)

theorem long (x y z : Nat) (p : Option Addr) (n cap : Nat) (w : World) (h : 200 < n) :
    Calls Try.prog 3 #[.int .u64 x, .int .u64 y, .int .u64 z, .slice p n cap] w fun e w' => e = .returned (.bool true) ∧ Below w.heap.size w w' := by
  go_enter Try.func3, Try.ntmps3
  go_wp2_with fail
  refine (awake_any _).mono ?_; rintro e w' ⟨rfl, hb⟩
  go_wp2_with fail
  go_ret
  exact ⟨rfl, hb⟩

set_option maxHeartbeats 4000000 in
theorem short (x y z : Nat) (v : Value) (l : List Int) (w : World) (hx : x < 2 ^ 64) (hy : y < 2 ^ 64) (hz : z < 2 ^ 64) (hv : IntsIn .u64 w v l) (hl : l.length ≤ 200) :
    Calls Try.prog 3 #[.int .u64 x, .int .u64 y, .int .u64 z, v] w fun e w' => e = .returned (.bool true) ∧ Below w.heap.size w w' := by
  have O := Lib.hid (of_any v l w hv (by omega))
  have hsm : Small (nats l) := by obtain ⟨_, _, _, _, _, hwf, _⟩ := hv; exact nats_small hwf
  have hml : (nats l).length ≤ 1000 := by rw [nats_length]; omega
  obtain ⟨p, cap, rfl, _⟩ := hv
  generalize nats l = m at *
  have SM := Lib.hid hsm
  have ML := Lib.hid hml
  have MM := Lib.hid (show m.length ≤ maxLen by unfold maxLen; omega)
  obtain ⟨c, hc⟩ : ∃ c, cmp3 (rk x) (rk y) = c := ⟨_, rfl⟩
  obtain ⟨q, hq⟩ : ∃ q, divV x y = q := ⟨_, rfl⟩
  obtain ⟨u, hu⟩ : ∃ u, divB x y = u := ⟨_, rfl⟩
  obtain ⟨i, hi⟩ : ∃ i, wholeV x = i := ⟨_, rfl⟩
  obtain ⟨s, hs⟩ : ∃ s, wholeB x = s := ⟨_, rfl⟩
  obtain ⟨k, hk⟩ : ∃ k, clampW x y z = k := ⟨_, rfl⟩
  have hqlt : q < 2 ^ 64 := by rw [← hq]; exact divV_lt x y
  have hklt : k < 2 ^ 64 := by rw [← hk]; exact clampW_lt hx hy hz
  have D1 := Lib.hid (d_any x y hx hy q u hq hu)
  have D2 := Lib.hid (rd_any x y hx hy q u hq hu)
  have W1 := Lib.hid (fun w => (whole_any x w).mono (R' := fun e w' => e = .returned (.tuple #[.int .i64 i, .bool s]) ∧ w = w') fun e w' ⟨h, g⟩ => ⟨by rw [h, hi, hs], g⟩)
  have W2 := Lib.hid (fun w => (rwhole_any x w).mono (R' := fun e w' => e = .returned (.tuple #[.int .i64 i, .bool s]) ∧ w = w') fun e w' ⟨h, g⟩ => ⟨by rw [h, hi, hs], g⟩)
  have M1 := Lib.hid (cmp_is' x y hx hy c hc)
  have M2 := Lib.hid (rcmp_is x y hx hy c hc)
  have S1 := Lib.hid (same_c x y c hc)
  have K1 := Lib.hid (fun w => (clamp_any x y z w hx hy hz).mono (R' := fun e w' => e = .returned (.float .f64 k) ∧ w = w') fun e w' ⟨h, g⟩ => ⟨by rw [h, hk], g⟩)
  have K2 := Lib.hid (fun w => (rclamp_any x y z w hx hy hz).mono (R' := fun e w' => e = .returned (.float .f64 k) ∧ w = w') fun e w' ⟨h, g⟩ => ⟨by rw [h, hk], g⟩)
  have K3 := Lib.hid (rcmp_is k k hklt hklt 0 (c_eq rfl))
  have Q3 := Lib.hid (rcmp_is q q hqlt hqlt 0 (c_eq rfl))
  clear hsm hml hc hq hu hi hs hk hqlt hklt hx hy hz
  go_enter Try.func3, Try.ntmps3
  go_wp2_with fail
  refine O.out.mono ?_; rintro e w1 ⟨vm, rfl, ho, hb1⟩
  have R := Lib.hid ho.reads
  have B1 := Lib.hid hb1
  clear O ho hb1
  go_wp2_with fail
  refine (D1.out _).mono ?_; rintro e w2 ⟨rfl, hb2⟩
  have B2 := Lib.hid hb2
  clear hb2
  go_wp2_with fail
  refine (D2.out _).mono ?_; rintro e w3 ⟨rfl, hb3⟩
  have B3 := Lib.hid (below_more B2.out hb3)
  clear hb3
  go_wp2_with fail
  refine (W1.out _).mono ?_; rintro e w' ⟨rfl, rfl⟩
  go_wp2_with fail
  refine (W2.out _).mono ?_; rintro e w' ⟨rfl, rfl⟩
  go_wp2_with fail
  refine (M1.out _).mono ?_; rintro e w' ⟨rfl, rfl⟩
  go_wp2_with fail
  refine (M2.out _).mono ?_; rintro e w' ⟨rfl, rfl⟩
  go_wp2_with fail
  refine (S1.out _).mono ?_; rintro e w' ⟨rfl, rfl⟩
  go_wp2_with fail
  refine (M2.out _).mono ?_; rintro e w' ⟨rfl, rfl⟩
  go_wp2_with fail
  refine (sort_any vm m _ (R.out.below B3.out) ML.out).mono ?_; rintro e w4 ⟨va, a, rfl, pa, aa, oa, hb4⟩
  have PA := Lib.hid pa
  have AA := Lib.hid ((asc_iff a).1 aa)
  have RA := Lib.hid oa.reads
  have B4 := Lib.hid (below_more B3.out hb4)
  clear pa aa oa hb4
  go_wp2_with fail
  refine (rsort_any vm m _ (R.out.below B4.out) ML.out SM.out).mono ?_; rintro e w5 ⟨vb, b, rfl, pb, ab, ob, hb5⟩
  have RA := Lib.hid (RA.out.below hb5)
  have SS := Lib.hid (sorted_same PA.out pb AA.out ab)
  have LA := Lib.hid (show a.length ≤ maxLen by rw [← PA.out.length_eq]; exact MM.out)
  have SA := Lib.hid (small_perm PA.out SM.out)
  have SB := Lib.hid (small_perm pb SM.out)
  have RB := Lib.hid ob.reads
  have B5 := Lib.hid (below_more B4.out hb5)
  clear pb ab ob hb5
  go_wp2_with fail
  refine (same_rd va vb a b _ RA.out RB.out LA.out SA.out SB.out).mono ?_; rintro e w6 ⟨rfl, hb6⟩
  rw [SS.out]
  have B6 := Lib.hid (below_more B5.out hb6)
  clear hb6
  go_wp2_with fail
  refine (min_rd vm m _ (R.out.below B6.out) MM.out SM.out).mono ?_; rintro e w7 ⟨rfl, rfl⟩
  go_wp2_with fail
  refine (rmin_any vm m _ (R.out.below B6.out) ML.out SM.out).mono ?_; rintro e w7 ⟨r, rfl, hr, er, hb7⟩
  have B7 := Lib.hid (below_more B6.out hb7)
  have N1 := Lib.hid (rcmp_is (minV m) r (minV_lt SM.out) hr 0 (c_eq er.symm))
  clear hb7 hr er
  go_wp2_with fail
  refine (N1.out _).mono ?_; rintro e w' ⟨rfl, rfl⟩
  go_wp2_with fail
  refine (max_rd vm m _ (R.out.below B7.out) MM.out SM.out).mono ?_; rintro e w8 ⟨rfl, rfl⟩
  go_wp2_with fail
  refine (rmax_any vm m _ (R.out.below B7.out) ML.out SM.out).mono ?_; rintro e w8 ⟨r2, rfl, hr, er, hb8⟩
  have B8 := Lib.hid (below_more B7.out hb8)
  have N2 := Lib.hid (rcmp_is (maxV m) r2 (maxV_lt SM.out) hr 0 (c_eq er.symm))
  clear hb8 hr er
  go_wp2_with fail
  refine (N2.out _).mono ?_; rintro e w' ⟨rfl, rfl⟩
  go_wp2_with fail
  refine (K1.out _).mono ?_; rintro e w' ⟨rfl, rfl⟩
  go_wp2_with fail
  refine (K2.out _).mono ?_; rintro e w' ⟨rfl, rfl⟩
  go_wp2_with fail
  refine (K3.out _).mono ?_; rintro e w' ⟨rfl, rfl⟩
  go_wp2_with fail
  refine (Q3.out _).mono ?_; rintro e w' ⟨rfl, rfl⟩
  go_wp2_with fail
  refine (awake_any _).mono ?_; rintro e w9 ⟨rfl, hb9⟩
  go_wp2_with fail
  go_ret
  exact ⟨rfl, below_more B1.out (below_more B8.out hb9)⟩

theorem walk (a0 a1 a2 : Int) (l3 : List Int) (v3 : Value) (w : World) (w0 : (Lit.int .u64 a0).wf = true) (w1 : (Lit.int .u64 a1).wf = true) (w2 : (Lit.int .u64 a2).wf = true) (w3 : IntsIn .u64 w v3 l3) :
    Calls Try.prog 3 #[.int .u64 a0, .int .u64 a1, .int .u64 a2, v3] w fun e w' => e = .returned (.bool true) ∧ Below w.heap.size w w' := by
  obtain ⟨x, rfl, hx⟩ := nat_of_u64 w0
  obtain ⟨y, rfl, hy⟩ := nat_of_u64 w1
  obtain ⟨z, rfl, hz⟩ := nat_of_u64 w2
  by_cases h : l3.length ≤ 200
  · exact short x y z v3 l3 w hx hy hz w3 h
  · obtain ⟨p, cap, rfl, _⟩ := w3
    exact long x y z p _ cap w (by omega)

set_option maxRecDepth 100000 in
theorem lifted (os : Os) (started : os.Started) (H : Type) (enc : TypeId × Value → H) :
    ReturnsInHanded {} Try.checked os 3 .any (Rows.edgeFormsSpec.pre6 enc Try.prog Try.f3 Rows.edgeFormsRow.domain false) (Rows.edgeFormsSpec.post enc Try.prog Try.f3 false true false false) := by
  refine returnsInHanded_of_change (C := Try.checked) own started (by kernel_rfl) Try.func3
    (ChangeSpec.witness6 (enc := enc) (C := Try.checked) false ⟨#[], #[.int .u64 0, .int .u64 0, .int .u64 0, .slice none 0 0], []⟩ 8 (by kernel_rfl) (by kernel_rfl) (by kernel_rfl) (by kernel_rfl)) ?_
  intro W base args ds gs before hval0 hW hcnd _
  have hval : ∀ (j : Nat) t v, Try.f3.params[j]? = some t → args[j]? = some v → Value.okWide Try.prog W .any base t v := hval0
  have hW' := hW
  have hlt := hW.lt
  obtain ⟨p, q, hA0, hV, hpq, hfz, hnd⟩ := hW
  have hA : DataW.TrodAll enc Try.prog W 0 (fun _ => true) true Try.f3.params.toList args.toList ds p := hA0
  rw [Try.params3] at hA hval
  obtain ⟨v0, vs0, d0, ds0, p0, q0, hargs, rfl, hp, h0, r0⟩ := trodAll_cons hA
  obtain ⟨v1, vs1, d1, ds1, p1, q1, rfl, rfl, rfl, h1, r1⟩ := trodAll_cons r0
  obtain ⟨v2, vs2, d2, ds2, p2, q2, rfl, rfl, rfl, h2, r2⟩ := trodAll_cons r1
  obtain ⟨v3, vs3, d3, ds3, p3, q3, rfl, rfl, rfl, h3, r3⟩ := trodAll_cons r2
  obtain ⟨rfl, rfl, rfl⟩ := trodAll_nil r3
  obtain rfl : args = #[v0, v1, v2, v3] := by cases args; simp_all
  obtain ⟨rfl, rfl⟩ := trodVars_none hV
  have hlt' : ∀ x ∈ before, x.block < W.heap.size := fun x hx => hlt x hx
  obtain ⟨a0, rfl, rfl, rfl, w0⟩ := open_int Try.underlying22 (hval 0 22 v0 rfl rfl) h0
  obtain ⟨a1, rfl, rfl, rfl, w1⟩ := open_int Try.underlying22 (hval 1 22 v1 rfl rfl) h1
  obtain ⟨a2, rfl, rfl, rfl, w2⟩ := open_int Try.underlying22 (hval 2 22 v2 rfl rfl) h2
  obtain ⟨l3, w3⟩ := ints_in Try.underlying23 Try.underlying22 (by kernel_rfl) (hval 3 23 v3 rfl rfl) (fun x hx => hlt' x (by rw [hpq, hp]; simp [hx])) h3
  refine (walk a0 a1 a2 l3 v3 W w0 w1 w2 w3).mono fun e W' ⟨he, hb⟩ => ?_
  subst he
  exact ⟨_, rfl, law_post rfl (by kernel_rfl) hW' (by rw [Try.params3]; intro t ht; simp only [List.mem_cons, List.not_mem_nil, or_false] at ht; (repeat' (first | (rcases ht with rfl | ht) | subst ht)) <;> exact ⟨by kernel_rfl, of_decide_eq_true (by kernel_rfl)⟩) rfl hb⟩

theorem over : Rows.edgeFormsRow.holds Try.pinned (OpenSpec.ofChange Rows.edgeFormsSpec) :=
  OpenClaim.holds_of_wide 3 Try.f3 rfl rfl rfl rfl rfl rfl rfl ⟨rfl, rfl, rfl, rfl, rfl⟩ rfl rfl rfl rfl rfl (by kernel_rfl) Try.func3 (by kernel_rfl)
    (of_decide_eq_true (by kernel_rfl)) (by unfold Func.isWrapper; first | (rw [if_pos (by decide +kernel)]; kernel_rfl) | (rw [if_neg (by decide +kernel)]; exact ⟨rfl, rfl⟩))
    (fun os started H enc _ => lifted os started H enc)

theorem proved : Rows.EdgeFormsSaid := over
end Go.Proofs.Ytcccfmclcpldlaa.edgeForms
