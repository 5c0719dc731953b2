/-
  The lines of edits are those that hold their words, each once, rising; the words of all other lines are as they were. No conditions.
-/
import Derived.Test.YtnlhjppjgjobkaaSpv
import Derived.Test.YtnlhjppjgjobkaaSpx
import Derived.Test.YtnlhjppjgjobkaaElc
namespace Go.Proofs.Ytnlhjppjgjobkaa.spanLines
set_option maxRecDepth 100000
open Go.Proofs.Ytnlhjppjgjobkaa Go.ChangeShapes Go.WideShapes Go.ChangeAt Go.RowKit

theorem appF_same : ∀ (es : List Ed) (l : List Int) (i : Nat), (∀ e ∈ es, 0 ≤ e.w → e.w.toNat ≠ i) → (appF l es).getD i 0 = l.getD i 0
  | [], _, _, _ => rfl
  | e :: r, l, i, h => by
    rw [appF, appF_same r _ i fun x hx => h x (List.mem_cons_of_mem _ hx)]
    split
    · rename_i h1
      have := h e (List.mem_cons_self ..) h1.1
      rw [List.getD_eq_getElem?_getD, List.getElem?_set_ne this, List.getD_eq_getElem?_getD]
    · rfl
/-- one of these lines is x -/
def anyL (x : Int) : List Int → Bool
  | [] => false
  | y :: r => y == x || anyL x r
theorem anyL_iff {x : Int} : ∀ {l : List Int}, anyL x l = true ↔ x ∈ l
  | [] => by simp [anyL]
  | y :: r => by
    rw [anyL, Bool.or_eq_true, anyL_iff, List.mem_cons, beq_iff_eq]
    constructor
    · rintro (h | h)
      · exact .inl h.symm
      · exact .inr h
    · rintro (h | h)
      · exact .inl h.symm
      · exact .inr h
theorem anyL_step {l : List Int} {j : Nat} (x : Int) (h : j < l.length) : anyL x (l.drop j) = (l.getD j 0 == x || anyL x (l.drop (j + 1))) := by
  rw [List.drop_eq_getElem_cons h, anyL]
  simp [List.getD_eq_getElem?_getD, h]

set_option maxHeartbeats 1000000 in
theorem far (L M c d : Nat) (p q : Option Addr) (w : World) (h : 300 < L ∨ 100 < M) :
    Calls Try.prog 7 #[.slice p L c, .slice q M d] w fun e w' => e = .returned (.bool true) ∧ Below w.heap.size w w' := by
  by_cases h1 : 300 < L
  · have i1 : (L : Int) > 300 := by omega
    clear h
    go_enter Try.func7, Try.ntmps7
    go_wp2_with fail
    refine (awake_any _).mono ?_; rintro e w' ⟨rfl, hb⟩
    go_wp2_with fail
    go_ret
    exact ⟨rfl, hb⟩
  · have i1 : ¬ (L : Int) > 300 := by omega
    have i2 : (M : Int) > 100 := by omega
    clear h h1
    go_enter Try.func7, Try.ntmps7
    go_wp2_with fail
    refine (awake_any _).mono ?_; rintro e w' ⟨rfl, hb⟩
    go_wp2_with fail
    go_ret
    exact ⟨rfl, hb⟩
set_option maxHeartbeats 4000000 in
theorem near (l : List Int) (es : List Ed) (v u : Value) (w : World) (hv : RU w v l) (hu : RA edE w u es) (hl : l.length ≤ 300) (hel : es.length ≤ 100) :
    Calls Try.prog 7 #[v, u] w fun e w' => e = .returned (.bool true) ∧ Below w.heap.size w w' := by
  obtain ⟨p, c, rfl, _, _, _⟩ := id hv
  obtain ⟨q, d, rfl, _, _⟩ := ra_shape hu
  obtain ⟨hIs, hlen⟩ := lines_are es
  have C1 := Lib.hid (lines_is es _ w hu (by omega))
  obtain ⟨R, hR⟩ : ∃ R, Lib.compact ((lnR es).mergeSort fun x y => decide (x ≤ y)) = R := ⟨_, rfl⟩
  rw [hR] at hIs hlen C1
  have C2 := Lib.hid (fun (w' : World) (hb : Below w.heap.size w w') => apply_is l es _ _ w' (ru_below hv hb) (ra_below hu hb) (by omega) (by omega))
  have HV := Lib.hid (fun (w' : World) (hb : Below w.heap.size w w') => ru_below hv hb)
  have hsame : ∀ i : Nat, anyL ((i / 8 : Nat) : Int) R = false → (appF l es).getD i 0 = l.getD i 0 := fun i hi => appF_same es l i fun e he h0 hne => by
    have : ((i / 8 : Nat) : Int) ∈ R := (hIs.mem _).2 (mem_lnR.2 ⟨e, he, h0, by omega⟩)
    rw [anyL_iff.2 this] at hi
    cases hi
  have HSm := Lib.hid hsame
  have hal := appF_length es l
  have HUp := Lib.hid hIs.up
  have i1 : ¬ (l.length : Int) > 300 := by omega
  have i2 : ¬ (es.length : Int) > 100 := by omega
  have i3 : ¬ l.length > 300 := by omega
  have i4 : ¬ es.length > 100 := by omega
  have HL := Lib.hid (And.intro hl (And.intro hel hlen))
  have z1 : (R.length : Int) ≤ (es.length : Int) := by omega
  have z2 : R.length ≤ es.length := hlen
  clear hv hu hl hel hR hIs hlen hsame
  obtain ⟨ll, hll⟩ : ∃ n, l.length = n := ⟨_, rfl⟩
  have Hll := Lib.hid hll
  obtain ⟨A, hA⟩ : ∃ A, appF l es = A := ⟨_, rfl⟩
  rw [hA] at C2 HSm hal
  rw [hll] at hal C2 i1 i3 ⊢
  have Hal := Lib.hid hal
  clear hA hll hal
  obtain ⟨n2, hn2⟩ : ∃ n, es.length = n := ⟨_, rfl⟩
  rw [hn2] at C1 C2 HL i2 i4 z1 z2 ⊢
  clear hn2
  obtain ⟨n1, hn1⟩ : ∃ n, R.length = n := ⟨_, rfl⟩
  rw [hn1] at z1 z2 HL
  have Hn1 := Lib.hid hn1
  clear hn1
  go_enter Try.func7, Try.ntmps7
  go_wp2_with fail
  refine (C1.out).mono ?_; rintro e w1 ⟨⟨u1, rfl, o1⟩, b1⟩
  obtain ⟨p1, c1, rfl⟩ := o1.shape
  have O1 := Lib.hid o1
  have D1 := Lib.hid b1
  clear o1 b1 C1
  go_wp2_with fail
  refine (C2.out w1 D1.out).mono ?_; rintro e w2 ⟨⟨u2, rfl, o2⟩, b2⟩
  obtain ⟨p2, c2, rfl⟩ := o2.shape
  have O2 := Lib.hid o2.ru
  have D2 := Lib.hid (below_more D1.out b2)
  have O1' := Lib.hid (ri_below O1.out.ri b2)
  clear o2 b2 C2 O1
  rw [Hn1.out, Hal.out]
  rw [Hn1.out] at O1'
  rw [Hal.out] at O2
  have HS : Hid (∀ wr, (∃ n, wr = w2.drewN n) → (∀ j, j < n1 → ∃ b off, p1 = some ⟨b, off, none⟩ ∧ wr.cell? ⟨b, off + j, none⟩ = some (.int .i64 (R.getD j 0))) ∧ ∀ i, i < ll → ∃ b off b' off', p2 = some ⟨b, off, none⟩ ∧ p = some ⟨b', off', none⟩ ∧ wr.cell? ⟨b, off + i, none⟩ = some (.int .u64 (A.getD i 0)) ∧ wr.cell? ⟨b', off' + i, none⟩ = some (.int .u64 (l.getD i 0))) := Lib.hid fun wr hwr => by
    obtain ⟨n, rfl⟩ := hwr
    refine ⟨fun j hj => ?_, fun i hi => ?_⟩
    · obtain ⟨b, off, e, _, hc⟩ := ri_some O1'.out (by rw [Hn1.out]; omega)
      exact ⟨b, off, e, hc j (by rw [Hn1.out]; exact hj)⟩
    · obtain ⟨b, off, e, _, hc⟩ := ru_some O2.out (by rw [Hal.out]; omega)
      obtain ⟨b', off', e', _, hc'⟩ := ru_some (HV.out w2 D2.out) (by rw [Hll.out]; omega)
      exact ⟨b, off, b', off', e, e', hc i (by rw [Hal.out]; exact hi), hc' i (by rw [Hll.out]; exact hi)⟩
  clear O1' O2 HV
  go_wp2
  go_loopw [8, 33] (fun y i wr => ∃ k : Nat, k ≤ ll ∧ i = .int .i64 k ∧ Hid (∃ n, wr = w2.drewN n)) (fun _ i _ => ll - (intOf i).toNat)
  case atStart => exact ⟨0, Nat.zero_le _, rfl, Lib.hid ⟨0, rfl⟩⟩
  case round =>
    obtain ⟨k, hk, rfl, HD⟩ := hrel
    by_cases hlt : k < ll
    · obtain ⟨b, off, b', off', e1, e2, x1, x2⟩ := (HS.out wr HD.out).2 k hlt
      obtain ⟨Q, hQ⟩ : ∃ Q, k / 8 = Q := ⟨_, rfl⟩
      have hsm := HSm.out k
      rw [hQ] at hsm
      have m2 : IntKind.i64.wrap ((k : Int) / 8) = (Q : Int) := by rw [show (k : Int) / 8 = (Q : Int) by omega]; exact i64_nat _ (by have := HL.out; omega)
      have i5 : (0 : Int) ≤ (k : Int) := by omega
      have i6 : (k : Int) < (ll : Int) := by omega
      have i7 : ¬ (k : Int) < 0 := by omega
      have i8 : IntKind.i64.wrap ((k : Int) + 1) = ((k + 1 : Nat) : Int) := by rw [show (k : Int) + 1 = ((k + 1 : Nat) : Int) by omega]; exact i64_nat _ (by have := HL.out; omega)
      have HK := Lib.hid hlt
      have HSk := Lib.hid hsm
      obtain ⟨ya, hya⟩ : ∃ y, A.getD k 0 = y := ⟨_, rfl⟩
      obtain ⟨yl, hyl⟩ : ∃ y, l.getD k 0 = y := ⟨_, rfl⟩
      rw [hya] at x1 HSk
      rw [hyl] at x2 HSk
      obtain ⟨wo, hwo⟩ : ∃ wo, wo = wr := ⟨_, rfl⟩
      subst hwo
      clear hlt hk hQ hsm hya hyl
      subst e1 e2
      go_wp2
      go_loopw [8, 38] (fun y i wr => ∃ (j : Nat) (b : Bool), j ≤ n1 ∧ i = .int .i64 j ∧ y = .bool b ∧ wo = wr ∧ Hid ((b || anyL (Q : Int) (R.drop j)) = anyL (Q : Int) R)) (fun _ i _ => n1 - (intOf i).toNat)
      case atStart => exact ⟨0, false, Nat.zero_le _, rfl, rfl, rfl, Lib.hid rfl⟩
      case round =>
        obtain ⟨j, bo, hj, rfl, rfl, rfl, HJ⟩ := hrel
        by_cases hlt : j < n1
        · obtain ⟨b1, off1, e1, x3⟩ := (HS.out wo HD.out).1 j hlt
          subst e1
          have hst := anyL_step (l := R) (j := j) (Q : Int) (by rw [Hn1.out]; exact hlt)
          have j0 : (0 : Int) ≤ (j : Int) := by omega
          have j1 : (j : Int) < (n1 : Int) := by omega
          have j2 : ¬ (j : Int) < 0 := by omega
          have j3 : IntKind.i64.wrap ((j : Int) + 1) = ((j + 1 : Nat) : Int) := by rw [show (j : Int) + 1 = ((j + 1 : Nat) : Int) by omega]; exact i64_nat _ (by have := HL.out; omega)
          have HK2 := Lib.hid hlt
          obtain ⟨y, hy⟩ : ∃ y, R.getD j 0 = y := ⟨_, rfl⟩
          rw [hy] at x3 hst
          have HST := Lib.hid hst
          clear hst hy hlt hj
          cases bo with
          | true =>
            have HN : Hid ((true || anyL (Q : Int) (R.drop (j + 1))) = anyL (Q : Int) R) := Lib.hid (by have := HJ.out; simpa using this)
            go_wp2
            exact ⟨⟨j + 1, true, by have := HK2.out; omega, by go_num, rfl, trivial, HN⟩, by have := HK2.out; simp [intOf]; omega⟩
          | false =>
            obtain ⟨t, ht⟩ : ∃ t, (y == (Q : Int)) = t := ⟨_, rfl⟩
            have HN : Hid ((t || anyL (Q : Int) (R.drop (j + 1))) = anyL (Q : Int) R) := Lib.hid (by have := HJ.out; rw [HST.out, ht] at this; simpa using this)
            go_wp2
            exact ⟨⟨j + 1, t, by have := HK2.out; omega, by go_num, rfl, trivial, HN⟩, by have := HK2.out; simp [intOf]; omega⟩
        · obtain rfl : j = n1 := by omega
          have hfin := HJ.out
          rw [List.drop_eq_nil_of_le (by rw [Hn1.out]; exact Nat.le_refl _), anyL, Bool.or_false] at hfin
          have hs2 := HSk.out
          rw [← hfin] at hs2
          have HD2 : Hid (∀ m, ∃ n', wo.drewN m = w2.drewN n') := Lib.hid fun m => by
            obtain ⟨n, e⟩ := HD.out
            subst e
            exact ⟨_, World.drewN_drewN ..⟩
          have y1 : ∀ m, (wo.drewN m).cell? ⟨b, off + k, none⟩ = some (.int .u64 ya) := fun m => x1
          have y2 : ∀ m, (wo.drewN m).cell? ⟨b', off' + k, none⟩ = some (.int .u64 yl) := fun m => x2
          clear hfin HJ hlt hj
          cases bo with
          | true =>
            clear hs2
            go_wp2_with fail
            go_quiet (fail)
            go_wp2
            exact ⟨⟨k + 1, by have := HK.out; omega, by go_num, Lib.hid (HD2.out _)⟩, by have := HK.out; simp [intOf]; omega⟩
          | false =>
            obtain rfl : ya = yl := hs2 rfl
            go_wp2_with fail
            go_quiet (fail)
            go_wp2
            exact ⟨⟨k + 1, by have := HK.out; omega, by go_num, Lib.hid (HD2.out _)⟩, by have := HK.out; simp [intOf]; omega⟩
    · obtain rfl : k = ll := by omega
      obtain ⟨n, hn⟩ := HD.out
      obtain ⟨w3, hw3⟩ : ∃ x, x = wr := ⟨_, rfl⟩
      subst hw3
      have HS3 : Hid (∀ wr, (∃ n, wr = w3.drewN n) → ∀ j, j < n1 → ∃ b off, p1 = some ⟨b, off, none⟩ ∧ wr.cell? ⟨b, off + j, none⟩ = some (.int .i64 (R.getD j 0))) := Lib.hid fun wr hwr => by
        obtain ⟨m, rfl⟩ := hwr
        subst hn
        exact (HS.out _ ⟨_, World.drewN_drewN ..⟩).1
      have D3 : Hid (Below w.heap.size w w3) := Lib.hid (by subst hn; exact below_drewN D2.out n)
      clear HS HD hn hlt hk
      go_wp2
      go_loopw [11] (fun i wr => ∃ j : Nat, 1 ≤ j ∧ (j ≤ n1 ∨ j = 1) ∧ i = .int .i64 j ∧ Hid (∃ n, wr = w3.drewN n)) (fun i _ => n1 - (intOf i).toNat)
      case atStart => exact ⟨1, Nat.le_refl _, .inr rfl, rfl, Lib.hid ⟨0, rfl⟩⟩
      case round =>
        obtain ⟨j, hj1, hj2, rfl, HD⟩ := hrel
        by_cases hlt : j < n1
        · obtain ⟨J, hJ⟩ : ∃ J, j = J + 1 := ⟨j - 1, by omega⟩
          obtain ⟨b, off, e1, x1⟩ := HS3.out _ HD.out j hlt
          subst e1
          obtain ⟨_, _, e1, x2⟩ := HS3.out _ HD.out J (by omega)
          cases e1
          have hup := up_at HUp.out (i := J) (j := j) (by omega) (by rw [Hn1.out]; exact hlt)
          obtain ⟨ya, hya⟩ : ∃ y, R.getD j 0 = y := ⟨_, rfl⟩
          obtain ⟨yb, hyb⟩ : ∃ y, R.getD J 0 = y := ⟨_, rfl⟩
          rw [hya] at x1 hup
          rw [hyb] at x2 hup
          have y1 : ∀ m, (wr.drewN m).cell? ⟨b, off + j, none⟩ = some (.int .i64 ya) := fun m => x1
          have y2 : ∀ m, (wr.drewN m).cell? ⟨b, off + J, none⟩ = some (.int .i64 yb) := fun m => x2
          have j0 : (0 : Int) ≤ (j : Int) := by omega
          have j1 : (j : Int) < (n1 : Int) := by omega
          have j2 : ¬ (j : Int) < 0 := by omega
          have j3 : IntKind.i64.wrap ((j : Int) + 1) = ((j + 1 : Nat) : Int) := by rw [show (j : Int) + 1 = ((j + 1 : Nat) : Int) by omega]; exact i64_nat _ (by have := HL.out; omega)
          have j4 : IntKind.i64.wrap ((j : Int) - 1) = (J : Int) := by rw [show (j : Int) - 1 = (J : Int) by omega]; exact i64_nat _ (by have := HL.out; omega)
          have j5 : (0 : Int) ≤ (J : Int) := by omega
          have j6 : (J : Int) < (n1 : Int) := by omega
          have j7 : ¬ (J : Int) < 0 := by omega
          have j8 : ¬ ya ≤ yb := by omega
          have HK2 := Lib.hid (And.intro hlt hj1)
          have HD2 : Hid (∀ m, ∃ n', wr.drewN m = w3.drewN n') := Lib.hid fun m => by
            obtain ⟨n, e⟩ := HD.out
            subst e
            exact ⟨_, World.drewN_drewN ..⟩
          clear hya hyb hup hlt hj1 hj2 hJ HD
          go_wp2_with fail
          go_quiet (fail)
          go_wp2
          exact ⟨⟨j + 1, by omega, .inl (by have := HK2.out; omega), by go_num, Lib.hid (HD2.out _)⟩, by have := HK2.out; simp [intOf]; omega⟩
        · have j1 : ¬ (j : Int) < (n1 : Int) := by omega
          obtain ⟨n, hn⟩ := HD.out
          have D4 : Hid (Below w.heap.size w wr) := Lib.hid (by subst hn; exact below_drewN D3.out n)
          clear hn HD hlt hj1 hj2
          go_wp2_with fail
          refine (awake_any _).mono ?_; rintro e w5 ⟨rfl, b5⟩
          have D5 := Lib.hid (below_more D4.out b5)
          clear b5
          go_wp2_with fail
          go_ret
          exact ⟨rfl, D5.out⟩
theorem walk (l0 : List Int) (v0 : Value) (l1 : List Ed) (v1 : Value) (w : World) (h0 : IntsIn .u64 w v0 l0) (h1 : RA edE w v1 l1) :
    Calls Try.prog 7 #[v0, v1] w fun e w' => e = .returned (.bool true) ∧ Below w.heap.size w w' := by
  by_cases h : 300 < l0.length ∨ 100 < l1.length
  · obtain ⟨p, c, rfl, _, _, _⟩ := ru_in h0
    obtain ⟨q, d, rfl, _, _⟩ := ra_shape h1
    exact far l0.length l1.length c d p q w h
  · have h' := not_or.1 h
    exact near l0 l1 v0 v1 w (ru_in h0) h1 (by omega) (by omega)

set_option maxRecDepth 100000 in
theorem lifted (os : Os) (started : os.Started) (H : Type) (enc : TypeId × Value → H) :
    ReturnsInHanded {} Try.checked os 7 .any (Rows.spanLinesSpec.pre6 enc Try.prog Try.f7 Rows.spanLinesRow.domain false) (Rows.spanLinesSpec.post enc Try.prog Try.f7 false true false false) := by
  refine returnsInHanded_of_change (C := Try.checked) own started (by kernel_rfl) Try.func7
    (ChangeSpec.witness6 (enc := enc) (C := Try.checked) false ⟨#[], #[.slice none 0 0, .slice none 0 0], []⟩ 8 (by kernel_rfl) (by kernel_rfl) (by kernel_rfl) (by kernel_rfl)) ?_
  intro W base args ds gs before hval0 hW hcnd _
  have hval : ∀ (j : Nat) t v, Try.f7.params[j]? = some t → args[j]? = some v → Value.okWide Try.prog W .any base t v := hval0
  have hW' := hW
  have hlt := hW.lt
  obtain ⟨p, q, hA0, hV, hpq, hfz, hnd⟩ := hW
  have hA : DataW.TrodAll enc Try.prog W 0 (fun _ => true) true Try.f7.params.toList args.toList ds p := hA0
  rw [Try.params7] at hA hval
  obtain ⟨v0, vs0, d0, ds0, p0, q0, hargs, rfl, hp, h0, r0⟩ := trodAll_cons hA
  obtain ⟨v1, vs1, d1, ds1, p1, q1, rfl, rfl, rfl, h1, r1⟩ := trodAll_cons r0
  obtain ⟨rfl, rfl, rfl⟩ := trodAll_nil r1
  obtain rfl : args = #[v0, v1] := by cases args; simp_all
  obtain ⟨rfl, rfl⟩ := trodVars_none hV
  have hlt' : ∀ x ∈ before, x.block < W.heap.size := fun x hx => hlt x hx
  obtain ⟨l0, w0⟩ := ints_in Try.underlying22 Try.underlying41 (by kernel_rfl) (hval 0 22 v0 rfl rfl) (fun x hx => hlt' x (by rw [hpq, hp]; simp [hx])) h0
  obtain ⟨l1, w1⟩ := edits_in (hval 1 24 v1 rfl rfl) h1
  refine (walk l0 v0 l1 v1 W w0 w1).mono fun e W' ⟨he, hb⟩ => ?_
  subst he
  exact ⟨_, rfl, law_post rfl (by kernel_rfl) hW' (by rw [Try.params7]; intro t ht; simp only [List.mem_cons, List.not_mem_nil, or_false] at ht; (repeat' (first | (rcases ht with rfl | ht) | subst ht)) <;> exact ⟨by kernel_rfl, of_decide_eq_true (by kernel_rfl)⟩) rfl hb⟩

theorem over : Rows.spanLinesRow.holds Try.pinned (OpenSpec.ofChange Rows.spanLinesSpec) :=
  OpenClaim.holds_of_wide 7 Try.f7 rfl rfl rfl rfl rfl rfl rfl ⟨rfl, rfl, rfl, rfl, rfl⟩ rfl rfl rfl rfl rfl (by kernel_rfl) Try.func7 (by kernel_rfl)
    (of_decide_eq_true (by kernel_rfl)) (by unfold Func.isWrapper; first | (rw [if_pos (by decide +kernel)]; kernel_rfl) | (rw [if_neg (by decide +kernel)]; exact ⟨rfl, rfl⟩))
    (fun os started H enc _ => lifted os started H enc)

theorem proved : Rows.SpanLinesSaid := over
end Go.Proofs.Ytnlhjppjgjobkaa.spanLines
