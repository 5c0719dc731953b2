/-
  Of blocks that may be, the words that are written where one is taken are rising, from the block's first one on, one for each word that is taken, and one for what is left; none where none can be taken. No conditions.
-/
import Derived.Test.YtabdcdddkmklcaaCrx
import Derived.BigQuiet
namespace Go.Proofs.Ytabdcdddkmklcaa.carveRising
set_option maxRecDepth 100000
open Go.Proofs.Ytabdcdddkmklcaa Go.ChangeShapes Go.WideShapes Go.ChangeAt Go.RowKit

set_option maxHeartbeats 1000000 in
theorem far (l : List Bk) (p : Option Addr) (c : Nat) (n i k : Int) (w : World) (hv : RA blkE w (.slice p l.length c) l) (h : 300 < l.length ∨ l.length = 0 ∨ mayL n l = false) :
    Calls Try.prog 6 #[.slice p l.length c, .int .i64 n, .int .i64 i, .int .i64 k] w fun e w' => e = .returned (.bool true) ∧ Below w.heap.size w w' := by
  by_cases h1 : 300 < l.length
  · clear hv h
    generalize l.length = L at *
    have i1 : (L : Int) > 300 := by omega
    go_enter Try.func6, Try.ntmps6
    go_wp2_with fail
    refine (awake_any _).mono ?_; rintro e w' ⟨rfl, hb⟩
    go_wp2_with fail
    go_ret
    exact ⟨rfl, hb⟩
  by_cases h2 : l.length = 0
  · clear hv h
    rw [h2]
    go_enter Try.func6, Try.ntmps6
    go_wp2_with fail
    refine (awake_any _).mono ?_; rintro e w' ⟨rfl, hb⟩
    go_wp2_with fail
    go_ret
    exact ⟨rfl, hb⟩
  have h3 : mayL n l = false := (h.resolve_left h1).resolve_left h2
  have M := Lib.hid (rmay_is n l _ false w hv (by omega) h3)
  have i1 : ¬ (l.length : Int) > 300 := by omega
  have i2 : ((l.length : Int) == 0) = false := beq_eq_false_iff_ne.2 (by omega)
  clear hv h h1 h2 h3
  generalize l.length = L at *
  go_enter Try.func6, Try.ntmps6
  go_wp2_with fail
  refine (M.out).mono ?_; rintro e w1 ⟨rfl, b1⟩
  have D1 := Lib.hid b1
  clear b1
  go_wp2_with fail
  refine (awake_any _).mono ?_; rintro e w2 ⟨rfl, b2⟩
  have D2 := Lib.hid (below_more D1.out b2)
  clear b2
  go_wp2_with fail
  go_ret
  exact ⟨rfl, D2.out⟩

set_option maxHeartbeats 2000000 in
theorem near (l : List Bk) (p : Option Addr) (c : Nat) (n i k : Int) (w : World) (hv : RA blkE w (.slice p l.length c) l) (h1 : l.length ≤ 300) (h2 : 0 < l.length) (h3 : mayL n l = true) :
    Calls Try.prog 6 #[.slice p l.length c, .int .i64 n, .int .i64 i, .int .i64 k] w fun e w' => e = .returned (.bool true) ∧ Below w.heap.size w w' := by
  obtain ⟨u1, I, t1, t2, t3, t4, hI⟩ := place_of i l.length h2 h1
  obtain ⟨u2, q, N, t5, t6, t7, t8, hN, hN2⟩ := need_of k
  have M := Lib.hid (rmay_is n l _ true w hv (by omega) h3)
  have CE := Lib.hid (fun (w' : World) (hb : Below w.heap.size w w') => cedits_is l I N _ w' (ra_below hv hb) (by omega))
  have hcan := can_at h3 hI (N := N) (by omega)
  obtain ⟨⟨s1, s2⟩, a1, a2⟩ := at_in h3 hI
  have hn := (mayL_yes.1 h3).1
  obtain ⟨_, hn5, _⟩ := hn
  have hwf := (ra_ok hv).at_ hI
  have hcd : cedF l I N = if canC l I N = true then rise (l.getD I default).a (takV (l.getD I default) N) else [] := by
    unfold cedF
    rw [bAt_nat]
    split
    · rename_i e
      obtain ⟨_, _, _, _, ht⟩ := canC_yes.1 e
      rw [bAt_nat] at ht
      exact edF_prt ht
    · rfl
  have htl := takV_length (b := l.getD I default) (n := N)
  obtain ⟨⟨a, s, u⟩, hb⟩ : ∃ x, l.getD I default = x := ⟨_, rfl⟩
  rw [hb] at hcan s1 s2 a1 a2 hwf hcd htl
  simp only at hcan s1 s2 a1 a2 hcd htl
  obtain ⟨b, off, rfl, _, _⟩ := blk_at hv (by omega)
  have HX : Hid (∀ w', Below w.heap.size w w' → w'.cell? ⟨b, off + I * 3, none⟩ = some (.int .i64 a) ∧ w'.cell? ⟨b, off + I * 3 + 1, none⟩ = some (.int .i64 s) ∧ w'.cell? ⟨b, off + I * 3 + 2, none⟩ = some (.bool u)) := Lib.hid fun w' hb' => by
    obtain ⟨_, _, e, _, hx⟩ := blk_at (ra_below hv hb') (by omega)
    cases e
    obtain ⟨_, x1, x2, x3, _⟩ := hx I hI
    rw [hb] at x1 x2 x3
    exact ⟨x1, x2, x3⟩
  obtain ⟨t, hte⟩ : ∃ t, takN s N = t := ⟨_, rfl⟩
  have C3 := Lib.hid (fun w => rtakes_is s N t hwf.ws hte w)
  obtain ⟨z, rfl⟩ : ∃ z : Nat, a = z := ⟨a.toNat, by omega⟩
  have hed : ∀ k, k < (cedF l I N).length → ((cedF l I N).getD k default).w = ((z + k : Nat) : Int) := by
    rw [hcd]
    split
    · intro k hk
      rw [rise_at _ _ _ (by rwa [rise_length] at hk)]
      simp
    · intro k hk
      cases hk
  have hm : (u = true → (cedF l I N).length = 0) ∧ (u = false → 0 ≤ t ∧ t ≤ s ∧ ((cedF l I N).length : Int) = t + (if 0 < t ∧ t < s then 1 else 0)) := by
    refine ⟨fun e => by rw [hcd, hcan, e]; rfl, fun e => ?_⟩
    subst e
    rw [hcd, hcan]
    by_cases c : (N : Int) ≤ s
    · rw [decide_eq_true c]
      have hne : takN s N ≠ 0 := fun e => takN_zero.1 e ⟨by omega, c⟩
      obtain ⟨g1, g2, g3, g4⟩ := takN_some hne
      rw [if_pos (show (!false && true) = true from rfl), rise_length, htl hne, hte]
      rw [hte] at g2 g3 g4
      refine ⟨by omega, g3, ?_⟩
      split <;> split <;> omega
    · rw [decide_eq_false c]
      have : takN s N = 0 := takN_zero.2 (by omega)
      rw [← hte, this]
      refine ⟨by omega, by omega, ?_⟩
      rw [if_neg (show ¬ ((!false && false) = true) by decide)]
      simp
  generalize cedF l I N = E at *
  have HM := Lib.hid (And.intro hm (show E.length ≤ 600 by
    cases u
    · obtain ⟨g1, g2, g3⟩ := hm.2 rfl
      split at g3 <;> omega
    · have := hm.1 rfl
      omega))
  have HE := Lib.hid hed
  have HI := Lib.hid (And.intro (And.intro hI h2) (show s ≤ 512 ∧ z ≤ 512 by omega))
  have i1 : ¬ (l.length : Int) > 300 := by omega
  have i2 : ((l.length : Int) == 0) = false := beq_eq_false_iff_ne.2 (by omega)
  have i3 : ¬ (l.length : Int) = 0 := by omega
  have i4 : ¬ (I : Int) < 0 := by omega
  have i5 : (I : Int) < (l.length : Int) := by omega
  have i6 : ¬ l.length = 0 := by omega
  clear hv h1 h2 h3 hI hN hN2 hcan s1 s2 a1 a2 hn5 hwf hcd htl hb hte hm hed
  generalize l.length = L at *
  go_enter Try.func6, Try.ntmps6
  go_wp2_with fail
  refine (M.out).mono ?_; rintro e w1 ⟨rfl, b1⟩
  have D1 := Lib.hid b1
  clear b1
  go_wp2_with fail
  refine (CE.out w1 D1.out).mono ?_; rintro e w2 ⟨⟨ve, rfl, oe⟩, b2⟩
  have D2 := Lib.hid (below_more D1.out b2)
  have OE := Lib.hid oe
  obtain ⟨pe, ce, rfl, _, _⟩ := oe.shape
  have HS : Hid (∀ wr, (∃ n, wr = w2.drewN n) → ∀ j, j < E.length → ∃ g o, pe = some ⟨g, o, none⟩ ∧ (∀ m, (wr.drewN m).cell? ⟨g, o + j * 2, none⟩ = some (.int .i64 ((z + j : Nat) : Int))) ∧ (∀ m, (wr.drewN m).cell? ⟨b, off + I * 3, none⟩ = some (.int .i64 z))) := Lib.hid fun wr hwr j hj => by
    obtain ⟨d, rfl⟩ := hwr
    obtain ⟨g, o, e, _, hx⟩ := ed_at OE.out.ra (by omega)
    obtain ⟨_, x1, _, _⟩ := hx j hj
    rw [HE.out j hj] at x1
    exact ⟨g, o, e, fun _ => x1, fun _ => (HX.out w2 D2.out).1⟩
  clear oe b2 M CE
  go_wp2
  go_loopw [10, 45] (fun x i wr => ∃ k : Nat, k ≤ E.length ∧ i = .int .i64 k ∧ Hid (∃ n, wr = w2.drewN n)) (fun _ i _ => E.length - (intOf i).toNat)
  case atStart => exact ⟨0, Nat.zero_le _, rfl, Lib.hid ⟨0, rfl⟩⟩
  case round =>
    obtain ⟨k, hk, rfl, HD⟩ := hrel
    clear t1 t2 t3 t4 t5 t6 t7 t8
    by_cases hlt : k < E.length
    · obtain ⟨g, o, rfl, d1, d2⟩ := HS.out wr HD.out k hlt
      have j0 : IntKind.i64.wrap ((k : Int) + 1) = ((k + 1 : Nat) : Int) := by rw [show (k : Int) + 1 = ((k + 1 : Nat) : Int) by omega]; exact i64_nat _ (by have := HM.out.2; omega)
      have j1 : IntKind.i64.wrap ((z : Int) + (k : Int)) = ((z + k : Nat) : Int) := by rw [show (z : Int) + (k : Int) = ((z + k : Nat) : Int) by omega]; exact i64_nat _ (by have := HM.out.2; have := HI.out; omega)
      have n0 : (0 : Int) ≤ (k : Int) := by omega
      have n1 : (k : Int) < (E.length : Int) := by omega
      have n2 : ¬ (k : Int) < 0 := by omega
      clear HS
      obtain ⟨x, hx⟩ : ∃ x, z + k = x := ⟨_, rfl⟩
      rw [hx] at d1 j1
      have HK := Lib.hid hlt
      clear hx hlt hk
      generalize E.length = Y at *
      have n3 : ((x : Int) != (x : Int)) = false := by simp
      go_wp2_with fail
      go_quiet (fail)
      go_wp2
      exact ⟨⟨k + 1, by have := HK.out; omega, by go_num, Lib.hid (by obtain ⟨n, e⟩ := HD.out; subst e; exact ⟨_, World.drewN_drewN ..⟩)⟩, by have := HK.out; simp [intOf]; omega⟩
    · obtain rfl : k = E.length := by omega
      have DR : Hid (Below w.heap.size w wr) := Lib.hid (by obtain ⟨n, e⟩ := HD.out; subst e; exact below_drewN D2.out n)
      obtain ⟨x1, x2, x3⟩ := HX.out wr DR.out
      clear HS hk HD
      cases u with
      | true =>
        have hY := HM.out.1.1 rfl
        rw [hY]
        clear HX
        go_wp2_with fail
        refine (awake_any _).mono ?_; rintro e w3 ⟨rfl, b3⟩
        have D3 := Lib.hid (below_more DR.out b3)
        clear b3
        go_wp2_with fail
        go_ret
        exact ⟨rfl, D3.out⟩
      | false =>
        obtain ⟨g1, g2, g3⟩ := HM.out.1.2 rfl
        obtain ⟨Y, hY⟩ : ∃ Y, E.length = Y := ⟨_, rfl⟩
        rw [hY] at g3 ⊢
        clear HX
        by_cases c1 : t > 0
        · by_cases c2 : t < s
          · rw [if_pos ⟨c1, c2⟩] at g3
            have j1 : IntKind.i64.wrap (t + 1) = (Y : Int) := by rw [← g3]; exact IntWalk.i64_in _ (by have := HI.out; omega)
            clear g1 g2 g3 hY
            go_wp2_with fail
            refine (C3.out _).mono ?_; rintro e w' ⟨rfl, rfl⟩
            go_wp2_with fail
            refine (awake_any _).mono ?_; rintro e w3 ⟨rfl, b3⟩
            have D3 := Lib.hid (below_more DR.out b3)
            clear b3
            go_wp2_with fail
            go_ret
            exact ⟨rfl, D3.out⟩
          · rw [if_neg (fun h => c2 h.2), Int.add_zero] at g3
            have e1 : ((Y : Int) == t) = true := by rw [g3]; simp
            clear g1 g2 g3 hY
            go_wp2_with fail
            refine (C3.out _).mono ?_; rintro e w' ⟨rfl, rfl⟩
            go_wp2_with fail
            refine (awake_any _).mono ?_; rintro e w3 ⟨rfl, b3⟩
            have D3 := Lib.hid (below_more DR.out b3)
            clear b3
            go_wp2_with fail
            go_ret
            exact ⟨rfl, D3.out⟩
        · rw [if_neg (fun h => c1 h.1), Int.add_zero] at g3
          have e1 : ((Y : Int) == t) = true := by rw [g3]; simp
          clear g1 g2 g3 hY
          go_wp2_with fail
          refine (C3.out _).mono ?_; rintro e w' ⟨rfl, rfl⟩
          go_wp2_with fail
          refine (awake_any _).mono ?_; rintro e w3 ⟨rfl, b3⟩
          have D3 := Lib.hid (below_more DR.out b3)
          clear b3
          go_wp2_with fail
          go_ret
          exact ⟨rfl, D3.out⟩

theorem walk (l0 : List Bk) (v0 : Value) (a1 a2 a3 : Int) (w : World) (h0 : RA blkE w v0 l0) (_ : (Lit.int .i64 a1).wf = true) (_ : (Lit.int .i64 a2).wf = true) (_ : (Lit.int .i64 a3).wf = true) :
    Calls Try.prog 6 #[v0, .int .i64 a1, .int .i64 a2, .int .i64 a3] w fun e w' => e = .returned (.bool true) ∧ Below w.heap.size w w' := by
  obtain ⟨p, c, rfl, _⟩ := ra_shape h0
  by_cases h : 300 < l0.length ∨ l0.length = 0 ∨ mayL a1 l0 = false
  · exact far l0 p c a1 a2 a3 w h0 h
  · have h' := not_or.1 h
    have h'' := not_or.1 h'.2
    exact near l0 p c a1 a2 a3 w h0 (by omega) (by omega) (by simpa using h''.2)

set_option maxRecDepth 100000 in
theorem lifted (os : Os) (started : os.Started) (H : Type) (enc : TypeId × Value → H) :
    ReturnsInHanded {} Try.checked os 6 .any (Rows.carveRisingSpec.pre6 enc Try.prog Try.f6 Rows.carveRisingRow.domain false) (Rows.carveRisingSpec.post enc Try.prog Try.f6 false true false false) := by
  refine returnsInHanded_of_change (C := Try.checked) own started (by kernel_rfl) Try.func6
    (ChangeSpec.witness6 (enc := enc) (C := Try.checked) false ⟨#[], #[.slice none 0 0, .int .i64 0, .int .i64 0, .int .i64 0], []⟩ 8 (by kernel_rfl) (by kernel_rfl) (by kernel_rfl) (by kernel_rfl)) ?_
  intro W base args ds gs before hval0 hW hcnd _
  have hval : ∀ (j : Nat) t v, Try.f6.params[j]? = some t → args[j]? = some v → Value.okWide Try.prog W .any base t v := hval0
  have hW' := hW
  have hlt := hW.lt
  obtain ⟨p, q, hA0, hV, hpq, hfz, hnd⟩ := hW
  have hA : DataW.TrodAll enc Try.prog W 0 (fun _ => true) true Try.f6.params.toList args.toList ds p := hA0
  rw [Try.params6] at hA hval
  obtain ⟨v0, vs0, d0, ds0, p0, q0, hargs, rfl, hp, h0, r0⟩ := trodAll_cons hA
  obtain ⟨v1, vs1, d1, ds1, p1, q1, rfl, rfl, rfl, h1, r1⟩ := trodAll_cons r0
  obtain ⟨v2, vs2, d2, ds2, p2, q2, rfl, rfl, rfl, h2, r2⟩ := trodAll_cons r1
  obtain ⟨v3, vs3, d3, ds3, p3, q3, rfl, rfl, rfl, h3, r3⟩ := trodAll_cons r2
  obtain ⟨rfl, rfl, rfl⟩ := trodAll_nil r3
  obtain rfl : args = #[v0, v1, v2, v3] := by cases args; simp_all
  obtain ⟨rfl, rfl⟩ := trodVars_none hV
  have hlt' : ∀ x ∈ before, x.block < W.heap.size := fun x hx => hlt x hx
  obtain ⟨l0, w0⟩ := blocks_in (hval 0 22 v0 rfl rfl) h0
  obtain ⟨a1, rfl, rfl, rfl, w1⟩ := open_int Try.underlying3 (hval 1 3 v1 rfl rfl) h1
  obtain ⟨a2, rfl, rfl, rfl, w2⟩ := open_int Try.underlying3 (hval 2 3 v2 rfl rfl) h2
  obtain ⟨a3, rfl, rfl, rfl, w3⟩ := open_int Try.underlying3 (hval 3 3 v3 rfl rfl) h3
  refine (walk l0 v0 a1 a2 a3 W w0 w1 w2 w3).mono fun e W' ⟨he, hb⟩ => ?_
  subst he
  exact ⟨_, rfl, law_post rfl (by kernel_rfl) hW' (by rw [Try.params6]; intro t ht; simp only [List.mem_cons, List.not_mem_nil, or_false] at ht; (repeat' (first | (rcases ht with rfl | ht) | subst ht)) <;> exact ⟨by kernel_rfl, of_decide_eq_true (by kernel_rfl)⟩) rfl hb⟩

theorem over : Rows.carveRisingRow.holds Try.pinned (OpenSpec.ofChange Rows.carveRisingSpec) :=
  OpenClaim.holds_of_wide 6 Try.f6 rfl rfl rfl rfl rfl rfl rfl ⟨rfl, rfl, rfl, rfl, rfl⟩ rfl rfl rfl rfl rfl (by kernel_rfl) Try.func6 (by kernel_rfl)
    (of_decide_eq_true (by kernel_rfl)) (by unfold Func.isWrapper; first | (rw [if_pos (by decide +kernel)]; kernel_rfl) | (rw [if_neg (by decide +kernel)]; exact ⟨rfl, rfl⟩))
    (fun os started H enc _ => lifted os started H enc)

theorem proved : Rows.CarveRisingSaid := over
end Go.Proofs.Ytabdcdddkmklcaa.carveRising
