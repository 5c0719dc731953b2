/-
  What is told is how often each line was written, and no more lines than there are. No conditions.
-/
import Derived.Test.YthcecfenjbdgmaaGue
import Derived.Test.YthcecfenjbdgmaaIsm
namespace Go.Proofs.Ythcecfenjbdgmaa.gaugeWears
set_option maxRecDepth 100000
open Go.Proofs.Ythcecfenjbdgmaa Go.Proofs.Ythcecfenjbdgmaa.D Go.ChangeShapes Go.WideShapes Go.ChangeAt Go.RowKit

theorem long (x : Int) (p : Option Addr) (n cap : Nat) (w : World) (h : 200 < n) :
    Calls Try.prog 7 #[.int .i64 x, .slice p n cap] w fun e w' => e = .returned (.bool true) ∧ Below w.heap.size w w' := by
  go_enter Try.func7, Try.ntmps7
  go_wp2_with fail
  refine (awake_any _).mono ?_; rintro e w' ⟨rfl, hb⟩
  go_wp2_with fail
  go_ret
  exact ⟨rfl, hb⟩
theorem none_len (w : World) : Calls Try.prog 19 #[.pointer none, .int .i64 0, .int .i64 9] w fun e w' => ∃ p c, e = .returned (.slice p 0 c) ∧ Below w.heap.size w w' := by
  refine (wears_is (B := 0) (w := w) (s := newNv 0 []) (.inl ⟨rfl, rfl⟩) 0 9 rfl rfl).mono ?_
  rintro e w' ⟨u, rfl, ho, hb⟩
  obtain ⟨p, c, rfl⟩ := own_len ho (n := 0) rfl
  exact ⟨p, c, rfl, hb⟩

set_option maxRecDepth 100000 in
set_option maxHeartbeats 4000000 in
theorem short (x : Int) (v : Value) (l : List Int) (w : World) (hv : IntsIn .i64 w v l) (hl : l.length ≤ 200) :
    Calls Try.prog 7 #[.int .i64 x, v] w fun e w' => e = .returned (.bool true) ∧ Below w.heap.size w w' := by
  obtain ⟨u, hu, _⟩ := u64_nat x
  obtain ⟨L, hL⟩ : ∃ L, L = 1 + u % 60 := ⟨_, rfl⟩
  have h1 : 1 ≤ L := by omega
  have h2 : L ≤ 60 := by omega
  have t1 : (u : Int).tmod 60 = (L : Int) - 1 := by have h := tmod_nat u 60; rw [show ((60 : Nat) : Int) = 60 from rfl] at h; omega
  have k1 : IntKind.i64.wrap ((L : Int) - 1) = (L : Int) - 1 := isN _ (by omega) (by omega)
  have t3 : (1 : Int) + ((L : Int) - 1) = (L : Int) := by omega
  have k2 : IntKind.i64.wrap (L : Int) = (L : Int) := isN _ (by omega) (by omega)
  have k3 : IntKind.u64.wrap (L : Int) = (L : Int) := by rw [IntKind.wrap_u64]; omega
  have k4 : IntKind.i64.wrap ((L : Int) + 9) = (L : Int) + 9 := isN _ (by omega) (by omega)
  have k5 : IntKind.i64.wrap ((L : Int) + 3) = (L : Int) + 3 := isN _ (by omega) (by omega)
  have k6 : ((L : Int) == 0) = false := beq_eq_false_iff_ne.2 (by omega)
  have HV := Lib.hid (ri_in hv)
  have HN : Hid (l.length ≤ 200) := Lib.hid hl
  have H1 := Lib.hid h1
  have H2 := Lib.hid h2
  obtain ⟨s0, e0⟩ : ∃ s0, newNv L [] = s0 := ⟨_, rfl⟩
  have A0 := calm_new h1 (show L ≤ 200 by omega)
  have hw0 : byF L (newNv L []).wr = byF L fun _ => 0 := rfl
  rw [e0] at A0 hw0
  have HA := Lib.hid A0
  have HW0 := Lib.hid hw0
  have E0 := Lib.hid e0
  have hmk := run_make_row' (P := Try.prog) 22 3 (.int .i64 0) 8 Try.underlying22 info_int rfl .i64 .i64 L (by omega) (by omega)
  obtain ⟨p, c, rfl, hcut⟩ := hv
  clear hcut
  clear hL h1 h2 A0 hw0 e0
  go_enter Try.func7, Try.ntmps7
  go_wp2_with fail
  refine (new_yes L _ [] _ H1.out (by have := H2.out; omega) (ri_nil w)).mono ?_; rintro e w1 ⟨g, rfl, hg, hN, hb⟩
  rw [E0.out] at hN
  have hg' : Hid (w.heap.size ≤ g) := Lib.hid hg
  have hg1 : Hid (g < w1.heap.size) := Lib.hid hN.lt
  have N0 := Lib.hid (hN.below (bal (o := .cells (madeCells #[.int .i64 0] L) 3) (Below.refl w1.heap.size w1)))
  have O0 := made_own_i w1 L (by unfold maxLen; have := H2.out; omega)
  rw [byF_zero L (f := fun _ => 0) fun _ => rfl, ← HW0.out] at O0
  have OO := Lib.hid O0
  have BB := Lib.hid (bal (o := .cells (madeCells #[.int .i64 0] L) 3) hb)
  obtain ⟨W, hW⟩ : ∃ W, w1.alloc (.cells (madeCells #[.int .i64 0] L) 3) = W := ⟨_, rfl⟩
  rw [hW] at N0 OO BB
  have HB1 : Hid (w.heap.size ≤ w1.heap.size) := Lib.hid hb.size
  clear hg hN hb O0
  go_wp2
  clear hmk
  go_loopw [8, 9, 25] (fun _ _ i wr => ∃ k : Nat, k ≤ l.length ∧ i = .int .i64 k ∧ Hid (∃ s, Nm wr g s ∧ Calm L k s ∧ OwnI w1.heap.size wr (.slice (some ⟨w1.heap.size, 0, none⟩) L L) (byF L s.wr) ∧ Below w.heap.size w wr)) (fun _ _ i _ => l.length - (intOf i).toNat)
  case atStart => exact ⟨0, Nat.zero_le _, rfl, Lib.hid ⟨_, N0.out, HA.out, OO.out, BB.out⟩⟩
  case round =>
    obtain ⟨k, hk, rfl, H⟩ := hrel
    obtain ⟨s, hN, hA, hO, hB⟩ := H.out
    have SN := Lib.hid hN
    have SA := Lib.hid hA
    have SO := Lib.hid hO
    have SB := Lib.hid hB
    clear hN hA hO hB H N0 OO BB HA HW0 hW
    by_cases hlt : k < l.length
    · have j0 : IntKind.i64.wrap ((k : Int) + 1) = ((k + 1 : Nat) : Int) := by rw [show (k : Int) + 1 = ((k + 1 : Nat) : Int) by omega]; exact i64_nat _ (by have := HN.out; omega)
      obtain ⟨b, off, rfl, _, hc⟩ := ri_some (ri_below HV.out SB.out) (by omega)
      have c1 := hc k hlt
      have i0 : (0 : Int) ≤ (k : Int) := by omega
      have i1 : (k : Int) < (l.length : Int) := by omega
      have i2 : ¬ (k : Int) < 0 := by omega
      clear hc
      generalize l.getD k 0 = y at c1
      obtain ⟨q, hq, _⟩ := u64_nat y
      obtain ⟨j, hj⟩ : ∃ j, j = q % L := ⟨_, rfl⟩
      have hjL : j < L := by rw [hj]; exact Nat.mod_lt _ (by have := H1.out; omega)
      have m1 : (q : Int).tmod (L : Int) = (j : Int) := by rw [tmod_nat, hj]
      have m2 : IntKind.i64.wrap (j : Int) = (j : Int) := isN _ (by omega) (by have := H2.out; omega)
      have q0 : (0 : Int) ≤ (j : Int) := by omega
      have q1 : (j : Int) < (L : Int) := by omega
      have q2 : ¬ (j : Int) < 0 := by omega
      obtain ⟨f1, f2, f3⟩ := SA.out.put hjL 1
      obtain ⟨s', hs'⟩ : ∃ s', s.put (j : Int) (one1 1) = s' := ⟨_, rfl⟩
      rw [hs'] at f1 f3
      have F1 := Lib.hid f1
      have F2 := Lib.hid f2
      have F3 := Lib.hid f3
      have F4 : Hid (s.put (j : Int) [1, 0, 0, 0, 0, 0, 0, 0] = s') := Lib.hid hs'
      have C0 : Hid (s.c < 4611686018427387904) := Lib.hid (by have := SA.out.cc; have := HN.out; omega)
      have hwr : Hid (0 ≤ s.wr j ∧ s.wr j ≤ 1000) := Lib.hid ⟨SA.out.ok.wr0 j, by have := SA.out.ok.wr1 j; have := SA.out.cc; have := HN.out; omega⟩
      have HJ := Lib.hid hjL
      clear f1 f2 f3 hs' hj hjL
      go_wp2_with fail
      refine (put_is F2.out F4.out rfl SN.out SA.out.ok C0.out).mono ?_; rintro e w2 ⟨rfl, hN, hO, hC⟩
      have N2 := Lib.hid hN
      have B2 := Lib.hid (hC.own SB.out hg'.out)
      have O2 := Lib.hid (own_kept_i SO.out hC (fun k hk => by rw [List.mem_singleton.1 hk]; exact hg1.out))
      clear hN hO hC
      obtain ⟨o1, o2⟩ := own_cell_i O2.out (j := j) (by rw [byF_length]; exact HJ.out)
      rw [byF_getD _ HJ.out] at o1
      have OS := own_stored_i O2.out j (s.wr j + 1)
      rw [byF_set (f' := s'.wr) (by rw [F3.out, upd_same]) (fun q hq => by rw [F3.out, upd_other _ _ hq])] at OS
      have NS := Lib.hid (N2.out.other (g' := w1.heap.size) (i := j) (Nat.ne_of_lt hg1.out) (.int .i64 (s.wr j + 1)))
      have BS := Lib.hid (B2.out.setCell (p := ⟨w1.heap.size, j, none⟩) HB1.out (.int .i64 (s.wr j + 1)))
      have OS := Lib.hid OS
      have z1 : IntKind.i64.wrap (s.wr j + 1) = s.wr j + 1 := isN _ (by have := hwr.out.1; omega) (by have := hwr.out.2; omega)
      clear O2 B2 N2 F2 F3 F4 C0 hwr
      generalize s.wr j = y2 at *
      go_wp2
      exact ⟨⟨k + 1, by omega, by go_num, Lib.hid ⟨s', NS.out, F1.out, OS.out, BS.out⟩⟩, by simp [intOf]; omega⟩
    · obtain rfl : k = l.length := by omega
      have M0 := Lib.hid (Mm.own hg'.out SN.out SA.out.ok)
      have R0 := Lib.hid SO.out.ri
      have W1 := Lib.hid (wrs_all SA.out.nn)
      have W2 := Lib.hid (wrs_wide SA.out.nn)
      have W3 := Lib.hid (wrs_past SA.out.nn)
      clear SO SN SA
      go_wp2_with fail
      refine (wears_is M0.out 0 (L : Int) rfl (i64_of (by omega) (by have := H2.out; omega))).mono ?_; rintro e w2 ⟨u1, rfl, ho, hb⟩
      rw [W1.out] at ho
      have O1 := Lib.hid ho.ri
      have M1 := Lib.hid (M0.out.below hb)
      have R1 := Lib.hid (ri_below R0.out hb)
      have B1 := Lib.hid (below_more SB.out hb)
      clear ho hb M0 R0 SB W1
      go_wp2_with fail
      refine (ints_same O1.out R1.out).mono ?_; rintro e w' ⟨rfl, n1, rfl⟩
      go_wp2_with fail
      refine (wears_is (M1.out.below (below_drewN (Below.refl _ _) n1)) (-9) ((L : Int) + 9) rfl (i64_of (by omega) (by have := H2.out; omega))).mono ?_; rintro e w3 ⟨u2, rfl, ho, hb⟩
      rw [W2.out] at ho
      have hb := below_more (below_drewN (Below.refl w2.heap.size w2) n1) hb
      have O2 := Lib.hid ho.ri
      have M2 := Lib.hid (M1.out.below hb)
      have R2 := Lib.hid (ri_below R1.out hb)
      have B2 := Lib.hid (below_more B1.out hb)
      clear ho hb M1 R1 B1 W2 O1
      go_wp2_with fail
      refine (ints_same O2.out R2.out).mono ?_; rintro e w' ⟨rfl, n2, rfl⟩
      go_wp2_with fail
      refine (wears_is (M2.out.below (below_drewN (Below.refl _ _) n2)) (L : Int) ((L : Int) + 3) (i64_of (by omega) (by have := H2.out; omega)) (i64_of (by omega) (by have := H2.out; omega))).mono ?_; rintro e w4 ⟨u3, rfl, ho, hb⟩
      obtain ⟨p3, c3, rfl⟩ := own_len ho W3.out
      have hb := below_more (below_drewN (Below.refl w3.heap.size w3) n2) hb
      have B3 := Lib.hid (below_more B2.out hb)
      clear ho hb M2 R2 B2 O2 W3
      go_wp2_with fail
      refine (none_len _).mono ?_; rintro e w5 ⟨p4, c4, rfl, hb⟩
      have B4 := Lib.hid (below_more B3.out hb)
      clear hb B3
      go_wp2_with fail
      refine (awake_any _).mono ?_; rintro e w6 ⟨rfl, hb⟩
      go_wp2_with fail
      go_ret
      exact ⟨rfl, below_more B4.out hb⟩

theorem walk (a0 : Int) (l1 : List Int) (v1 : Value) (w : World) (_ : (Lit.int .i64 a0).wf = true) (w1 : IntsIn .i64 w v1 l1) :
    Calls Try.prog 7 #[.int .i64 a0, v1] w fun e w' => e = .returned (.bool true) ∧ Below w.heap.size w w' := by
  by_cases h : l1.length ≤ 200
  · exact short a0 v1 l1 w w1 h
  · obtain ⟨p, cap, rfl, _⟩ := w1
    exact long a0 p _ cap w (by omega)

set_option maxRecDepth 100000 in
theorem lifted (os : Os) (started : os.Started) (H : Type) (enc : TypeId × Value → H) :
    ReturnsInHanded {} Try.checked os 7 .any (Rows.gaugeWearsSpec.pre6 enc Try.prog Try.f7 Rows.gaugeWearsRow.domain false) (Rows.gaugeWearsSpec.post enc Try.prog Try.f7 false true false false) := by
  refine returnsInHanded_of_change (C := Try.checked) own started (by kernel_rfl) Try.func7
    (ChangeSpec.witness6 (enc := enc) (C := Try.checked) false ⟨#[], #[.int .i64 0, .slice none 0 0], []⟩ 8 (by kernel_rfl) (by kernel_rfl) (by kernel_rfl) (by kernel_rfl)) ?_
  intro W base args ds gs before hval0 hW hcnd _
  have hval : ∀ (j : Nat) t v, Try.f7.params[j]? = some t → args[j]? = some v → Value.okWide Try.prog W .any base t v := hval0
  have hW' := hW
  have hlt := hW.lt
  obtain ⟨p, q, hA0, hV, hpq, hfz, hnd⟩ := hW
  have hA : DataW.TrodAll enc Try.prog W 0 (fun _ => true) true Try.f7.params.toList args.toList ds p := hA0
  rw [Try.params7] at hA hval
  obtain ⟨v0, vs0, d0, ds0, p0, q0, hargs, rfl, hp, h0, r0⟩ := trodAll_cons hA
  obtain ⟨v1, vs1, d1, ds1, p1, q1, rfl, rfl, rfl, h1, r1⟩ := trodAll_cons r0
  obtain ⟨rfl, rfl, rfl⟩ := trodAll_nil r1
  obtain rfl : args = #[v0, v1] := by cases args; simp_all
  obtain ⟨rfl, rfl⟩ := trodVars_none hV
  have hlt' : ∀ x ∈ before, x.block < W.heap.size := fun x hx => hlt x hx
  obtain ⟨a0, rfl, rfl, rfl, w0⟩ := open_int Try.underlying3 (hval 0 3 v0 rfl rfl) h0
  obtain ⟨l1, w1⟩ := ints_in Try.underlying22 Try.underlying3 (by kernel_rfl) (hval 1 22 v1 rfl rfl) (fun x hx => hlt' x (by rw [hpq, hp]; simp [hx])) h1
  refine (walk a0 l1 v1 W w0 w1).mono fun e W' ⟨he, hb⟩ => ?_
  subst he
  exact ⟨_, rfl, law_post rfl (by kernel_rfl) hW' (by rw [Try.params7]; intro t ht; simp only [List.mem_cons, List.not_mem_nil, or_false] at ht; (repeat' (first | (rcases ht with rfl | ht) | subst ht)) <;> exact ⟨by kernel_rfl, of_decide_eq_true (by kernel_rfl)⟩) rfl hb⟩

theorem over : Rows.gaugeWearsRow.holds Try.pinned (OpenSpec.ofChange Rows.gaugeWearsSpec) :=
  OpenClaim.holds_of_wide 7 Try.f7 rfl rfl rfl rfl rfl rfl rfl ⟨rfl, rfl, rfl, rfl, rfl⟩ rfl rfl rfl rfl rfl (by kernel_rfl) Try.func7 (by kernel_rfl)
    (of_decide_eq_true (by kernel_rfl)) (by unfold Func.isWrapper; first | (rw [if_pos (by decide +kernel)]; kernel_rfl) | (rw [if_neg (by decide +kernel)]; exact ⟨rfl, rfl⟩))
    (fun os started H enc _ => lifted os started H enc)

theorem proved : Rows.GaugeWearsSaid := over
end Go.Proofs.Ythcecfenjbdgmaa.gaugeWears
