/-
  Bytes that are cut short tell the operations that are whole, and of one that is written as many bytes as are left. No conditions.
-/
import Derived.Test.YtdnijdbhdlengaaCdk
import Derived.Test.YtdnijdbhdlengaaCdw
namespace Go.Proofs.Ytdnijdbhdlengaa.codeCut
set_option maxRecDepth 100000
open Go.Proofs.Ytdnijdbhdlengaa Go.ChangeShapes Go.WideShapes Go.ChangeAt Go.RowKit

theorem part1 (a : Int) (B : Nat) (h1 : B ≤ 600) : ∃ u M k : Nat, IntKind.i64.wrap ((B : Int) + 1) = (M : Int) ∧ IntKind.u64.wrap a = (u : Int) ∧ IntKind.u64.wrap (M : Int) = (M : Int) ∧ ¬ M = 0 ∧ (u : Int).tmod (M : Int) = (k : Int) ∧ IntKind.i64.wrap (k : Int) = (k : Int) ∧ k ≤ B := by
  obtain ⟨u, hu, _⟩ := u64_nat a
  have hlt : u % (B + 1) < B + 1 := Nat.mod_lt _ (by omega)
  refine ⟨u, B + 1, u % (B + 1), by rw [show (B : Int) + 1 = ((B + 1 : Nat) : Int) by omega]; exact i64_nat _ (by omega), hu, by rw [IntKind.wrap_u64]; omega, by omega, tmod_nat u (B + 1), i64_nat _ (by omega), by omega⟩
theorem far (p : Option Addr) (N c : Nat) (x : Int) (w : World) (h : 600 < N) :
    Calls Try.prog 7 #[.slice p N c, .int .i64 x] w fun e w' => e = .returned (.bool true) ∧ Below w.heap.size w w' := by
  have i1 : (N : Int) > 600 := by omega
  go_enter Try.func7, Try.ntmps7
  go_wp2_with fail
  refine (awake_any _).mono ?_; rintro e w' ⟨rfl, hb⟩
  go_wp2_with fail
  go_ret
  exact ⟨rfl, hb⟩
/-- what two lists of operations have in common -/
structure Cut (L M : List Px) : Prop where
  le : M.length ≤ L.length
  at_ : ∀ i, i < M.length → toC (L.getD i default) = toC (M.getD i default) ∨
    (i + 1 = M.length ∧ (L.getD i default).d = 4 ∧ (M.getD i default).d = 4 ∧ (M.getD i default).bl.length < (L.getD i default).bl.length ∧ (M.getD i default).bl = (L.getD i default).bl.take (M.getD i default).bl.length)
theorem map_get {L : List Px} {X : List Cx} (h : L.map toC = X) {i : Nat} (hi : i < L.length) : X[i]? = some (toC (L.getD i default)) := by
  rw [← h]; simp [hi]
theorem cut_of {L M : List Px} {b : List Int} {k : Nat} (h1 : L.map toC = dec b) (h2 : M.map toC = dec (b.take k)) : Cut L M := by
  obtain ⟨P, Q, R, e1, e2, h⟩ := dec_cut b.length b k (Nat.le_refl _)
  rw [e1] at h1
  rw [e2] at h2
  have n1 := congrArg List.length h1
  have n2 := congrArg List.length h2
  rw [List.length_map, List.length_append] at n1 n2
  rcases h with rfl | ⟨x, y, r', rfl, rfl, hx, hy, hl, ht⟩
  · simp only [List.length_nil] at n2
    refine ⟨by omega, fun i hi => .inl ?_⟩
    have a := map_get h1 (i := i) (by omega)
    have b := map_get h2 hi
    rw [List.getElem?_append_left (by omega)] at a b
    rw [a] at b
    exact Option.some.inj b
  · simp only [List.length_cons, List.length_nil] at n1 n2
    refine ⟨by omega, fun i hi => ?_⟩
    have a := map_get h1 (i := i) (by omega)
    have b := map_get h2 hi
    by_cases hp : i < P.length
    · rw [List.getElem?_append_left (by omega)] at a b
      rw [a] at b
      exact .inl (Option.some.inj b)
    · obtain rfl : i = P.length := by omega
      rw [List.getElem?_append_right (Nat.le_refl _), Nat.sub_self] at a b
      have a' : x = toC (L.getD P.length default) := Option.some.inj a
      have b' : y = toC (M.getD P.length default) := Option.some.inj b
      subst a' b'
      exact .inr ⟨by omega, hx, hy, hl, ht⟩
set_option maxHeartbeats 4000000 in
theorem near (b0 : List Int) (p : Option Addr) (N c : Nat) (x : Int) (w : World) (hv : RA byE w (.slice p N c) b0) (h1 : N ≤ 600) (hN : b0.length = N) :
    Calls Try.prog 7 #[.slice p N c, .int .i64 x] w fun e w' => e = .returned (.bool true) ∧ Below w.heap.size w w' := by
  have i1 : ¬ (N : Int) > 600 := by omega
  obtain ⟨u, M1, k, t1, t2, t3, t4, t5, t6, t7⟩ := part1 x N h1
  have hcc : b0.length ≤ c := by
    obtain ⟨_, _, e, h, _⟩ := ra_shape hv
    cases e; exact h
  have hto := by_to p c b0 (k := k) (by omega) hcc (a := k) rfl
  rw [hN] at hto
  obtain ⟨hto, HT⟩ := hto
  have C1 := Lib.hid (fun (w' : World) (hb : Below w.heap.size w w') => decode_is b0 _ w' (ra_below hv hb) (by omega))
  have C2 := Lib.hid (fun (w' : World) (hb : Below w.heap.size w w') => decode_is (b0.take k) _ w' (HT w' (ra_below hv hb)) (by rw [List.length_take]; omega))
  have HBy := Lib.hid (byts_of hv)
  have HN := Lib.hid (And.intro h1 hN)
  clear hv h1 hcc HT hN
  have k1 : (0 : Int) ≤ (k : Int) := by omega
  have k2 : (k : Int) ≤ (N : Int) := by omega
  go_enter Try.func7, Try.ntmps7
  go_wp2
  go_region_held3 (fun w' => Below w.heap.size w w')
    (first | assumption | exact (Below.refl _ _).drew | exact below_more ‹Below w.heap.size w _› hby | exact below_more ‹Below w.heap.size w _› hbz)
    (first
      | (go_at_call 14; with_reducible refine (C2.out _ (below_more BY0.out (Below.refl _ _))).mono ?_; rintro e wz ⟨⟨u2, L2, rfl, hL2, e2, _⟩, hbz⟩
         have OZ := Lib.hid (OY.out.below hbz)
         have O2 := Lib.hid hL2.ro
         have E2 := Lib.hid e2
         have BZ := Lib.hid (below_more BY0.out hbz)
         clear hL2 e2)
      | (go_at_call 14; refine (C1.out _ (by assumption)).mono ?_; rintro e wy ⟨⟨u1, L1, rfl, hL1, e1, _⟩, hby⟩
         have BY0 := Lib.hid (below_more ‹Below w.heap.size w _› hby)
         have OY := Lib.hid hL1.ro
         have E1 := Lib.hid e1
         clear hL1 e1))
  have HC := Lib.hid (cut_of E1.out E2.out)
  have hn2 : L2.length ≤ 150 := by
    have h2 := (show Byts (b0.take k) from fun x hx => HBy.out x (List.mem_of_mem_take hx)).few
    have h1 := congrArg List.length E2.out
    rw [List.length_map] at h1
    rw [List.length_take] at h2
    have := HN.out
    omega
  have HN2 := Lib.hid hn2
  have HO1 := Lib.hid (fun (w' : World) (hb : Below wz.heap.size wz w') => OZ.out.below hb)
  have HO2 := Lib.hid (fun (w' : World) (hb : Below wz.heap.size wz w') => O2.out.below hb)
  obtain ⟨p1, c1, rfl, _⟩ := OZ.out.shape
  obtain ⟨p2, c2, rfl, _⟩ := O2.out.shape
  obtain ⟨A, hA⟩ : ∃ A, L1.length = A := ⟨_, rfl⟩
  obtain ⟨M, hM⟩ : ∃ M, L2.length = M := ⟨_, rfl⟩
  rw [hA] at HO1 ⊢
  rw [hM] at HO2 HN2 ⊢
  have hAM : ¬ M > A := by have := HC.out.le; omega
  have hAM2 : ¬ (M : Int) > (A : Int) := by omega
  have HAM := Lib.hid (And.intro hA hM)
  clear hby hbz hA hM hn2 E1 E2 OY OZ O2
  go_wp2
  go_loopw [34] (fun i wr => ∃ k : Nat, k ≤ M ∧ i = .int .i64 k ∧ Hid (Below wz.heap.size wz wr)) (fun i _ => M - (intOf i).toNat)
  case atStart => exact ⟨0, Nat.zero_le _, rfl, Lib.hid (Below.refl _ _)⟩
  case round =>
    obtain ⟨i, hiM, rfl, H⟩ := hrel
    by_cases hi : i < M
    · have hi2 : i < L2.length := by rw [HAM.out.2]; exact hi
      have hi1 : i < L1.length := by have := HC.out.le; omega
      have hiA : i < A := by rw [← HAM.out.1]; exact hi1
      obtain ⟨q1, off1, rfl, _, hx⟩ := ro_at (HO1.out _ H.out) (by omega)
      obtain ⟨q2, off2, rfl, _, hy⟩ := ro_at (HO2.out _ H.out) (by omega)
      have C := Lib.hid (show Calls Try.prog 16 #[.agg (pxc (L1.getD i default)), .agg (pxc (L2.getD i default))] wr.drew _ from sameop_is (w := wr.drew) (x := L1.getD i default) (y := L2.getD i default) (hx i hi1).2.2.2.2.2 (hy i hi2).2.2.2.2.2)
      have X1 := Lib.hid (fun (w' : World) (hb : Below wr.heap.size wr w') => show (pxLoad (.pointer (some ⟨q1, off1 + i * 5, none⟩))).run Try.prog w' = .ok (.agg (pxc (L1.getD i default))) w' ∧ w'.cell? ⟨q1, off1 + i * 5, none⟩ = some (.int .i64 (L1.getD i default).d) ∧ w'.cell? ⟨q1, off1 + i * 5 + 4, none⟩ = some (L1.getD i default).v ∧ RA byE w' (L1.getD i default).v (L1.getD i default).bl from by
        obtain ⟨_, _, e, _, hx⟩ := ro_at (HO1.out _ (below_more H.out hb)) (by omega)
        cases e
        exact ⟨(hx i hi1).1, (hx i hi1).2.1, (hx i hi1).2.2.2.1, (hx i hi1).2.2.2.2.2⟩)
      have X2 := Lib.hid (fun (w' : World) (hb : Below wr.heap.size wr w') => show (pxLoad (.pointer (some ⟨q2, off2 + i * 5, none⟩))).run Try.prog w' = .ok (.agg (pxc (L2.getD i default))) w' ∧ w'.cell? ⟨q2, off2 + i * 5, none⟩ = some (.int .i64 (L2.getD i default).d) ∧ w'.cell? ⟨q2, off2 + i * 5 + 4, none⟩ = some (L2.getD i default).v ∧ RA byE w' (L2.getD i default).v (L2.getD i default).bl from by
        obtain ⟨_, _, e, _, hx⟩ := ro_at (HO2.out _ (below_more H.out hb)) (by omega)
        cases e
        exact ⟨(hx i hi2).1, (hx i hi2).2.1, (hx i hi2).2.2.2.1, (hx i hi2).2.2.2.2.2⟩)
      have ld1 : ∀ w', Below wr.heap.size wr w' → (pxLoad (.pointer (some ⟨q1, off1 + i * 5, none⟩))).run Try.prog w' = .ok (.agg (pxc (L1.getD i default))) w' := fun w' hb => (X1.out w' hb).1
      have ld2 : ∀ w', Below wr.heap.size wr w' → (pxLoad (.pointer (some ⟨q2, off2 + i * 5, none⟩))).run Try.prog w' = .ok (.agg (pxc (L2.getD i default))) w' := fun w' hb => (X2.out w' hb).1
      have hcut := HC.out.at_ i hi2
      obtain ⟨y1, hy1⟩ : ∃ y, L1.getD i default = y := ⟨_, rfl⟩
      obtain ⟨y2, hy2⟩ : ∃ y, L2.getD i default = y := ⟨_, rfl⟩
      rw [hy1] at C X1 ld1 hcut
      rw [hy2] at C X2 ld2 hcut
      have i0 : (0 : Int) ≤ (i : Int) := by omega
      have j1 : (i : Int) < (M : Int) := by omega
      have j2 : (i : Int) < (A : Int) := by omega
      have i2 : ¬ (i : Int) < 0 := by omega
      have i3 : IntKind.i64.wrap ((i : Int) + 1) = ((i + 1 : Nat) : Int) := by rw [show (i : Int) + 1 = ((i + 1 : Nat) : Int) by omega]; exact i64_nat _ (by have := HN2.out; omega)
      have hbd : Below wr.heap.size wr wr.drew := (Below.refl _ _).drew
      clear hx hy hi1 hi2 hy1 hy2
      by_cases he : toC y1 = toC y2
      · rw [decide_eq_true he] at C
        clear he hcut
        go_wp2
        go_region_held3 (fun w' => Below wr.heap.size wr w')
          (first | assumption | exact (Below.refl _ _).drew | exact hbd.trans ‹Below wr.drew.heap.size wr.drew _›)
          (first
            | (go_at_call 16; refine (C.out).mono ?_; rintro e wv ⟨rfl, hbv⟩
               have HZ := Lib.hid (hbd.trans hbv)))
        have HS : Hid (Below wz.heap.size wz wv) := Lib.hid (below_more H.out HZ.out)
        go_wp2
        go_roundw
        case rel => exact ⟨i + 1, by omega, by go_num, HS⟩
        case measure => simp [intOf]; omega
      · rcases hcut with hcut | ⟨hlast, hk1, hk2, hlt, htk⟩
        · exact absurd hcut he
        · rw [decide_eq_false he] at C
          clear he
          obtain ⟨d1, o1, n1, m1, v1, bl1⟩ := y1
          obtain ⟨d2, o2, n2, m2, v2, bl2⟩ := y2
          dsimp only at hk1 hk2 hlt htk X1 X2
          subst hk1 hk2
          have R1 := (X1.out wr (Below.refl _ _)).2.2.2
          have R2 := (X2.out wr (Below.refl _ _)).2.2.2
          obtain ⟨pa, ca, rfl, ha1, ha2⟩ := ra_shape R1
          obtain ⟨pb, cb, rfl, _⟩ := ra_shape R2
          have hto2 := by_to pa ca bl1 (k := bl2.length) (by omega) ha1 (a := bl2.length) rfl
          rw [← htk] at hto2
          obtain ⟨hto2, HT2⟩ := hto2
          have S1 := Lib.hid (fun (w' : World) (hb : Below wr.heap.size wr w') => run_strConv (HT2 w' (X1.out w' hb).2.2.2))
          have S2 := Lib.hid (fun (w' : World) (hb : Below wr.heap.size wr w') => run_strConv ((X2.out w' hb).2.2.2))
          have k3 : IntKind.i64.wrap ((M : Int) - 1) = (i : Int) := by rw [show (M : Int) - 1 = (i : Int) by have := HAM.out.2; omega]; exact i64_nat _ (by have := HN2.out; omega)
          have k4 : ¬ (bl2.length : Int) ≥ (bl1.length : Int) := by omega
          have k5 : ¬ bl2.length ≥ bl1.length := by omega
          have k6 : ((i : Int) != (i : Int)) = false := by simp
          clear R1 R2 ha1 ha2 HT2 htk hlast
          generalize strOfNums bl2 = sl at *
          obtain ⟨na, hna⟩ : ∃ n, bl1.length = n := ⟨_, rfl⟩
          obtain ⟨nb, hnb⟩ : ∃ n, bl2.length = n := ⟨_, rfl⟩
          rw [hna] at X1 C ld1 k4 k5 hto2
          rw [hnb] at X2 C ld2 k4 k5 hto2 S1 S2
          clear hna hnb hlt
          go_wp2
          go_region_held3 (fun w' => Below wr.heap.size wr w')
            (first | assumption | exact (Below.refl _ _).drew | exact hbd.trans ‹Below wr.drew.heap.size wr.drew _›)
            (first
              | (go_at_call 16; refine (C.out).mono ?_; rintro e wv ⟨rfl, hbv⟩
                 have HZ := Lib.hid (hbd.trans hbv)))
          have z1 := (X1.out _ HZ.out).2.1
          have z2 := (X1.out _ HZ.out).2.2.1
          have z3 := (X2.out _ HZ.out).2.1
          have z4 := (X2.out _ HZ.out).2.2.1
          have s1 := fun n => S1.out (wv.drewN n) (below_drewN HZ.out n)
          have s2 := fun n => S2.out (wv.drewN n) (below_drewN HZ.out n)
          go_wp2_with fail
          go_quiet (fail)
          have HS : Hid (Below wz.heap.size wz (wv.drewN nq)) := Lib.hid (below_more H.out (below_drewN HZ.out nq))
          go_wp2
          go_roundw
          case rel => exact ⟨i + 1, by omega, by go_num, HS⟩
          case measure => simp [intOf]; omega
    · obtain rfl : i = M := by omega
      have HF := Lib.hid (below_more BZ.out H.out)
      go_wp2_with fail
      refine (awake_any _).mono ?_; rintro e w11 ⟨rfl, hb⟩
      have HS := Lib.hid (below_more HF.out hb)
      clear hb
      go_wp2_with fail
      go_ret
      exact ⟨rfl, HS.out⟩
theorem walk (l0 : List Int) (v0 : Value) (a1 : Int) (w : World) (w0 : RA byE w v0 l0) (_ : (Lit.int .i64 a1).wf = true) :
    Calls Try.prog 7 #[v0, .int .i64 a1] w fun e w' => e = .returned (.bool true) ∧ Below w.heap.size w w' := by
  obtain ⟨p, c, rfl, _⟩ := ra_shape w0
  by_cases h : 600 < l0.length
  · exact far p _ c a1 w h
  · exact near l0 p _ c a1 w w0 (by omega) rfl

set_option maxRecDepth 100000 in
theorem lifted (os : Os) (started : os.Started) (H : Type) (enc : TypeId × Value → H) :
    ReturnsInHanded {} Try.checked os 7 .any (Rows.codeCutSpec.pre6 enc Try.prog Try.f7 Rows.codeCutRow.domain false) (Rows.codeCutSpec.post enc Try.prog Try.f7 false true false false) := by
  refine returnsInHanded_of_change (C := Try.checked) own started (by kernel_rfl) Try.func7
    (ChangeSpec.witness6 (enc := enc) (C := Try.checked) false ⟨#[], #[.slice none 0 0, .int .i64 0], []⟩ 8 (by kernel_rfl) (by kernel_rfl) (by kernel_rfl) (by kernel_rfl)) ?_
  intro W base args ds gs before hval0 hW hcnd _
  have hval : ∀ (j : Nat) t v, Try.f7.params[j]? = some t → args[j]? = some v → Value.okWide Try.prog W .any base t v := hval0
  have hW' := hW
  have hlt := hW.lt
  obtain ⟨p, q, hA0, hV, hpq, hfz, hnd⟩ := hW
  have hA : DataW.TrodAll enc Try.prog W 0 (fun _ => true) true Try.f7.params.toList args.toList ds p := hA0
  rw [Try.params7] at hA hval
  obtain ⟨v0, vs0, d0, ds0, p0, q0, hargs, rfl, hp, h0, r0⟩ := trodAll_cons hA
  obtain ⟨v1, vs1, d1, ds1, p1, q1, rfl, rfl, rfl, h1, r1⟩ := trodAll_cons r0
  obtain ⟨rfl, rfl, rfl⟩ := trodAll_nil r1
  obtain rfl : args = #[v0, v1] := by cases args; simp_all
  obtain ⟨rfl, rfl⟩ := trodVars_none hV
  have hlt' : ∀ x ∈ before, x.block < W.heap.size := fun x hx => hlt x hx
  obtain ⟨l0, w0⟩ := bytes_in (hval 0 22 v0 rfl rfl) h0
  obtain ⟨a1, rfl, rfl, rfl, w1⟩ := open_int Try.underlying3 (hval 1 3 v1 rfl rfl) h1
  refine (walk l0 v0 a1 W w0 w1).mono fun e W' ⟨he, hb⟩ => ?_
  subst he
  exact ⟨_, rfl, law_post rfl (by kernel_rfl) hW' (by rw [Try.params7]; intro t ht; simp only [List.mem_cons, List.not_mem_nil, or_false] at ht; (repeat' (first | (rcases ht with rfl | ht) | subst ht)) <;> exact ⟨by kernel_rfl, of_decide_eq_true (by kernel_rfl)⟩) rfl hb⟩

theorem over : Rows.codeCutRow.holds Try.pinned (OpenSpec.ofChange Rows.codeCutSpec) :=
  OpenClaim.holds_of_wide 7 Try.f7 rfl rfl rfl rfl rfl rfl rfl ⟨rfl, rfl, rfl, rfl, rfl⟩ rfl rfl rfl rfl rfl (by kernel_rfl) Try.func7 (by kernel_rfl)
    (of_decide_eq_true (by kernel_rfl)) (by unfold Func.isWrapper; first | (rw [if_pos (by decide +kernel)]; kernel_rfl) | (rw [if_neg (by decide +kernel)]; exact ⟨rfl, rfl⟩))
    (fun os started H enc _ => lifted os started H enc)

theorem proved : Rows.CodeCutSaid := over
end Go.Proofs.Ytdnijdbhdlengaa.codeCut
