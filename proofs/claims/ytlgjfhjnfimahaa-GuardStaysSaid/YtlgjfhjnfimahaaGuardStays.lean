/-
  What was done ahead of a step that fails stays done; behind it nothing is done. No conditions.
-/
import Derived.Test.YtlgjfhjnfimahaaAwg
import Derived.Test.YtlgjfhjnfimahaaIns
import Derived.Test.YtlgjfhjnfimahaaInts
namespace Go.Proofs.Ytlgjfhjnfimahaa.guardStays
open Go.Proofs.Ytlgjfhjnfimahaa Go.ChangeShapes Go.WideShapes Go.ChangeAt Go.RowKit

theorem alike_self (a : List Int) : alike a a = true := by unfold alike; exact decide_eq_true rfl
theorem rl_take {w : World} {p : Option Addr} {c k : Nat} {l : List (Int × Int)} (h : RL w (.slice p l.length c) l) (hk : k ≤ l.length) : RL w (.slice p k c) (l.take k) := by
  obtain ⟨p', c', e, h1, h2, h3⟩ := h
  obtain ⟨rfl, rfl⟩ : p = p' ∧ c = c' := by cases e; exact ⟨rfl, rfl⟩
  have hl : (l.take k).length = k := by rw [List.length_take]; omega
  refine ⟨p, c, by rw [hl], by omega, h2, ?_⟩
  rcases h3 with h3 | ⟨b, off, rfl, hc⟩
  · exact .inl (by rw [h3]; simp)
  · refine .inr ⟨b, off, rfl, fun i hi => ?_⟩
    rw [hl] at hi
    have e : (l.take k).getD i (0, 0) = l.getD i (0, 0) := by rw [List.getD_eq_getElem?_getD, List.getD_eq_getElem?_getD, List.getElem?_take, if_pos hi]
    rw [e]; exact hc i (by omega)

theorem sliceTo_in (p : Option Addr) (n cap b : Nat) (h : b ≤ cap) (w : World) :
    (Instr.slice 23 (.slice p n cap) none (some (.int .i64 (b : Int))) none).run Try.prog w = .ok (.slice p b cap) w := by
  obtain ⟨i0, hinf, hz0, hz1, hz2⟩ := info_parts info_instr
  have e2 : ∀ w, (Instr.sliceBound (.int .i64 (b : Int)) cap .sliceAcap).run Try.prog w = .ok b w := fun w => by rw [run_sliceBound (P := Try.prog) (w := w) .i64 b cap .sliceAcap (by omega) (by omega)]; simp
  have ha : ∀ A : Addr, A.add 0 = A := fun A => by unfold Addr.add; simp
  unfold Instr.slice
  simp only [Sem.run_bind, run_underlying Try.underlying23, Result.andThen_ok]
  unfold Instr.sliceBounds sizeOf typeInfo
  simp [hinf, e2, ha]

theorem long (p q r : Option Addr) (n cap m c2 o c3 : Nat) (w : World) (hm : m ≤ 8796093022208) (ho : o ≤ 8796093022208) (h : 100 < n ∨ 500 < m + o) :
    Calls Try.prog 4 #[.slice p n cap, .slice q m c2, .slice r o c3] w fun e w' => e = .returned (.bool true) ∧ Below w.heap.size w w' := by
  have e : IntKind.i64.wrap ((m : Int) + (o : Int)) = (m : Int) + (o : Int) := IntWalk.i64_in _ (by omega)
  by_cases h1 : 100 < n
  · go_enter Try.func4, Try.ntmps4
    go_wp2_with fail
    refine (awake_any _).mono ?_; rintro e w' ⟨rfl, hb⟩
    go_wp2_with fail
    go_ret
    exact ⟨rfl, hb⟩
  · have h2 : 500 < m + o := by omega
    have h3 : (500 : Int) < (m : Int) + (o : Int) := by omega
    go_enter Try.func4, Try.ntmps4
    go_wp2_with fail
    refine (awake_any _).mono ?_; rintro e w' ⟨rfl, hb⟩
    go_wp2_with fail
    go_ret
    exact ⟨rfl, hb⟩

set_option maxRecDepth 100000 in
set_option maxHeartbeats 4000000 in
theorem short (p q s : Option Addr) (cap c2 c3 : Nat) (row : List Int) (l more : List (Int × Int)) (w : World) (hr : RI w (.slice p row.length cap) row) (hl : RL w (.slice q l.length c2) l) (hm : RL w (.slice s more.length c3) more)
    (hn : row.length ≤ 100) (hs : l.length + more.length ≤ 500) :
    Calls Try.prog 4 #[.slice p row.length cap, .slice q l.length c2, .slice s more.length c3] w fun e w' => e = .returned (.bool true) ∧ Below w.heap.size w w' := by
  obtain ⟨⟨t, dn, okv⟩, hrun⟩ : ∃ x, run row [] 0 l = x := ⟨_, rfl⟩
  obtain ⟨_, k1, k2⟩ := run_count row l [] 0
  have k3 := run_take row l [] 0
  have k4 := run_more row more l [] 0
  have C1 := run_walk _ _ row l w hr hl (by omega)
  rw [hrun] at k1 k2 k3 k4 C1
  simp only [Nat.zero_add, Nat.sub_zero] at k1 k2 k3 k4 C1
  have hc2 : l.length ≤ c2 := by obtain ⟨_, _, e, h1, _⟩ := hl; cases e; exact h1
  have C2 : ∀ w', Below w.heap.size w w' → _ := fun w' hb => run_walk _ _ row (l.take dn) w' (ri_below hr hb) (rl_take (rl_below hl hb) k1) (by rw [List.length_take]; omega)
  rw [k3] at C2
  have C3 : ∀ (w' : World) (v : Value), Below w.heap.size w w' → RL w' v (l ++ more) → _ := fun w' v hb hv => run_walk _ v row (l ++ more) w' (ri_below hr hb) hv (by rw [List.length_append]; omega)
  have LL : Hid (RL w (.slice q l.length c2) l) := Lib.hid hl
  have LM : Hid (RL w (.slice s more.length c3) more) := Lib.hid hm
  have LE : Hid (l.length + more.length ≤ 500) := Lib.hid hs
  have e : IntKind.i64.wrap ((l.length : Int) + (more.length : Int)) = (l.length : Int) + (more.length : Int) := IntWalk.i64_in _ (by omega)
  have e2 : ¬ (500 : Int) < (l.length : Int) + (more.length : Int) := by omega
  have e3 : (dn : Int) ≤ (l.length : Int) := by omega
  have hsl := sliceTo_in q l.length c2 dn (by omega)
  have hsl2 : ∀ w, (Instr.sliceAt 23 (.slice q l.length c2) none (some (.int .i64 (dn : Int))) none).run Try.prog w = _ := fun w => (run_sliceAt_slice (h := Try.underlying23) ..).trans (hsl w)
  cases okv with
  | true =>
    have hdn : dn = l.length := k2.1 rfl
    have e4 : ((dn : Int) == (l.length : Int)) = true := by rw [hdn]; simp
    generalize t.reverse = T at *
    have H1 := Lib.hid C1
    have H2 := Lib.hid C2
    clear hr hl hm k2 k3 k4 C1 C2 C3 hrun hs hdn k1
    generalize l.length = L at *
    generalize more.length = M at *
    go_enter Try.func4, Try.ntmps4
    go_wp2_with fail
    refine H1.out.mono ?_; rintro e w1 ⟨v1, rfl, ho1, h1⟩
    have B1 := Lib.hid h1
    have O1 := Lib.hid ho1.ri
    obtain ⟨p1, d1, rfl⟩ := ho1.shape
    clear ho1 h1
    go_wp2_with fail
    refine (H2.out w1 B1.out).mono ?_; rintro e w2 ⟨v2, rfl, ho2, h2⟩
    have B2 := Lib.hid (below_more B1.out h2)
    have IN := Lib.hid (ints_any _ _ _ _ w2 (ri_below O1.out h2) ho2.ri)
    obtain ⟨p2, d2, rfl⟩ := ho2.shape
    clear ho2 h2
    go_wp2_with fail
    refine IN.out.mono ?_; rintro e w3 ⟨rfl, n3, rfl⟩
    rw [alike_self]
    have B3 := Lib.hid (below_drewN B2.out n3)
    go_wp2_with fail
    refine (awake_any _).mono ?_; rintro e w4 ⟨rfl, h4⟩
    go_wp2_with fail
    go_ret
    exact ⟨rfl, below_more B3.out h4⟩
  | false =>
    have hdn : dn ≠ l.length := fun h => by have := k2.2 h; cases this
    have e4 : ((dn : Int) == (l.length : Int)) = false := by simp; omega
    rw [k4 rfl] at C3
    generalize t.reverse = T at *
    have H1 := Lib.hid C1
    have H2 := Lib.hid C2
    have H3 := Lib.hid C3
    clear hr hl hm k2 k3 k4 C1 C2 C3 hrun hs hdn k1
    generalize hL : l.length = L at *
    generalize hM : more.length = M at *
    have HL := Lib.hid hL
    have HM := Lib.hid hM
    clear hL hM
    go_enter Try.func4, Try.ntmps4
    go_wp2_with fail
    refine H1.out.mono ?_; rintro e w1 ⟨v1, rfl, ho1, h1⟩
    have B1 := Lib.hid h1
    have O1 := Lib.hid ho1.ri
    obtain ⟨p1, d1, rfl⟩ := ho1.shape
    clear ho1 h1
    go_wp2_with fail
    refine (H2.out w1 B1.out).mono ?_; rintro e w2 ⟨v2, rfl, ho2, h2⟩
    have B2 := Lib.hid (below_more B1.out h2)
    have O2 := Lib.hid (ri_below O1.out h2)
    have IN := Lib.hid (ints_any _ _ _ _ w2 O2.out ho2.ri)
    obtain ⟨p2, d2, rfl⟩ := ho2.shape
    clear ho2 h2
    go_wp2_with fail
    refine IN.out.mono ?_; rintro e w3 ⟨rfl, n3, hw3⟩
    rw [alike_self]
    have B3 : Hid (Below w.heap.size w w3) := Lib.hid (by rw [hw3]; exact below_drewN B2.out n3)
    have O3 : Hid (RI w3 (.slice p1 T.length d1) T) := Lib.hid (by rw [hw3]; exact ri_same O2.out fun _ _ => rfl)
    clear hw3
    have NIL := Lib.hid (ownl_lit w3 [] (Nat.zero_le _))
    have LR := Lib.hid (rl_below (rl_below LL.out B3.out) (bal (o := .cells #[] 37) (Below.refl _ _)))
    have A1 : Hid (([] : List (Int × Int)).length + l.length ≤ 1000000) := Lib.hid (by have := HL.out; have := LE.out; simp; omega)
    have A2 : Hid (([] ++ l : List (Int × Int)).length + more.length ≤ 1000000) := Lib.hid (by have := HL.out; have := HM.out; have := LE.out; simp; omega)
    go_wp2_with (first
    | (at_builtin
       refine list_app_step (o := ⟨some 79, _, _, _, _, _⟩) rfl (.tmp 77) (.tmp 78) rfl w3.heap.size _ [] rfl NIL.out _ l rfl LR.out A1.out (by simp) ?_
       intro tv w4 ot gt _
       have B4 := Lib.hid (show Below w3.heap.size w3 w4 from (bal (Below.refl _ _)).grown gt (by simp) (by intro k hk; cases hk; exact Nat.le_refl _))
       have LM4 := Lib.hid (rl_below LM.out (below_more B3.out B4.out))
       have O4 := Lib.hid ot
       have S4 := Lib.hid (show w3.heap.size ≤ w4.heap.size from B4.out.size)
       clear ot gt)
    | (at_builtin
       refine list_app_step (o := ⟨some 81, _, _, _, _, _⟩) rfl (.tmp 79) (.tmp 80) rfl w3.heap.size tv ([] ++ l) rfl O4.out _ more rfl LM4.out A2.out S4.out ?_
       intro tv2 w5 ot gt _
       have B5 := Lib.hid (show Below w3.heap.size w3 w5 from B4.out.grown gt S4.out (fun k hk => (World.ownsRow.lt O4.out k hk).1))
       have R5 := Lib.hid (show RL w5 tv2 (l ++ more) by simpa using OwnL.rl ot)
       clear ot gt))
    refine (H3.out w5 tv2 (below_more B3.out B5.out) R5.out).mono ?_; rintro e w6 ⟨v6, rfl, ho6, h6⟩
    have B6 := Lib.hid (below_more (below_more B3.out B5.out) h6)
    have I6 := Lib.hid (ints_any _ _ _ _ w6 ho6.ri (ri_below (ri_below O3.out B5.out) h6))
    obtain ⟨p6, d6, rfl⟩ := ho6.shape
    clear ho6 h6
    go_wp2_with fail
    refine I6.out.mono ?_; rintro e w7 ⟨rfl, n7, rfl⟩
    rw [alike_self]
    have B7 := Lib.hid (below_drewN B6.out n7)
    go_wp2_with fail
    refine (awake_any _).mono ?_; rintro e w8 ⟨rfl, h8⟩
    go_wp2_with fail
    go_ret
    exact ⟨rfl, below_more B7.out h8⟩

theorem walk (l0 : List Int) (v0 : Value) (l1 : List (Int × Int)) (v1 : Value) (l2 : List (Int × Int)) (v2 : Value) (w : World) (w0 : IntsIn .i64 w v0 l0) (w1 : RL w v1 l1) (z1 : l1.length ≤ 8796093022208) (w2 : RL w v2 l2) (z2 : l2.length ≤ 8796093022208) :
    Calls Try.prog 4 #[v0, v1, v2] w fun e w' => e = .returned (.bool true) ∧ Below w.heap.size w w' := by
  have hr := ri_in w0
  obtain ⟨p, cap, rfl, _⟩ := w0
  have h1 := w1
  obtain ⟨q, c2, rfl, _⟩ := w1
  have h2 := w2
  obtain ⟨s, c3, rfl, _⟩ := w2
  by_cases h : 100 < l0.length ∨ 500 < l1.length + l2.length
  · exact long p q s _ cap _ c2 _ c3 w z1 z2 h
  · exact short p q s cap c2 c3 l0 l1 l2 w hr h1 h2 (by omega) (by omega)

set_option maxRecDepth 100000 in
theorem lifted (os : Os) (started : os.Started) (H : Type) (enc : TypeId × Value → H) :
    ReturnsInHanded {} Try.checked os 4 .any (Rows.guardStaysSpec.pre6 enc Try.prog Try.f4 Rows.guardStaysRow.domain false) (Rows.guardStaysSpec.post enc Try.prog Try.f4 false true false false) := by
  refine returnsInHanded_of_change_sized (C := Try.checked) own started (by kernel_rfl) Try.func4
    (ChangeSpec.witness6 (enc := enc) (C := Try.checked) false ⟨#[], #[.slice none 0 0, .slice none 0 0, .slice none 0 0], []⟩ 8 (by kernel_rfl) (by kernel_rfl) (by kernel_rfl) (by kernel_rfl)) ?_
  intro W base args ds gs before hval0 hW hcnd hsz _
  have hval : ∀ (j : Nat) t v, Try.f4.params[j]? = some t → args[j]? = some v → Value.okWide Try.prog W .any base t v := hval0
  have hW' := hW
  have hlt := hW.lt
  obtain ⟨p, q, hA0, hV, hpq, hfz, hnd⟩ := hW
  have hA : DataW.TrodAll enc Try.prog W 0 (fun _ => true) true Try.f4.params.toList args.toList ds p := hA0
  rw [Try.params4] at hA hval
  obtain ⟨v0, vs0, d0, ds0, p0, q0, hargs, rfl, hp, h0, r0⟩ := trodAll_cons hA
  obtain ⟨v1, vs1, d1, ds1, p1, q1, rfl, rfl, rfl, h1, r1⟩ := trodAll_cons r0
  obtain ⟨v2, vs2, d2, ds2, p2, q2, rfl, rfl, rfl, h2, r2⟩ := trodAll_cons r1
  obtain ⟨rfl, rfl, rfl⟩ := trodAll_nil r2
  obtain rfl : args = #[v0, v1, v2] := by cases args; simp_all
  obtain ⟨rfl, rfl⟩ := trodVars_none hV
  have hlt' : ∀ x ∈ before, x.block < W.heap.size := fun x hx => hlt x hx
  obtain ⟨l0, w0⟩ := ints_in Try.underlying22 Try.underlying3 (by kernel_rfl) (hval 0 22 v0 rfl rfl) (fun x hx => hlt' x (by rw [hpq, hp]; simp [hx])) h0
  obtain ⟨l1, w1, z1⟩ := steps_in_sized (hval 1 23 v1 rfl rfl) h1 (j := 1) rfl rfl hsz
  obtain ⟨l2, w2, z2⟩ := steps_in_sized (hval 2 23 v2 rfl rfl) h2 (j := 2) rfl rfl hsz
  refine (walk l0 v0 l1 v1 l2 v2 W w0 w1 z1 w2 z2).mono fun e W' ⟨he, hb⟩ => ?_
  subst he
  exact ⟨_, rfl, law_post rfl (by kernel_rfl) hW' (by rw [Try.params4]; intro t ht; simp only [List.mem_cons, List.not_mem_nil, or_false] at ht; (repeat' (first | (rcases ht with rfl | ht) | subst ht)) <;> exact ⟨by kernel_rfl, of_decide_eq_true (by kernel_rfl)⟩) rfl hb⟩

theorem over : Rows.guardStaysRow.holds Try.pinned (OpenSpec.ofChange Rows.guardStaysSpec) :=
  OpenClaim.holds_of_wide 4 Try.f4 rfl rfl rfl rfl rfl rfl rfl ⟨rfl, rfl, rfl, rfl, rfl⟩ rfl rfl rfl rfl rfl (by kernel_rfl) Try.func4 (by kernel_rfl)
    (of_decide_eq_true (by kernel_rfl)) (by unfold Func.isWrapper; first | (rw [if_pos (by decide +kernel)]; kernel_rfl) | (rw [if_neg (by decide +kernel)]; exact ⟨rfl, rfl⟩))
    (fun os started H enc _ => lifted os started H enc)

theorem proved : Rows.GuardStaysSaid := over
end Go.Proofs.Ytlgjfhjnfimahaa.guardStays
