/-
  Sorted, each is behind none that it is ahead of; the first and the last are Min and Max; sorted again it is the same. No conditions.
-/
import Derived.Test.YtcccfmclcpldlaaSortsA
namespace Go.Proofs.Ytcccfmclcpldlaa.edgeSorts
open Go.Proofs.Ytcccfmclcpldlaa Go.Proofs.Ytcccfmclcpldlaa.D Go.ChangeShapes Go.WideShapes Go.ChangeAt Go.RowKit

theorem of_nil (p : Option Addr) (cap : Nat) (w : World) : Calls Try.prog 14 #[.slice p 0 cap] w fun e w' => e = .returned (.slice none 0 0) ∧ w = w' := by
  go_enter Try.func14, Try.ntmps14
  go_wp2
  go_rounds 1
  go_ret
  exact ⟨rfl, rfl⟩

theorem step_append_nil {P : Program} {ops : Array Oper} {o : Oper} {a : Act} {w : World} {K : Act → World → Prop} {Q : Exit → Act → World → Prop} {E : Prop} (hgd : o.guard = none) (s x : Operand) (t : TypeId)
    (ho : o.op = .call { callee := .builtin .append, args := #[s, x], argTypes := #[t, t] })
    (base : Nat) (e : TypeId) (i : TypeInfo) (size : Nat) (ht : P.underlying t = some (.slice e)) (hi : P.info? e = some i)
    (v : Value) (n : Nat) (xs : List Value) (hs : a.eval s = v) (hown : w.ownsRow base e size v n xs) (hx : a.eval x = .slice none 0 0) (h : K (a.put o.dst v) w) :
    if Region.wanted o (yielded ops a.tmps) = true then Oper.wp P o a w K Q else E := by
  have hw : Region.wanted o (yielded ops a.tmps) = true := by simp [Region.wanted, hgd]
  rw [if_pos hw]
  have hrun := run_append_owned_none (P := P) (w := w) base t o.type e i size ht hi v n xs hown
  unfold Oper.wp
  simp [execOp, ho, resolve, invoke, builtin, hs, hx, hrun, Result.andThen]
  exact h

theorem nil_reads (w : World) : Reads w (.slice none 0 0) [] := ⟨none, 0, rfl, .inl rfl⟩
theorem perm_nil {d : List Nat} (h : ([] : List Nat).Perm d) : d = [] := List.nil_perm.1 h

theorem mn (w : World) : Calls Try.prog 25 #[.slice none 0 0] w fun e w' => e = .returned (.float .f64 9221120237041090561) ∧ w = w' := min_none none 0 w
theorem mx (w : World) : Calls Try.prog 27 #[.slice none 0 0] w fun e w' => e = .returned (.float .f64 9221120237041090561) ∧ w = w' := max_none none 0 w
theorem small_nil : Small [] := fun i hi => absurd hi (by simp)

theorem same_zero (va vb : Value) (w : World) (ha : Reads w va []) (hb : Reads w vb []) : Calls Try.prog 22 #[va, vb] w fun e w' => e = .returned (.bool true) ∧ Below w.heap.size w w' :=
  (same_rd va vb [] [] w ha hb (by decide) small_nil small_nil).mono fun e w' ⟨h, g⟩ => ⟨by rw [h]; rfl, g⟩

/-- sorting nothing -/
theorem sort_zero (v : Value) (w : World) (h : Reads w v []) : Calls Try.prog 23 #[v] w fun e w' => ∃ p c, e = .returned (.slice p 0 c) ∧ Reads w' (.slice p 0 c) [] ∧ Below w.heap.size w w' := by
  refine (sort_any v [] w h (by decide)).mono fun e w' ⟨v', d, he, hp, _, ho, hb⟩ => ?_
  obtain rfl := perm_nil hp
  obtain ⟨p, c, rfl⟩ := own_shape ho
  exact ⟨p, c, he, ho.reads, hb⟩

set_option maxHeartbeats 2000000 in
theorem zero_case (t : Int) (p : Option Addr) (cap : Nat) (w : World) :
    Calls Try.prog 5 #[.slice p 0 cap, .int .i64 t] w fun e w' => e = .returned (.bool true) ∧ Below w.heap.size w w' := by
  obtain ⟨i0, hi, hz0, hz1, hz2⟩ := info_parts info_f64
  have o1 : (FloatKind.f64.format.order 9221120237041090561 9221120237041090561 != some .eq) = true := by decide +kernel
  go_enter Try.func5, Try.ntmps5
  go_wp2_with fail
  refine (of_nil _ _ _).mono ?_; rintro e w' ⟨rfl, rfl⟩
  go_wp2_with fail
  refine (sort_zero _ _ (nil_reads _)).mono ?_; rintro e w2 ⟨pa, ca, rfl, ra, hb2⟩
  have RA := Lib.hid ra
  have B2 := Lib.hid hb2
  have HX : Hid (((w2.alloc (.cells #[] 25)).drew).ownsRow w2.heap.size 25 1 (.slice (some ⟨w2.heap.size, 0, none⟩) 0 0) 0 []) := Lib.hid (World.ownsRow_made w2 #[] 0 (Nat.le_refl _) (by decide) rfl).drew
  have HX0 : Hid (Below w2.heap.size w2 ((w2.alloc (.cells #[] 25)).drew)) := Lib.hid ((Below.refl _ _).alloc (Nat.le_refl _) _).drew
  have RX : Hid (Reads ((w2.alloc (.cells #[] 25)).drew) (.slice (some ⟨w2.heap.size, 0, none⟩) 0 0) []) := Lib.hid ⟨_, 0, rfl, .inl rfl⟩
  clear ra hb2
  go_wp2_with fail
  go_region_law (first
    | (refine step_append_nil rfl (.tmp 26) (.tmp 29) 27 rfl w2.heap.size 25 i0 1 Try.underlying27 hi (.slice (some ⟨w2.heap.size, 0, none⟩) 0 0) 0 [] (by simp [Act.eval]) HX.out (by simp [Act.eval]) ?_)
    | (refine step_append_nil rfl (.tmp 30) (.tmp 33) 27 rfl w2.heap.size 25 i0 1 Try.underlying27 hi (.slice (some ⟨w2.heap.size, 0, none⟩) 0 0) 0 [] (by simp [Act.eval]) HX.out (by simp [Act.eval]) ?_)
    | (go_simp; go_at_call 23
       refine (sort_zero _ _ RX.out).mono ?_; rintro e w5 ⟨pb, cb, rfl, rb, hb5⟩))
  have W5 := Lib.hid (show Below w2.heap.size w2 w5 from HX0.out.trans (hb5.mono HX0.out.size))
  have RB := Lib.hid rb
  clear rb hb5
  go_wp2_with fail
  refine (same_zero _ _ _ (RA.out.below W5.out) RB.out).mono ?_; rintro e w6 ⟨rfl, hb6⟩
  have W6 := Lib.hid (below_more' W5.out hb6)
  clear hb6
  go_wp2_with fail
  refine (sort_zero _ _ (RA.out.below W6.out)).mono ?_; rintro e w7 ⟨pc, cc, rfl, rc, hb7⟩
  have W7 := Lib.hid (below_more' W6.out hb7)
  have RC := Lib.hid rc
  clear rc hb7
  go_wp2_with fail
  refine (same_zero _ _ _ RC.out (RA.out.below W7.out)).mono ?_; rintro e w8 ⟨rfl, hb8⟩
  have W8 := Lib.hid (below_more' W7.out hb8)
  clear hb8
  go_wp2
  refine wp_loop_rounds 1 ?_
  rw [rounds_succ]
  go_wp2_with (first | (go_at_call 25; refine (mn _).mono ?_; rintro e w' ⟨rfl, rfl⟩) | (go_at_call 27; refine (mx _).mono ?_; rintro e w' ⟨rfl, rfl⟩))
  refine (awake_any _).mono ?_; rintro e w9 ⟨rfl, hb9⟩
  go_wp2_with fail
  go_ret
  exact ⟨rfl, below_more' B2.out (below_more' W8.out hb9)⟩

theorem walk (l0 : List Int) (v0 : Value) (a1 : Int) (w : World) (w0 : IntsIn .u64 w v0 l0) (_ : (Lit.int .i64 a1).wf = true) :
    Calls Try.prog 5 #[v0, .int .i64 a1] w fun e w' => e = .returned (.bool true) ∧ Below w.heap.size w w' := by
  by_cases h : l0.length ≤ 100
  · rcases Nat.eq_zero_or_pos l0.length with h0 | h0
    · obtain ⟨p, cap, rfl, _⟩ := w0
      rw [h0]
      exact zero_case a1 p cap w
    · have O := Lib.hid (of_any v0 l0 w w0 (by omega))
      have SM : Hid (Small (nats l0)) := Lib.hid (by obtain ⟨_, _, _, _, _, hwf, _⟩ := w0; exact nats_small hwf)
      obtain ⟨p, cap, rfl, _⟩ := w0
      exact some_case a1 p _ cap (nats l0) w h h0 (nats_length l0) O SM
  · obtain ⟨p, cap, rfl, _⟩ := w0
    exact long a1 p _ cap w (by omega)

set_option maxRecDepth 100000 in
theorem lifted (os : Os) (started : os.Started) (H : Type) (enc : TypeId × Value → H) :
    ReturnsInHanded {} Try.checked os 5 .any (Rows.edgeSortsSpec.pre6 enc Try.prog Try.f5 Rows.edgeSortsRow.domain false) (Rows.edgeSortsSpec.post enc Try.prog Try.f5 false true false false) := by
  refine returnsInHanded_of_change (C := Try.checked) own started (by kernel_rfl) Try.func5
    (ChangeSpec.witness6 (enc := enc) (C := Try.checked) false ⟨#[], #[.slice none 0 0, .int .i64 0], []⟩ 8 (by kernel_rfl) (by kernel_rfl) (by kernel_rfl) (by kernel_rfl)) ?_
  intro W base args ds gs before hval0 hW hcnd _
  have hval : ∀ (j : Nat) t v, Try.f5.params[j]? = some t → args[j]? = some v → Value.okWide Try.prog W .any base t v := hval0
  have hW' := hW
  have hlt := hW.lt
  obtain ⟨p, q, hA0, hV, hpq, hfz, hnd⟩ := hW
  have hA : DataW.TrodAll enc Try.prog W 0 (fun _ => true) true Try.f5.params.toList args.toList ds p := hA0
  rw [Try.params5] at hA hval
  obtain ⟨v0, vs0, d0, ds0, p0, q0, hargs, rfl, hp, h0, r0⟩ := trodAll_cons hA
  obtain ⟨v1, vs1, d1, ds1, p1, q1, rfl, rfl, rfl, h1, r1⟩ := trodAll_cons r0
  obtain ⟨rfl, rfl, rfl⟩ := trodAll_nil r1
  obtain rfl : args = #[v0, v1] := by cases args; simp_all
  obtain ⟨rfl, rfl⟩ := trodVars_none hV
  have hlt' : ∀ x ∈ before, x.block < W.heap.size := fun x hx => hlt x hx
  obtain ⟨l0, w0⟩ := ints_in Try.underlying23 Try.underlying22 (by kernel_rfl) (hval 0 23 v0 rfl rfl) (fun x hx => hlt' x (by rw [hpq, hp]; simp [hx])) h0
  obtain ⟨a1, rfl, rfl, rfl, w1⟩ := open_int Try.underlying3 (hval 1 3 v1 rfl rfl) h1
  refine (walk l0 v0 a1 W w0 w1).mono fun e W' ⟨he, hb⟩ => ?_
  subst he
  exact ⟨_, rfl, law_post rfl (by kernel_rfl) hW' (by rw [Try.params5]; intro t ht; simp only [List.mem_cons, List.not_mem_nil, or_false] at ht; (repeat' (first | (rcases ht with rfl | ht) | subst ht)) <;> exact ⟨by kernel_rfl, of_decide_eq_true (by kernel_rfl)⟩) rfl hb⟩

theorem over : Rows.edgeSortsRow.holds Try.pinned (OpenSpec.ofChange Rows.edgeSortsSpec) :=
  OpenClaim.holds_of_wide 5 Try.f5 rfl rfl rfl rfl rfl rfl rfl ⟨rfl, rfl, rfl, rfl, rfl⟩ rfl rfl rfl rfl rfl (by kernel_rfl) Try.func5 (by kernel_rfl)
    (of_decide_eq_true (by kernel_rfl)) (by unfold Func.isWrapper; first | (rw [if_pos (by decide +kernel)]; kernel_rfl) | (rw [if_neg (by decide +kernel)]; exact ⟨rfl, rfl⟩))
    (fun os started H enc _ => lifted os started H enc)

theorem proved : Rows.EdgeSortsSaid := over
end Go.Proofs.Ytcccfmclcpldlaa.edgeSorts
