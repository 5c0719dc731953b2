/-
  Numbers that are pushed and added are their sum; divided by nought it ends there. No conditions.
-/
import Derived.Test.YtlgjfhjnfimahaaAwg
namespace Go.Proofs.Ytlgjfhjnfimahaa.guardSums
open Go.Proofs.Ytlgjfhjnfimahaa Go.ChangeShapes Go.WideShapes Go.ChangeAt Go.RowKit

/-- the steps behind k numbers, and their sum -/
def sk (l : List Int) : Nat → List (Int × Int)
  | 0 => []
  | k + 1 => sk l k ++ (if k = 0 then [(1, l.getD k 0)] else [(1, l.getD k 0), (2, 0)])
def su (l : List Int) : Nat → Int
  | 0 => 0
  | k + 1 => wrapI (su l k + l.getD k 0)
theorem sk_one (l : List Int) : sk l 1 = sk l 0 ++ [(1, l.getD 0 0)] := rfl
theorem sk_next (l : List Int) {k : Nat} (h : 0 < k) : sk l (k + 1) = (sk l k ++ [(1, l.getD k 0)]) ++ [(2, 0)] := by
  rw [List.append_assoc]; show sk l k ++ (if k = 0 then _ else _) = _; rw [if_neg (by omega)]; rfl
theorem sk_length (l : List Int) : ∀ k, (sk l k).length ≤ 2 * k
  | 0 => by simp [sk]
  | k + 1 => by
    have := sk_length l k
    show (sk l k ++ (if k = 0 then _ else _)).length ≤ _
    rw [List.length_append]
    split <;> simp only [List.length_cons, List.length_nil] <;> omega
theorem wrap_in {x : Int} (h : (Lit.int .i64 x).wf = true) : wrapI (0 + x) = x := by
  have hx : -9223372036854775808 ≤ x ∧ x ≤ 9223372036854775807 := by simpa [Lit.wf, IntKind.min, IntKind.max, IntKind.signed, IntKind.bits] using h
  unfold wrapI; omega

theorem run_sk (row : List Int) {l : List Int} (hwf : ∀ n ∈ l, (Lit.int .i64 n).wf = true) : ∀ k, 1 ≤ k → k ≤ l.length → run row [] 0 (sk l k) = ([su l k], (sk l k).length, true)
  | 0, h, _ => by omega
  | 1, _, h => by
    have hx : (Lit.int .i64 (l.getD 0 0)).wf = true := hwf _ (by
      rw [List.getD_eq_getElem?_getD, List.getElem?_eq_getElem (by omega)]; exact List.getElem_mem _)
    show run row [] 0 [(1, l.getD 0 0)] = ([wrapI (0 + l.getD 0 0)], 1, true)
    rw [wrap_in hx]
    simp [run, stp]
  | k + 2, _, h => by
    have ih := run_sk row hwf (k + 1) (by omega) (by omega)
    rw [sk_next l (show 0 < k + 1 by omega), List.append_assoc, run_append _ _ _ _ _ (by rw [ih]), ih]
    simp only [List.singleton_append, List.length_append, List.length_cons, List.length_nil]
    have h1 : stp row [su l (k + 1)] 1 (l.getD (k + 1) 0) = some [l.getD (k + 1) 0, su l (k + 1)] := by simp [stp]
    have h2 : stp row [l.getD (k + 1) 0, su l (k + 1)] 2 0 = some [wrapI (su l (k + 1) + l.getD (k + 1) 0)] := by simp [stp]
    unfold run
    simp only [h1]
    unfold run
    simp only [h2]
    rfl
theorem run_end3 (row : List Int) {l : List Int} (hwf : ∀ n ∈ l, (Lit.int .i64 n).wf = true) (h : 1 ≤ l.length) :
    run row [] 0 (sk l l.length ++ [(1, 0), (3, 0), (5, 0)]) = ([0, su l l.length], (sk l l.length).length + 1, false) := by
  have ih := run_sk row hwf l.length h (Nat.le_refl _)
  rw [run_append _ _ _ _ _ (by rw [ih]), ih]
  have h1 : stp row [su l l.length] 1 0 = some [0, su l l.length] := by simp [stp]
  have h2 : stp row [0, su l l.length] 3 0 = none := by simp [stp]
  unfold run
  simp only [h1]
  unfold run
  simp only [h2]

theorem long (p : Option Addr) (n cap : Nat) (w : World) (h : n < 1 ∨ 200 < n) :
    Calls Try.prog 6 #[.slice p n cap] w fun e w' => e = .returned (.bool true) ∧ Below w.heap.size w w' := by
  by_cases h1 : n < 1
  · obtain rfl : n = 0 := by omega
    go_enter Try.func6, Try.ntmps6
    go_wp2_with fail
    refine (awake_any _).mono ?_; rintro e w' ⟨rfl, hb⟩
    go_wp2_with fail
    go_ret
    exact ⟨rfl, hb⟩
  · have h2 : 200 < n := by omega
    have h3 : (200 : Int) < (n : Int) := by omega
    go_enter Try.func6, Try.ntmps6
    go_wp2_with fail
    refine (awake_any _).mono ?_; rintro e w' ⟨rfl, hb⟩
    go_wp2_with fail
    go_ret
    exact ⟨rfl, hb⟩

set_option maxRecDepth 100000 in
set_option maxHeartbeats 4000000 in
theorem short (p : Option Addr) (cap : Nat) (l : List Int) (w : World) (hr : RI w (.slice p l.length cap) l) (hwf : ∀ n ∈ l, (Lit.int .i64 n).wf = true) (h1 : 1 ≤ l.length) (h2 : l.length ≤ 200) :
    Calls Try.prog 6 #[.slice p l.length cap] w fun e w' => e = .returned (.bool true) ∧ Below w.heap.size w w' := by
  have R := Lib.hid hr
  have S1 := Lib.hid (run_sk [] hwf l.length h1 (Nat.le_refl _))
  have S2 := Lib.hid (run_end3 l hwf h1)
  obtain ⟨b, off, rfl, _, _⟩ := ri_some hr (by omega)
  obtain ⟨B, hB⟩ : ∃ B, B = w.heap.size := ⟨_, rfl⟩
  have HE := Lib.hid hB
  rw [← hB]
  have R0 : Hid (Below B w w) := Lib.hid (Below.refl _ _)
  have i1 : (1 : Int) ≤ (l.length : Int) := by omega
  clear hB hr hwf
  go_enter Try.func6, Try.ntmps6
  go_wp2
  go_loopw [3, 4, 24] (fun v s i wr => ∃ k : Nat, k ≤ l.length ∧ i = .int .i64 k ∧ s = .int .i64 (su l k) ∧ OwnL B wr v (sk l k) ∧ Below B w wr) (fun _ _ i _ => l.length - (intOf i).toNat)
  case atStart => exact ⟨0, Nat.zero_le _, rfl, rfl, World.ownsRow_nil _ _ _ _, R0.out⟩
  case round =>
    clear R0
    obtain ⟨k, hk, rfl, rfl, hown, hbel⟩ := hrel
    have hsz : B ≤ wr.heap.size := by have := hbel.size; rw [← HE.out] at this; exact this
    have HO := Lib.hid hown
    have HBel := Lib.hid hbel
    have HLN := Lib.hid (sk_length l k)
    by_cases hlt : k < l.length
    · obtain ⟨b', off', e', _, hc⟩ := ri_some (ri_below R.out (by rw [← HE.out]; exact hbel)) (by omega)
      obtain ⟨rfl, rfl⟩ : b = b' ∧ off = off' := by cases e'; exact ⟨rfl, rfl⟩
      have hcell := hc k hlt
      have A1 : Hid ((sk l k).length + [((1 : Int), l.getD k 0)].length ≤ 1000000) := Lib.hid (by have := HLN.out; simp; omega)
      have SU : Hid (su l (k + 1) = wrapI (su l k + l.getD k 0)) := Lib.hid rfl
      have wr1 : IntKind.i64.wrap (su l k + l.getD k 0) = wrapI (su l k + l.getD k 0) := IntKind.wrap_i64 _
      have A2 : Hid ((sk l k ++ [((1 : Int), l.getD k 0)]).length + [((2 : Int), (0 : Int))].length ≤ 1000000) := Lib.hid (by have := HLN.out; simp; omega)
      rcases Nat.eq_zero_or_pos k with h0 | hpos
      · subst h0
        have SK := Lib.hid (sk_one l)
        have hcell0 : wr.cell? ⟨b, off, none⟩ = some (.int .i64 (l.getD 0 0)) := hcell
        generalize l.getD 0 0 = x at *
        clear hown hbel hc e'
        go_wp2_with (first
        | (at_builtin
           refine list_app_step (o := ⟨some 33, _, _, _, _, _⟩) rfl (.tmp 29) (.tmp 32) rfl B _ (sk l 0) rfl (World.ownsRow.alloc HO.out _) _ [(1, x)] rfl (rl_lit wr [(1, x)] (by simp)) A1.out (by simp; omega) ?_
           intro v2 w2 o2 g2 _
           have O2 := Lib.hid o2
           have B2 := Lib.hid ((HBel.out.alloc hsz _).grown g2 (by simp; omega) (fun k hk => (World.ownsRow.lt HO.out k hk).1))
           clear o2 g2))
        go_roundw
        case rel => exact ⟨0 + 1, by omega, by go_num, by rw [SU.out], by rw [SK.out]; exact O2.out, B2.out⟩
        case measure => simp [intOf]; omega
      · have SK := Lib.hid (sk_next l hpos)
        have hposI : (0 : Int) < (k : Int) := by omega
        generalize l.getD k 0 = x at *
        clear hown hbel hc e'
        go_wp2_with (first
        | (at_builtin
           refine list_app_step (o := ⟨some 33, _, _, _, _, _⟩) rfl (.tmp 29) (.tmp 32) rfl B _ (sk l k) rfl (World.ownsRow.alloc HO.out _) _ [(1, x)] rfl (rl_lit wr [(1, x)] (by simp)) A1.out (by simp; omega) ?_
           intro v2 w2 o2 g2 _
           have O2 := Lib.hid o2
           have B2 := Lib.hid ((HBel.out.alloc hsz _).grown g2 (by simp; omega) (fun k hk => (World.ownsRow.lt HO.out k hk).1))
           have Z2 : B ≤ w2.heap.size := by have := g2.size; simp at this; omega
           clear o2 g2)
        | (at_builtin
           refine list_app_step (o := ⟨some 39, _, _, _, _, _⟩) rfl (.tmp 36) (.tmp 38) rfl B v2 (sk l k ++ [(1, x)]) rfl (World.ownsRow.alloc O2.out _) _ [(2, 0)] rfl (rl_lit w2 [(2, 0)] (by simp)) A2.out (by simp; omega) ?_
           intro v3 w3 o3 g3 _
           have O3 := Lib.hid o3
           have B3 := Lib.hid ((B2.out.alloc Z2 _).grown g3 (by simp; omega) (fun k hk => (World.ownsRow.lt O2.out k hk).1))
           clear o3 g3))
        go_roundw
        case rel => exact ⟨k + 1, by omega, by go_num, by rw [SU.out], by rw [SK.out]; exact O3.out, B3.out⟩
        case measure => simp [intOf]; omega
    · have hkl : k = l.length := by omega
      subst hkl
      have S1' := S1.out
      have S2' := S2.out
      have C1 := run_walk (.slice none 0 0) _ [] _ wr (ri_nil wr) hown.rl (by have := HLN.out; omega)
      rw [S1'] at C1
      have H1 := Lib.hid C1
      have C2 : ∀ (w' : World) (v : Value), Below B w w' → RL w' v (sk l l.length ++ [(1, 0), (3, 0), (5, 0)]) → _ := fun w' v hb hv => run_walk _ v l _ w' (ri_below R.out (by rw [← HE.out]; exact hb)) hv (by have := HLN.out; rw [List.length_append]; simp; omega)
      rw [S2'] at C2
      have H2 := Lib.hid C2
      have A3 : Hid ((sk l l.length).length + [((1 : Int), (0 : Int)), (3, 0), (5, 0)].length ≤ 1000000) := Lib.hid (by have := HLN.out; simp; omega)
      have hNb : (sk l l.length).length ≤ 400 := by have := HLN.out; omega
      obtain ⟨q, c, rfl⟩ := hown.shape
      generalize su l l.length = S at *
      generalize hsk : sk l l.length = K at *
      clear hown hbel C1 C2 S1' S2' S1 S2 hsk
      go_wp2_with fail
      refine H1.out.mono ?_; rintro e w1 ⟨v1, rfl, ho1, hb1⟩
      obtain ⟨g, c1, rfl, _, hg, _⟩ := ho1.block (by simp)
      obtain ⟨z0, _⟩ := ho1.cells (j := 0) (by simp)
      have z0' : w1.cell? ⟨g, 0, none⟩ = some (.int .i64 S) := z0
      have B1 := Lib.hid (HBel.out.trans (hb1.mono hsz))
      have hgw : wr.heap.size ≤ g := by omega
      have OK1 := Lib.hid (show OwnL B w1 (.slice q K.length c) K from ⟨HO.out.1, HO.out.2.imp id fun ⟨g, cap, cur, hv, h1, hg, r⟩ => ⟨g, cap, cur, hv, h1, (hb1.block g (Array.getElem?_eq_some_iff.1 hg).1).trans hg, r⟩⟩)
      have Z1 : B ≤ w1.heap.size := by have := hb1.size; omega
      clear ho1 hb1 z0
      go_wp2_with (first
      | (at_builtin
         refine list_app_step (o := ⟨some 57, _, _, _, _, _⟩) rfl (.tmp 52) (.tmp 56) rfl B _ K rfl (World.ownsRow.alloc OK1.out _) _ [(1, 0), (3, 0), (5, 0)] rfl (rl_lit w1 [(1, 0), (3, 0), (5, 0)] (by simp)) A3.out (by simp; omega) ?_
         intro v2 w2 o2 g2 _
         have O2 := Lib.hid (OwnL.rl o2)
         have B2 := Lib.hid ((B1.out.alloc Z1 _).grown g2 (by simp; omega) (fun k hk => (World.ownsRow.lt OK1.out k hk).1))
         have z2 : w2.cell? ⟨g, 0, none⟩ = some (.int .i64 S) := (World.cell?_of_block (g2.block g (by simp; omega) (fun e => by have := (World.ownsRow.lt HO.out g e.symm).2; omega))).trans (cell_kept z0' _)
         have hg2 := World.block_lt_of_cell? w2 _ z2
         clear o2 g2 z0'))
      refine (H2.out w2 v2 B2.out O2.out).mono ?_; rintro e w3 ⟨v3, rfl, ho3, hb3⟩
      obtain ⟨g3, c3, rfl, _, _⟩ := ho3.block (by simp)
      obtain ⟨y0, _⟩ := ho3.cells (j := 0) (by simp)
      obtain ⟨y1, _⟩ := ho3.cells (j := 1) (by simp)
      have y0' : w3.cell? ⟨g3, 0, none⟩ = some (.int .i64 S) := y0
      have y1' : w3.cell? ⟨g3, 1, none⟩ = some (.int .i64 0) := y1
      have z3 : w3.cell? ⟨g, 0, none⟩ = some (.int .i64 S) := (hb3.cell hg2).trans z2
      have B3 := Lib.hid (B2.out.trans (hb3.mono (by have := B2.out.size; have := HE.out; omega)))
      clear ho3 hb3 y0 y1 z2
      go_wp2_with fail
      refine (awake_any _).mono ?_; rintro e w4 ⟨rfl, h4⟩
      go_wp2_with fail
      go_ret
      exact ⟨rfl, B3.out.trans (h4.mono (by have := B3.out.size; have := HE.out; omega))⟩

theorem walk (l0 : List Int) (v0 : Value) (w : World) (w0 : IntsIn .i64 w v0 l0) :
    Calls Try.prog 6 #[v0] w fun e w' => e = .returned (.bool true) ∧ Below w.heap.size w w' := by
  have hr := ri_in w0
  have hwf := in_wf w0
  obtain ⟨p, cap, rfl, _⟩ := w0
  by_cases h : l0.length < 1 ∨ 200 < l0.length
  · exact long p _ cap w h
  · exact short p cap l0 w hr hwf (by omega) (by omega)

set_option maxRecDepth 100000 in
theorem lifted (os : Os) (started : os.Started) (H : Type) (enc : TypeId × Value → H) :
    ReturnsInHanded {} Try.checked os 6 .any (Rows.guardSumsSpec.pre6 enc Try.prog Try.f6 Rows.guardSumsRow.domain false) (Rows.guardSumsSpec.post enc Try.prog Try.f6 false true false false) := by
  refine returnsInHanded_of_change (C := Try.checked) own started (by kernel_rfl) Try.func6
    (ChangeSpec.witness6 (enc := enc) (C := Try.checked) false ⟨#[], #[.slice none 0 0], []⟩ 8 (by kernel_rfl) (by kernel_rfl) (by kernel_rfl) (by kernel_rfl)) ?_
  intro W base args ds gs before hval0 hW hcnd _
  have hval : ∀ (j : Nat) t v, Try.f6.params[j]? = some t → args[j]? = some v → Value.okWide Try.prog W .any base t v := hval0
  have hW' := hW
  have hlt := hW.lt
  obtain ⟨p, q, hA0, hV, hpq, hfz, hnd⟩ := hW
  have hA : DataW.TrodAll enc Try.prog W 0 (fun _ => true) true Try.f6.params.toList args.toList ds p := hA0
  rw [Try.params6] at hA hval
  obtain ⟨v0, vs0, d0, ds0, p0, q0, hargs, rfl, hp, h0, r0⟩ := trodAll_cons hA
  obtain ⟨rfl, rfl, rfl⟩ := trodAll_nil r0
  obtain rfl : args = #[v0] := by cases args; simp_all
  obtain ⟨rfl, rfl⟩ := trodVars_none hV
  have hlt' : ∀ x ∈ before, x.block < W.heap.size := fun x hx => hlt x hx
  obtain ⟨l0, w0⟩ := ints_in Try.underlying22 Try.underlying3 (by kernel_rfl) (hval 0 22 v0 rfl rfl) (fun x hx => hlt' x (by rw [hpq, hp]; simp [hx])) h0
  refine (walk l0 v0 W w0).mono fun e W' ⟨he, hb⟩ => ?_
  subst he
  exact ⟨_, rfl, law_post rfl (by kernel_rfl) hW' (by rw [Try.params6]; intro t ht; simp only [List.mem_cons, List.not_mem_nil, or_false] at ht; (repeat' (first | (rcases ht with rfl | ht) | subst ht)) <;> exact ⟨by kernel_rfl, of_decide_eq_true (by kernel_rfl)⟩) rfl hb⟩

theorem over : Rows.guardSumsRow.holds Try.pinned (OpenSpec.ofChange Rows.guardSumsSpec) :=
  OpenClaim.holds_of_wide 6 Try.f6 rfl rfl rfl rfl rfl rfl rfl ⟨rfl, rfl, rfl, rfl, rfl⟩ rfl rfl rfl rfl rfl (by kernel_rfl) Try.func6 (by kernel_rfl)
    (of_decide_eq_true (by kernel_rfl)) (by unfold Func.isWrapper; first | (rw [if_pos (by decide +kernel)]; kernel_rfl) | (rw [if_neg (by decide +kernel)]; exact ⟨rfl, rfl⟩))
    (fun os started H enc _ => lifted os started H enc)

theorem proved : Rows.GuardSumsSaid := over
end Go.Proofs.Ytlgjfhjnfimahaa.guardSums
