/-
  A move moves one line alone, to where the gap was; all others stay; each line has a slot of its own, never the gap. No conditions.
-/
import Derived.Test.YtmodoploohnbcaaGpc
import Derived.Maps.Own
import Derived.Maps.Views
namespace Go.Proofs.Ytmodoploohnbcaa.gapMoves
open Go.Proofs.Ytmodoploohnbcaa Go.ChangeShapes Go.WideShapes Go.ChangeAt Go.RowKit Go.Maps

theorem law : Keyed Try.prog 3 := int_keyed Try.underlying3
theorem zeroI (w : World) : (zeroValue 3).run Try.prog w = .ok (.int .i64 0) w := by kernel_rfl
/-- block b is a map of ints that holds something but nought at none but the first k slots -/
def Seen (w : World) (b k : Nat) (f : Nat → Nat) : Prop :=
  ∃ D : DataW Unit, w.ownsMap Try.prog 3 (plainElem Try.prog 3) b k D ∧ ∀ x : Nat, (∀ j, j < k → x ≠ f j) → D.atKey (.int .i64 x) (.lit (.int .i64 0)) = .lit (.int .i64 0)
theorem Seen.look {w : World} {b k : Nat} {f : Nat → Nat} (h : Seen w b k f) (x : Nat) (hx : x < 9223372036854775808) (hn : ∀ j, j < k → x ≠ f j) :
    (Instr.lookup 29 (.map (some b)) (.int .i64 x) false).run Try.prog w = .ok (.int .i64 0) w := by
  obtain ⟨D, ho, hd⟩ := h
  obtain ⟨c, hrun, hat, _⟩ := ho.lookup_int law Try.underlying29 Try.underlying3 (zeroI w) (keyOf_int_mk Try.underlying3 (i64_of (a := (x : Int)) (by omega) (by omega)))
  rw [hd x hn] at hat
  have e : c = 0 := by simpa using hat.symm
  rw [hrun, e]
theorem Seen.put {w1 : World} {b k : Nat} {f : Nat → Nat} {D : DataW Unit} (hd : ∀ x : Nat, (∀ j, j < k → x ≠ f j) → D.atKey (.int .i64 x) (.lit (.int .i64 0)) = .lit (.int .i64 0))
    {d : DataW Unit} (h1 : w1.ownsMap Try.prog 3 (plainElem Try.prog 3) b (k + 1) (D.put (.int .i64 (f k : Nat)) d)) : Seen w1 b (k + 1) f := by
  refine ⟨_, h1, fun x hx => ?_⟩
  have hne : (Lit.int .i64 (x : Int)) ≠ Lit.int .i64 (f k : Nat) := by
    intro e
    injection e with _ e
    exact hx k (by omega) (by omega)
  rw [atKey_put_other hne]
  exact hd x fun j hj => hx j (by omega)

set_option maxRecDepth 100000 in
set_option maxHeartbeats 1000000 in
theorem walk (a0 a1 : Int) (w : World) (_ : (Lit.int .i64 a0).wf = true) (_ : (Lit.int .i64 a1).wf = true) :
    Calls Try.prog 4 #[.int .i64 a0, .int .i64 a1] w fun e w' => e = .returned (.bool true) ∧ Below w.heap.size w w' := by
  obtain ⟨u, hu, _⟩ := u64_nat a0
  obtain ⟨c, hc⟩ : ∃ c, c = u % 60 := ⟨_, rfl⟩
  have t1 : (u : Int).tmod 60 = (c : Int) := by rw [hc]; exact tmod_nat u 60
  have k0 : IntKind.i64.wrap (c : Int) = c := i64_nat _ (by omega)
  obtain ⟨n, hn⟩ : ∃ n : Nat, n = 1 + c := ⟨_, rfl⟩
  have k1 : IntKind.i64.wrap (1 + (c : Int)) = (n : Int) := by rw [show 1 + (c : Int) = (n : Int) by omega]; exact i64_nat _ (by omega)
  obtain ⟨v, hv, _⟩ := u64_nat a1
  obtain ⟨m, hm⟩ : ∃ m, m = v % 100000 := ⟨_, rfl⟩
  have t2 : (v : Int).tmod 100000 = (m : Int) := by rw [hm]; exact tmod_nat v 100000
  have k2 : IntKind.i64.wrap (m : Int) = m := i64_nat _ (by omega)
  obtain ⟨M, hM⟩ : ∃ M, M = m + 1 := ⟨_, rfl⟩
  have k3 : IntKind.i64.wrap ((m : Int) + 1) = (M : Int) := by rw [show (m : Int) + 1 = (M : Int) by omega]; exact i64_nat _ (by omega)
  have hn1 : 1 ≤ n := by omega
  have hn2 : n ≤ 100000 := by omega
  have CM := Lib.hid fun w => move_yes n m w hn1 hn2
  have CF := Lib.hid fun w => line_yes n m (frN n m) w hn1 hn2 (by omega) (frN_le n m) (frN_ne hn1 m)
  have CG := Lib.hid fun w => gap_yes n m w hn1 hn2
  have CH := Lib.hid fun w => gap_yes n M w hn1 hn2
  rw [show gN n M = frN n m by rw [hM]; exact gN_next m] at CH
  have CL := Lib.hid fun s w (h : s ≤ n) (hg : s ≠ gN n m) => line_yes n m s w hn1 hn2 (by omega) h hg
  have CS := Lib.hid fun l w (h : l < n) => slot_yes n m l w hn2 (by omega) h
  have CT := Lib.hid fun l w (h : l < n) => slot_yes n M l w hn2 (by omega) h
  have CN := Lib.hid fun w => line_gap n m w hn1 hn2
  have FL := Lib.hid fun l (h : l < n) => lnN_slN m h
  have FE := Lib.hid fun l => slN_ne n m l
  have FK := Lib.hid fun l => slN_le hn1 m l
  have FN : Hid (∀ l, l < n → slN n M l = if slN n m l = frN n m then gN n m else slN n m l) := Lib.hid fun l h => by rw [hM]; exact slN_next h m
  have FB := slN_lnN hn1 m (frN_le n m) (frN_ne hn1 m)
  have HN := Lib.hid (show n ≤ 60 by omega)
  obtain ⟨g, hg⟩ : ∃ g, gN n m = g := ⟨_, rfl⟩
  obtain ⟨f, hf⟩ : ∃ f, frN n m = f := ⟨_, rfl⟩
  obtain ⟨mv, hmv⟩ : ∃ mv, lnN n m f = mv := ⟨_, rfl⟩
  have HG := Lib.hid hg
  rw [hf, hmv] at FB
  rw [hf, hg] at CM FN
  rw [hf, hmv] at CF
  rw [hg] at CG CN
  rw [hf] at CH
  have HV := Lib.hid hmv
  have HB := Lib.hid FB
  have k4 : ¬ (mv : Int) < 0 := by omega
  have hmm := @run_makeMap Try.prog
  clear hc hn hm hM hn1 hn2 hg hf hmv FB
  go_enter Try.func4, Try.ntmps4
  go_wp2_with fail
  refine (CM.out _).mono ?_; rintro e w' ⟨rfl, rfl⟩
  go_wp2_with fail
  refine (CF.out _).mono ?_; rintro e w' ⟨rfl, rfl⟩
  go_wp2_with fail
  refine (CG.out _).mono ?_; rintro e w' ⟨rfl, rfl⟩
  go_wp2_with fail
  refine (CH.out _).mono ?_; rintro e w' ⟨rfl, rfl⟩
  go_wp2
  go_loopw [50] (fun i wr => ∃ k : Nat, k ≤ n ∧ i = .int .i64 k ∧ Hid (Seen wr w.heap.size k (slN n m) ∧ Below w.heap.size w wr)) (fun i _ => n - (intOf i).toNat)
  case atStart => exact ⟨0, Nat.zero_le _, rfl, Lib.hid ⟨⟨_, World.ownsMap_made _ _ _ _, fun _ _ => rfl⟩, (Below.refl _ _).alloc (Nat.le_refl _) _⟩⟩
  case round =>
    obtain ⟨k, hk, rfl, H⟩ := hrel
    clear hmm
    by_cases hlt : k < n
    · have j0 : IntKind.i64.wrap ((k : Int) + 1) = ((k + 1 : Nat) : Int) := by rw [show (k : Int) + 1 = ((k + 1 : Nat) : Int) by omega]; exact i64_nat _ (by have := HN.out; omega)
      obtain ⟨a, ha⟩ : ∃ a, slN n m k = a := ⟨_, rfl⟩
      have D1 := Lib.hid fun w => CS.out k w hlt
      have D2 := Lib.hid fun w => CT.out k w hlt
      have hal := FK.out k
      have hag := FE.out k
      have hla := FL.out k hlt
      have D3 := Lib.hid fun w => CL.out (slN n m k) w hal hag
      have hnx := FN.out k hlt
      have hnew : ∀ j, j < k → a ≠ slN n m j := fun j hj e => by
        have h1 := FL.out j (by omega)
        rw [← e, ← ha, hla] at h1
        omega
      have hlook := H.out.1.look a (by rw [← ha]; have := HN.out; omega) hnew
      rw [hla] at D3
      rw [HG.out] at hag
      rw [ha] at D1 D3 hal hag hla hnx
      obtain ⟨b, hb⟩ : ∃ b, slN n M k = b := ⟨_, rfl⟩
      rw [hb] at D2 hnx
      have j1 : ¬ (a : Int) < 0 := by omega
      have j2 : ¬ (n : Int) < (a : Int) := by omega
      have j2' : ¬ n < a := by omega
      have j3 : ((a : Int) == (g : Int)) = false := by simpa using (show ¬ (a : Int) = (g : Int) by omega)
      have han : a < 9223372036854775808 := by have := HN.out; omega
      have HS := Lib.hid H.out.1
      have HW := Lib.hid H.out.2
      have HA := Lib.hid ha
      have HAN := Lib.hid han
      clear H hb hal hag hnew han
      by_cases e : k = mv
      · subst e
        have e1 : a = f := by rw [← ha]; exact HB.out
        have e2 : b = g := by rw [hnx, if_pos e1]
        subst e1 e2
        clear hnx ha hla
        go_wp2_with fail
        refine (D1.out _).mono ?_; rintro e w' ⟨rfl, rfl⟩
        go_wp2_with fail
        refine (D2.out _).mono ?_; rintro e w' ⟨rfl, rfl⟩
        go_wp2_with fail
        refine (D3.out _).mono ?_; rintro e w' ⟨rfl, rfl⟩
        obtain ⟨D, hown, hd⟩ := HS.out
        go_wp2_with (first | (at_mapUpdate; refine wpList_mapUpdate_own _ rfl _ _ _ 29 rfl 3 3 law Try.underlying29 _ w.heap.size k _ rfl hown (by unfold maxLen; have := HN.out; omega) _ _ _ rfl rfl (keyOf_int_mk Try.underlying3 (i64_of (by omega) (by have := HAN.out; omega))) _ [] (plainElem_int Try.underlying3 (by decide)) ?_; intro w1 hown1 hgrow1) | go_in)
        exact ⟨⟨k + 1, by omega, by go_num, Lib.hid ⟨Seen.put hd (by rw [HA.out]; exact hown1), HW.out.grown hgrow1 HW.out.size (fun j hj => by cases hj; exact Nat.le_refl _)⟩⟩, by simp [intOf]; omega⟩
      · have e1 : ¬ a = f := fun q => e (by rw [← hla, q]; exact HV.out)
        have e2 : b = a := by rw [hnx, if_neg e1]
        subst e2
        have j5 : ((k : Int) == (mv : Int)) = false := by simpa using (show ¬ (k : Int) = (mv : Int) by omega)
        clear hnx ha hla e1
        go_wp2_with fail
        refine (D1.out _).mono ?_; rintro e w' ⟨rfl, rfl⟩
        go_wp2_with fail
        refine (D2.out _).mono ?_; rintro e w' ⟨rfl, rfl⟩
        go_wp2_with fail
        refine (D3.out _).mono ?_; rintro e w' ⟨rfl, rfl⟩
        obtain ⟨D, hown, hd⟩ := HS.out
        go_wp2_with (first | (at_mapUpdate; refine wpList_mapUpdate_own _ rfl _ _ _ 29 rfl 3 3 law Try.underlying29 _ w.heap.size k _ rfl hown (by unfold maxLen; have := HN.out; omega) _ _ _ rfl rfl (keyOf_int_mk Try.underlying3 (i64_of (by omega) (by have := HAN.out; omega))) _ [] (plainElem_int Try.underlying3 (by decide)) ?_; intro w1 hown1 hgrow1) | go_in)
        exact ⟨⟨k + 1, by omega, by go_num, Lib.hid ⟨Seen.put hd (by rw [HA.out]; exact hown1), HW.out.grown hgrow1 HW.out.size (fun j hj => by cases hj; exact Nat.le_refl _)⟩⟩, by simp [intOf]; omega⟩
    · obtain rfl : k = n := by omega
      have B1 := Lib.hid H.out.2
      go_wp2_with fail
      refine (CN.out _).mono ?_; rintro e w' ⟨rfl, rfl⟩
      go_wp2_with fail
      refine (awake_any _).mono ?_; rintro e w' ⟨rfl, hb⟩
      have B5 := Lib.hid (below_more B1.out hb)
      go_wp2
      go_ret
      exact ⟨rfl, B5.out⟩

set_option maxRecDepth 100000 in
theorem lifted (os : Os) (started : os.Started) (H : Type) (enc : TypeId × Value → H) :
    ReturnsInHanded {} Try.checked os 4 .any (Rows.gapMovesSpec.pre6 enc Try.prog Try.f4 Rows.gapMovesRow.domain false) (Rows.gapMovesSpec.post enc Try.prog Try.f4 false true false false) := by
  refine returnsInHanded_of_change (C := Try.checked) own started (by kernel_rfl) Try.func4
    (ChangeSpec.witness6 (enc := enc) (C := Try.checked) false ⟨#[], #[.int .i64 0, .int .i64 0], []⟩ 8 (by kernel_rfl) (by kernel_rfl) (by kernel_rfl) (by kernel_rfl)) ?_
  intro W base args ds gs before hval0 hW hcnd _
  have hval : ∀ (j : Nat) t v, Try.f4.params[j]? = some t → args[j]? = some v → Value.okWide Try.prog W .any base t v := hval0
  have hW' := hW
  have hlt := hW.lt
  obtain ⟨p, q, hA0, hV, hpq, hfz, hnd⟩ := hW
  have hA : DataW.TrodAll enc Try.prog W 0 (fun _ => true) true Try.f4.params.toList args.toList ds p := hA0
  rw [Try.params4] at hA hval
  obtain ⟨v0, vs0, d0, ds0, p0, q0, hargs, rfl, hp, h0, r0⟩ := trodAll_cons hA
  obtain ⟨v1, vs1, d1, ds1, p1, q1, rfl, rfl, rfl, h1, r1⟩ := trodAll_cons r0
  obtain ⟨rfl, rfl, rfl⟩ := trodAll_nil r1
  obtain rfl : args = #[v0, v1] := by cases args; simp_all
  obtain ⟨rfl, rfl⟩ := trodVars_none hV
  have hlt' : ∀ x ∈ before, x.block < W.heap.size := fun x hx => hlt x hx
  obtain ⟨a0, rfl, rfl, rfl, w0⟩ := open_int Try.underlying3 (hval 0 3 v0 rfl rfl) h0
  obtain ⟨a1, rfl, rfl, rfl, w1⟩ := open_int Try.underlying3 (hval 1 3 v1 rfl rfl) h1
  refine (walk a0 a1 W w0 w1).mono fun e W' ⟨he, hb⟩ => ?_
  subst he
  exact ⟨_, rfl, law_post rfl (by kernel_rfl) hW' (by rw [Try.params4]; intro t ht; simp only [List.mem_cons, List.not_mem_nil, or_false] at ht; (repeat' (first | (rcases ht with rfl | ht) | subst ht)) <;> exact ⟨by kernel_rfl, of_decide_eq_true (by kernel_rfl)⟩) rfl hb⟩

theorem over : Rows.gapMovesRow.holds Try.pinned (OpenSpec.ofChange Rows.gapMovesSpec) :=
  OpenClaim.holds_of_wide 4 Try.f4 rfl rfl rfl rfl rfl rfl rfl ⟨rfl, rfl, rfl, rfl, rfl⟩ rfl rfl rfl rfl rfl (by kernel_rfl) Try.func4 (by kernel_rfl)
    (of_decide_eq_true (by kernel_rfl)) (by unfold Func.isWrapper; first | (rw [if_pos (by decide +kernel)]; kernel_rfl) | (rw [if_neg (by decide +kernel)]; exact ⟨rfl, rfl⟩))
    (fun os started H enc _ => lifted os started H enc)

theorem proved : Rows.GapMovesSaid := over
end Go.Proofs.Ytmodoploohnbcaa.gapMoves
