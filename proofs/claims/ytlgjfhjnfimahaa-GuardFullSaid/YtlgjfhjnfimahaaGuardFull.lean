/-
  A stack holds a thousand, and no more. No conditions.
-/
import Derived.Test.YtlgjfhjnfimahaaAwg
namespace Go.Proofs.Ytlgjfhjnfimahaa.guardFull
open Go.Proofs.Ytlgjfhjnfimahaa Go.ChangeShapes Go.WideShapes Go.ChangeAt Go.RowKit

theorem u64_nat (a : Int) : ∃ u : Nat, IntKind.u64.wrap a = (u : Int) ∧ u < 2 ^ 64 := by
  refine ⟨(a % 18446744073709551616).toNat, ?_, by omega⟩
  have h : IntKind.u64.wrap a = a % 18446744073709551616 := by simp [IntKind.wrap, IntKind.signed, IntKind.bits]
  rw [h]; omega
theorem tmod_nat (u n : Nat) : (u : Int).tmod ((n : Nat) : Int) = ((u % n : Nat) : Int) := by rw [Int.natCast_emod]; exact Int.tmod_eq_emod_of_nonneg (by omega)

/-- so many pushes, on a stack that has room for them -/
theorem pushes (v : Int) : ∀ (m : Nat) (t : List Int) (d : Nat), t.length + m ≤ 1000 → run [] t d (List.replicate m (1, v)) = (List.replicate m v ++ t, d + m, true)
  | 0, t, d, _ => by simp [run]
  | m + 1, t, d, h => by
    rw [List.replicate_succ]
    unfold run
    have hs : stp [] t 1 v = some (v :: t) := by unfold stp; rw [if_pos rfl, if_neg (by omega)]
    simp only [hs]
    rw [pushes v m (v :: t) (d + 1) (by simp only [List.length_cons]; omega)]
    have e : List.replicate m v ++ v :: t = v :: (List.replicate m v ++ t) := by
      rw [show v :: t = [v] ++ t from rfl, ← List.append_assoc, ← List.replicate_succ', List.replicate_succ]; rfl
    rw [e, List.replicate_succ]
    simp; omega
theorem run_le {n : Nat} (v : Int) (h : n ≤ 1000) : run [] [] 0 (List.replicate n (1, v)) = (List.replicate n v, n, true) := by
  rw [pushes v n [] 0 (by simpa using h)]; simp
theorem run_gt {n : Nat} (v : Int) (h : 1000 < n) : run [] [] 0 (List.replicate n (1, v)) = (List.replicate 1000 v, 1000, false) := by
  have e : List.replicate n ((1 : Int), v) = List.replicate 1000 (1, v) ++ (1, v) :: List.replicate (n - 1001) (1, v) := by
    rw [← List.replicate_succ, List.replicate_append_replicate]; congr 1; omega
  have h1 := run_le v (Nat.le_refl 1000)
  rw [e, run_append _ _ _ _ _ (by rw [h1]), h1]
  unfold run
  have hs : stp [] (List.replicate 1000 v) 1 v = none := by unfold stp; rw [if_pos rfl, if_pos List.length_replicate]
  simp only [hs]

/-- the steps as they stand after k rounds -/
def stepsAt (n k : Nat) (v : Int) : List (Int × Int) := List.replicate k (1, v) ++ List.replicate (n - k) (0, 0)
theorem stepsAt_length {n k : Nat} (h : k ≤ n) (v : Int) : (stepsAt n k v).length = n := by simp [stepsAt]; omega
theorem stepsAt_next {n k : Nat} (h : k < n) (v : Int) : (stepsAt n k v).set k (1, v) = stepsAt n (k + 1) v := by
  unfold stepsAt
  rw [List.set_append_right _ _ (by simp), show n - k = (n - (k + 1)) + 1 by omega, List.replicate_succ]
  simp [List.replicate_succ', List.append_assoc]
theorem stepsAt_all (n : Nat) (v : Int) : stepsAt n n v = List.replicate n (1, v) := by simp [stepsAt]
theorem fl_zeros (n : Nat) : fl (List.replicate n (0, 0)) = (madeCells #[.int .i64 0, .int .i64 0] (n * 2)).toList := by
  refine List.ext_getElem? fun j => ?_
  by_cases hj : j < n * 2
  · have h2 := fl_length (List.replicate n ((0 : Int), (0 : Int)))
    rw [List.length_replicate] at h2
    obtain ⟨x, y⟩ := fl_at (List.replicate n ((0 : Int), (0 : Int))) (j / 2) (by simp; omega)
    have e : (madeCells #[Value.int .i64 0, .int .i64 0] (n * 2)).toList[j]? = some (.int .i64 0) := by
      have : j % 2 = 0 ∨ j % 2 = 1 := by omega
      rcases this with e | e <;> simp [madeCells, hj, e]
    rw [e]
    have hd : (List.replicate n ((0 : Int), (0 : Int))).getD (j / 2) (0, 0) = (0, 0) := by
      rw [List.getD_eq_getElem?_getD, List.getElem?_replicate]; split <;> rfl
    rw [hd] at x y
    rcases Nat.mod_two_eq_zero_or_one j with m | m
    · rw [show j = j / 2 * 2 by omega, x]; rfl
    · rw [show j = j / 2 * 2 + 1 by omega, y]; rfl
  · rw [List.getElem?_eq_none (by rw [fl_length]; simp; omega), List.getElem?_eq_none (by simp [madeCells]; omega)]

theorem fl_set (l : List (Int × Int)) (x y : Int) : ∀ k, ((fl l).set (k * 2) (iv x)).set (k * 2 + 1) (iv y) = fl (l.set k (x, y)) := by
  induction l with
  | nil => intro k; rfl
  | cons a l ih =>
    intro k
    cases k with
    | zero => rfl
    | succ k =>
      have e : fl (a :: l) = iv a.1 :: iv a.2 :: fl l := rfl
      rw [e, show (k + 1) * 2 = k * 2 + 1 + 1 by omega, List.set_cons_succ, List.set_cons_succ, List.set_cons_succ, List.set_cons_succ, ih k]
      rfl
theorem OwnL.stored {B g c n : Nat} {w : World} {l : List (Int × Int)} (h : OwnL B w (.slice (some ⟨g, 0, none⟩) n c) l) (k : Nat) (x y : Int) :
    OwnL B ((w.setCell ⟨g, k * 2, none⟩ (.int .i64 x)).setCell ⟨g, k * 2 + 1, none⟩ (.int .i64 y)) (.slice (some ⟨g, 0, none⟩) n c) (l.set k (x, y)) := by
  have hn : n = l.length := by
    obtain ⟨p, c', e⟩ := h.shape
    cases e; rfl
  subst hn
  have h1 := (World.ownsRow.stored (g := g) (cap := c) h (k * 2) (iv x)).1
  have h2 := (World.ownsRow.stored (g := g) (cap := c) h1 (k * 2 + 1) (iv y)).1
  rw [fl_set] at h2
  unfold OwnL
  rw [List.length_set]
  exact h2
theorem OwnL.cells {B : Nat} {w : World} {g n c : Nat} {l : List (Int × Int)} (h : OwnL B w (.slice (some ⟨g, 0, none⟩) n c) l) {j : Nat} (hj : j < l.length * 2) : ∃ u, w.cell? ⟨g, j, none⟩ = some u ∧ w.frozen? ⟨g, j, none⟩ = false := by
  have hn : n = l.length := by
    obtain ⟨p, c', e⟩ := h.shape
    cases e; rfl
  subst hn
  refine ⟨(fl l)[j]'(by rw [fl_length]; exact hj), ?_, World.ownsRow.frozenAt (g := g) (cap := c) h j⟩
  rw [World.ownsRow.cellAt (g := g) (cap := c) h j hj]
  exact List.getElem?_eq_getElem _

theorem made (w : World) (n : Nat) (hn : n ≤ 1100) : ∃ w1, (Instr.makeSlice 23 (.int .i64 (n : Int)) (.int .i64 (n : Int))).run Try.prog w = .ok (.slice (some ⟨w.heap.size, 0, none⟩) n n) w1 ∧
    OwnL w.heap.size w1 (.slice (some ⟨w.heap.size, 0, none⟩) n n) (stepsAt n 0 0) ∧ Below w.heap.size w w1 := by
  obtain ⟨i0, hi, hz0, hz1, hz2⟩ := info_parts info_instr
  obtain ⟨w1, h1, h2, h3⟩ := run_make_full (P := Try.prog) w w.heap.size 23 37 i0 (.agg #[.int .i64 0, .int .i64 0]) 2 Try.underlying23 hi hz0 hz1 .i64 .i64 n (by rw [hz2]; omega) (by unfold maxLen; omega) (Nat.le_refl _)
  refine ⟨w1, h1, ?_, (Below.refl _ _).grown h3 (Nat.le_refl _) (by intro k hk; cases hk)⟩
  have e : stepsAt n 0 0 = List.replicate n (0, 0) := by simp [stepsAt]
  rw [e]
  unfold OwnL
  rw [fl_zeros, List.length_replicate]
  exact h2

set_option maxHeartbeats 4000000 in
theorem walk (a0 a1 : Int) (w : World) (_ : (Lit.int .i64 a0).wf = true) (_ : (Lit.int .i64 a1).wf = true) :
    Calls Try.prog 5 #[.int .i64 a0, .int .i64 a1] w fun e w' => e = .returned (.bool true) ∧ Below w.heap.size w w' := by
  obtain ⟨u, hu, _⟩ := u64_nat a0
  obtain ⟨n, hn⟩ : ∃ n, n = u % 1100 := ⟨_, rfl⟩
  have t1 : (u : Int).tmod 1100 = (n : Int) := by have h := tmod_nat u 1100; rw [show ((1100 : Nat) : Int) = 1100 from rfl] at h; rw [hn]; omega
  have hn2 : n < 1100 := by omega
  obtain ⟨w1, hmk, ho, hb⟩ := made w n (by omega)
  have HO := Lib.hid ho
  have HB := Lib.hid hb
  obtain ⟨B, hB⟩ : ∃ B, B = w.heap.size := ⟨_, rfl⟩
  rw [← hB] at HO hmk
  have HE := Lib.hid hB
  clear hn ho hb hB
  go_enter Try.func5, Try.ntmps5
  go_wp2
  go_loopw [18] (fun i wr => ∃ k : Nat, k ≤ n ∧ i = .int .i64 k ∧ OwnL B wr (.slice (some ⟨B, 0, none⟩) n n) (stepsAt n k a1) ∧ Below w.heap.size w wr) (fun i _ => n - (intOf i).toNat)
  case atStart => exact ⟨0, Nat.zero_le _, rfl, by have := HO.out; simpa [stepsAt] using this, HB.out⟩
  case round =>
    clear hmk
    obtain ⟨k, hk, rfl, hown, hbel⟩ := hrel
    have HBel := Lib.hid hbel
    have HO1 := Lib.hid hown
    by_cases hlt : k < n
    · obtain ⟨y1, d1, z1⟩ := OwnL.cells hown (j := k * 2) (by rw [stepsAt_length hk]; omega)
      obtain ⟨y2, d2, z2⟩ := OwnL.cells hown (j := k * 2 + 1) (by rw [stepsAt_length hk]; omega)
      have hst := OwnL.stored hown k 1 a1
      rw [stepsAt_next hlt] at hst
      have HS := Lib.hid hst
      clear hst hown hbel
      go_wp2
      go_roundw
      case rel => exact ⟨k + 1, by omega, by go_num, HS.out, (HBel.out.setCell (by rw [← HE.out]; exact Nat.le_refl _) _).setCell (by rw [← HE.out]; exact Nat.le_refl _) _⟩
      case measure => simp [intOf]; omega
    · have hkn : k = n := by omega
      subst hkn
      rcases Nat.lt_or_ge 1000 k with hgt | hle
      · have hgtI : (1000 : Int) < (k : Int) := by omega
        have hdec : decide ((k : Int) ≤ 1000) = false := decide_eq_false (by omega)
        have C0 := run_walk (.slice none 0 0) _ [] (stepsAt k k a1) wr (ri_nil wr) hown.rl (by rw [stepsAt_length (Nat.le_refl _)]; omega)
        rw [stepsAt_all, run_gt a1 hgt, List.reverse_replicate] at C0
        have C := Lib.hid C0
        clear C0 hown hbel HO1
        go_wp2_with fail
        refine C.out.mono ?_; rintro e w2 ⟨v, rfl, ho, hb⟩
        obtain ⟨g, c, hv, _⟩ := ho.block (by rw [List.length_replicate]; omega)
        obtain ⟨c0, _⟩ := (show OwnI wr.heap.size w2 (.slice (some ⟨g, 0, none⟩) _ c) _ from hv ▸ ho).cells (j := 0) (by rw [List.length_replicate]; omega)
        rw [show (List.replicate 1000 a1).getD 0 0 = a1 by rw [List.getD_eq_getElem?_getD, List.getElem?_replicate, if_pos (by omega)]; rfl] at c0
        rw [List.length_replicate] at hv
        subst hv
        have HB2 := Lib.hid (HBel.out.trans (hb.mono HBel.out.size))
        clear ho hb
        go_wp2_with fail
        refine (awake_any _).mono ?_; rintro e w3 ⟨rfl, hb⟩
        go_wp2_with fail
        go_ret
        exact ⟨rfl, below_more HB2.out hb⟩
      · rcases Nat.eq_zero_or_pos k with h0 | hpos
        · subst h0
          have C0 := run_walk (.slice none 0 0) _ [] (stepsAt 0 0 a1) wr (ri_nil wr) hown.rl (by rw [stepsAt_length (Nat.le_refl _)]; omega)
          rw [stepsAt_all, run_le a1 hle, List.reverse_replicate] at C0
          have C := Lib.hid C0
          clear C0 hown hbel HO1
          go_wp2_with fail
          refine C.out.mono ?_; rintro e w2 ⟨v, rfl, ho, hb⟩
          obtain ⟨p, c, hv⟩ := ho.shape
          rw [List.length_replicate] at hv
          subst hv
          have HB2 := Lib.hid (HBel.out.trans (hb.mono HBel.out.size))
          clear ho hb
          go_wp2_with fail
          refine (awake_any _).mono ?_; rintro e w3 ⟨rfl, hb⟩
          go_wp2_with fail
          go_ret
          exact ⟨rfl, below_more HB2.out hb⟩
        · have hleI : (k : Int) ≤ (1000 : Int) := by omega
          have hne : ((k : Int) == 0) = false := by simp; omega
          have hposI : (0 : Int) < (k : Int) := by omega
          have C0 := run_walk (.slice none 0 0) _ [] (stepsAt k k a1) wr (ri_nil wr) hown.rl (by rw [stepsAt_length (Nat.le_refl _)]; omega)
          rw [stepsAt_all, run_le a1 hle, List.reverse_replicate] at C0
          have C := Lib.hid C0
          clear C0 hown hbel HO1
          go_wp2_with fail
          refine C.out.mono ?_; rintro e w2 ⟨v, rfl, ho, hb⟩
          obtain ⟨g, c, hv, _⟩ := ho.block (by rw [List.length_replicate]; omega)
          obtain ⟨c0, _⟩ := (show OwnI wr.heap.size w2 (.slice (some ⟨g, 0, none⟩) _ c) _ from hv ▸ ho).cells (j := 0) (by rw [List.length_replicate]; omega)
          rw [show (List.replicate k a1).getD 0 0 = a1 by rw [List.getD_eq_getElem?_getD, List.getElem?_replicate, if_pos (by omega)]; rfl] at c0
          rw [List.length_replicate] at hv
          subst hv
          have HB2 := Lib.hid (HBel.out.trans (hb.mono HBel.out.size))
          clear ho hb
          go_wp2_with fail
          refine (awake_any _).mono ?_; rintro e w3 ⟨rfl, hb⟩
          go_wp2_with fail
          go_ret
          exact ⟨rfl, below_more HB2.out hb⟩

set_option maxRecDepth 100000 in
theorem lifted (os : Os) (started : os.Started) (H : Type) (enc : TypeId × Value → H) :
    ReturnsInHanded {} Try.checked os 5 .any (Rows.guardFullSpec.pre6 enc Try.prog Try.f5 Rows.guardFullRow.domain false) (Rows.guardFullSpec.post enc Try.prog Try.f5 false true false false) := by
  refine returnsInHanded_of_change (C := Try.checked) own started (by kernel_rfl) Try.func5
    (ChangeSpec.witness6 (enc := enc) (C := Try.checked) false ⟨#[], #[.int .i64 0, .int .i64 0], []⟩ 8 (by kernel_rfl) (by kernel_rfl) (by kernel_rfl) (by kernel_rfl)) ?_
  intro W base args ds gs before hval0 hW hcnd _
  have hval : ∀ (j : Nat) t v, Try.f5.params[j]? = some t → args[j]? = some v → Value.okWide Try.prog W .any base t v := hval0
  have hW' := hW
  have hlt := hW.lt
  obtain ⟨p, q, hA0, hV, hpq, hfz, hnd⟩ := hW
  have hA : DataW.TrodAll enc Try.prog W 0 (fun _ => true) true Try.f5.params.toList args.toList ds p := hA0
  rw [Try.params5] at hA hval
  obtain ⟨v0, vs0, d0, ds0, p0, q0, hargs, rfl, hp, h0, r0⟩ := trodAll_cons hA
  obtain ⟨v1, vs1, d1, ds1, p1, q1, rfl, rfl, rfl, h1, r1⟩ := trodAll_cons r0
  obtain ⟨rfl, rfl, rfl⟩ := trodAll_nil r1
  obtain rfl : args = #[v0, v1] := by cases args; simp_all
  obtain ⟨rfl, rfl⟩ := trodVars_none hV
  have hlt' : ∀ x ∈ before, x.block < W.heap.size := fun x hx => hlt x hx
  obtain ⟨a0, rfl, rfl, rfl, w0⟩ := open_int Try.underlying3 (hval 0 3 v0 rfl rfl) h0
  obtain ⟨a1, rfl, rfl, rfl, w1⟩ := open_int Try.underlying3 (hval 1 3 v1 rfl rfl) h1
  refine (walk a0 a1 W w0 w1).mono fun e W' ⟨he, hb⟩ => ?_
  subst he
  exact ⟨_, rfl, law_post rfl (by kernel_rfl) hW' (by rw [Try.params5]; intro t ht; simp only [List.mem_cons, List.not_mem_nil, or_false] at ht; (repeat' (first | (rcases ht with rfl | ht) | subst ht)) <;> exact ⟨by kernel_rfl, of_decide_eq_true (by kernel_rfl)⟩) rfl hb⟩

theorem over : Rows.guardFullRow.holds Try.pinned (OpenSpec.ofChange Rows.guardFullSpec) :=
  OpenClaim.holds_of_wide 5 Try.f5 rfl rfl rfl rfl rfl rfl rfl ⟨rfl, rfl, rfl, rfl, rfl⟩ rfl rfl rfl rfl rfl (by kernel_rfl) Try.func5 (by kernel_rfl)
    (of_decide_eq_true (by kernel_rfl)) (by unfold Func.isWrapper; first | (rw [if_pos (by decide +kernel)]; kernel_rfl) | (rw [if_neg (by decide +kernel)]; exact ⟨rfl, rfl⟩))
    (fun os started H enc _ => lifted os started H enc)

theorem proved : Rows.GuardFullSaid := over
end Go.Proofs.Ytlgjfhjnfimahaa.guardFull
