/-
  Contract of guard.Run.
-/
import Derived.Test.YtlgjfhjnfimahaaAll
import Derived.Test.YtlgjfhjnfimahaaHolds
namespace Go.Proofs.Ytlgjfhjnfimahaa
open Go.RowKit

theorem run1_ret (w0 : World) (bm n0 : Nat) (rv lv : Value) (row : List Int) (l : List (Int × Int)) (w : World) (h : Mc w0 bm rv w [] 0) (hc : w.cell? ⟨n0, 0, none⟩ = some lv) (hl : RL w lv l)
    (hbr : ∀ w1 : World, (∀ p : Addr, p.block < bm → w1.cell? p = w0.cell? p) → RI w1 rv row ∧ RL w1 lv l) (hsm : l.length ≤ 1000000) (hb : (run row [] 0 l).2.2 = true) :
    Calls Try.prog 19 #[.pointer (some ⟨bm, 0, none⟩), .pointer (some ⟨n0, 0, none⟩)] w fun e w' => e = .returned (.tuple #[]) ∧ Mc w0 bm rv w' (run row [] 0 l).1 ((run row [] 0 l).2.1 : Nat) := by
  have C := Lib.hid (all_any w0 bm rv lv row l w h hl hbr hsm)
  obtain ⟨q, cl, rfl, _⟩ := hl
  have HB := Lib.hid hb
  clear h hbr hb
  go_enter Try.func19, Try.ntmps19
  go_wp2_with fail
  refine C.out.mono ?_; rintro e w1 ⟨he, hM⟩
  rw [HB.out] at he
  obtain rfl : e = .returned (.tuple #[]) := by unfold EndsAs at he; rwa [if_pos rfl] at he
  have HM := Lib.hid hM
  clear hM he
  go_wp2
  go_end0
  exact ⟨rfl, HM.out⟩

theorem run1_dies (w0 : World) (bm n0 : Nat) (rv lv : Value) (row : List Int) (l : List (Int × Int)) (w : World) (h : Mc w0 bm rv w [] 0) (hc : w.cell? ⟨n0, 0, none⟩ = some lv) (hl : RL w lv l)
    (hbr : ∀ w1 : World, (∀ p : Addr, p.block < bm → w1.cell? p = w0.cell? p) → RI w1 rv row ∧ RL w1 lv l) (hsm : l.length ≤ 1000000) (hb : (run row [] 0 l).2.2 = false) :
    Calls Try.prog 19 #[.pointer (some ⟨bm, 0, none⟩), .pointer (some ⟨n0, 0, none⟩)] w fun e w' => (∃ u pv, e = .panicked [{ v := .iface u pv, recovered := false }]) ∧ Mc w0 bm rv w' (run row [] 0 l).1 ((run row [] 0 l).2.1 : Nat) := by
  have C := Lib.hid (all_any w0 bm rv lv row l w h hl hbr hsm)
  obtain ⟨q, cl, rfl, _⟩ := hl
  have HB := Lib.hid hb
  clear h hbr hb
  go_enter Try.func19, Try.ntmps19
  go_wp2_with fail
  refine C.out.mono ?_; rintro e w1 ⟨he, hM⟩
  rw [HB.out] at he
  obtain ⟨u, pv, rfl⟩ : Died e := by unfold EndsAs at he; rwa [if_neg (by simp)] at he
  have HM := Lib.hid hM
  clear hM he
  go_wp2
  exact ⟨rfl, ⟨_, _, rfl⟩, HM.out⟩

/-- the world in which the steps begin -/
def W1 (w : World) (rv lv : Value) : World := ((w.alloc (.cells #[lv] 23)).alloc (.cells #[rv, .slice none 0 0, .int .i64 0] 43)).alloc (.cells #[.bool false] 4)
theorem W1_size (w : World) (rv lv : Value) : (W1 w rv lv).heap.size = w.heap.size + 3 := by simp [W1]
theorem W1_below (w : World) (rv lv : Value) : Below w.heap.size w (W1 w rv lv) := bal (bal (bal (Below.refl _ _)))
theorem W1_mc (w : World) (rv lv : Value) : Mc (W1 w rv lv) (w.heap.size + 1) rv (W1 w rv lv) [] 0 := by
  refine ⟨by rw [W1_size]; omega, World.grownBy.refl _ _, by simp, .slice none 0 0, ?_, World.ownsRow_nil _ _ _ _⟩
  have h : Whole ((w.alloc (.cells #[lv] 23)).alloc (.cells #[rv, .slice none 0 0, .int .i64 0] 43)) (w.heap.size + 1) 43 #[rv, .slice none 0 0, .int .i64 0] := by
    have := heap_alloc_new (w.alloc (.cells #[lv] 23)) (.cells #[rv, .slice none 0 0, .int .i64 0] 43)
    rw [size_alloc] at this; exact this
  exact h.alloc _
theorem W1_l (w : World) (rv lv : Value) : (W1 w rv lv).cell? ⟨w.heap.size, 0, none⟩ = some lv := by simp [W1, go_sem]
theorem W1_old {w : World} {rv lv : Value} {row : List Int} {l : List (Int × Int)} (hr : RI w rv row) (hl : RL w lv l) (w1 : World) (h : ∀ p : Addr, p.block < w.heap.size + 1 → w1.cell? p = (W1 w rv lv).cell? p) : RI w1 rv row ∧ RL w1 lv l :=
  ⟨ri_same hr fun p hp => (h p (by omega)).trans ((W1_below w rv lv).cell hp), rl_same hl fun p hp => (h p (by omega)).trans ((W1_below w rv lv).cell hp)⟩
/-- the variable of the result is as it was -/
theorem W1_ok {w w1 : World} {rv lv : Value} {t : List Int} {d : Int} (h : Mc (W1 w rv lv) (w.heap.size + 1) rv w1 t d) : w1.cell? ⟨w.heap.size + 2, 0, none⟩ = some (.bool false) ∧ w1.frozen? ⟨w.heap.size + 2, 0, none⟩ = false := by
  have hb := h.far.block (w.heap.size + 2) (by rw [W1_size]; omega) (by simp)
  constructor
  · rw [World.cell?_of_block (w := W1 w rv lv) hb]; simp [W1, go_sem]
  · rw [World.frozen?_of_block (w := W1 w rv lv) hb]; simp [W1, go_sem]

/-- behind holds -/
theorem after_holds {w w1 : World} {rv lv : Value} {t : List Int} {d : Int} (h : Mc (W1 w rv lv) (w.heap.size + 1) rv w1 t d) (b : Bool) (k : Nat) (hk : k = w.heap.size + 2) :
    ∃ p c, (w1.setCell ⟨k, 0, none⟩ (.bool b)).cell? ⟨w.heap.size + 1, 1, none⟩ = some (.slice p t.length c) ∧ (w1.setCell ⟨k, 0, none⟩ (.bool b)).cell? ⟨w.heap.size + 1, 2, none⟩ = some (.int .i64 d) ∧
      OwnI w.heap.size (w1.setCell ⟨k, 0, none⟩ (.bool b)) (.slice p t.length c) t.reverse ∧ Below w.heap.size w (w1.setCell ⟨k, 0, none⟩ (.bool b)) := by
  subst hk
  obtain ⟨p, c, hv, _⟩ := h.view
  obtain ⟨_, c1, c2, _, _⟩ := hv.cells
  refine ⟨p, c, ?_, ?_, ?_, ?_⟩
  · rw [World.cell?_setCell_other w1 _ _ _ (by simp)]; exact c1
  · rw [World.cell?_setCell_other w1 _ _ _ (by simp)]; exact c2
  · exact (hv.own.far (by rw [W1_size]; simp) _).mono (by rw [W1_size]; omega)
  · refine Below.setCell ?_ (by simp) _
    refine (W1_below w rv lv).trans ⟨h.far.os, h.far.tape, h.far.output, h.far.size, fun k hk => h.far.block k (by rw [W1_size]; omega) (by intro e; cases e; omega)⟩

theorem run_walk (rv lv : Value) (row : List Int) (l : List (Int × Int)) (w : World) (hr : RI w rv row) (hl : RL w lv l) (hsm : l.length ≤ 1000000) :
    Calls Try.prog 13 #[rv, lv] w fun e w' => ∃ v, e = .returned (.tuple #[v, .int .i64 ((run row [] 0 l).2.1 : Nat), .bool (run row [] 0 l).2.2]) ∧ OwnI w.heap.size w' v (run row [] 0 l).1.reverse ∧ Below w.heap.size w w' := by
  have hmf : ∀ (fn : Fn) (first cap : Array Value) (w : World), (Instr.makeFunc fn first cap).run Try.prog w = .ok (.func fn first cap) w := fun _ _ _ _ => rfl
  have HR := Lib.hid hr
  have HL := Lib.hid hl
  obtain ⟨q, cl, rfl, _⟩ := hr
  obtain ⟨q2, cl2, rfl, _⟩ := hl
  cases hb : (run row [] 0 l).2.2 with
  | true =>
    have C := Lib.hid (run1_ret (W1 w (.slice q row.length cl) (.slice q2 l.length cl2)) (w.heap.size + 1) w.heap.size _ _ row l _ (W1_mc w _ _) (W1_l w _ _) (rl_below HL.out (W1_below w _ _)) (W1_old HR.out HL.out) hsm hb)
    clear hb
    generalize (run row [] 0 l).1 = t at *
    generalize (run row [] 0 l).2.1 = d at *
    go_enter Try.func13, Try.ntmps13
    go_wp2_with fail
    refine (holds_ret 19 _ _ (fun w' => Mc (W1 w (.slice q row.length cl) (.slice q2 l.length cl2)) (w.heap.size + 1) (.slice q row.length cl) w' t (d : Nat)) (fun w => by simp [go_sem]) ?_).mono ?_
    · refine C.out.mono ?_
      rintro e w1 ⟨he, hM⟩
      exact ⟨he, hM, by simpa [OkVar] using W1_ok hM⟩
    rintro e w' ⟨rfl, w1, hM, rfl⟩
    simp only [size_alloc]
    obtain ⟨p, c, c1, c2, ho, hb⟩ := after_holds hM true (w.heap.size + 1 + 1) rfl
    have HO := Lib.hid ho
    have HB := Lib.hid hb
    clear ho hb
    generalize w1.setCell _ _ = w2 at *
    clear hM
    go_wp2_with fail
    go_quiet (fail)
    go_wp2_with fail
    go_ret3
    exact ⟨_, rfl, HO.out, below_drewN HB.out _⟩
  | false =>
    have C := Lib.hid (run1_dies (W1 w (.slice q row.length cl) (.slice q2 l.length cl2)) (w.heap.size + 1) w.heap.size _ _ row l _ (W1_mc w _ _) (W1_l w _ _) (rl_below HL.out (W1_below w _ _)) (W1_old HR.out HL.out) hsm hb)
    clear hb
    generalize (run row [] 0 l).1 = t at *
    generalize (run row [] 0 l).2.1 = d at *
    go_enter Try.func13, Try.ntmps13
    go_wp2_with fail
    refine (holds_dies 19 _ _ (fun w' => Mc (W1 w (.slice q row.length cl) (.slice q2 l.length cl2)) (w.heap.size + 1) (.slice q row.length cl) w' t (d : Nat)) (fun w => by simp [go_sem]) ?_).mono ?_
    · refine C.out.mono ?_
      rintro e w1 ⟨he, hM⟩
      exact ⟨he, hM, by simpa [OkVar] using W1_ok hM⟩
    rintro e w' ⟨rfl, w1, hM, rfl⟩
    simp only [size_alloc]
    obtain ⟨p, c, c1, c2, ho, hb⟩ := after_holds hM false (w.heap.size + 1 + 1) rfl
    have HO := Lib.hid ho
    have HB := Lib.hid hb
    clear ho hb
    generalize w1.setCell _ _ = w2 at *
    clear hM
    go_wp2_with fail
    go_quiet (fail)
    go_wp2_with fail
    go_ret3
    exact ⟨_, rfl, HO.out, below_drewN HB.out _⟩
end Go.Proofs.Ytlgjfhjnfimahaa
