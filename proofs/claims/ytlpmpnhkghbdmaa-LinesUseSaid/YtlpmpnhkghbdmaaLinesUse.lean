/-
  A line that lasts so long is replaced just then; the spare one that stands for it lasts its own time; each is used up ahead of the next. No conditions.
-/
import Derived.Test.YtlpmpnhkghbdmaaLnw
namespace Go.Proofs.Ytlpmpnhkghbdmaa.linesUse
open Go.Proofs.Ytlpmpnhkghbdmaa Go.ChangeShapes Go.WideShapes Go.ChangeAt Go.RowKit

def one (x : Int) : List Int := [x, 0, 0, 0, 0, 0, 0, 0]
/-- the line that stands for slot 1 when j spare ones are used -/
def cur (j : Nat) : Nat := if j = 0 then 1 else 2 + j
theorem cur_is (j P : Nat) (h : j ≤ P) : placeT (chainT P j 2) ((3 : Nat) : Int) ((1 : Nat) : Int) = (cur j : Int) := by
  cases j with
  | zero =>
    unfold placeT
    rw [if_pos (by decide), plT_none fun k _ => by rw [chainT_getD, if_neg (by omega)]; decide]; rfl
  | succ n =>
    have := chainT_place (p := P) (n := n) (s := 3) (a := 1) h (by decide) (by decide)
    have e : (1 : Int) + 1 = 2 := rfl
    rw [e] at this
    have e2 : cur (n + 1) = 3 + n := by unfold cur; rw [if_neg (by omega)]; omega
    rw [e2]
    show placeT (chainT P (n + 1) 2) 3 1 = _
    rw [this]; omega

/-- behind t Puts -/
structure UI (L P t : Nat) (s : Nv) : Prop where
  lok : LOk s 3 P
  comes : s.comes = false
  la : ∀ k, k < 3 + P → s.la k = (L : Int)
  st : ∃ j r : Nat, t = j * L + r ∧ r ≤ L ∧ j ≤ P ∧ s.tb P = chainT P j 2 ∧ s.wr (cur j) = (r : Int) ∧ ∀ k, j ≤ k → k < P → s.wr (3 + k) = 0
  val : hold s 3 P 1 = one (t : Int)
theorem UI.start {L P : Nat} (hP : P ≤ 16) : UI L P 0 (newNv (3 + P) (List.replicate (3 + P) (L : Int))) := by
  refine ⟨newNv_lok (by decide) hP (by omega) _, rfl, fun k hk => ?_, ⟨0, 0, by simp, Nat.zero_le _, Nat.zero_le _, ?_, rfl, fun k _ _ => rfl⟩, rfl⟩
  · simp [newNv, hk]
  · rw [newNv_tb, chainT_zero]

theorem UI.step {L P t : Nat} {s : Nv} (h : UI L P t s) (hL : 1 ≤ L) : ∃ s', s'.c ≤ s.c + 40 ∧
    ((t < L * (P + 1) ∧ lput 3 P 1 (one ((t + 1 : Nat) : Int)) s = (0, s') ∧ UI L P (t + 1) s' ∧ leftT (s'.tb P) = P - min P (t / L)) ∨
     (t = L * (P + 1) ∧ (∀ d : List Int, d.length = 8 → ∃ s2, lput 3 P 1 d s = (3, s2) ∧ UI L P t s2 ∧ s2.c ≤ s.c + 40))) := by
  obtain ⟨j, r, ht, hr, hj, hT, hw, hf⟩ := h.st
  have H := h.lok
  have C : s.calm := ⟨H.live, h.comes⟩
  have hn := H.n
  have h16 := H.p
  have hc : cur j < s.n := by unfold cur; split <;> omega
  have hcne : ∀ k, j ≤ k → 3 + k ≠ cur j := fun k hk => by unfold cur; split <;> omega
  have hpl := cur_is j P hj
  rw [← hT] at hpl
  have hput : ∀ d : List Int, d.length = 8 → lput 3 P 1 d s = (if s.putE ((cur j : Nat) : Int) = 3 then repl 3 1 d (P + 1) (s.tb P) (s.put ((cur j : Nat) : Int) d) else (s.putE ((cur j : Nat) : Int), s.put ((cur j : Nat) : Int) d)) := fun d _ => by
    rw [lput, if_pos (by decide), H.live]
    simp only [Bool.false_eq_true, if_false]
    have e : placeT (s.tb P) ((3 : Nat) : Int) 1 = (cur j : Int) := hpl
    rw [e]
  have hwn : s.worn (cur j) = decide (L ≤ r) := by
    unfold Nv.worn
    rw [h.la _ (by omega), hw]
    have e1 : decide ((0 : Int) ≤ (L : Int)) = true := by simp
    rw [e1, Bool.true_and]
    simp
  have pe := C.putE hc
  have ps := fun (d : List Int) (hd : d.length = 8) => C.put H.ok hc hd
  rw [hwn] at pe ps
  have hd8 : (one ((t + 1 : Nat) : Int)).length = 8 := rfl
  by_cases hrl : r < L
  · have e0 : decide (L ≤ r) = false := by simpa using hrl
    rw [e0] at pe ps
    simp only [Bool.false_eq_true, if_false] at pe ps
    have hres := hput _ hd8
    rw [pe, if_neg (by decide), ps _ hd8] at hres
    obtain ⟨o, oc⟩ := lput_out (a := 1) H hd8 (by decide)
    have hres' : lput 3 P ((1 : Nat) : Int) (one ((t + 1 : Nat) : Int)) s = _ := hres
    rw [hres'] at o oc
    refine ⟨_, oc, .inl ⟨?_, hres, ⟨o.lok H H.live, o.comes.trans h.comes, fun k hk => h.la k hk, ⟨j, r + 1, by omega, hrl, hj, (Nv.tb_congr rfl P).trans hT, ?_, fun k h1 h2 => ?_⟩, ?_⟩, ?_⟩⟩
    · have : (j + 1) * L ≤ (P + 1) * L := Nat.mul_le_mul_right L (by omega)
      rw [Nat.add_mul, Nat.one_mul] at this
      rw [Nat.mul_comm L]; omega
    · show upd s.wr (cur j) (s.wr (cur j) + 1) (cur j) = _
      rw [upd_same, hw]; rfl
    · show upd s.wr (cur j) (s.wr (cur j) + 1) (3 + k) = _
      rw [upd_other _ _ (hcne k h1)]; exact hf k h1 h2
    · rcases o.own with ⟨_, _, h2⟩ | ⟨h, _⟩ | ⟨h, _⟩
      · exact h2
      · cases h
      · cases h
    · have e : t / L = j := by
        rw [ht, Nat.mul_comm, Nat.mul_add_div (by omega), Nat.div_eq_of_lt hrl]; rfl
      refine (congrArg leftT ((Nv.tb_congr rfl P).trans hT)).trans ?_
      rw [chainT_left hj (by decide), e]; omega
  · have hrL : r = L := by omega
    subst hrL
    have e0 : decide (r ≤ r) = true := by simp
    rw [e0] at pe ps
    simp only [if_true] at pe ps
    by_cases hjP : j < P
    · have hz : zeroT (s.tb P) = j := by
        rw [hT]
        exact zeroT_eq (by rw [chainT_length (by omega)]; exact hjP) (by rw [chainT_getD, if_neg (by omega)]) fun i hi => by rw [chainT_getD, if_pos hi]; decide
      have hlen := s.tb_length P
      have hres := hput _ hd8
      rw [pe, if_pos rfl, ps _ hd8] at hres
      obtain ⟨s1, es1⟩ : ∃ s1, ({ s with c := s.c + 1 } : Nv) = s1 := ⟨_, rfl⟩
      rw [es1] at hres
      have O1 : s1.Ok := by
        have := H.ok.put hd8 ((cur j : Nat) : Int)
        rw [ps _ hd8, es1] at this; exact this
      have C1 : s1.calm := by rw [← es1]; exact C
      have n1 : 3 + j < s1.n := by rw [← es1]; show 3 + j < s.n; omega
      have w1 : s1.worn (3 + j) = false := by
        rw [← es1]
        show (decide (0 ≤ s.la (3 + j)) && decide (s.la (3 + j) ≤ s.wr (3 + j))) = false
        rw [h.la _ (by omega), hf j (Nat.le_refl _) hjP]
        simp; omega
      have pe1 := C1.putE n1
      have ps1 := C1.put O1 n1 hd8
      rw [w1] at pe1 ps1
      simp only [Bool.false_eq_true, if_false] at pe1 ps1
      have C2 := C1.put_ ((3 + j : Nat) : Int) (one ((t + 1 : Nat) : Int))
      rw [repl_ok (a := 1) hz (by omega) pe1] at hres
      have se2 := C2.setE (k := 3 + j) (by omega)
      have ss2 := C2.set (k := 3 + j) (by omega) (1 + 1)
      rw [se2, ss2, ps1] at hres
      obtain ⟨o, oc⟩ := lput_out (a := 1) H hd8 (by decide)
      have hres' : lput 3 P ((1 : Nat) : Int) (one ((t + 1 : Nat) : Int)) s = _ := hres
      rw [hres'] at o oc
      have ht2 : ∀ s3 : Nv, s3.rg = upd s.rg (3 + j) (1 + 1) → s3.tb P = chainT P (j + 1) 2 := fun s3 h3 => by
        rw [Nv.tb_set hjP h3, hT]; exact chainT_set hjP
      have hrg : s1.rg = s.rg := by rw [← es1]
      refine ⟨_, oc, .inl ⟨?_, hres, ⟨o.lok H C1.1, o.comes.trans h.comes, fun k hk => by rw [← h.la k hk, ← es1], ⟨j + 1, 1, by rw [Nat.add_mul]; omega, hL, hjP, ht2 _ ?_, ?_, fun k h1 h2 => ?_⟩, ?_⟩, ?_⟩⟩
      · have : (j + 1 + 1) * r ≤ (P + 1) * r := Nat.mul_le_mul_right r (by omega)
        rw [Nat.add_mul, Nat.add_mul, Nat.one_mul] at this
        rw [Nat.mul_comm r]; omega
      · show upd s1.rg (3 + j) (1 + 1) = _
        rw [hrg]
      · have e : cur (j + 1) = 3 + j := by unfold cur; rw [if_neg (by omega)]; omega
        rw [e]
        show upd s1.wr (3 + j) (s1.wr (3 + j) + 1) (3 + j) = _
        rw [upd_same, ← es1]
        show s.wr (3 + j) + 1 = _
        rw [hf j (Nat.le_refl _) hjP]; rfl
      · show upd s1.wr (3 + j) (s1.wr (3 + j) + 1) (3 + k) = _
        rw [upd_other _ _ (by omega), ← es1]
        exact hf k (by omega) h2
      · rcases o.own with ⟨_, _, h2⟩ | ⟨h, _⟩ | ⟨h, _⟩
        · exact h2
        · cases h
        · cases h
      · have e : t / r = j + 1 := by
          have e1 : t = (j + 1) * r := by rw [ht, Nat.add_mul, Nat.one_mul]
          rw [e1]; exact Nat.mul_div_cancel _ (by omega)
        rw [ht2 _ (by show upd s1.rg (3 + j) (1 + 1) = _; rw [hrg]), chainT_left (by omega) (by decide), e]; omega
    · have hjP2 : j = P := by omega
      subst hjP2
      have hM : t = r * (j + 1) := by rw [ht, Nat.mul_add, Nat.mul_comm r]; omega
      refine ⟨s, by omega, .inr ⟨hM, fun d hd => ?_⟩⟩
      have hres := hput d hd
      rw [pe, if_pos rfl, ps _ hd] at hres
      have hz : ¬ zeroT (s.tb j) < (s.tb j).length := by
        rw [hT, zeroT_none fun i hi => by rw [chainT_length (Nat.le_refl _)] at hi; rw [chainT_getD, if_pos hi]; decide]
        omega
      rw [repl_none hz] at hres
      obtain ⟨o, oc⟩ := lput_out (a := 1) H hd (by decide)
      have hres' : lput 3 j ((1 : Nat) : Int) d s = _ := hres
      rw [hres'] at o oc
      refine ⟨_, hres, ⟨o.lok H H.live, o.comes.trans h.comes, fun k hk => h.la k hk, ⟨j, r, ht, hr, hj, (Nv.tb_congr rfl j).trans hT, hw, fun k h1 h2 => hf k h1 h2⟩, ?_⟩, oc⟩
      rcases o.own with ⟨h, _⟩ | ⟨_, _, _, h2⟩ | ⟨h, _⟩
      · cases h
      · exact h2.trans h.val
      · cases h

theorem tdiv_nat (u n : Nat) : (u : Int).tdiv ((n : Nat) : Int) = ((u / n : Nat) : Int) := by rw [Int.natCast_ediv]; exact Int.tdiv_eq_ediv_of_nonneg (by omega)

/-- the limits, as far as they are laid -/
def lims (n k : Nat) (x : Int) : List Int := (List.range n).map fun i => if i < k then x else 0
theorem lims_zero (n : Nat) (x : Int) : List.replicate n 0 = lims n 0 x := by
  refine list_ext (by simp [lims]) fun i hi => ?_
  simp at hi
  simp [lims, hi]
theorem lims_all (n : Nat) (x : Int) : lims n n x = List.replicate n x := by
  refine list_ext (by simp [lims]) fun i hi => ?_
  simp [lims] at hi
  simp [lims, hi]
theorem lims_length (n k : Nat) (x : Int) : (lims n k x).length = n := by simp [lims]
theorem lims_set {n k : Nat} (hk : k < n) (x : Int) : (lims n k x).set k x = lims n (k + 1) x := by
  refine list_ext (by simp [lims]) fun i hi => ?_
  rw [List.length_set, lims_length] at hi
  rw [getD_setT (by rw [lims_length]; exact hk)]
  by_cases e : i = k
  · subst e; simp [lims, hi]
  · rw [if_neg e]
    have h3 : i < k + 1 ↔ i < k := by omega
    simp [lims, hi, h3]
theorem own_made_i (w : World) (n : Nat) (hn : n ≤ maxLen) : OwnI w.heap.size (w.alloc (.cells (madeCells #[.int .i64 0] n) 3)) (.slice (some ⟨w.heap.size, 0, none⟩) n n) (List.replicate n 0) := by
  have e : (madeCells #[.int .i64 0] n).toList = (List.replicate n 0).map iv := by rw [toList_madeCells_one]; simp [iv]
  refine ⟨by simp, .inr ⟨w.heap.size, n, madeCells #[.int .i64 0] n, by simp, Nat.le_refl _, heap_alloc_new w _, by simp, hn, by rw [← Array.length_toList, e]; simp, by rw [e]; simp⟩⟩
theorem OwnI.stored {B g c : Nat} {w : World} {n : Nat} {l : List Int} (h : OwnI B w (.slice (some ⟨g, 0, none⟩) n c) l) (j : Nat) (x : Int) : OwnI B (w.setCell ⟨g, j, none⟩ (.int .i64 x)) (.slice (some ⟨g, 0, none⟩) n c) (l.set j x) := by
  have hn : n = l.length := by
    obtain ⟨p, c', e⟩ := h.shape
    cases e; rfl
  subst hn
  have := World.ownsRow.stored (g := g) (cap := c) h j (iv x)
  unfold OwnI
  rw [List.length_set, List.map_set]
  exact this.1
theorem OwnI.cells {B : Nat} {w : World} {g n c : Nat} {l : List Int} (h : OwnI B w (.slice (some ⟨g, 0, none⟩) n c) l) {j : Nat} (hj : j < l.length) : w.cell? ⟨g, j, none⟩ = some (.int .i64 (l.getD j 0)) ∧ w.frozen? ⟨g, j, none⟩ = false := by
  have hn : n = l.length := by
    obtain ⟨p, c', e⟩ := h.shape
    cases e; rfl
  subst hn
  refine ⟨?_, World.ownsRow.frozenAt (g := g) (cap := c) h j⟩
  rw [World.ownsRow.cellAt (g := g) (cap := c) h j (by omega)]
  simp [hj, iv]

set_option maxHeartbeats 4000000 in
theorem walk (a0 a1 a2 : Int) (w : World) (_ : (Lit.int .i64 a0).wf = true) (_ : (Lit.int .i64 a1).wf = true) (_ : (Lit.int .i64 a2).wf = true) :
    Calls Try.prog 6 #[.int .i64 a0, .int .i64 a1, .int .i64 a2] w fun e w' => e = .returned (.bool true) ∧ Below w.heap.size w w' := by
  obtain ⟨u0, hu0, _⟩ := u64_nat a0
  obtain ⟨m, hm⟩ : ∃ m, m = u0 % 6 := ⟨_, rfl⟩
  have t0 : (u0 : Int).tmod 6 = (m : Int) := by rw [hm]; exact tmod_nat u0 6
  obtain ⟨L, hL⟩ : ∃ L : Nat, L = m + 1 := ⟨_, rfl⟩
  have k0 : IntKind.i64.wrap (m : Int) = m := IntWalk.i64_in _ (by omega)
  have k1 : IntKind.i64.wrap (1 + (m : Int)) = (L : Int) := by rw [show 1 + (m : Int) = (L : Int) by omega]; exact IntWalk.i64_in _ (by omega)
  obtain ⟨u1, hu1, _⟩ := u64_nat a1
  obtain ⟨P, hP⟩ : ∃ P, P = u1 % 6 := ⟨_, rfl⟩
  have t1 : (u1 : Int).tmod 6 = (P : Int) := by rw [hP]; exact tmod_nat u1 6
  have k2 : IntKind.i64.wrap (P : Int) = P := IntWalk.i64_in _ (by omega)
  obtain ⟨u2, hu2, _⟩ := u64_nat a2
  obtain ⟨n, hn⟩ : ∃ n, n = u2 % 60 := ⟨_, rfl⟩
  have t2 : (u2 : Int).tmod 60 = (n : Int) := by rw [hn]; exact tmod_nat u2 60
  have k3 : IntKind.i64.wrap (n : Int) = n := IntWalk.i64_in _ (by omega)
  have hL1 : 1 ≤ L := by omega
  have hL6 : L ≤ 6 := by omega
  have hP6 : P < 6 := by omega
  have hn60 : n < 60 := by omega
  obtain ⟨N, hN⟩ : ∃ N : Nat, N = 3 + P := ⟨_, rfl⟩
  have k4 : IntKind.i64.wrap (3 + (P : Int)) = (N : Int) := by rw [show 3 + (P : Int) = (N : Int) by omega]; exact IntWalk.i64_in _ (by omega)
  obtain ⟨P1, hP1⟩ : ∃ P1 : Nat, P1 = P + 1 := ⟨_, rfl⟩
  have k5 : IntKind.i64.wrap ((P : Int) + 1) = (P1 : Int) := by rw [show (P : Int) + 1 = (P1 : Int) by omega]; exact IntWalk.i64_in _ (by omega)
  obtain ⟨M, hM⟩ : ∃ M : Nat, M = L * P1 := ⟨_, rfl⟩
  have hM36 : M ≤ 36 := by rw [hM]; exact Nat.mul_le_mul hL6 (show P1 ≤ 6 by omega)
  have k6 : IntKind.i64.wrap ((L : Int) * (P1 : Int)) = (M : Int) := by
    have : (L : Int) * (P1 : Int) = (M : Int) := by rw [hM]; push_cast; rfl
    rw [this]; exact IntWalk.i64_in _ (by omega)
  have k7 : IntKind.u64.wrap (M : Int) = (M : Int) := by simp [IntKind.wrap, IntKind.signed, IntKind.bits]; omega
  have hL0 : ¬ L = 0 := by omega
  have hmk := run_make_row' (P := Try.prog) 22 3 (.int .i64 0) 8 Try.underlying22 info_int rfl .i64 .i64 N (by omega) (by omega)
  have O0 := own_made_i w N (by unfold maxLen; omega)
  rw [lims_zero N (L : Int)] at O0
  have O := Lib.hid O0
  have B := Lib.hid (bal (o := .cells (madeCells #[.int .i64 0] N) 3) (Below.refl w.heap.size w))
  have U0 := UI.start (L := L) (P := P) (by omega)
  rw [← hN] at U0
  have U := Lib.hid U0
  have HM := Lib.hid hM
  have HB6 : Hid (1 ≤ L ∧ L ≤ 6 ∧ P < 6 ∧ N = 3 + P ∧ P1 = P + 1) := Lib.hid ⟨hL1, hL6, hP6, hN, hP1⟩
  have hN9 : N < 9 := by omega
  clear hm hL hP hn O0 U0 hM hP6 hL6 hL1 hN hP1
  go_enter Try.func6, Try.ntmps6
  go_wp2
  go_loopw [33] (fun i wr => ∃ k : Nat, k ≤ N ∧ i = .int .i64 k ∧ Hid (OwnI w.heap.size wr (.slice (some ⟨w.heap.size, 0, none⟩) N N) (lims N k (L : Int)) ∧ Below w.heap.size w wr)) (fun i _ => N - (intOf i).toNat)
  case atStart => exact ⟨0, Nat.zero_le _, rfl, Lib.hid ⟨O.out, B.out⟩⟩
  case round =>
    obtain ⟨k, hk, rfl, H⟩ := hrel
    clear hmk
    by_cases hlt : k < N
    · have own2 := OwnI.stored H.out.1 k (L : Int)
      rw [lims_set hlt] at own2
      obtain ⟨c1, f1⟩ := OwnI.cells H.out.1 (j := k) (by rw [lims_length]; exact hlt)
      have B2 := H.out.2.setCell (p := ⟨w.heap.size, k, none⟩) (Nat.le_refl _) (.int .i64 (L : Int))
      have H2 := Lib.hid (And.intro own2 B2)
      generalize (lims N k (L : Int)).getD k 0 = y at c1
      clear own2 B2
      have i0 : (0 : Int) ≤ (k : Int) := by omega
      have i1 : (k : Int) < (N : Int) := by omega
      go_wp2
      exact ⟨⟨k + 1, by omega, by go_num, H2⟩, by simp [intOf]; omega⟩
    · obtain rfl : k = N := by omega
      have RL := H.out.1.ri
      rw [lims_all] at RL
      have R := Lib.hid RL
      have B1 := Lib.hid H.out.2
      clear RL H O B hlt
      go_wp2_with fail
      refine (new_yes k _ _ wr (by have := HB6.out; omega) (by have := HB6.out; omega) R.out).mono ?_; rintro e w1 ⟨g, rfl, hg, hN, hb⟩
      have G1 : Hid (w.heap.size ≤ g) := Lib.hid (Nat.le_trans B1.out.size hg)
      have N1 := Lib.hid hN
      have B2 := Lib.hid (below_more B1.out hb)
      clear hN hg hb
      go_wp2_with fail
      refine (lnew_yes U.out.lok N1.out).mono ?_; rintro e w2 ⟨q, rfl, hq, hQ, hb⟩
      have KK : Hid (q ≠ g ∧ w.heap.size ≤ q) := Lib.hid ⟨by have := N1.out.lt; omega, Nat.le_trans B2.out.size hq⟩
      have N2 := Lib.hid (N1.out.below hb)
      have Q2 := Lib.hid hQ
      have B3 := Lib.hid (below_more B2.out hb)
      clear hq hQ hb
      clear k0 k1 k2 k4 t0 t1 t2 hN9 hk
      go_wp2
      go_loopw [50] (fun i wr => ∃ t : Nat, t ≤ n ∧ i = .int .i64 t ∧ Hid (∃ s, Nm wr g s ∧ UI L P (min t M) s ∧ Lq wr q g 3 P ∧ Below w.heap.size w wr ∧ s.c ≤ 40 * t)) (fun i _ => n - (intOf i).toNat)
      case atStart => exact ⟨0, by omega, rfl, Lib.hid ⟨_, N2.out, U.out, Q2.out, B3.out, by show (0 : Int) ≤ _; simp⟩⟩
      case round =>
        obtain ⟨t, ht, rfl, H⟩ := hrel
        obtain ⟨s, hN, hU, hQ, hB, hc⟩ := H.out
        have NN := Lib.hid hN
        have UU := Lib.hid hU
        have QQ := Lib.hid hQ
        have BB := Lib.hid hB
        have CC := Lib.hid hc
        clear hN hU hQ hB hc H N2 U Q2 B3
        by_cases hlt : t < n
        · have j0 : IntKind.i64.wrap ((t : Int) + 1) = ((t + 1 : Nat) : Int) := by rw [show (t : Int) + 1 = ((t + 1 : Nat) : Int) by omega]; exact IntWalk.i64_in _ (by omega)
          have j1 : IntKind.u64.wrap ((t + 1 : Nat) : Int) = ((t + 1 : Nat) : Int) := by simp [IntKind.wrap, IntKind.signed, IntKind.bits]; omega
          obtain ⟨s', hcs, hcase⟩ := UU.out.step HB6.out.1
          have CS := Lib.hid hcs
          clear hcs
          rcases hcase with ⟨h1, h2, h3, h4⟩ | ⟨h1, h2⟩
          · have htM : t < M := by have := HM.out; rw [HB6.out.2.2.2.2] at this; omega
            have e1 : min t M = t := by omega
            rw [e1] at h2 h3 h4
            obtain ⟨dv, hdv⟩ : ∃ dv, dv = t / L := ⟨_, rfl⟩
            have j2 : (t : Int).tdiv (L : Int) = (dv : Int) := by rw [hdv]; exact tdiv_nat t L
            have hdt : dv ≤ t := by rw [hdv]; exact Nat.div_le_self _ _
            have j3 : IntKind.i64.wrap (dv : Int) = (dv : Int) := IntWalk.i64_in _ (by omega)
            rw [← hdv] at h4
            have H2 := Lib.hid h2
            have H3 := Lib.hid h3
            clear hdv h1 h2 h3 e1
            have K9 : Hid (s.c + 200 < 4611686018427387904) := Lib.hid (by have := CC.out; omega)
            have hlM : (t : Int) < (M : Int) := by omega
            go_wp2_with fail
            refine (lput_is H2.out UU.out.lok rfl KK.out.1 K9.out QQ.out NN.out).mono ?_; rintro e w3 ⟨rfl, hN, hC⟩
            have N3 := Lib.hid hN
            have Q3 := Lib.hid (QQ.out.chg hC (by simpa using KK.out.1))
            have B4 := Lib.hid (hC.own BB.out G1.out)
            have e2 : min (t + 1) M = t + 1 := by omega
            have E2 := Lib.hid e2
            clear hN hC e2
            have D1 : ((P : Int) ≤ (dv : Int) ∧ P - min P dv = P - P) ∨ ((dv : Int) < (P : Int) ∧ P - min P dv = P - dv) := by omega
            rcases D1 with ⟨d1, d2⟩ | ⟨d1, d2⟩
            · rw [d2] at h4
              have H4 := Lib.hid h4
              have j4 : IntKind.i64.wrap ((P : Int) - (P : Int)) = ((P - P : Nat) : Int) := by rw [show (P : Int) - (P : Int) = ((P - P : Nat) : Int) by omega]; exact IntWalk.i64_in _ (by have := HB6.out; omega)
              clear h4 d2
              go_wp2_with fail
              refine (lleft_is H4.out H3.out.lok Q3.out N3.out).mono ?_; rintro e w4 ⟨rfl, hb⟩
              have N5 := Lib.hid (N3.out.below hb)
              have Q5 := Lib.hid (Q3.out.below hb)
              have B5 := Lib.hid (below_more B4.out hb)
              clear hb
              go_wp2
              exact ⟨⟨t + 1, by omega, by go_num, Lib.hid ⟨_, N5.out, by rw [E2.out]; exact H3.out, Q5.out, B5.out, by have := CC.out; have := CS.out; push_cast; omega⟩⟩, by simp [intOf]; omega⟩
            · rw [d2] at h4
              have H4 := Lib.hid h4
              have j4 : IntKind.i64.wrap ((P : Int) - (dv : Int)) = ((P - dv : Nat) : Int) := by rw [show (P : Int) - (dv : Int) = ((P - dv : Nat) : Int) by omega]; exact IntWalk.i64_in _ (by have := HB6.out; omega)
              clear h4 d2
              go_wp2_with fail
              refine (lleft_is H4.out H3.out.lok Q3.out N3.out).mono ?_; rintro e w4 ⟨rfl, hb⟩
              have N5 := Lib.hid (N3.out.below hb)
              have Q5 := Lib.hid (Q3.out.below hb)
              have B5 := Lib.hid (below_more B4.out hb)
              clear hb
              go_wp2
              exact ⟨⟨t + 1, by omega, by go_num, Lib.hid ⟨_, N5.out, by rw [E2.out]; exact H3.out, Q5.out, B5.out, by have := CC.out; have := CS.out; push_cast; omega⟩⟩, by simp [intOf]; omega⟩
          · have htM : ¬ t < M := by have := HM.out; rw [HB6.out.2.2.2.2] at this; omega
            have e1 : min t M = M := by omega
            obtain ⟨s2, g1, g2, g3⟩ := h2 (one ((t + 1 : Nat) : Int)) rfl
            rw [e1] at g2
            obtain ⟨dv, hdv⟩ : ∃ dv, dv = t / L := ⟨_, rfl⟩
            have j2 : (t : Int).tdiv (L : Int) = (dv : Int) := by rw [hdv]; exact tdiv_nat t L
            have hdt : dv ≤ t := by rw [hdv]; exact Nat.div_le_self _ _
            have j3 : IntKind.i64.wrap (dv : Int) = (dv : Int) := IntWalk.i64_in _ (by omega)
            have H1 := Lib.hid g1
            have H2 := Lib.hid g2
            have H3 := Lib.hid g3
            have V2 : Hid (hold s2 3 P 1 = [(M : Int), 0, 0, 0, 0, 0, 0, 0]) := Lib.hid g2.val
            clear hdv h1 h2 g1 g2 g3 e1
            have K9 : Hid (s.c + 200 < 4611686018427387904) := Lib.hid (by have := CC.out; omega)
            have hlM : ¬ (t : Int) < (M : Int) := by omega
            go_wp2_with fail
            refine (lput_is H1.out UU.out.lok rfl KK.out.1 K9.out QQ.out NN.out).mono ?_; rintro e w3 ⟨rfl, hN, hC⟩
            have N3 := Lib.hid hN
            have Q3 := Lib.hid (QQ.out.chg hC (by simpa using KK.out.1))
            have B4 := Lib.hid (hC.own BB.out G1.out)
            have E2 : Hid (min (t + 1) M = M) := Lib.hid (by omega)
            clear hN hC
            have D1 : (P : Int) ≤ (dv : Int) ∨ (dv : Int) < (P : Int) := by omega
            rcases D1 with d1 | d1
            · go_wp2_with fail
              refine (lget_is V2.out H2.out.lok (by decide) Q3.out N3.out).mono ?_; rintro e w4 ⟨rfl, hb⟩
              obtain ⟨W, hW, H⟩ := boxed1 w4 (a := [(M : Int), 0, 0, 0, 0, 0, 0, 0]) rfl
              have N5 := Lib.hid ((N3.out.below hb).below H.out.2)
              have Q5 := Lib.hid ((Q3.out.below hb).below H.out.2)
              have B5 := Lib.hid (below_more (below_more B4.out hb) H.out.2)
              have ll := H.out.1.load
              clear hb
              go_wp2
              exact ⟨⟨t + 1, by omega, by go_num, Lib.hid ⟨_, N5.out, by rw [E2.out]; exact H2.out, Q5.out, B5.out, by have := CC.out; have := H3.out; push_cast; omega⟩⟩, by simp [intOf]; omega⟩
            · go_wp2_with fail
              refine (lget_is V2.out H2.out.lok (by decide) Q3.out N3.out).mono ?_; rintro e w4 ⟨rfl, hb⟩
              obtain ⟨W, hW, H⟩ := boxed1 w4 (a := [(M : Int), 0, 0, 0, 0, 0, 0, 0]) rfl
              have N5 := Lib.hid ((N3.out.below hb).below H.out.2)
              have Q5 := Lib.hid ((Q3.out.below hb).below H.out.2)
              have B5 := Lib.hid (below_more (below_more B4.out hb) H.out.2)
              have ll := H.out.1.load
              clear hb
              go_wp2
              exact ⟨⟨t + 1, by omega, by go_num, Lib.hid ⟨_, N5.out, by rw [E2.out]; exact H2.out, Q5.out, B5.out, by have := CC.out; have := H3.out; push_cast; omega⟩⟩, by simp [intOf]; omega⟩
        · obtain rfl : t = n := by omega
          go_wp2_with fail
          refine (awake_any _).mono ?_; rintro e w' ⟨rfl, hb⟩
          have B5 := Lib.hid (below_more BB.out hb)
          go_wp2
          go_ret
          exact ⟨rfl, B5.out⟩

set_option maxRecDepth 100000 in
theorem lifted (os : Os) (started : os.Started) (H : Type) (enc : TypeId × Value → H) :
    ReturnsInHanded {} Try.checked os 6 .any (Rows.linesUseSpec.pre6 enc Try.prog Try.f6 Rows.linesUseRow.domain false) (Rows.linesUseSpec.post enc Try.prog Try.f6 false true false false) := by
  refine returnsInHanded_of_change (C := Try.checked) own started (by kernel_rfl) Try.func6
    (ChangeSpec.witness6 (enc := enc) (C := Try.checked) false ⟨#[], #[.int .i64 0, .int .i64 0, .int .i64 0], []⟩ 8 (by kernel_rfl) (by kernel_rfl) (by kernel_rfl) (by kernel_rfl)) ?_
  intro W base args ds gs before hval0 hW hcnd _
  have hval : ∀ (j : Nat) t v, Try.f6.params[j]? = some t → args[j]? = some v → Value.okWide Try.prog W .any base t v := hval0
  have hW' := hW
  have hlt := hW.lt
  obtain ⟨p, q, hA0, hV, hpq, hfz, hnd⟩ := hW
  have hA : DataW.TrodAll enc Try.prog W 0 (fun _ => true) true Try.f6.params.toList args.toList ds p := hA0
  rw [Try.params6] at hA hval
  obtain ⟨v0, vs0, d0, ds0, p0, q0, hargs, rfl, hp, h0, r0⟩ := trodAll_cons hA
  obtain ⟨v1, vs1, d1, ds1, p1, q1, rfl, rfl, rfl, h1, r1⟩ := trodAll_cons r0
  obtain ⟨v2, vs2, d2, ds2, p2, q2, rfl, rfl, rfl, h2, r2⟩ := trodAll_cons r1
  obtain ⟨rfl, rfl, rfl⟩ := trodAll_nil r2
  obtain rfl : args = #[v0, v1, v2] := by cases args; simp_all
  obtain ⟨rfl, rfl⟩ := trodVars_none hV
  have hlt' : ∀ x ∈ before, x.block < W.heap.size := fun x hx => hlt x hx
  obtain ⟨a0, rfl, rfl, rfl, w0⟩ := open_int Try.underlying3 (hval 0 3 v0 rfl rfl) h0
  obtain ⟨a1, rfl, rfl, rfl, w1⟩ := open_int Try.underlying3 (hval 1 3 v1 rfl rfl) h1
  obtain ⟨a2, rfl, rfl, rfl, w2⟩ := open_int Try.underlying3 (hval 2 3 v2 rfl rfl) h2
  refine (walk a0 a1 a2 W w0 w1 w2).mono fun e W' ⟨he, hb⟩ => ?_
  subst he
  exact ⟨_, rfl, law_post rfl (by kernel_rfl) hW' (by rw [Try.params6]; intro t ht; simp only [List.mem_cons, List.not_mem_nil, or_false] at ht; (repeat' (first | (rcases ht with rfl | ht) | subst ht)) <;> exact ⟨by kernel_rfl, of_decide_eq_true (by kernel_rfl)⟩) rfl hb⟩

theorem over : Rows.linesUseRow.holds Try.pinned (OpenSpec.ofChange Rows.linesUseSpec) :=
  OpenClaim.holds_of_wide 6 Try.f6 rfl rfl rfl rfl rfl rfl rfl ⟨rfl, rfl, rfl, rfl, rfl⟩ rfl rfl rfl rfl rfl (by kernel_rfl) Try.func6 (by kernel_rfl)
    (of_decide_eq_true (by kernel_rfl)) (by unfold Func.isWrapper; first | (rw [if_pos (by decide +kernel)]; kernel_rfl) | (rw [if_neg (by decide +kernel)]; exact ⟨rfl, rfl⟩))
    (fun os started H enc _ => lifted os started H enc)

theorem proved : Rows.LinesUseSaid := over
end Go.Proofs.Ytlpmpnhkghbdmaa.linesUse
