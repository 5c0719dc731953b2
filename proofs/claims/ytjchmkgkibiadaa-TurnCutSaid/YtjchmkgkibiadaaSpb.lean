/-
  Contract of package spare's Place: it goes through slices.Backward; what the iterator does, for every loop body that keeps what lay below.
-/
import Derived.RangeFuncBound
import Derived.RangeFuncBox
import Derived.RangeFuncNested
import Derived.RangeFuncLeaves
import Derived.RangeFuncCalls
import Derived.WalkKit
import Derived.OwnWalkIn
import Derived.TacticsInMore
import Derived.LoopNIn
import Derived.LoopIn
import Derived.Test.YtjchmkgkibiadaaSpc
namespace Go.Proofs.Ytjchmkgkibiadaa
open Go.RowKit

attribute [local go_sem] Oper.semAt_some

theorem back_enters (args : Array Value) (w : World) : (callFunc 59 args).run Try.prog w = .ok (.enter 59 args) w := by
  have hf : Try.prog.funcs[59]? = some Try.f59 := Try.func59
  have hn : Try.f59.name ≠ "runtime.NumGoroutine" := by decide
  obtain ⟨c, hb⟩ : ∃ c, Try.f59.body = some c := ⟨_, rfl⟩
  simp [callFunc, hf, hn, hb, mark]
theorem backward_any (a : Option Addr) (n cap : Nat) (w : World) :
    Calls Try.prog 55 #[.slice a n cap] w fun e w' => e = .returned (.func (.func 59) #[] #[.pointer (some ⟨w.heap.size, 0, none⟩)]) ∧ w' = w.alloc (.cells #[.slice a n cap] 72) := by
  have hmf : ∀ (fn : Fn) (first cap : Array Value) (w : World), (Instr.makeFunc fn first cap).run Try.prog w = .ok (.func fn first cap) w := fun _ _ _ _ => rfl
  go_enter Try.func55, Try.ntmps55
  go_wp2_with fail
  go_ret
  exact ⟨rfl, rfl⟩

/-- what a loop over a row of n words, from the last one back, hands on: a place and its word -/
def bw (l : List Int) (i : Fin l.length) : Array Value := #[.int .i64 ((i.val : Nat) : Int), .int .u64 (l.getD i.val 0)]
/-- the places that have come, the last one on: all behind it have come ahead of it -/
def Came {n : Nat} (pre : List (Fin n)) : Prop := ∀ ini last, pre = ini ++ [last] → ∀ j, last.val < j.val → j ∈ ini

set_option maxRecDepth 100000 in
set_option maxHeartbeats 2000000 in
theorem back1_in (F : Fence) (n : Nat) (hF : F.fn 59) (hro : F.round = none) (hn : 1 ≤ n) (lp Bs n₀ b off cap : Nat) (l : List Int) (hm : l.length ≤ maxLen) (hb : b < n₀) (J Jx : List (Fin l.length) → World → Prop)
    (hY : ∀ pre x W, J pre W → pre.length < l.length → YieldAt F (n - 1) Try.prog lp (bw l x) W fun e W' =>
      (e = .returned (.bool true) ∧ J (pre ++ [x]) W' ∧ Below n₀ W W') ∨ (e = .returned (.bool false) ∧ Jx (pre ++ [x]) W'))
    (W : World) (hBs : W.cell? ⟨Bs, 0, none⟩ = some (.slice (some ⟨b, off, none⟩) l.length cap)) (hBl : Bs < n₀) (hc : ∀ i, i < l.length → W.cell? ⟨b, off + i, none⟩ = some (.int .u64 (l.getD i 0))) (h0 : J [] W) :
    CallsIn F n Try.prog 59 #[.func (.yield lp) #[] #[], .pointer (some ⟨Bs, 0, none⟩)] W fun e W' => (∃ v, e = .returned v) ∧
      ((∃ ys : List (Fin l.length), (∀ i, i ∈ ys) ∧ J ys W') ∨ (∃ pre, Came pre ∧ Jx pre W')) := by
  unfold maxLen at hm
  refine callsIn_of_wp Try.func59 rfl hF ?_ hro
  simp only [Try.ntmps59, List.size_toArray, List.length_cons, List.length_nil, Nat.reduceAdd, Nat.reduceSub, Array.replicate_succ, Array.replicate_zero, List.push_toArray, List.append_toArray, List.nil_append, List.cons_append]
  have C := Lib.hid hc
  have hY' := Lib.hid hY
  clear hc hY
  gi_wp2
  gi_loopw [3] (fun i wr => ∃ k : Nat, k ≤ l.length ∧ i = .int .i64 ((k : Int) - 1) ∧ Hid (∃ pre : List (Fin l.length), pre.length + k = l.length ∧ (∀ i : Fin l.length, k ≤ i.val → i ∈ pre) ∧ J pre wr ∧ Below n₀ W wr))
    (fun i _ => (intOf i + 1).toNat)
  case atStart => exact ⟨l.length, Nat.le_refl _, by go_num, Lib.hid ⟨[], by simp, fun i hi => absurd i.isLt (by omega), h0, Below.refl _ _⟩⟩
  case round =>
    obtain ⟨k, hk, rfl, H⟩ := hrel
    obtain ⟨pre, g1, g2, g3, g4⟩ := H.out
    have G2 := Lib.hid g2
    have G4 := Lib.hid g4
    cases k with
    | zero =>
      have hend := Lib.hid g3
      clear g2 g4 g3 H
      gi_wp2
      go_end0
      exact ⟨⟨_, rfl⟩, .inl ⟨pre, fun i => G2.out i (Nat.zero_le _), hend.out⟩⟩
    | succ k =>
      have hbs' := (g4.cell (p := ⟨Bs, 0, none⟩) hBl).trans hBs
      have hcell := (g4.cell (p := ⟨b, off + k, none⟩) hb).trans (C.out k (by omega))
      obtain ⟨fn, tmps, assign, body, hy, hR⟩ := hY'.out pre ⟨k, by omega⟩ wr g3 (by omega)
      dsimp only [bw] at hy
      have e1 : ((k + 1 : Nat) : Int) - 1 = (k : Int) := by omega
      rw [e1]
      obtain ⟨y, hyy⟩ : ∃ y, l.getD k 0 = y := ⟨_, rfl⟩
      rw [hyy] at hcell hy
      have HR := Lib.hid hR
      have hkl : k < l.length := by omega
      clear g2 g3 g4 H hR hyy e1
      gi_wp2
      refine HR.out.mono ?_
      rintro e W3 (⟨rfl, hJ3, hk3⟩ | ⟨rfl, hJx3⟩)
      · have J3 := Lib.hid hJ3
        have K3 := Lib.hid hk3
        clear hJ3 hk3
        gi_wp2
        go_roundw
        case rel => exact ⟨k, by omega, by go_num, Lib.hid ⟨_, by simp; omega, fun i hi => by
          by_cases e : i.val = k
          · exact List.mem_append_right _ (by simp [Fin.ext_iff, e])
          · exact List.mem_append_left _ (G2.out i (by omega)), J3.out, G4.out.trans K3.out⟩⟩
        case measure => simp [intOf]
      · have J3 := Lib.hid hJx3
        clear hJx3
        gi_wp2
        refine bodyPost_ret (results_none rfl _ _ _) rfl ?_
        refine ⟨⟨_, rfl⟩, .inr ⟨_, ?_, J3.out⟩⟩
        intro ini last e j hj
        obtain ⟨rfl, e5⟩ := List.append_inj' e rfl
        obtain rfl : _ = last := by simpa using e5
        exact G2.out j hj

set_option maxRecDepth 100000 in
set_option maxHeartbeats 1000000 in
theorem back0_in (F : Fence) (n : Nat) (hF : F.fn 59) (hro : F.round = none) (lp Bs cap : Nat) (p : Option Addr) (W : World) (hBs : W.cell? ⟨Bs, 0, none⟩ = some (.slice p 0 cap)) (J : World → Prop) (h0 : J W) :
    CallsIn F n Try.prog 59 #[.func (.yield lp) #[] #[], .pointer (some ⟨Bs, 0, none⟩)] W fun e W' => (∃ v, e = .returned v) ∧ J W' := by
  refine callsIn_of_wp Try.func59 rfl hF ?_ hro
  simp only [Try.ntmps59, List.size_toArray, List.length_cons, List.length_nil, Nat.reduceAdd, Nat.reduceSub, Array.replicate_succ, Array.replicate_zero, List.push_toArray, List.append_toArray, List.nil_append, List.cons_append]
  gi_wp2
  gi_loopw [3] (fun i wr => i = .int .i64 (-1) ∧ J wr) (fun _ _ => 0)
  case atStart => exact ⟨by go_num, h0⟩
  case round =>
    obtain ⟨rfl, hJs⟩ := hrel
    gi_wp2
    go_end0
    exact ⟨⟨_, rfl⟩, hJs⟩

theorem back_stops (F : Fence) (n : Nat) (hF : F.fn 59) (hro : F.round = none) (hn : 1 ≤ n) (Bs n₀ : Nat) (v : Value) (l : List Int) (w : World) (hBs : Bs < n₀) (hn₀ : n₀ ≤ w.heap.size) (hc : w.cell? ⟨Bs, 0, none⟩ = some v) (hI : RU w v l)
    (hlow : ∀ b off cap, v = .slice (some ⟨b, off, none⟩) l.length cap → 0 < l.length → b < n₀) :
    SeqStopsK F n Try.prog 59 #[.pointer (some ⟨Bs, 0, none⟩)] (bw l) (Below n₀) (fun ys => ∀ i, i ∈ ys) Came l.length w := fun lp J Jx W hW _ _ hY h0 => by
  have hc' := (hW.cell (p := ⟨Bs, 0, none⟩) (by show Bs < _; omega)).trans hc
  obtain ⟨p, cap, rfl, h1, h2, h3⟩ := ru_below hI hW
  rcases h3 with rfl | ⟨b, off, rfl, hcs⟩
  · exact (back0_in F n hF hro lp Bs cap p W hc' (J []) h0).mono fun e W' ⟨he, hj⟩ => ⟨he, .inl ⟨[], fun i => absurd i.isLt (by simp), hj⟩⟩
  · by_cases hl : 0 < l.length
    · exact back1_in F n hF hro hn lp Bs n₀ b off cap l (by omega) (hlow b off cap rfl hl) J Jx hY W hc' hBs hcs h0
    · obtain rfl : l = [] := List.eq_nil_of_length_eq_zero (by omega)
      exact (back0_in F n hF hro lp Bs cap _ W hc' (J []) h0).mono fun e W' ⟨he, hj⟩ => ⟨he, .inl ⟨[], fun i => absurd i.isLt (by simp), hj⟩⟩

theorem results_cell1 {P : Program} {fn : Func} {p : Tmp} {ty : TypeId} (h : fn.results = #[.cell p ty]) (tmps : Array Value) (w : World) (ad : Addr) (v : Value) (k : IntKind)
    (hp : tmps.getD p undef = .pointer (some ad)) (hu : P.underlying ty = some (.int k)) (hc : w.cell? ad = some v) : (results fn tmps).run P w = .ok v w := by
  have hp' : tmps[p]?.getD undef = .pointer (some ad) := by simpa using hp
  have ha : (isAgg ty).run P w = .ok false w := by simp [isAgg, go_sem, run_underlying hu]
  simp [results, h, hp', asAddr, go_sem, ha, hc]

theorem place_out (p : Option Addr) (n cap : Nat) (s a : Int) (w : World) (h : ¬ (0 ≤ a ∧ a < s)) : Calls Try.prog 43 #[.slice p n cap, .int .i64 s, .int .i64 a] w fun e w' => e = .returned (.int .i64 (-1)) ∧ Below w.heap.size w w' := by
  obtain ⟨w0, hw0⟩ : ∃ w0, ((w.alloc (.cells #[.int .i64 s] 3)).alloc (.cells #[.int .i64 a] 3)).alloc (.cells #[.int .i64 0] 3) = w0 := ⟨_, rfl⟩
  have b0 := ((Boxed.new w 3 (.int .i64 s)).alloc (.cells #[.int .i64 a] 3)).alloc (.cells #[.int .i64 0] 3)
  have b1 := (Boxed.new (w.alloc (.cells #[.int .i64 s] 3)) 3 (.int .i64 a)).alloc (.cells #[.int .i64 0] 3)
  have b2 := Boxed.new ((w.alloc (.cells #[.int .i64 s] 3)).alloc (.cells #[.int .i64 a] 3)) 3 (.int .i64 0)
  have B0 : Below w.heap.size w w0 := by rw [← hw0]; exact bal (bal (bal (Below.refl _ _)))
  simp only [World.size_alloc] at b1 b2
  rw [hw0] at b0 b1 b2
  have c0 := b0.cell; have c1 := b1.cell; have c2 := b2.cell; have f2 := b2.frozen
  have HB := Lib.hid fun (x : Value) => B0.setCell (p := ⟨w.heap.size + 1 + 1, 0, none⟩) (by show _ ≤ w.heap.size + 1 + 1; omega) x
  have HC := Lib.hid fun (x : Value) => World.cell?_setCell_same' w0 ⟨w.heap.size + 1 + 1, 0, none⟩ x (by rw [c2]; rfl)
  clear b0 b1 b2 B0
  by_cases h0 : a < 0
  · clear h
    go_enter Try.func43, Try.ntmps43
    go_wp2
    exact bodyPost_ret (v := .int .i64 (-1)) (results_cell1 rfl _ _ _ _ _ rfl Try.underlying3 (HC.out _)) rfl ⟨rfl, HB.out _⟩
  · have h1 : a ≥ s := by omega
    clear h
    go_enter Try.func43, Try.ntmps43
    go_wp2
    exact bodyPost_ret (v := .int .i64 (-1)) (results_cell1 rfl _ _ _ _ _ rfl Try.underlying3 (HC.out _)) rfl ⟨rfl, HB.out _⟩

set_option maxRecDepth 100000 in
set_option maxHeartbeats 2000000 in
theorem place_in (v : Value) (l : List Int) (s a : Int) (w : World) (hr : RU w v l) (hlow : ∀ b off cap, v = .slice (some ⟨b, off, none⟩) l.length cap → 0 < l.length → b < w.heap.size) (hm : s + l.length < 4611686018427387904) (ha0 : 0 ≤ a) (ha1 : a < s) :
    Calls Try.prog 43 #[v, .int .i64 s, .int .i64 a] w fun e w' => e = .returned (.int .i64 (plT l s a l.length)) ∧ Below w.heap.size w w' := by
  obtain ⟨p, cap, hv, _⟩ := id hr
  obtain ⟨w0, hw0⟩ : ∃ w0, ((w.alloc (.cells #[.int .i64 s] 3)).alloc (.cells #[.int .i64 a] 3)).alloc (.cells #[.int .i64 0] 3) = w0 := ⟨_, rfl⟩
  obtain ⟨w1, hw1⟩ : ∃ w1, w0.alloc (.cells #[v] 72) = w1 := ⟨_, rfl⟩
  have b0 := ((Boxed.new w 3 (.int .i64 s)).alloc (.cells #[.int .i64 a] 3)).alloc (.cells #[.int .i64 0] 3)
  have b1 := (Boxed.new (w.alloc (.cells #[.int .i64 s] 3)) 3 (.int .i64 a)).alloc (.cells #[.int .i64 0] 3)
  have b2 := Boxed.new ((w.alloc (.cells #[.int .i64 s] 3)).alloc (.cells #[.int .i64 a] 3)) 3 (.int .i64 0)
  have B0 : Below w.heap.size w w0 := by rw [← hw0]; exact bal (bal (bal (Below.refl _ _)))
  have z0 : w0.heap.size = w.heap.size + 3 := by rw [← hw0]; simp
  simp only [World.size_alloc] at b1 b2
  rw [hw0] at b0 b1 b2
  have c0 := b0.cell; have c1 := b1.cell
  have d0 := Lib.hid (b0.alloc (.cells #[v] 72)); have d1 := Lib.hid (b1.alloc (.cells #[v] 72)); have d2 := Lib.hid (b2.alloc (.cells #[v] 72)); have d3 := Lib.hid (Boxed.new w0 72 v)
  rw [hw1] at d0 d1 d2 d3
  rw [z0] at d3
  have B1 : Hid (Below w.heap.size w w1) := Lib.hid (by rw [← hw1]; exact bal B0)
  have z1 : Hid (w1.heap.size = w.heap.size + 4) := Lib.hid (by rw [← hw1]; simp [z0])
  have R := Lib.hid hr
  have L := Lib.hid hlow
  clear b0 b1 b2 B0 hr hlow
  subst hv
  refine (callsIn_wide (n := 3)).1 ?_
  refine callsIn_of_wp_marks Try.func43 rfl trivial ?_ rfl
  simp only [Try.ntmps43, List.size_toArray, List.length_cons, List.length_nil, Nat.reduceAdd, Nat.reduceSub, Array.replicate_succ, Array.replicate_zero, List.push_toArray, List.append_toArray, List.nil_append, List.cons_append]
  gi_wp2_with (refine ⟨trivial, ?_⟩; gi_at_call 55; refine (callsIn_wide.2 (backward_any _ _ _ _)).mono ?_; rintro e w' ⟨rfl, rfl⟩)
  have hi0 : ∀ j : Nat, j < l.length → IntKind.i64.wrap (s + (j : Int)) = s + (j : Int) := fun j hj => IntWalk.i64_in _ (by omega)
  have HI := Lib.hid hi0
  clear hi0 c0 c1 hw1
  refine wpIn_rangeFunc_ownG rfl (by omega) (gf := 59) (lb := #[.pointer (some ⟨w.heap.size + 3, 0, none⟩)]) rfl trivial back_enters
    (back_stops Fence.wide (3 - 1) trivial rfl (by omega) (w.heap.size + 3) (w.heap.size + 4) _ l w1 (by omega) (by rw [z1.out]; exact Nat.le_refl _) d3.out.cell (ru_below R.out B1.out) (fun b off cap e h => by have := L.out b off cap e h; omega))
    (fun h k => belowK_t h k) (belowK_b (by rw [z1.out]; exact Nat.le_refl _)) (Below.refl _ _) (fun _ => rfl)
    (fun pre W => ((Boxed W w.heap.size 3 (.int .i64 s) ∧ Boxed W (w.heap.size + 1) 3 (.int .i64 a)) ∧ (Boxed W (w.heap.size + 1 + 1) 3 (.int .i64 0) ∧ ∀ i ∈ pre, ¬ l.getD i.val 0 = a + 1)) ∧ Below w.heap.size w W)
    (fun c pre W => (∃ last : Fin l.length, Boxed W (w.heap.size + 1 + 1) 3 (.int .i64 (s + (last.val : Int))) ∧ (c = .ret ∧ ∃ ini, pre = ini ++ [last] ∧ (∀ i ∈ ini, ¬ l.getD i.val 0 = a + 1) ∧ l.getD last.val 0 = a + 1)) ∧ Below w.heap.size w W)
    (OwnFrom.and (OwnFrom.and (OwnFrom.and (Own.from (boxed_own _ _ _) _) (Own.from (boxed_own _ _ _) _)) (OwnFrom.and (Own.from (boxed_own _ _ _) _) (ownFrom_pure _ _))) (ownFrom_below (Nat.le_refl _) (by rw [z1.out]; omega)))
    (fun c => OwnFrom.and (Own.from (fun pre A B row hs hg hr => by
      obtain ⟨last, hb, hrest⟩ := hs
      exact ⟨last, boxed_own (β := Unit) _ _ (fun _ => .int .i64 (s + (last.val : Int))) () A B row hb hg hr, hrest⟩) _) (ownFrom_below (Nat.le_refl _) (by rw [z1.out]; omega)))
    ⟨⟨⟨d0.out, d1.out⟩, d2.out, by simp⟩, B1.out⟩
    (fun x => { tmps := #[.slice p l.length cap, .int .i64 s, .int .i64 a, undef, .pointer (some ⟨w.heap.size, 0, none⟩), .pointer (some ⟨w.heap.size + 1, 0, none⟩), .pointer (some ⟨w.heap.size + 1 + 1, 0, none⟩), .int .i64 (x.val : Int), .int .u64 (l.getD x.val 0), .int .i64 a,
      .bool (decide (a < 0)), .bool (decide (a < 0)), .int .i64 a, .int .i64 s, .bool (decide (s ≤ a)), .bool (decide (a < 0) || decide (s ≤ a)), .slice p l.length cap, .func (.func 59) #[] #[.pointer (some ⟨w.heap.size + 3, 0, none⟩)],
      .int .i64 (x.val : Int), .int .u64 (l.getD x.val 0), undef, undef, undef, undef, undef, undef, undef, undef], defers := [] }) ?assign ?body ?done ?stop
  case assign =>
    intro lp x W K hK
    dsimp only [bw]
    generalize l.getD x.val 0 = y at *
    generalize (x.val : Int) = i at *
    gi_wp2
    exact hK
  case body =>
    rintro lp pre x W ⟨⟨⟨hb0, hb1⟩, hb2, hpre⟩, hB⟩ _
    have hd : 1 ≤ 3 - 1 - 1 := by omega
    have c0 := hb0.cell; have c1 := hb1.cell; have c2 := hb2.cell; have f2 := hb2.frozen
    have A0 := Lib.hid hb0; have A1 := Lib.hid hb1; have A2 := Lib.hid hb2; have AB := Lib.hid hB; have AP := Lib.hid hpre
    have e3 := HI.out x.val x.isLt
    obtain ⟨i, hi⟩ : ∃ i, x.val = i := ⟨_, rfl⟩
    obtain ⟨y, hy⟩ : ∃ y, l.getD x.val 0 = y := ⟨_, rfl⟩
    have Y := Lib.hid hy; have X := Lib.hid hi
    rw [hy]
    rw [hi] at e3 ⊢
    have hil : i < l.length := by rw [← hi]; exact x.isLt
    clear hb0 hb1 hb2 hB hpre hy hi
    by_cases h : y = a + 1
    · subst h
      gi_wp2_with (refine ⟨trivial, ?_⟩; first
        | (gi_at_call 56; refine (CallsIn.inRound lp (callsIn_wide.2 (word_any a W ha0 (by omega)))).mono ?_; rintro e w' ⟨rfl, rfl⟩)
        | (gi_at_call 57; refine (CallsIn.inRound lp (callsIn_wide.2 (line_any s i W (by omega) (by omega) (by omega)))).mono ?_; rintro e w' ⟨rfl, rfl⟩))
      exact ⟨(KeepsOthers.setCell _ _ _).from _, ⟨x, by rw [X.out]; exact A2.out.set _, rfl, pre, rfl, AP.out, Y.out⟩, AB.out.setCell (p := ⟨w.heap.size + 1 + 1, 0, none⟩) (by show _ ≤ w.heap.size + 1 + 1; omega) _⟩
    · gi_wp2_with (refine ⟨trivial, ?_⟩; gi_at_call 56; refine (CallsIn.inRound lp (callsIn_wide.2 (word_any a W ha0 (by omega)))).mono ?_; rintro e w' ⟨rfl, rfl⟩)
      refine ⟨KeepsFrom.refl _ _, Below.refl _ _, ⟨⟨A0.out, A1.out⟩, A2.out, fun j hj => ?_⟩, AB.out⟩
      rcases List.mem_append.1 hj with hj | hj
      · exact AP.out j hj
      · obtain rfl : j = x := by simpa using hj
        rw [Y.out]; exact h
  case done =>
    rintro D ys W hD hS ⟨⟨⟨hb0, hb1⟩, hb2, hpre⟩, hB⟩ hK
    rw [z1.out] at hD
    have c1 := hb1.cell; have c2 := hb2.cell; have f2 := hb2.frozen
    have A2 := Lib.hid hb2; have AB := Lib.hid hB; have AK := Lib.hid hK
    have E := Lib.hid (plT_none (l := l) (s := s) (a := a) (n := l.length) fun k hk => hpre ⟨k, hk⟩ (hS _))
    clear hb0 hb1 hb2 hB hpre hK hS
    gi_wp2
    have hK' := (KeepsOthers.setCell W ⟨w.heap.size + 1 + 1, 0, none⟩ (.int .i64 a)).same D _ AK.out rfl
    refine ⟨by simp, .inl ⟨_, _, rfl, run_takeDeferred hK', ?_⟩⟩
    have b5 := (A2.out.set (.int .i64 a)).kept (grownBy_putObj' _ D (.deferred none)) (fun e => by have := Option.some.inj e; omega)
    refine ⟨.int .i64 a, results_cell1 rfl _ _ _ _ _ rfl Try.underlying3 b5.cell, ret_i64 E.out.symm, ?_⟩
    exact (AB.out.setCell (p := ⟨w.heap.size + 1 + 1, 0, none⟩) (by show _ ≤ w.heap.size + 1 + 1; omega) _).trans (belowK_b (w := w) (Nat.le_refl _) _ D _ _ (by omega) hK' rfl rfl)
  case stop =>
    rintro D c pre W hD hS ⟨⟨last, hb, rfl, ini, rfl, h1, h2⟩, hB⟩ hK
    rw [z1.out] at hD
    have A2 := Lib.hid hb; have AB := Lib.hid hB; have AK := Lib.hid hK
    have E := Lib.hid (plT_last (l := l) (s := s) (a := a) (n := l.length) last.isLt h2 fun j hj hjl => h1 ⟨j, hjl⟩ (hS ini last rfl ⟨j, hjl⟩ hj))
    clear hb hB hK h1 h2 hS
    gi_wp2
    refine ⟨by simp, .inl ⟨_, _, rfl, run_takeDeferred AK.out, ?_⟩⟩
    have b5 := A2.out.kept (grownBy_putObj' _ D (.deferred none)) (fun e => by have := Option.some.inj e; omega)
    refine ⟨_, results_cell1 rfl _ _ _ _ _ rfl Try.underlying3 b5.cell, ret_i64 E.out.symm, ?_⟩
    exact AB.out.trans (belowK_b (w := w) (Nat.le_refl _) _ D _ _ (by omega) AK.out rfl rfl)

theorem place_any (v : Value) (l : List Int) (s a : Int) (w : World) (h : RU w v l) (hm : s + l.length < 4611686018427387904) : Calls Try.prog 43 #[v, .int .i64 s, .int .i64 a] w fun e w' => e = .returned (.int .i64 (placeT l s a)) ∧ Below w.heap.size w w' := by
  by_cases hlt : 0 ≤ a ∧ a < s
  · rw [placeT, if_pos hlt]
    refine place_in v l s a w h (fun b off cap e hl => ?_) hm hlt.1 hlt.2
    subst e
    obtain ⟨b', off', e, hb, _⟩ := ru_some h hl
    cases e; exact hb
  · rw [placeT, if_neg hlt]
    obtain ⟨p, cap, rfl, _⟩ := h
    exact place_out p _ cap s a w hlt
end Go.Proofs.Ytjchmkgkibiadaa
