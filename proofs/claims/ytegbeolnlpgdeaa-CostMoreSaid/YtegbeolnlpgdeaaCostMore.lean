/-
  More bytes, more lines replaced, cost no less; no call's homes are more than one commit takes. No conditions.
-/
import Derived.Test.YtegbeolnlpgdeaaOps
import Derived.Deep.RegionHeld3
namespace Go.Proofs.Ytegbeolnlpgdeaa.costMore
set_option maxRecDepth 100000
open Go.Proofs.Ytegbeolnlpgdeaa Go.ChangeShapes Go.WideShapes Go.ChangeAt Go.RowKit

theorem ln_al {n : Int} (h : 0 ≤ n ∧ n ≤ 448) (k : Int) : lnC 1 n k = n / 64 + 4 := by unfold lnC filC; rw [if_pos rfl, if_neg (by omega)]
theorem ln_wr {k : Int} (h : 0 ≤ k ∧ k ≤ 448) : lnC 4 0 k = k / 64 + 2 := by unfold lnC filC; rw [if_neg (by decide), if_pos rfl, if_neg (by omega)]
theorem op_al {n r : Int} (h : 0 ≤ n ∧ n ≤ 448) (k : Int) (hr : 0 ≤ r ∧ r ≤ 16) : opC 1 n k r = 12 * (n / 64 + 4) + 24 + 4 * r := by
  unfold opC; rw [if_pos hr, if_neg (by decide), ln_al h, if_neg (by omega)]
theorem op_wr {k r : Int} (h : 0 ≤ k ∧ k ≤ 448) (hr : 0 ≤ r ∧ r ≤ 16) : opC 4 0 k r = 12 * (k / 64 + 2) + 24 + 4 * r := by
  unfold opC; rw [if_pos hr, if_neg (by decide), ln_wr h, if_neg (by omega)]
theorem op_off {d n k r : Int} (hr : ¬ (0 ≤ r ∧ r ≤ 16)) : opC d n k r = 0 := by unfold opC; rw [if_neg hr]
theorem nums {n k r : Int} (hn : 0 ≤ n ∧ n < 448) (hk : 0 ≤ k ∧ k < 448) (hr : 0 ≤ r ∧ r < 16) : ∃ x1 x2 x3 x4 x5 x6 x7 x8 x9 : Int,
    opC 1 (n + 1) (0 : Nat) r = x1 ∧ opC 1 n (0 : Nat) r = x2 ∧ opC 4 0 (k + 1) r = x3 ∧ opC 4 0 k r = x4 ∧ opC 1 n (0 : Nat) (r + 1) = x5 ∧ recC (r + 1) = x6 ∧ recC r = x7 ∧ lnC 1 (n + 1) (0 : Nat) = x8 ∧ lnC 4 0 (k + 1) = x9 ∧
    x2 ≤ x1 ∧ x4 ≤ x3 ∧ x2 < x5 ∧ x7 < x6 ∧ x8 ≤ 14 ∧ x9 ≤ 14 := by
  refine ⟨_, _, _, _, _, _, _, _, _, rfl, rfl, rfl, rfl, rfl, rfl, rfl, rfl, rfl, ?_, ?_, ?_, ?_, ?_, ?_⟩
  · rw [op_al (by omega) _ (by omega), op_al (by omega) _ (by omega)]; omega
  · rw [op_wr (by omega) (by omega), op_wr (by omega) (by omega)]; omega
  · rw [op_al (by omega) _ (by omega), op_al (by omega) _ (by omega)]; omega
  · unfold recC; rw [if_pos (by omega), if_pos (by omega)]; omega
  · rw [ln_al (by omega)]; omega
  · rw [ln_wr (by omega)]; omega

/-- block g holds an operation that writes n bytes -/
def Dat (w : World) (g n : Nat) : Prop := ∃ p, Pxv w g ⟨4, 0, 0, 0, .slice p n n, []⟩
theorem Dat.put_at {w : World} {g g' n : Nat} {p : Option Addr} (e : g = g') (h : IsPx w g) : Dat (w.setRow g' (pxc ⟨4, 0, 0, 0, .slice p n n, []⟩)) g n := ⟨p, px_put_at e h⟩
theorem Dat.past {w : World} {g g' n : Nat} {c : Array Value} (h : Dat w g n) (hne : g ≠ g') : Dat (w.setRow g' c) g n := h.elim fun p h => ⟨p, h.past hne⟩
theorem Dat.up {w : World} {g n : Nat} (h : Dat w g n) (o : Obj) : Dat (w.alloc o) g n := h.elim fun p h => ⟨p, h.alloc o⟩
theorem Dat.drew {w : World} {g n : Nat} (h : Dat w g n) : Dat w.drew g n := h
set_option maxRecDepth 100000 in
set_option maxHeartbeats 8000000 in
theorem walk (a0 a1 a2 : Int) (w : World) (_ : (Lit.int .i64 a0).wf = true) (_ : (Lit.int .i64 a1).wf = true) (_ : (Lit.int .i64 a2).wf = true) :
    Calls Try.prog 4 #[.int .i64 a0, .int .i64 a1, .int .i64 a2] w fun e w' => e = .returned (.bool true) ∧ Below w.heap.size w w' := by
  obtain ⟨u0, hu0, _⟩ := u64_nat a0
  obtain ⟨n0, hn0⟩ : ∃ n, u0 % 448 = n := ⟨_, rfl⟩
  have t0 : (u0 : Int).tmod 448 = (n0 : Int) := by rw [← hn0]; exact tmod_nat u0 448
  have q0 : IntKind.i64.wrap (n0 : Int) = n0 := i64_nat _ (by omega)
  have b0 : n0 < 448 := by omega
  clear hn0
  obtain ⟨u1, hu1, _⟩ := u64_nat a1
  obtain ⟨n1, hn1⟩ : ∃ n, u1 % 448 = n := ⟨_, rfl⟩
  have t1 : (u1 : Int).tmod 448 = (n1 : Int) := by rw [← hn1]; exact tmod_nat u1 448
  have q1 : IntKind.i64.wrap (n1 : Int) = n1 := i64_nat _ (by omega)
  have b1 : n1 < 448 := by omega
  clear hn1
  obtain ⟨u2, hu2, _⟩ := u64_nat a2
  obtain ⟨n2, hn2⟩ : ∃ n, u2 % 16 = n := ⟨_, rfl⟩
  have t2 : (u2 : Int).tmod 16 = (n2 : Int) := by rw [← hn2]; exact tmod_nat u2 16
  have q2 : IntKind.i64.wrap (n2 : Int) = n2 := i64_nat _ (by omega)
  have b2 : n2 < 16 := by omega
  clear hn2
  have r0 : IntKind.i64.wrap ((n0 : Int) + 1) = (n0 : Int) + 1 := wr64 _ (by omega) (by omega)
  have r1 : IntKind.i64.wrap ((n1 : Int) + 1) = ((n1 + 1 : Nat) : Int) := by rw [wr64 _ (by omega) (by omega)]; simp
  have r2 : IntKind.i64.wrap ((n2 : Int) + 1) = (n2 : Int) + 1 := wr64 _ (by omega) (by omega)
  have hmk := run_make_row' (P := Try.prog) 22 5 (.int .u8 0) 1 Try.underlying22 byE.hi rfl .i64 .i64 n1 (by omega) (by omega)
  have hmk2 := Lib.hid (run_make_row' (P := Try.prog) 22 5 (.int .u8 0) 1 Try.underlying22 byE.hi rfl .i64 .i64 (n1 + 1) (by omega) (by omega))
  obtain ⟨x1, x2, x3, x4, x5, x6, x7, x8, x9, e1, e2, e3, e4, e5, e6, e7, e8, e9, y1, y2, y3, y4, y5, y6⟩ := nums (n := (n0 : Int)) (k := (n1 : Int)) (r := (n2 : Int)) (by omega) (by omega) (by omega)
  have FF := Lib.hid (And.intro e1 (And.intro e2 (And.intro e3 (And.intro e4 (And.intro e5 (And.intro e6 (And.intro e7 (And.intro e8 e9))))))))
  have YY := Lib.hid (And.intro y1 (And.intro y2 (And.intro y3 (And.intro y4 (And.intro y5 y6)))))
  have BN := Lib.hid (And.intro b0 (And.intro b1 b2))
  clear e1 e2 e3 e4 e5 e6 e7 e8 e9 y1 y2 y3 y4 y5 y6 b0 b1 b2
  go_enter Try.func4, Try.ntmps4
  go_upto_region 2 with fail
  go_cut [7, 8] (fun v7 v8 wx => ∃ g h : Nat, v7 = .pointer (some ⟨g, 0, none⟩) ∧ v8 = .pointer (some ⟨h, 0, none⟩) ∧ Hid ((g < h ∨ h < g) ∧ w.heap.size ≤ g ∧ w.heap.size ≤ h ∧ Pxv wx g ⟨1, 0, (n0 : Int), 0, .slice none 0 0, []⟩ ∧ Dat wx h n1 ∧ Below w.heap.size w wx))
  case first =>
    clear r0 r1 r2
    go_region_held3 (fun w' => Kept (Below w.heap.size w w'))
      (((refine ⟨?_⟩); (repeat' (with_reducible (first | exact Below.refl _ _ | refine Below.drew ?_ | refine below_more ?_ (by assumption) | refine bal ?_ | refine below_row ?_ ?_ | omega)))))
      ((rw [run_store_px (by rfl) (by (repeat' (first
              | ((with_reducible refine IsPx.fresh _ _ ?_); (focus (simp only [size_alloc])); done)
              | (with_reducible refine IsPx.up ?_ _) | (with_reducible refine IsPx.drew ?_) | (with_reducible refine IsPx.row ?_))))]))
    all_goals (go_wp2_with fail; go_meet)
    all_goals
      refine ⟨_, _, rfl, rfl, Lib.hid ⟨by omega, by omega, by omega, ?_, ?_, Kept.out ‹Kept (Below w.heap.size w _)›⟩⟩ <;>
      (repeat' (first
        | ((with_reducible refine px_put_at ?_ ?_); (focus (with_reducible rfl)))
        | ((with_reducible refine Dat.put_at ?_ ?_); (focus (with_reducible rfl)))
        | ((with_reducible refine Pxv.past ?_ ?_); rotate_left; (focus omega))
        | ((with_reducible refine Dat.past ?_ ?_); rotate_left; (focus omega))
        | (with_reducible refine Pxv.alloc ?_ _) | (with_reducible refine Pxv.drew ?_) | (with_reducible refine Dat.up ?_ _) | (with_reducible refine Dat.drew ?_)
        | ((with_reducible refine IsPx.fresh _ _ ?_); (focus (simp only [size_alloc])); done)
        | ((with_reducible refine IsPx.fresh _ _ ?_); (focus (with_reducible rfl)))
        | (with_reducible refine IsPx.up ?_ _) | (with_reducible refine IsPx.drew ?_) | (with_reducible refine IsPx.row ?_)))
  case rest =>
    obtain ⟨g, h, rfl, rfl, HC⟩ := hcut
    obtain ⟨W1, rfl⟩ : ∃ W1, W1 = wc := ⟨_, rfl⟩
    obtain ⟨p, hd⟩ := HC.out.2.2.2.2.1
    have HD := Lib.hid hd
    clear hd
    have l7 : ∀ w' : World, Kept (Below W1.heap.size W1 w') → (pxLoad (.pointer (some ⟨g, 0, none⟩))).run Try.prog w' = .ok (.agg (pxc ⟨1, 0, (n0 : Int), 0, .slice none 0 0, []⟩)) w' := fun w' hb => HC.out.2.2.2.1.later w' hb.out
    have l8 : ∀ w' : World, Kept (Below W1.heap.size W1 w') → (pxLoad (.pointer (some ⟨h, 0, none⟩))).run Try.prog w' = .ok (.agg (pxc ⟨4, 0, 0, 0, .slice p n1 n1, []⟩)) w' := fun w' hb => HD.out.later w' hb.out
    clear hmk
    go_upto_region 3 with fail
    go_cut [9, 10] (fun v9 v10 wx => ∃ i j : Nat, v9 = .pointer (some ⟨i, 0, none⟩) ∧ v10 = .pointer (some ⟨j, 0, none⟩) ∧ Hid ((i < j ∨ j < i) ∧ W1.heap.size ≤ i ∧ W1.heap.size ≤ j ∧ Pxv wx i ⟨1, 0, (n0 : Int), 0, .slice none 0 0, []⟩ ∧ Pxv wx j ⟨4, 0, 0, 0, .slice p n1 n1, []⟩ ∧ Below W1.heap.size W1 wx))
    case first =>
      clear r0 r1 r2
      go_region_held3 (fun w' => Kept (Below W1.heap.size W1 w'))
        (((refine ⟨?_⟩); (repeat' (with_reducible (first | exact Below.refl _ _ | refine Below.drew ?_ | refine below_more ?_ (by assumption) | refine bal ?_ | refine below_row ?_ ?_ | omega)))))
        ((rw [run_store_px (by rfl) (by (repeat' (first
                | ((with_reducible refine IsPx.fresh _ _ ?_); (focus (simp only [size_alloc])); done)
                | (with_reducible refine IsPx.up ?_ _) | (with_reducible refine IsPx.drew ?_) | (with_reducible refine IsPx.row ?_))))]))
      all_goals (go_wp2_with fail; go_meet)
      all_goals
        refine ⟨_, _, rfl, rfl, Lib.hid ⟨by omega, by omega, by omega, ?_, ?_, Kept.out ‹Kept (Below W1.heap.size W1 _)›⟩⟩ <;>
        (repeat' (first
          | ((with_reducible refine px_put_at ?_ ?_); (focus (with_reducible rfl)))
          | ((with_reducible refine Pxv.past ?_ ?_); rotate_left; (focus omega))
          | (with_reducible refine Pxv.alloc ?_ _) | (with_reducible refine Pxv.drew ?_)
          | ((with_reducible refine IsPx.fresh _ _ ?_); (focus (simp only [size_alloc])); done)
          | ((with_reducible refine IsPx.fresh _ _ ?_); (focus (with_reducible rfl)))
          | (with_reducible refine IsPx.up ?_ _) | (with_reducible refine IsPx.drew ?_) | (with_reducible refine IsPx.row ?_)))
    case rest =>
      obtain ⟨i, j, rfl, rfl, H2⟩ := hcut
      obtain ⟨h1, h2, h3, h4, h5, h6⟩ := H2.out
      have gl := HC.out.2.2.2.1.lt
      have hl := HD.out.lt
      have gi : g ≠ i := by omega
      have gj : g ≠ j := by omega
      have hi : h ≠ i := by omega
      have hj : h ≠ j := by omega
      have ij : i ≠ j := by omega
      have wi : w.heap.size ≤ i := by have := HC.out.2.1; omega
      have wj : w.heap.size ≤ j := by have := HC.out.2.1; omega
      have G7 := HC.out.2.2.2.1.below h6
      have G8 := HD.out.below h6
      have B1 : Below w.heap.size w wc := below_more HC.out.2.2.2.2.2 h6
      have c2 := h4.c2
      dsimp only at c2
      have f2 := h4.free 2
      obtain ⟨S0, hS0⟩ : ∃ S, wc.heap.size = S := ⟨_, rfl⟩
      obtain ⟨V1, hV1⟩ : ∃ V, wc.setCell ⟨i, 2, none⟩ (.int .i64 ((n0 : Int) + 1)) = V := ⟨_, rfl⟩
      have hS1 : V1.heap.size = S0 := by rw [← hV1, ← hS0]; simp [World.setCell]
      have K1 : Hid (Pxv V1 i ⟨1, 0, (n0 : Int) + 1, 0, .slice none 0 0, []⟩ ∧ Pxv V1 g ⟨1, 0, (n0 : Int), 0, .slice none 0 0, []⟩ ∧ Pxv V1 h ⟨4, 0, 0, 0, .slice p n1 n1, []⟩ ∧ Pxv V1 j ⟨4, 0, 0, 0, .slice p n1 n1, []⟩ ∧ Below w.heap.size w V1) := Lib.hid (by
        rw [← hV1]
        exact ⟨h4.setn _, G7.other (q := ⟨i, 2, none⟩) gi _, G8.other (q := ⟨i, 2, none⟩) hi _, h5.other (q := ⟨i, 2, none⟩) (fun e => ij e.symm) _, B1.setCell (p := ⟨i, 2, none⟩) wi _⟩)
      obtain ⟨V2, hV2⟩ : ∃ V, V1.alloc (.cells (madeCells #[.int .u8 0] (n1 + 1)) 5) = V := ⟨_, rfl⟩
      have hb2 : Below V1.heap.size V1 V2 := by rw [← hV2]; exact bal (Below.refl _ _)
      obtain ⟨V3, hV3⟩ : ∃ V, V2.setCell ⟨j, 4, none⟩ (.slice (some ⟨S0, 0, none⟩) (n1 + 1) (n1 + 1)) = V := ⟨_, rfl⟩
      have K3 : Hid (Pxv V3 i ⟨1, 0, (n0 : Int) + 1, 0, .slice none 0 0, []⟩ ∧ Pxv V3 g ⟨1, 0, (n0 : Int), 0, .slice none 0 0, []⟩ ∧ Pxv V3 h ⟨4, 0, 0, 0, .slice p n1 n1, []⟩ ∧ Pxv V3 j ⟨4, 0, 0, 0, .slice (some ⟨S0, 0, none⟩) (n1 + 1) (n1 + 1), []⟩ ∧ Below w.heap.size w V3) := Lib.hid (by
        rw [← hV3]
        obtain ⟨p1, p2, p3, p4, p5⟩ := K1.out
        exact ⟨(p1.below hb2).other (q := ⟨j, 4, none⟩) ij _, (p2.below hb2).other (q := ⟨j, 4, none⟩) gj _, (p3.below hb2).other (q := ⟨j, 4, none⟩) hj _, (p4.below hb2).setv _, (below_more p5 hb2).setCell (p := ⟨j, 4, none⟩) wj _⟩)
      have d4 := (K1.out.2.2.2.1.below hb2).c4
      dsimp only at d4
      have f4 := (K1.out.2.2.2.1.below hb2).free 4
      have hmk := hmk2.out
      have n1c : ((n1 + 1 : Nat) : Int) = (n1 : Int) + 1 := by simp
      simp only [n1c] at hmk
      obtain ⟨e1, e2, e3, e4, e5, e6, e7, e8, e9⟩ := FF.out
      rw [← n1c] at e3 e9
      have D1 := Lib.hid (cop_w 1 0 ((n0 : Int) + 1) 0 none 0 0 [] n2 x1 e1)
      have D2 := Lib.hid (cop_w 1 0 (n0 : Int) 0 none 0 0 [] n2 x2 e2)
      have D3 := Lib.hid (cop_w 4 0 0 0 (some ⟨S0, 0, none⟩) (n1 + 1) (n1 + 1) [] n2 x3 e3)
      have D4 := Lib.hid (cop_w 4 0 0 0 p n1 n1 [] n2 x4 e4)
      have D5 := Lib.hid (cop_w 1 0 (n0 : Int) 0 none 0 0 [] ((n2 : Int) + 1) x5 e5)
      have D6 := Lib.hid (crec_w ((n2 : Int) + 1) x6 e6)
      have D7 := Lib.hid (crec_w (n2 : Int) x7 e7)
      have D8 := Lib.hid (clines_w 1 0 ((n0 : Int) + 1) 0 none 0 0 [] x8 e8)
      have D9 := Lib.hid (clines_w 4 0 0 0 (some ⟨S0, 0, none⟩) (n1 + 1) (n1 + 1) [] x9 e9)
      have DA := Lib.hid (cop_w 1 0 (n0 : Int) 0 none 0 0 [] 17 0 (op_off (by omega)))
      have DB := Lib.hid (cop_w 1 0 (n0 : Int) 0 none 0 0 [] (-1) 0 (op_off (by omega)))
      clear e1 e2 e3 e4 e5 e6 e7 e8 e9 n1c h1 h2 h3 h4 h5 h6 gl hl gi gj hi hj ij wi wj G7 G8 B1 hb2 l7 l8 H2 HC HD K1 FF
      go_upto_region 6 with fail
      have Q1 := K3.out.1.later
      have Q2 := K3.out.2.1.later
      have Q3 := K3.out.2.2.1.later
      have Q4 := K3.out.2.2.2.1.later
      have HB3 := Lib.hid K3.out.2.2.2.2
      obtain ⟨y1, y2, y3, y4, y5, y6⟩ := YY.out
      clear hmk hmk2 c2 f2 d4 f4 hS0 hS1 hV1 hV2 hV3 K3
      go_wp2
      go_region_held3 (fun w' => Below V3.heap.size V3 w')
        (first | assumption | exact (Below.refl _ _).drew | exact below_more ‹Below V3.heap.size V3 _› hbq)
        (first
          | (go_at_call 11; first
              | (with_reducible refine (D1.out _).mono ?_)
              | (with_reducible refine (D2.out _).mono ?_)
              | (with_reducible refine (D3.out _).mono ?_)
              | (with_reducible refine (D4.out _).mono ?_)
              | (with_reducible refine (D5.out _).mono ?_)
              | (with_reducible refine (DA.out _).mono ?_)
              | (with_reducible refine (DB.out _).mono ?_)
             rintro e wq ⟨rfl, hbq⟩)
          | (go_at_call 13; first
              | (with_reducible refine (D6.out _).mono ?_)
              | (with_reducible refine (D7.out _).mono ?_)
             rintro e wq ⟨rfl, rfl⟩)
          | (go_at_call 9; first
              | (with_reducible refine (D8.out _).mono ?_)
              | (with_reducible refine (D9.out _).mono ?_)
             rintro e wq ⟨rfl, hbq⟩)
          | (go_at_call 7; refine (awake_any _).mono ?_; rintro e wq ⟨rfl, hbq⟩))
      have HB4 := Lib.hid (below_more HB3.out ‹Below V3.heap.size V3 wq›)
      go_wp2
      go_ret
      exact ⟨rfl, HB4.out⟩

set_option maxRecDepth 100000 in
theorem lifted (os : Os) (started : os.Started) (H : Type) (enc : TypeId × Value → H) :
    ReturnsInHanded {} Try.checked os 4 .any (Rows.costMoreSpec.pre6 enc Try.prog Try.f4 Rows.costMoreRow.domain false) (Rows.costMoreSpec.post enc Try.prog Try.f4 false true false false) := by
  refine returnsInHanded_of_change (C := Try.checked) own started (by kernel_rfl) Try.func4
    (ChangeSpec.witness6 (enc := enc) (C := Try.checked) false ⟨#[], #[.int .i64 0, .int .i64 0, .int .i64 0], []⟩ 8 (by kernel_rfl) (by kernel_rfl) (by kernel_rfl) (by kernel_rfl)) ?_
  intro W base args ds gs before hval0 hW hcnd _
  have hval : ∀ (j : Nat) t v, Try.f4.params[j]? = some t → args[j]? = some v → Value.okWide Try.prog W .any base t v := hval0
  have hW' := hW
  have hlt := hW.lt
  obtain ⟨p, q, hA0, hV, hpq, hfz, hnd⟩ := hW
  have hA : DataW.TrodAll enc Try.prog W 0 (fun _ => true) true Try.f4.params.toList args.toList ds p := hA0
  rw [Try.params4] at hA hval
  obtain ⟨v0, vs0, d0, ds0, p0, q0, hargs, rfl, hp, h0, r0⟩ := trodAll_cons hA
  obtain ⟨v1, vs1, d1, ds1, p1, q1, rfl, rfl, rfl, h1, r1⟩ := trodAll_cons r0
  obtain ⟨v2, vs2, d2, ds2, p2, q2, rfl, rfl, rfl, h2, r2⟩ := trodAll_cons r1
  obtain ⟨rfl, rfl, rfl⟩ := trodAll_nil r2
  obtain rfl : args = #[v0, v1, v2] := by cases args; simp_all
  obtain ⟨rfl, rfl⟩ := trodVars_none hV
  have hlt' : ∀ x ∈ before, x.block < W.heap.size := fun x hx => hlt x hx
  obtain ⟨a0, rfl, rfl, rfl, w0⟩ := open_int Try.underlying3 (hval 0 3 v0 rfl rfl) h0
  obtain ⟨a1, rfl, rfl, rfl, w1⟩ := open_int Try.underlying3 (hval 1 3 v1 rfl rfl) h1
  obtain ⟨a2, rfl, rfl, rfl, w2⟩ := open_int Try.underlying3 (hval 2 3 v2 rfl rfl) h2
  refine (walk a0 a1 a2 W w0 w1 w2).mono fun e W' ⟨he, hb⟩ => ?_
  subst he
  exact ⟨_, rfl, law_post rfl (by kernel_rfl) hW' (by rw [Try.params4]; intro t ht; simp only [List.mem_cons, List.not_mem_nil, or_false] at ht; (repeat' (first | (rcases ht with rfl | ht) | subst ht)) <;> exact ⟨by kernel_rfl, of_decide_eq_true (by kernel_rfl)⟩) rfl hb⟩

theorem over : Rows.costMoreRow.holds Try.pinned (OpenSpec.ofChange Rows.costMoreSpec) :=
  OpenClaim.holds_of_wide 4 Try.f4 rfl rfl rfl rfl rfl rfl rfl ⟨rfl, rfl, rfl, rfl, rfl⟩ rfl rfl rfl rfl rfl (by kernel_rfl) Try.func4 (by kernel_rfl)
    (of_decide_eq_true (by kernel_rfl)) (by unfold Func.isWrapper; first | (rw [if_pos (by decide +kernel)]; kernel_rfl) | (rw [if_neg (by decide +kernel)]; exact ⟨rfl, rfl⟩))
    (fun os started H enc _ => lifted os started H enc)

theorem proved : Rows.CostMoreSaid := over
end Go.Proofs.Ytegbeolnlpgdeaa.costMore
