/- texts written together: Lgi Lgh Lgj Hob Lga Ohm Ltw Lgc Lgd Lgt Lge Lgf Lgg Lgv Lgx Lgy Lgz Lgk Lgl -/
import Derived.Test.YtjghhcbiaklomaaMgc
import Derived.Lib.Tables
import Derived.Test.YtjghhcbiaklomaaMga
import Derived.Deep.DeepCutAuto
import Derived.BigQuiet
import Derived.Shelf.Abstract
import Derived.Deep.RegionLaw
import Derived.StillTailTactics

/-
  A log as it lies in memory; what its functions have to do (Ctr: to be shown of the program's own code).
-/
namespace Go.Proofs.Ytjghhcbiaklomaa
set_option maxRecDepth 100000
open Go.RowKit

/-- block x holds a log over the memory g and the lines y (THE LAYOUT IS THE PROGRAM'S) -/
def Lgb (w : World) (x g y : Nat) : Prop := Whole w x 65 #[.pointer (some ⟨g, 0, none⟩), .pointer (some ⟨y, 0, none⟩)]
structure Lg (w : World) (x g y q n P per p : Nat) (s : Nv) : Prop where
  lb : Lgb w x g y
  tq : Tq w y g q n per p
  lq : Lq w q g (n + 1) P
  nm : Nm w g s
  qg : q ≠ g
  yg : y ≠ g
  yq : y ≠ q
  xg : x ≠ g
  xy : x ≠ y
theorem Lg.below {w w' : World} {x g y q n P per p : Nat} {s : Nv} (h : Lg w x g y q n P per p s) (hb : Below w.heap.size w w') : Lg w' x g y q n P per p s :=
  ⟨(hb.block x (Whole.lt h.lb)).trans h.lb, h.tq.below hb, h.lq.below hb, h.nm.below hb, h.qg, h.yg, h.yq, h.xg, h.xy⟩
theorem Lg.chg {D : List Nat} {w w' : World} {x g y q n P per p : Nat} {s : Nv} (h : Lg w x g y q n P per p s) (hc : Chg D w w') (hx : x ∉ D) (hg : g ∉ D) (hy : y ∉ D) (hq : q ∉ D) : Lg w' x g y q n P per p s :=
  ⟨hc.whole h.lb hx, h.tq.chg hc hy, h.lq.chg hc hq, hc.whole h.nm hg, h.qg, h.yg, h.yq, h.xg, h.xy⟩
theorem Lg.mem {w w' : World} {x g y q n P per p : Nat} {s s' : Nv} (h : Lg w x g y q n P per p s) (hc : Chg [g] w w') (hN : Nm w' g s') : Lg w' x g y q n P per p s' :=
  ⟨hc.whole h.lb (by simpa using h.xg), h.tq.chg hc (by simpa using h.yg), h.lq.chg hc (by simpa using h.qg), hN, h.qg, h.yg, h.yq, h.xg, h.xy⟩
theorem Lg.xlt {w : World} {x g y q n P per p : Nat} {s : Nv} (h : Lg w x g y q n P per p s) : x < w.heap.size := Whole.lt h.lb
/-- what of it can be turned lies behind B -/
theorem Lg.own {w w' w0 : World} {B x g y q n P per p : Nat} {s : Nv} (h : Chg [g, y] w w') (hb : Below B w0 w) (hB : B ≤ w.heap.size) (hg : B ≤ g) (hy : B ≤ y) (_ : Lg w x g y q n P per p s) : Below B w0 w' :=
  h.below hb hB fun k hk => by simp at hk; rcases hk with rfl | rfl <;> assumption
/-- numbers far from their ends -/
structure Room (n P per p : Nat) (s : Nv) : Prop where
  n : n ≤ 1000
  p : p + 30 < 4611686018427387904
  m : tm s + 30 < 4611686018427387904
  c : s.c + 20000 < 4611686018427387904
  per : per ≤ 1000 ∧ P ≤ 16

/-- WHAT THE PROGRAM'S FUNCTIONS DO -/
structure Ctr : Prop where
  new : ∀ (w : World) (g y q n P per p : Nat) (s : Nv), Tq w y g q n per p → Lq w q g (n + 1) P → Nm w g s → q ≠ g → y ≠ g → y ≠ q → 17 ≤ n →
    Calls Try.prog 24 #[.pointer (some ⟨g, 0, none⟩), .pointer (some ⟨y, 0, none⟩)] w fun e w' => ∃ x, e = .returned (.pointer (some ⟨x, 0, none⟩)) ∧ w.heap.size ≤ x ∧ Lg w' x g y q n P per p s ∧ Below w.heap.size w w'
  may : ∀ (w : World) (n : Int) (v : Value) (h : List Hm) (r : Bool), RA homeE w v h → (r = true ↔ MayH n h) →
    Calls Try.prog 23 #[.int .i64 n, v] w fun e w' => e = .returned (.bool r) ∧ Below w.heap.size w w'
  newNil : ∀ (w : World) (g : Nat), Calls Try.prog 24 #[.pointer (some ⟨g, 0, none⟩), .pointer none] w fun e w' => e = .returned (.pointer none) ∧ Below w.heap.size w w'
  newFew : ∀ (w : World) (g y q n P per p : Nat) (s : Nv), Tq w y g q n per p → Lq w q g (n + 1) P → Nm w g s → n ≤ 16 →
    Calls Try.prog 24 #[.pointer (some ⟨g, 0, none⟩), .pointer (some ⟨y, 0, none⟩)] w fun e w' => e = .returned (.pointer none) ∧ Below w.heap.size w w'
  pend : ∀ (w : World) (x g y q n P per p : Nat) (s : Nv), Lg w x g y q n P per p s → LgOk s n P → s.dark = false →
    Calls Try.prog 14 #[.pointer (some ⟨x, 0, none⟩)] w fun e w' => e = .returned (.bool (decide (lk s ≠ 0))) ∧ Below w.heap.size w w'
  get : ∀ (w : World) (x g y q n P per p a : Nat) (s : Nv), Lg w x g y q n P per p s → LgOk s n P → s.dark = false → Room n P per p s → 16 ≤ a → a < n →
    Calls Try.prog 17 #[.pointer (some ⟨x, 0, none⟩), .int .i64 (a : Int)] w fun e w' => e = .returned (.tuple #[.agg (lc (view s n P a)), .int .i64 0]) ∧ Below w.heap.size w w'
  getOut : ∀ (w : World) (x g y q n P per p : Nat) (a : Int) (s : Nv), Lg w x g y q n P per p s → ¬ (16 ≤ a ∧ a < (n : Int)) →
    Calls Try.prog 17 #[.pointer (some ⟨x, 0, none⟩), .int .i64 a] w fun e w' => e = .returned (.tuple #[.agg (lc zeros), .int .i64 1]) ∧ Below w.heap.size w w'
  com : ∀ (w : World) (x g y q n P per p : Nat) (s : Nv) (v : Value) (h : List Hm), Lg w x g y q n P per p s → LgOk s n P → s.dark = false → Room n P per p s → lk s = 0 → (∀ w', Chg [g, y] w w' → RA homeE w' v h) → MayH n h →
    Calls Try.prog 15 #[.pointer (some ⟨x, 0, none⟩), v] w fun e w' => e = .returned (.int .i64 (lcom n P per p h s).1) ∧ Lg w' x g y q n P per (lcom n P per p h s).2.1 (lcom n P per p h s).2.2 ∧ Chg [g, y] w w'
  comArg : ∀ (w : World) (x g y q n P per p : Nat) (s : Nv) (v : Value) (h : List Hm), Lg w x g y q n P per p s → n ≤ 1000 → RA homeE w v h → ¬ MayH n h →
    Calls Try.prog 15 #[.pointer (some ⟨x, 0, none⟩), v] w fun e w' => e = .returned (.int .i64 1) ∧ Below w.heap.size w w'
  comState : ∀ (w : World) (x g y q n P per p : Nat) (s : Nv) (v : Value) (h : List Hm), Lg w x g y q n P per p s → s.dark = false → s.rg 1 = (lk s : Int) → lk s ≠ 0 → n ≤ 1000 → RA homeE w v h → MayH n h →
    Calls Try.prog 15 #[.pointer (some ⟨x, 0, none⟩), v] w fun e w' => e = .returned (.int .i64 5) ∧ Below w.heap.size w w'
  recv : ∀ (w : World) (x g y q n P per p : Nat) (s : Nv), Lg w x g y q n P per p s → LgOk s n P → s.dark = false → Room n P per p s →
    Calls Try.prog 21 #[.pointer (some ⟨x, 0, none⟩)] w fun e w' => e = .returned (.int .i64 (lrec n P per p s).1) ∧ Lg w' x g y q n P per (lrec n P per p s).2.1 (lrec n P per p s).2.2 ∧ Chg [g, y] w w'
end Go.Proofs.Ytjghhcbiaklomaa

/-
  What layer 12's statements call besides: too heavy or not, sized, made.
-/
namespace Go.Proofs.Ytjghhcbiaklomaa
set_option maxRecDepth 100000
open Go.RowKit

theorem sized_any (a0 a1 a2 : Int) (w : World) : Calls Try.prog 12 #[.int .i64 a0, .int .i64 a1, .int .i64 a2] w fun e w' =>
    (∃ n P per : Nat, e = .returned (.tuple #[.int .i64 (n : Int), .int .i64 (P : Int), .int .i64 (per : Int)]) ∧ 1 ≤ n ∧ n ≤ 20 ∧ P ≤ 16 ∧ 1 ≤ per ∧ per ≤ 20) ∧ w = w' := by
  obtain ⟨u0, hu0, _⟩ := u64_nat a0
  obtain ⟨u1, hu1, _⟩ := u64_nat a1
  obtain ⟨u2, hu2, _⟩ := u64_nat a2
  obtain ⟨m, hm⟩ : ∃ m, u0 % 20 = m := ⟨_, rfl⟩
  obtain ⟨P, hP⟩ : ∃ m, u1 % 17 = m := ⟨_, rfl⟩
  obtain ⟨m2, hm2⟩ : ∃ m, u2 % 20 = m := ⟨_, rfl⟩
  have t0 : (u0 : Int).tmod 20 = (m : Int) := by rw [← hm]; exact tmod_nat u0 20
  have t1 : (u1 : Int).tmod 17 = (P : Int) := by rw [← hP]; exact tmod_nat u1 17
  have t2 : (u2 : Int).tmod 20 = (m2 : Int) := by rw [← hm2]; exact tmod_nat u2 20
  obtain ⟨n, hn⟩ : ∃ n : Nat, n = m + 1 := ⟨_, rfl⟩
  obtain ⟨per, hper⟩ : ∃ n : Nat, n = m2 + 1 := ⟨_, rfl⟩
  have k0 : IntKind.i64.wrap (m : Int) = m := i64_nat _ (by omega)
  have k1 : IntKind.i64.wrap (P : Int) = P := i64_nat _ (by omega)
  have k2 : IntKind.i64.wrap (m2 : Int) = m2 := i64_nat _ (by omega)
  have k3 : IntKind.i64.wrap (1 + (m : Int)) = n := by rw [show 1 + (m : Int) = (n : Int) by omega]; exact i64_nat _ (by omega)
  have k4 : IntKind.i64.wrap (1 + (m2 : Int)) = per := by rw [show 1 + (m2 : Int) = (per : Int) by omega]; exact i64_nat _ (by omega)
  have K : Hid (1 ≤ n ∧ n ≤ 20 ∧ P ≤ 16 ∧ 1 ≤ per ∧ per ≤ 20) := Lib.hid (by omega)
  clear hm hP hm2 hn hper
  go_enter Try.func12, Try.ntmps12
  go_wp2_with fail
  go_ret3
  exact ⟨⟨n, P, per, rfl, K.out⟩, rfl⟩

/-- too heavy (r is not 0), or not -/
theorem heavy_any (l : List (List Hm)) (lim : List Int) (v u : Value) (w : World) (hv : RAs homeE rowsE w v l) (hu : RI w u lim) :
    Calls Try.prog 10 #[v, u] w fun e w' => (∃ r : Nat, e = .returned (.int .i64 (r : Int)) ∧ (r = 0 → l.length ≤ 30 ∧ ∀ k, k < l.length → (l.getD k []).length ≤ 30)) ∧ w = w' := by
  obtain ⟨p, cap, rfl, h1, h2⟩ := ras_shape hv
  obtain ⟨p2, cap2, rfl, _, h4, _⟩ := hu
  unfold maxLen at h2 h4
  by_cases c1 : 30 < l.length
  · have i1 : (l.length : Int) > 30 := by omega
    clear hv h1 h2 h4 c1
    generalize l.length = L at *
    go_enter Try.func10, Try.ntmps10
    go_wp2_with fail
    go_ret
    exact ⟨⟨1, rfl, fun h => by cases h⟩, rfl⟩
  have i1 : ¬ (l.length : Int) > 30 := by omega
  by_cases c2 : 200 < lim.length
  · have i2 : (lim.length : Int) > 200 := by omega
    clear hv h1 h2 h4 c2 c1
    generalize l.length = L at *
    generalize lim.length = L2 at *
    go_enter Try.func10, Try.ntmps10
    go_wp2_with fail
    go_ret
    exact ⟨⟨1, rfl, fun h => by cases h⟩, rfl⟩
  have i2 : ¬ (lim.length : Int) > 200 := by omega
  have HL : Hid (l.length ≤ 30) := Lib.hid (by omega)
  have HX : Hid (∀ k, k < l.length → ∃ b off q c, p = some ⟨b, off, none⟩ ∧ w.cell? ⟨b, off + k, none⟩ = some (.slice q (l.getD k []).length c)) := Lib.hid fun k hk => by
    obtain ⟨b, off, e, _, hx⟩ := ras_at rfl rfl hv (by omega)
    obtain ⟨u, hc, hr⟩ := hx k hk
    obtain ⟨q, c, rfl, _⟩ := ra_shape hr
    exact ⟨b, off, q, c, e, hc⟩
  clear hv c1 c2 h1 h2 h4
  generalize lim.length = L2 at *
  go_enter Try.func10, Try.ntmps10
  go_wp2
  go_loopw [17] (fun i wr => ∃ k : Nat, k ≤ l.length ∧ i = .int .i64 k ∧ wr = w ∧ Hid (∀ j, j < k → (l.getD j []).length ≤ 30)) (fun i _ => l.length - (intOf i).toNat)
  case atStart => exact ⟨0, Nat.zero_le _, rfl, rfl, Lib.hid fun j hj => by omega⟩
  case round =>
    obtain ⟨k, hk, rfl, rfl, H⟩ := hrel
    by_cases hlt : k < l.length
    · obtain ⟨b, off, q, c, rfl, hc⟩ := HX.out k hlt
      have i0 : (0 : Int) ≤ (k : Int) := by omega
      have i3 : (k : Int) < (l.length : Int) := by omega
      have i4 : ¬ (k : Int) < 0 := by omega
      have j0 : IntKind.i64.wrap ((k : Int) + 1) = ((k + 1 : Nat) : Int) := by rw [show (k : Int) + 1 = ((k + 1 : Nat) : Int) by omega]; exact i64_nat _ (by have := HL.out; omega)
      by_cases c3 : 30 < (l.getD k []).length
      · have i5 : ((l.getD k []).length : Int) > 30 := by omega
        clear hk c3
        generalize (l.getD k []).length = Y at *
        go_wp2
        go_ret
        exact ⟨⟨2, rfl, fun h => by cases h⟩, rfl⟩
      · have i5 : ¬ ((l.getD k []).length : Int) > 30 := by omega
        have HN : Hid (∀ j, j < k + 1 → (l.getD j []).length ≤ 30) := Lib.hid fun j hj => by
          by_cases e : j = k
          · subst e; omega
          · exact H.out j (by omega)
        have HK := Lib.hid hlt
        clear hk c3 hlt
        generalize (l.getD k []).length = Y at *
        go_wp2
        exact ⟨⟨k + 1, by have := HK.out; omega, by go_num, trivial, HN⟩, by have := HK.out; simp [intOf]; omega⟩
    · obtain rfl : k = l.length := by omega
      go_wp2
      go_ret
      exact ⟨⟨0, rfl, fun _ => ⟨HL.out, H.out⟩⟩, rfl⟩

/-- a log over a memory that has power -/
theorem over_yes (C : Ctr) {g n P per : Nat} {s : Nv} {w : World} (L : LgOk s (16 + n) P) (hd : s.dark = false) (h1 : 1 ≤ n) (h2 : n ≤ 20) (hp1 : 1 ≤ per) (hp2 : per ≤ 20) (hM : tm s ≤ 1099511627776) (hN : Nm w g s) :
    Calls Try.prog 20 #[.pointer (some ⟨g, 0, none⟩), .int .i64 (n : Int), .int .i64 (P : Int), .int .i64 (per : Int)] w fun e w' =>
      ∃ x y q, e = .returned (.pointer (some ⟨x, 0, none⟩)) ∧ w.heap.size ≤ x ∧ w.heap.size ≤ y ∧ w.heap.size ≤ q ∧ Lg w' x g y q (16 + n) P per 0 s ∧ Below w.heap.size w w' := by
  have T := Lib.hid (tnew_yes (L.g.tok hd) (by omega) (by omega) hp1 (by omega) hM hN)
  have k0 : IntKind.i64.wrap (16 + (n : Int)) = ((16 + n : Nat) : Int) := by rw [show 16 + (n : Int) = ((16 + n : Nat) : Int) by omega]; exact i64_nat _ (by omega)
  have HN := Lib.hid hN
  have HL : Hid (17 ≤ 16 + n) := Lib.hid (by omega)
  clear L hd h1 h2 hp1 hp2 hM hN
  generalize 16 + n = N at *
  go_enter Try.func20, Try.ntmps20
  go_wp2_with fail
  refine (T.out).mono ?_; rintro e w1 ⟨y, q, rfl, hy, hq, hyq, hQ, hT, hb⟩
  have LN := Lib.hid (C.new w1 g y q N P per 0 s hT hQ (HN.out.below hb) (by have := HN.out.lt; omega) (by have := HN.out.lt; omega) hyq HL.out)
  have HB := Lib.hid hb
  have K : Hid (w.heap.size ≤ y ∧ w.heap.size ≤ q) := Lib.hid ⟨hy, hq⟩
  clear hy hq hyq hQ hT hb
  go_wp2_with fail
  refine (LN.out).mono ?_; rintro e w2 ⟨x, rfl, hx, hL, hb⟩
  have HB2 := Lib.hid (below_more HB.out hb)
  have K2 : Hid (w.heap.size ≤ x ∧ Lg w2 x g y q N P per 0 s) := Lib.hid ⟨Nat.le_trans HB.out.size hx, hL⟩
  clear hx hL hb
  go_wp2_with fail
  go_ret
  exact ⟨x, y, q, rfl, K2.out.1, K.out.1, K.out.2, K2.out.2, HB2.out⟩
theorem made_yes (C : Ctr) {n P per : Nat} (v : Value) (lim : List Int) (w : World) (h1 : 1 ≤ n) (h2 : n ≤ 20) (hP : P ≤ 16) (hp1 : 1 ≤ per) (hp2 : per ≤ 20) (hr : RI w v lim) :
    Calls Try.prog 13 #[.int .i64 (n : Int), .int .i64 (P : Int), .int .i64 (per : Int), v] w fun e w' =>
      ∃ x g y q, e = .returned (.tuple #[.pointer (some ⟨x, 0, none⟩), .pointer (some ⟨g, 0, none⟩)]) ∧ w.heap.size ≤ x ∧ w.heap.size ≤ g ∧ w.heap.size ≤ y ∧ w.heap.size ≤ q ∧ Lg w' x g y q (16 + n) P per 0 (newNv (16 + n + 1 + P) lim) ∧ Below w.heap.size w w' := by
  have NL := newNv_lg (n := 16 + n) (P := P) (by omega) hP (by omega) lim
  have N := Lib.hid (new_yes (16 + n + 1 + P) v lim w (by omega) (by omega) hr)
  have O := Lib.hid fun (g : Nat) (w' : World) (hN : Nm w' g (newNv (16 + n + 1 + P) lim)) => over_yes C (per := per) NL.1 rfl h1 h2 hp1 hp2 (by rw [NL.2.2.1]; decide) hN
  have k0 : IntKind.i64.wrap (16 + (n : Int)) = ((16 + n : Nat) : Int) := by rw [show 16 + (n : Int) = ((16 + n : Nat) : Int) by omega]; exact i64_nat _ (by omega)
  have k1 : IntKind.i64.wrap (((16 + n : Nat) : Int) + 1) = ((16 + n + 1 : Nat) : Int) := by rw [show ((16 + n : Nat) : Int) + 1 = ((16 + n + 1 : Nat) : Int) by omega]; exact i64_nat _ (by omega)
  have k2 : IntKind.i64.wrap (((16 + n + 1 : Nat) : Int) + (P : Int)) = ((16 + n + 1 + P : Nat) : Int) := by rw [show ((16 + n + 1 : Nat) : Int) + (P : Int) = ((16 + n + 1 + P : Nat) : Int) by omega]; exact i64_nat _ (by omega)
  clear NL h1 h2 hP hp1 hp2 hr
  generalize newNv (16 + n + 1 + P) lim = s at *
  generalize 16 + n + 1 + P = Z at *
  generalize 16 + n + 1 = Y at *
  generalize 16 + n = X at *
  go_enter Try.func13, Try.ntmps13
  go_wp2_with fail
  refine (N.out).mono ?_; rintro e w1 ⟨g, rfl, hg, hN, hb⟩
  have O2 := Lib.hid (O.out g w1 hN)
  have HB := Lib.hid hb
  have HG := Lib.hid hg
  clear hg hN hb
  go_wp2_with fail
  refine (O2.out).mono ?_; rintro e w2 ⟨x, y, q, rfl, hx, hy, hq, hL, hb⟩
  have HB2 := Lib.hid (below_more HB.out hb)
  have K : Hid (w.heap.size ≤ x ∧ w.heap.size ≤ y ∧ w.heap.size ≤ q ∧ Lg w2 x g y q X P per 0 s) := Lib.hid ⟨Nat.le_trans HB.out.size hx, Nat.le_trans HB.out.size hy, Nat.le_trans HB.out.size hq, hL⟩
  clear hx hy hq hL hb
  go_wp2_with fail
  go_ret2
  exact ⟨x, g, y, q, rfl, K.out.1, HG.out, K.out.2.1, K.out.2.2.1, K.out.2.2.2, HB2.out⟩
end Go.Proofs.Ytjghhcbiaklomaa

/-
  The state of layer 12's statements between commits.
-/
namespace Go.Proofs.Ytjghhcbiaklomaa
set_option maxRecDepth 100000
open Go.RowKit

theorem hv_snoc (C : List Hm) (x : Hm) (f : Nat → List Int) (b : Nat) : hv (C ++ [x]) f b = if (∀ y ∈ C, y.i ≠ (b : Int)) ∧ x.i = (b : Int) then x.l else hv C f b := by
  unfold hv
  rw [List.find?_append]
  cases e : C.find? (fun x => x.i == (b : Int)) with
  | some y =>
    rw [if_neg fun h => ?_]; rfl
    exact h.1 y (List.mem_of_find?_eq_some e) (by simpa using List.find?_some e)
  | none =>
    have hn : ∀ y ∈ C, y.i ≠ (b : Int) := fun y hy => by simpa using List.find?_eq_none.1 e y hy
    by_cases hx : x.i = (b : Int)
    · rw [if_pos ⟨hn, hx⟩]; simp [hx]
    · rw [if_neg fun h => hx h.2]; simp [hx]
/-- homes laid one by one -/
theorem hv_step {h : List Hm} (nd : (h.map (·.i)).Nodup) {j : Nat} (hj : j < h.length) {m : Nat} (hm : (h.getD j default).i = ((16 + m : Nat) : Int)) (f : Nat → List Int) (i : Nat) :
    hv (h.take (j + 1)) f (16 + i) = upd (fun i => hv (h.take j) f (16 + i)) m (h.getD j default).l i := by
  have e : h.take (j + 1) = h.take j ++ [h.getD j default] := by
    rw [List.take_add_one, List.getD_eq_getElem?_getD, List.getElem?_eq_getElem hj]; rfl
  rw [e, hv_snoc]
  have hn : ∀ y ∈ h.take j, y.i ≠ (h.getD j default).i := by
    intro y hy q
    rw [← List.take_append_drop j h, List.map_append, List.nodup_append] at nd
    refine nd.2.2 y.i (List.mem_map.2 ⟨y, hy, rfl⟩) y.i (List.mem_map.2 ⟨h.getD j default, ?_, q.symm⟩) rfl
    rw [List.getD_eq_getElem?_getD, List.getElem?_eq_getElem hj, List.drop_eq_getElem_cons hj]
    exact List.mem_cons_self ..
  unfold upd
  by_cases him : i = m
  · subst him
    rw [if_pos ⟨fun y hy q => hn y hy (q.trans hm.symm), hm⟩, if_pos rfl]
  · rw [if_neg fun q => him ?_, if_neg him]
    have := hm.symm.trans q.2
    omega
theorem hv_all (h : List Hm) (f : Nat → List Int) (b : Nat) : hv (h.take h.length) f b = hv h f b := by rw [List.take_length]
theorem hv_zero (h : List Hm) (f : Nat → List Int) (b : Nat) : hv (h.take 0) f b = f b := rfl

/-- a log, and what its lines should hold; K bounds the commits so far -/
structure Kp (w wr : World) (x g y q n P per gw K p : Nat) (s : Nv) (f : Nat → List Int) : Prop where
  lg : Lg wr x g y q (16 + n) P per p s
  ok : LgOk s (16 + n) P
  calm : s.calm
  own : Ol w.heap.size wr gw n n f
  bel : Below w.heap.size w wr
  pl : w.heap.size ≤ g ∧ w.heap.size ≤ y ∧ gw ≠ g ∧ gw ≠ y ∧ gw ≠ x ∧ gw ≠ q
  num : n ≤ 20 ∧ P ≤ 16 ∧ per ≤ 20 ∧ K ≤ 100 ∧ tm s ≤ 32 * K ∧ p ≤ 30 * K
  c : s.c ≤ 2624 * K
theorem Kp.below {w wr wr' : World} {x g y q n P per gw K p : Nat} {s : Nv} {f : Nat → List Int} (h : Kp w wr x g y q n P per gw K p s f) (hb : Below wr.heap.size wr wr') : Kp w wr' x g y q n P per gw K p s f :=
  ⟨h.lg.below hb, h.ok, h.calm, h.own.below hb, below_base h.bel h.bel.size hb, h.pl, h.num, h.c⟩
theorem Kp.room {w wr : World} {x g y q n P per gw K p : Nat} {s : Nv} {f : Nat → List Int} (h : Kp w wr x g y q n P per gw K p s f) : Room (16 + n) P per p s := by
  have := h.num
  have := h.c
  exact ⟨by omega, by omega, by omega, by omega, by omega⟩
theorem Kp.as {w wr : World} {x g y q n P per gw K p : Nat} {s : Nv} {f f' : Nat → List Int} (h : Kp w wr x g y q n P per gw K p s f) (he : ∀ i, i < n → f' i = f i) : Kp w wr x g y q n P per gw K p s f' :=
  ⟨h.lg, h.ok, h.calm, h.own.as he, h.bel, h.pl, h.num, h.c⟩
theorem Kp.more {w wr : World} {x g y q n P per gw K p : Nat} {s : Nv} {f : Nat → List Int} (h : Kp w wr x g y q n P per gw K p s f) (hK : K < 100) : Kp w wr x g y q n P per gw (K + 1) p s f :=
  ⟨h.lg, h.ok, h.calm, h.own, h.bel, h.pl, by have := h.num; omega, by have := h.c; push_cast; omega⟩
/-- one of the lines to hold is laid anew -/
theorem Kp.lay {w wr : World} {x g y q n P per gw K p m : Nat} {s : Nv} {f : Nat → List Int} {l : List Int} (h : Kp w wr x g y q n P per gw K p s f) (hm : m < n) (hl : l.length = 8) (hgw : w.heap.size ≤ gw) :
    (lineStore (.pointer (some ⟨gw, m * 8, none⟩)) (.agg (lc l))).run Try.prog wr = .ok () (wr.setCells gw (m * 8) (l.map uv)) ∧ Kp w (wr.setCells gw (m * 8) (l.map uv)) x g y q n P per gw K p s (upd f m l) := by
  obtain ⟨a, b⟩ := h.own.store hm hl
  have pl := h.pl
  have hc : Chg [gw] wr (wr.setCells gw (m * 8) (l.map uv)) := Chg.setCells (.inl (by simp)) _ _ _ (Chg.refl _ _)
  exact ⟨a, ⟨h.lg.chg hc (by simp; omega) (by simp; omega) (by simp; omega) (by simp; omega), h.ok, h.calm, b, hc.below h.bel h.bel.size (fun k hk => by rw [List.mem_singleton.1 hk]; exact hgw), h.pl, h.num, h.c⟩⟩
/-- behind a commit -/
theorem Kp.com {w wr w' : World} {x g y q n P per gw K p : Nat} {s : Nv} {f : Nat → List Int} {h : List Hm} (k : Kp w wr x g y q n P per gw K p s f) (hK : K < 100) (hk : lk s = 0) (hM : MayH (16 + n : Nat) h) (hw : Wide h)
    (hL : Lg w' x g y q (16 + n) P per (lcom (16 + n) P per p h s).2.1 (lcom (16 + n) P per p h s).2.2) (hC : Chg [g, y] wr w') :
    Kp w w' x g y q n P per gw (K + 1) (lcom (16 + n) P per p h s).2.1 (lcom (16 + n) P per p h s).2.2 f ∧
    (((lcom (16 + n) P per p h s).1 = 0 ∧ ∀ b, 16 ≤ b → b < 16 + n → view (lcom (16 + n) P per p h s).2.2 (16 + n) P b = hv h (view s (16 + n) P) b) ∨
     ((lcom (16 + n) P per p h s).1 = 3 ∧ lk (lcom (16 + n) P per p h s).2.2 = 0 ∧ ∀ b, 16 ≤ b → b < 16 + n → view (lcom (16 + n) P per p h s).2.2 (16 + n) P b = view s (16 + n) P b)) := by
  obtain ⟨S, hp, o⟩ := lcom_out per p k.ok k.calm.1 hk hM hw (by have := k.num; omega)
  generalize lcom (16 + n) P per p h s = R at *
  have hc : R.2.2.comes = false := S.comes.trans k.calm.2
  have hS := S.hi
  have hc2 := S.c
  have hc3 := k.c
  have num := k.num
  have fin : R.2.2.dark = false → Kp w w' x g y q n P per gw (K + 1) R.2.1 R.2.2 f := fun hd =>
    ⟨hL, S.lg, ⟨hd, hc⟩, k.own.chg hC (by have := k.pl; simp; omega), hC.below k.bel k.bel.size (fun j hj => by simp at hj; have := k.pl; rcases hj with rfl | rfl; exact this.1; exact this.2.1), k.pl, by omega, by push_cast; omega⟩
  rcases o with ⟨h1, h2, h3⟩ | ⟨h1, h2, h3, h4⟩ | ⟨_, h2, _⟩
  · exact ⟨fin h2, .inl ⟨h1, h3⟩⟩
  · exact ⟨fin h2, .inr ⟨h1, h3, h4⟩⟩
  · rw [k.calm.2] at h2; cases h2
/-- homes that came in stay, whatever the log's memory does -/
theorem Kp.homes {w wr : World} {x g y q n P per gw K p : Nat} {s : Nv} {f : Nat → List Int} {v : Value} {h : List Hm} (k : Kp w wr x g y q n P per gw K p s f) (hr : RA homeE w v h) : ∀ w', Chg [g, y] wr w' → RA homeE w' v h :=
  fun _ hc => ra_below hr (hc.below k.bel k.bel.size (fun j hj => by simp at hj; have := k.pl; rcases hj with rfl | rfl; exact this.1; exact this.2.1))
theorem ra_wide {w : World} {v : Value} {h : List Hm} (hr : RA homeE w v h) : Wide h := fun x hx => (ra_ok hr x hx).len
end Go.Proofs.Ytjghhcbiaklomaa

/-
  Homes that a statement writes out: one, a slice of one, of two.
-/
namespace Go.Proofs.Ytjghhcbiaklomaa
set_option maxRecDepth 100000
open Go.RowKit

theorem eight {l : List Int} (h : l.length = 8) : ∃ a b c d e f g i, l = [a, b, c, d, e, f, g, i] := by
  match l, h with
  | [a, b, c, d, e, f, g, i], _ => exact ⟨a, b, c, d, e, f, g, i, rfl⟩
theorem built_home2 (i a b c d e f g k : Int) : Try.prog.built 41 [(0, .int .i64 i), (1, .agg #[.int .u64 a, .int .u64 b, .int .u64 c, .int .u64 d, .int .u64 e, .int .u64 f, .int .u64 g, .int .u64 k])] = some (hmc ⟨i, [a, b, c, d, e, f, g, k]⟩) := by kernel_rfl
theorem built_home1 (i : Int) : Try.prog.built 41 [(0, .int .i64 i)] = some (hmc ⟨i, zeros⟩) := by kernel_rfl
def homeBuild (ps : Array (Nat × Value)) : Sem Value := Instr.build 41 ps
@[go_sem ↓] theorem build_home (ps : Array (Nat × Value)) : Instr.build 41 ps = homeBuild ps := rfl
@[go_sem] theorem run_homeBuild2 (w : World) (i a b c d e f g k : Int) : (homeBuild #[(0, .int .i64 i), (1, .agg #[.int .u64 a, .int .u64 b, .int .u64 c, .int .u64 d, .int .u64 e, .int .u64 f, .int .u64 g, .int .u64 k])]).run Try.prog w = .ok (.agg (hmc ⟨i, [a, b, c, d, e, f, g, k]⟩)) w := run_build w _ _ _ (built_home2 i a b c d e f g k)
@[go_sem] theorem run_homeBuild1 (w : World) (i : Int) : (homeBuild #[(0, .int .i64 i)]).run Try.prog w = .ok (.agg (hmc ⟨i, zeros⟩)) w := run_build w _ _ _ (built_home1 i)
@[go_sem] theorem run_homeBuildL (w : World) (i : Int) (l : List Int) (h : l.length = 8) : (homeBuild #[(0, .int .i64 i), (1, .agg (lc l))]).run Try.prog w = .ok (.agg (hmc ⟨i, l⟩)) w := by
  obtain ⟨a, b, c, d, e, f, g, k, rfl⟩ := eight h
  exact run_homeBuild2 w i a b c d e f g k
theorem built_slice1 (w : World) (i a b c d e f g k : Int) : (Instr.buildSlice 33 1 #[(0, .agg #[.int .i64 i, .int .u64 a, .int .u64 b, .int .u64 c, .int .u64 d, .int .u64 e, .int .u64 f, .int .u64 g, .int .u64 k])]).run Try.prog w =
    .ok (.slice (some ⟨w.heap.size, 0, none⟩) 1 1) (w.alloc (.cells #[.int .i64 i, .int .u64 a, .int .u64 b, .int .u64 c, .int .u64 d, .int .u64 e, .int .u64 f, .int .u64 g, .int .u64 k] 41)) := by
  simp [Instr.buildSlice, run_underlying Try.underlying33, Instr.fill, go_sem]
theorem built_slice2 (w : World) (i a b c d e f g k i' a' b' c' d' e' f' g' k' : Int) :
    (Instr.buildSlice 33 2 #[(0, .agg #[.int .i64 i, .int .u64 a, .int .u64 b, .int .u64 c, .int .u64 d, .int .u64 e, .int .u64 f, .int .u64 g, .int .u64 k]), (1, .agg #[.int .i64 i', .int .u64 a', .int .u64 b', .int .u64 c', .int .u64 d', .int .u64 e', .int .u64 f', .int .u64 g', .int .u64 k'])]).run Try.prog w =
    .ok (.slice (some ⟨w.heap.size, 0, none⟩) 2 2) (w.alloc (.cells #[.int .i64 i, .int .u64 a, .int .u64 b, .int .u64 c, .int .u64 d, .int .u64 e, .int .u64 f, .int .u64 g, .int .u64 k, .int .i64 i', .int .u64 a', .int .u64 b', .int .u64 c', .int .u64 d', .int .u64 e', .int .u64 f', .int .u64 g', .int .u64 k'] 41)) := by
  simp [Instr.buildSlice, run_underlying Try.underlying33, Instr.fill, go_sem]
theorem built_slice0 (w : World) : (Instr.buildSlice 33 0 #[]).run Try.prog w = .ok (.slice (some ⟨w.heap.size, 0, none⟩) 0 0) (w.alloc (.cells #[] 41)) := by
  simp [Instr.buildSlice, run_underlying Try.underlying33, Instr.fill, go_sem]
def homeSlice (n : Nat) (ps : Array (Nat × Value)) : Sem Value := Instr.buildSlice 33 n ps
@[go_sem ↓] theorem slice_home (n : Nat) (ps : Array (Nat × Value)) : Instr.buildSlice 33 n ps = homeSlice n ps := rfl
@[go_sem] theorem run_homeSlice0 (w : World) : (homeSlice 0 #[]).run Try.prog w = .ok (.slice (some ⟨w.heap.size, 0, none⟩) 0 0) (w.alloc (.cells #[] 41)) := built_slice0 w
@[go_sem] theorem run_homeSlice1 (w : World) (c : Hm) (h : c.l.length = 8) : (homeSlice 1 #[(0, .agg (hmc c))]).run Try.prog w = .ok (.slice (some ⟨w.heap.size, 0, none⟩) 1 1) (w.alloc (.cells (hmc c) 41)) := by
  obtain ⟨i, l⟩ := c
  obtain ⟨a, b, c, d, e, f, g, k, rfl⟩ := eight h
  exact built_slice1 w i a b c d e f g k
@[go_sem] theorem run_homeSlice2 (w : World) (c c' : Hm) (h : c.l.length = 8) (h' : c'.l.length = 8) : (homeSlice 2 #[(0, .agg (hmc c)), (1, .agg (hmc c'))]).run Try.prog w = .ok (.slice (some ⟨w.heap.size, 0, none⟩) 2 2) (w.alloc (.cells (c.cells ++ c'.cells).toArray 41)) := by
  obtain ⟨i, l⟩ := c
  obtain ⟨i', l'⟩ := c'
  obtain ⟨a, b, c, d, e, f, g, k, rfl⟩ := eight h
  obtain ⟨a', b', c', d', e', f', g', k', rfl⟩ := eight h'
  exact built_slice2 w i a b c d e f g k i' a' b' c' d' e' f' g' k'
end Go.Proofs.Ytjghhcbiaklomaa

/-
  'awake' of layer 12's statements.
-/
namespace Go.Proofs.Ytjghhcbiaklomaa
set_option maxRecDepth 100000
open Go.RowKit

def aw12 : List Hm := [⟨16, [1, 0, 0, 0, 0, 0, 0, 0]⟩, ⟨18, [2, 0, 0, 0, 0, 0, 0, 0]⟩]
theorem aw12_may : MayH (16 + 4 : Nat) aw12 := ⟨by decide, by decide, by decide, by decide, by decide⟩
theorem aw12_ok : AllOk homeE aw12 := by
  intro x hx
  simp only [aw12, List.mem_cons, List.not_mem_nil, or_false] at hx
  rcases hx with rfl | rfl <;> exact ⟨rfl, by decide⟩
theorem awake_plain12 : ∃ s0 R, newNv (16 + 4 + 1 + 0) [] = s0 ∧ lcom (16 + 4) 0 1 0 aw12 s0 = R ∧ LgOk s0 (16 + 4) 0 ∧ s0.dark = false ∧ Room (16 + 4) 0 1 0 s0 ∧ lk s0 = 0 ∧
    R.1 = 0 ∧ LgOk R.2.2 (16 + 4) 0 ∧ R.2.2.dark = false ∧ Room (16 + 4) 0 1 R.2.1 R.2.2 ∧ lk R.2.2 = 0 ∧ view R.2.2 (16 + 4) 0 16 = [1, 0, 0, 0, 0, 0, 0, 0] ∧ view R.2.2 (16 + 4) 0 18 = [2, 0, 0, 0, 0, 0, 0, 0] := by
  have NL := newNv_lg (n := 16 + 4) (P := 0) (by decide) (by decide) (by decide) []
  have NC : (newNv (16 + 4 + 1 + 0) []).calm := newNv_calm _ _
  have NF : Free (newNv (16 + 4 + 1 + 0) []) := newNv_free _
  have hc : (newNv (16 + 4 + 1 + 0) []).c = 0 := rfl
  generalize newNv (16 + 4 + 1 + 0) [] = s0 at *
  have hw : Wide aw12 := fun x hx => (aw12_ok x hx).len
  have R0 : Room (16 + 4) 0 1 0 s0 := ⟨by decide, by decide, by have := NL.2.2.1; omega, by omega, by decide⟩
  obtain ⟨S, hp, o⟩ := lcom_out (h := aw12) 1 0 NL.1 NC.1 NL.2.1 aw12_may hw (by have := NL.2.2.1; omega)
  obtain ⟨g1, g2, g3⟩ := lcom_go (h := aw12) 1 0 NL.1 aw12_may hw NF (by have := NL.2.2.1; omega)
  refine ⟨s0, _, rfl, rfl, NL.1, NC.1, R0, NL.2.1, g1, S.lg, g2.calm.1, ⟨by decide, by omega, ?_, ?_, by decide⟩, g3, ?_, ?_⟩
  · have := S.hi; have := NL.2.2.1; omega
  · have := S.c; omega
  · rcases o with ⟨_, _, h⟩ | ⟨h, _⟩ | ⟨h, _⟩
    · rw [h 16 (by decide) (by decide)]; rfl
    · rw [g1] at h; cases h
    · rw [g1] at h; cases h
  · rcases o with ⟨_, _, h⟩ | ⟨h, _⟩ | ⟨h, _⟩
    · rw [h 18 (by decide) (by decide)]; rfl
    · rw [g1] at h; cases h
    · rw [g1] at h; cases h

set_option maxHeartbeats 1000000 in
theorem awake_any (C : Ctr) (w : World) : Calls Try.prog 11 #[] w fun e w' => e = .returned (.bool true) ∧ Below w.heap.size w w' := by
  obtain ⟨s0, R, e0, eR, a1, a2, a3, a4, b1, b2, b3, b4, b5, b6, b7⟩ := awake_plain12
  have A0 := Lib.hid e0; have AR := Lib.hid eR
  have AA := Lib.hid (And.intro a1 (And.intro a2 (And.intro a3 a4)))
  have BB := Lib.hid (And.intro b1 (And.intro b2 (And.intro b3 (And.intro b4 (And.intro b5 (And.intro b6 b7))))))
  clear e0 eR a1 a2 a3 a4 b1 b2 b3 b4 b5 b6 b7
  have MM := Lib.hid fun w => made_yes C (n := 4) (P := 0) (per := 1) (.slice none 0 0) [] w (by decide) (by decide) (by decide) (by decide) (by decide) (ri_nil w)
  rw [A0.out] at MM
  go_enter Try.func11, Try.ntmps11
  go_wp2_with fail
  refine (MM.out _).mono ?_; rintro e w1 ⟨x, g, y, q, rfl, hx, hg, hy, hq, hL, hb⟩
  have B1 := Lib.hid hb
  have L1 := Lib.hid hL
  have PL : Hid (w.heap.size ≤ g ∧ w.heap.size ≤ y) := Lib.hid ⟨hg, hy⟩
  clear hx hg hy hq hL hb
  obtain ⟨W, hW⟩ : ∃ W, w1.alloc (.cells ((⟨16, [1, 0, 0, 0, 0, 0, 0, 0]⟩ : Hm).cells ++ (⟨18, [2, 0, 0, 0, 0, 0, 0, 0]⟩ : Hm).cells).toArray 41) = W := ⟨_, rfl⟩
  have OW := own_lit_a homeE w1 (l := aw12) aw12_ok (by unfold maxLen; decide)
  have LW := L1.out.below (bal (o := .cells ((aw12.flatMap homeE.enc).toArray) homeE.e) (Below.refl _ _))
  have BW := bal (o := .cells ((aw12.flatMap homeE.enc).toArray) homeE.e) B1.out
  rw [show w1.alloc (.cells ((aw12.flatMap homeE.enc).toArray) homeE.e) = W from hW] at OW LW BW
  have RW := Lib.hid OW.ra
  have LW2 := Lib.hid LW
  have BW2 := Lib.hid BW
  have CC := C.com W x g y q (16 + 4) 0 1 0 s0 _ aw12 LW AA.out.1 AA.out.2.1 AA.out.2.2.1 AA.out.2.2.2 (fun w' hc => ra_chg OW.ra hc fun b hb => by cases hb; have := L1.out.nm.lt; have := L1.out.tq.lt; simp; omega) aw12_may
  rw [AR.out, BB.out.1] at CC
  have CC := Lib.hid CC
  clear OW LW BW
  go_wp2_with fail
  refine (CC.out).mono ?_; rintro e w2 ⟨rfl, hL, hC⟩
  have L2 := Lib.hid hL
  have B2 := Lib.hid (hC.below BW2.out BW2.out.size (fun k hk => by simp at hk; rcases hk with rfl | rfl; exact PL.out.1; exact PL.out.2))
  have G1 := C.get w2 x g y q (16 + 4) 0 1 R.2.1 16 R.2.2 hL BB.out.2.1 BB.out.2.2.1 BB.out.2.2.2.1 (by decide) (by decide)
  rw [BB.out.2.2.2.2.2.1] at G1
  have G1 := Lib.hid G1
  clear hL hC hW
  go_wp2_with fail
  refine (G1.out).mono ?_; rintro e w3 ⟨rfl, hb⟩
  obtain ⟨W3, hW3, H3⟩ := boxed1 w3 (a := [1, 0, 0, 0, 0, 0, 0, 0]) rfl
  have L3 := Lib.hid ((L2.out.below hb).below H3.out.2)
  have B3 := Lib.hid (below_more (below_more B2.out hb) H3.out.2)
  have G2 := C.get W3 x g y q (16 + 4) 0 1 R.2.1 18 R.2.2 L3.out BB.out.2.1 BB.out.2.2.1 BB.out.2.2.2.1 (by decide) (by decide)
  rw [BB.out.2.2.2.2.2.2] at G2
  have G2 := Lib.hid G2
  clear hb
  go_wp2_with fail
  refine (G2.out).mono ?_; rintro e w4 ⟨rfl, hb⟩
  obtain ⟨W4, hW4, H4⟩ := boxed1 w4 (a := [2, 0, 0, 0, 0, 0, 0, 0]) rfl
  have L4 := Lib.hid ((L3.out.below hb).below H4.out.2)
  have B4 := Lib.hid (below_more (below_more B3.out hb) H4.out.2)
  have l3 := ((H3.out.1.below hb).below H4.out.2).load
  have l4 := H4.out.1.load
  have PD := C.pend W4 x g y q (16 + 4) 0 1 R.2.1 R.2.2 L4.out BB.out.2.1 BB.out.2.2.1
  rw [BB.out.2.2.2.2.1] at PD
  have PD : Hid (Calls Try.prog 14 #[.pointer (some ⟨x, 0, none⟩)] W4 fun e w' => e = .returned (.bool false) ∧ Below W4.heap.size W4 w') := Lib.hid PD
  clear hb
  go_wp2_with fail
  refine (PD.out).mono ?_; rintro e w5 ⟨rfl, hb⟩
  have B5 := Lib.hid (below_more B4.out hb)
  have hz8 : zeros.length = 8 := rfl
  obtain ⟨V, hV⟩ : ∃ V, w5.alloc (.cells (hmc ⟨19, zeros⟩) 41) = V := ⟨_, rfl⟩
  have hok : AllOk homeE [⟨19, zeros⟩] := fun x hx => by rw [List.mem_singleton.1 hx]; exact ⟨rfl, by decide⟩
  have OV := own_lit_a homeE w5 (l := [⟨19, zeros⟩]) hok (by unfold maxLen; decide)
  have eV : w5.alloc (.cells ((([⟨19, zeros⟩] : List Hm).flatMap homeE.enc).toArray) homeE.e) = V := hV
  have BV := bal (o := .cells ((([⟨19, zeros⟩] : List Hm).flatMap homeE.enc).toArray) homeE.e) B5.out
  rw [eV] at OV BV
  have MV := Lib.hid (C.may V 20 _ [⟨19, zeros⟩] true OV.ra ⟨fun _ => ⟨by decide, by decide, by decide, by decide, by decide⟩, fun _ => rfl⟩)
  have BV2 := Lib.hid BV
  clear hb OV BV hok eV
  go_wp2_with fail
  refine (MV.out).mono ?_; rintro e w6 ⟨rfl, hb⟩
  have B6 := Lib.hid (below_more BV2.out hb)
  clear hb
  go_wp2_with fail
  go_ret
  exact ⟨rfl, B6.out⟩
end Go.Proofs.Ytjghhcbiaklomaa

/-
  Homes of a call's own, given by a function: a number stored, a line stored.
-/
namespace Go.Proofs.Ytjghhcbiaklomaa
set_option maxRecDepth 100000
open Go.ChangeShapes Go.WideShapes Go.ChangeAt Go.RowKit

section
variable {P : Program} {α : Type} [Inhabited α]
/-- a part of an element stored -/
theorem OwnA.setPart {E : Elm P α} {B g n c : Nat} {w : World} {l : List α} (h : OwnA E B w (.slice (some ⟨g, 0, none⟩) n c) l) {k o : Nat} {x : α} {cs : List Value} (hk : k < l.length) (ho : o + cs.length ≤ E.size) (hx : E.ok x)
    (he : ∀ j, j < E.size → (E.enc x)[j]? = if o ≤ j ∧ j < o + cs.length then cs[j - o]? else (E.enc (l.getD k default))[j]?) :
    OwnA E B (w.setCells g (k * E.size + o) cs) (.slice (some ⟨g, 0, none⟩) n c) (l.set k x) := by
  have hok : AllOk E (l.set k x) := fun y hy => by
    rcases List.mem_or_eq_of_mem_set hy with hy | rfl
    · exact h.2 y hy
    · exact hx
  obtain ⟨⟨hl, h0 | ⟨g', cap, cur, e, hb, hg, hnc, hcm, hsz, htk⟩⟩, hal⟩ := h
  · cases h0.1
  cases e
  obtain ⟨cur', w1, w2, w3⟩ := Whole.setCells cs (k * E.size + o) w cur (show Whole w g E.e cur from hg)
  have hlt : (k + 1) * E.size ≤ l.length * E.size := Nat.mul_le_mul_right _ hk
  have hcap : l.length * E.size ≤ c * E.size := Nat.mul_le_mul_right _ hnc
  have hcur : cur'.toList.length = c * E.size := by rw [Array.length_toList, w2, hsz]
  rw [Nat.add_mul] at hlt
  refine ⟨⟨by rw [flat_length E _ hok], .inr ⟨g, c, cur', by rw [List.length_set], hb, w1, by rw [List.length_set]; exact hnc, hcm, by rw [w2]; exact hsz, ?_⟩⟩, hok⟩
  rw [List.length_set]
  refine flat_ext E hok (by rw [List.length_take, hcur, List.length_set]; omega) fun k' j' hk' hj' => ?_
  rw [List.length_set] at hk'
  have hlt' : (k' + 1) * E.size ≤ l.length * E.size := Nat.mul_le_mul_right _ hk'
  rw [Nat.add_mul] at hlt'
  rw [List.getElem?_take, if_pos (by omega), Array.getElem?_toList, w3]
  have old : cur[k' * E.size + j']? = (E.enc (l.getD k' default))[j']? := by rw [← flat_get E l hal _ _ hk' hj', ← htk, List.getElem?_take, if_pos (by omega), Array.getElem?_toList]
  by_cases hkk : k = k'
  · subst hkk
    have eg : (l.set k x).getD k default = x := by simp [hk]
    rw [eg, he _ hj', old]
    by_cases hr : o ≤ j' ∧ j' < o + cs.length
    · rw [if_pos hr, if_pos (by omega), show k * E.size + j' - (k * E.size + o) = j' - o by omega]
    · rw [if_neg hr, if_neg (by omega)]
  · have eg : (l.set k x).getD k' default = l.getD k' default := by simp [hkk]
    rw [eg, old, if_neg]
    intro q
    rcases Nat.lt_or_gt_of_ne hkk with h1 | h1
    · have : (k + 1) * E.size ≤ k' * E.size := Nat.mul_le_mul_right _ h1
      rw [Nat.add_mul] at this; omega
    · have : (k' + 1) * E.size ≤ k * E.size := Nat.mul_le_mul_right _ h1
      rw [Nat.add_mul] at this; omega
end

/-- k homes of a call's own -/
def Oh (B : Nat) (w : World) (b k c : Nat) (f : Nat → Hm) : Prop := OwnA homeE B w (.slice (some ⟨b, 0, none⟩) k c) ((List.range k).map f)
theorem oh_getD {k j : Nat} {f : Nat → Hm} (hj : j < k) : ((List.range k).map f).getD j default = f j := by simp [hj]
section
variable {B b k c : Nat} {w w' : World} {f f' : Nat → Hm}
theorem Oh.wf (h : Oh B w b k c f) {j : Nat} (hj : j < k) : (f j).Wf := by
  have := h.2.at_ (k := j) (by simpa using hj)
  rw [oh_getD hj] at this; exact this
theorem Oh.as (h : Oh B w b k c f) (he : ∀ i, i < k → f' i = f i) : Oh B w b k c f' := by
  have e : (List.range k).map f' = (List.range k).map f := List.map_congr_left fun i hi => he i (List.mem_range.1 hi)
  unfold Oh; rw [e]; exact h
theorem Oh.below (h : Oh B w b k c f) (hb : Below w.heap.size w w') : Oh B w' b k c f := OwnA.below h hb
theorem Oh.chg {D : List Nat} (h : Oh B w b k c f) (hc : Chg D w w') (hD : b ∉ D) : Oh B w' b k c f := OwnA.chg h hc fun j hj => by cases hj; exact hD
theorem Oh.ra (h : Oh B w b k c f) : RA homeE w (.slice (some ⟨b, 0, none⟩) k c) ((List.range k).map f) := OwnA.ra h
theorem Oh.free (h : Oh B w b k c f) (j : Nat) : w.frozen? ⟨b, j, none⟩ = false := OwnA.free h j
theorem Oh.row (h : Oh B w b k c f) {j : Nat} (hj : j < k) : w.rangeAt b (j * 9) (f j).cells := by
  obtain ⟨b', off, e, _, hx⟩ := ra_at h.ra (by simp; omega)
  cases e
  have := hx j (by simpa using hj)
  rw [oh_getD hj, Nat.zero_add] at this
  exact this
theorem Oh.lt (h : Oh B w b k c f) (h0 : 0 < k) : b < w.heap.size := by
  obtain ⟨b', off, e, hb, _⟩ := ra_at h.ra (by simp; omega)
  cases e; exact hb
theorem Oh.cell (h : Oh B w b k c f) {j : Nat} (hj : j < k) : w.cell? ⟨b, j * 9, none⟩ = some (.int .i64 (f j).i) := (h.row hj) 0 _ rfl
theorem oh_set {j : Nat} {x : Hm} : ((List.range k).map f).set j x = (List.range k).map (upd f j x) := by
  refine List.ext_getElem (by simp) fun i h1 h2 => ?_
  rw [List.getElem_set]
  simp only [List.getElem_map, List.getElem_range, upd]
  split
  · rename_i e; rw [if_pos e.symm]
  · rename_i e; rw [if_neg fun q => e q.symm]
/-- a number stored -/
theorem Oh.num (h : Oh B w b k c f) {j : Nat} (hj : j < k) {v : Int} (hv : (Lit.int .i64 v).wf = true) : Oh B (w.setCell ⟨b, j * 9, none⟩ (.int .i64 v)) b k c (upd f j ⟨v, (f j).l⟩) := by
  have hw := h.wf hj
  have := OwnA.setCell (k := j) (j := 0) (x := ⟨v, (f j).l⟩) (u := .int .i64 v) h (by simpa using hj) (by decide) ⟨hw.len, hv⟩ (by rw [oh_getD hj]; rfl)
  rw [oh_set] at this
  exact this
/-- a line stored -/
theorem Oh.line (h : Oh B w b k c f) {j : Nat} (hj : j < k) {l : List Int} (hl : l.length = 8) :
    (lineStore (.pointer (some ⟨b, j * 9 + 1, none⟩)) (.agg (lc l))).run Try.prog w = .ok () (w.setCells b (j * 9 + 1) (l.map uv)) ∧ Oh B (w.setCells b (j * 9 + 1) (l.map uv)) b k c (upd f j ⟨(f j).i, l⟩) := by
  have hw := h.wf hj
  constructor
  · unfold lineStore
    rw [run_storeAt_mid (P := Try.prog) w b (j * 9 + 1) 39 (lc l) (fun i hi => ?_) (by rw [info_line, lc_size, hl]) (lc_one l)]
    · simp [lc]
    · rw [lc_size, hl] at hi
      refine ⟨?_, h.free _⟩
      have := (h.row hj) (1 + i) _ (Hm.cells_l hw.len hi)
      rw [← Nat.add_assoc] at this
      rw [this]; rfl
  · have := OwnA.setPart (k := j) (o := 1) (x := ⟨(f j).i, l⟩) (cs := l.map uv) h (by simpa using hj) (by rw [List.length_map, hl]; decide) ⟨hl, hw.wi⟩ (fun i hi => by
      rw [oh_getD hj, List.length_map, hl]
      have hi : i < 9 := hi
      match i, hi with
      | 0, _ => rfl
      | i + 1, hi =>
        rw [if_pos (by omega)]
        show (Hm.cells ⟨(f j).i, l⟩)[i + 1]? = _
        simp [Hm.cells])
    rw [oh_set] at this
    exact this
end
theorem run_make_homes (n : Nat) (hn : n ≤ 200) (kd : IntKind) (w : World) :
    (Instr.makeSlice 33 (.int kd (n : Int)) (.int kd (n : Int))).run Try.prog w = .ok (.slice (some ⟨w.heap.size, 0, none⟩) n n) (w.alloc (.cells (madeCells homeE.z.cells (n * 9)) 41)) := by
  obtain ⟨i, hi, hzz⟩ := Option.map_eq_some_iff.1 homeE.hi
  simp only [Prod.mk.injEq] at hzz
  obtain ⟨hz, hs, hb⟩ := hzz
  have e72 : homeE.bytes = 72 := rfl
  have := run_make (P := Try.prog) w 33 41 i _ Try.underlying33 hi hz kd kd n n (by omega) (by omega) (by rw [hb, e72]; omega) (by omega)
  rw [Int.toNat_natCast, hs] at this
  exact this
theorem oh_made (w : World) (n : Nat) (hn : n ≤ 200) : Oh w.heap.size (w.alloc (.cells (madeCells homeE.z.cells (n * 9)) 41)) w.heap.size n n (fun _ => ⟨0, zeros⟩) := by
  have := own_made_a homeE w n (by unfold maxLen; omega) (x := ⟨0, zeros⟩) ⟨rfl, by decide⟩ rfl
  unfold Oh
  rw [show (List.range n).map (fun _ => (⟨0, zeros⟩ : Hm)) = List.replicate n ⟨0, zeros⟩ by rw [List.map_const', List.length_range]]
  exact this
end Go.Proofs.Ytjghhcbiaklomaa

/-
  Two variables for lines that a statement with two calls makes, in whatever order: stores into them, and what they hold at last.
-/
namespace Go.Proofs.Ytjghhcbiaklomaa
set_option maxRecDepth 100000
open Go.RowKit

/-- a fact that 'assumption' does not see through -/
structure Kept (p : Prop) : Prop where
  out : p
def IsLn (w : World) (g : Nat) : Prop := ∃ l, Ln w g l
theorem size_drew (w : World) : w.drew.heap.size = w.heap.size := rfl
theorem size_row (w : World) (g : Nat) (c : Array Value) : (w.setRow g c).heap.size = w.heap.size := by simp [World.setRow]
theorem IsLn.lt {w : World} {g : Nat} (h : IsLn w g) : g < w.heap.size := h.elim fun _ h => h.lt
theorem IsLn.new (w : World) {l : List Int} (h : l.length = 8) : IsLn (w.alloc (.cells (lc l) 39)) w.heap.size := ⟨l, Ln.new w h⟩
theorem IsLn.new2 (w : World) (o : Obj) {l : List Int} (h : l.length = 8) : IsLn ((w.alloc o).alloc (.cells (lc l) 39)) (w.heap.size + 1) := by
  have := Ln.new (w.alloc o) h
  rw [size_alloc] at this
  exact ⟨l, this⟩
theorem IsLn.fresh (w : World) (g : Nat) {l : List Int} (e : g = w.heap.size) (h : l.length = 8) : IsLn (w.alloc (.cells (lc l) 39)) g := by subst e; exact IsLn.new w h
theorem IsLn.up {w : World} {g : Nat} (h : IsLn w g) (o : Obj) : IsLn (w.alloc o) g := h.elim fun l h => ⟨l, h.alloc o⟩
theorem IsLn.call {w w' : World} {g : Nat} (hb : Below w.heap.size w w') (h : IsLn w g) : IsLn w' g := h.elim fun l h => ⟨l, h.below hb⟩
theorem IsLn.drew {w : World} {g : Nat} (h : IsLn w g) : IsLn w.drew g := h
theorem IsLn.row {w : World} {g g' : Nat} {c : List Int} (h : IsLn w g) (hc : c.length = 8) : IsLn (w.setRow g' (lc c)) g := by
  obtain ⟨l, h⟩ := h
  by_cases e : g = g'
  · subst e; exact ⟨c, h.put hc⟩
  · exact ⟨l, h.past e⟩
theorem run_store_is {w : World} {g : Nat} {x : List Int} (h : IsLn w g) (hx : x.length = 8) : (lineStore (.pointer (some ⟨g, 0, none⟩)) (.agg (lc x))).run Try.prog w = .ok () (w.setRow g (lc x)) :=
  h.elim fun _ h => h.store hx
theorem Ln.new2 (w : World) (o : Obj) {l : List Int} (h : l.length = 8) : Ln ((w.alloc o).alloc (.cells (lc l) 39)) (w.heap.size + 1) l := by
  have := Ln.new (w.alloc o) h
  rwa [size_alloc] at this
theorem put_ln {w : World} {g : Nat} {x : List Int} (h : IsLn w g) (hx : x.length = 8) : Ln (w.setRow g (lc x)) g x := h.elim fun _ h => h.put hx
theorem Ln.fresh (w : World) (g : Nat) {l : List Int} (e : g = w.heap.size) (h : l.length = 8) : Ln (w.alloc (.cells (lc l) 39)) g l := by subst e; exact Ln.new w h
theorem put_at {w : World} {g g' : Nat} {x : List Int} (e : g = g') (h : IsLn w g) (hx : x.length = 8) : Ln (w.setRow g' (lc x)) g x := by subst e; exact put_ln h hx
theorem Ln.drew {w : World} {g : Nat} {l : List Int} (h : Ln w g l) : Ln w.drew g l := h
end Go.Proofs.Ytjghhcbiaklomaa

/-
  Contracts of package log: its small functions.
-/
namespace Go.Proofs.Ytjghhcbiaklomaa
set_option maxRecDepth 100000
open Go.RowKit

section
variable {x g y q n P per p : Nat} {s : Nv} {w : World}
theorem Lg.c0 (h : Lg w x g y q n P per p s) : w.cell? ⟨x, 0, none⟩ = some (.pointer (some ⟨g, 0, none⟩)) := by rw [Whole.at_ h.lb]; rfl
theorem Lg.c1 (h : Lg w x g y q n P per p s) : w.cell? ⟨x, 1, none⟩ = some (.pointer (some ⟨y, 0, none⟩)) := by rw [Whole.at_ h.lb]; rfl
theorem llines_is (h : Lg w x g y q n P per p s) : Calls Try.prog 29 #[.pointer (some ⟨x, 0, none⟩)] w fun e w' => e = .returned (.int .i64 (n : Int)) ∧ w = w' := by
  have c := h.c1
  have C := Lib.hid (tlines_is h.tq)
  clear h
  go_enter Try.func29, Try.ntmps29
  go_wp2_with fail
  refine (C.out).mono ?_; rintro e w' ⟨rfl, rfl⟩
  go_wp2_with fail
  go_ret
  exact ⟨rfl, rfl⟩
theorem llines_nil (w : World) : Calls Try.prog 29 #[.pointer none] w fun e w' => e = .returned (.int .i64 0) ∧ w = w' := by
  go_enter Try.func29, Try.ntmps29
  go_wp2_with fail
  go_ret
  exact ⟨rfl, rfl⟩
/-- what is pending, as the register has it -/
theorem lpend_live {v : Int} (h : Lg w x g y q n P per p s) (hd : s.dark = false) (hr : s.rg 1 = v) : Calls Try.prog 28 #[.pointer (some ⟨x, 0, none⟩)] w fun e w' => e = .returned (.tuple #[.int .u64 v, .int .i64 0]) ∧ w = w' := by
  have C := Lib.hid (reg_yes g s 1 w h.nm (by simp [Nv.rdy, hasR, hd]))
  rw [hr] at C
  have c := h.c0
  clear h hd hr
  go_enter Try.func28, Try.ntmps28
  go_wp2_with fail
  refine (C.out).mono ?_; rintro e w' ⟨rfl, rfl⟩
  go_wp2_with fail
  go_ret2
  exact ⟨rfl, rfl⟩
theorem lpend_dark (h : Lg w x g y q n P per p s) (hd : s.dark = true) : Calls Try.prog 28 #[.pointer (some ⟨x, 0, none⟩)] w fun e w' => e = .returned (.tuple #[.int .u64 0, .int .i64 2]) ∧ w = w' := by
  have C := Lib.hid (reg_is (i := 1) (v := 0) (x := 2) (by simp [Nv.rd, Nv.rdy, hasR, hd]) (by simp [Nv.rdy, hasR, hd]) h.nm)
  have c := h.c0
  clear h hd
  go_enter Try.func28, Try.ntmps28
  go_wp2_with fail
  refine (C.out).mono ?_; rintro e w' ⟨rfl, rfl⟩
  go_wp2_with fail
  go_ret2
  exact ⟨rfl, rfl⟩
theorem lpend_nil (w : World) : Calls Try.prog 28 #[.pointer none] w fun e w' => e = .returned (.tuple #[.int .u64 0, .int .i64 1]) ∧ w = w' := by
  go_enter Try.func28, Try.ntmps28
  go_wp2_with fail
  go_ret2
  exact ⟨rfl, rfl⟩
theorem behind_any (a n : Int) (r : Bool) (hr : r = true ↔ 16 ≤ a ∧ a < n) (w : World) : Calls Try.prog 32 #[.int .i64 a, .int .i64 n] w fun e w' => e = .returned (.bool r) ∧ w = w' := by
  by_cases h1 : 16 ≤ a
  · have i1 : a ≥ 16 := h1
    by_cases h2 : a < n
    · obtain rfl : r = true := hr.2 ⟨h1, h2⟩
      clear hr
      go_enter Try.func32, Try.ntmps32
      go_wp2_with fail
      go_ret
      exact ⟨rfl, rfl⟩
    · obtain rfl : r = false := by cases r; rfl; exact absurd (hr.1 rfl).2 h2
      clear hr
      go_enter Try.func32, Try.ntmps32
      go_wp2_with fail
      go_ret
      exact ⟨rfl, rfl⟩
  · have i1 : ¬ a ≥ 16 := h1
    obtain rfl : r = false := by cases r; rfl; exact absurd (hr.1 rfl).1 h1
    clear hr
    go_enter Try.func32, Try.ntmps32
    go_wp2_with fail
    go_ret
    exact ⟨rfl, rfl⟩
theorem ixl_nat (k : Nat) (hk : k ≤ 1000) (w : World) : Calls Try.prog 55 #[.int .i64 (k : Int)] w fun e w' => e = .returned (.int .i64 (ixN k : Int)) ∧ w = w' := by
  have k1 : IntKind.i64.wrap ((k : Int) + 8) = ((k + 8 : Nat) : Int) := by rw [show (k : Int) + 8 = ((k + 8 : Nat) : Int) by omega]; exact i64_nat _ (by omega)
  have k2 : IntKind.i64.wrap (((k + 8 : Nat) : Int) - 1) = ((k + 7 : Nat) : Int) := by rw [show ((k + 8 : Nat) : Int) - 1 = ((k + 7 : Nat) : Int) by omega]; exact i64_nat _ (by omega)
  have k3 : ((k + 7 : Nat) : Int).tdiv 8 = (ixN k : Int) := by unfold ixN; exact tdiv_nat _ _
  have k4 : IntKind.i64.wrap (ixN k : Int) = (ixN k : Int) := i64_nat _ (by unfold ixN; omega)
  generalize ixN k = j at *
  generalize k + 7 = z at *
  generalize k + 8 = z8 at *
  go_enter Try.func55, Try.ntmps55
  go_wp2_with fail
  go_ret
  exact ⟨rfl, rfl⟩

theorem lg_new (hT : Tq w y g q n per p) (hQ : Lq w q g (n + 1) P) (hN : Nm w g s) (h1 : q ≠ g) (h2 : y ≠ g) (h3 : y ≠ q) (hn : 17 ≤ n) :
    Calls Try.prog 24 #[.pointer (some ⟨g, 0, none⟩), .pointer (some ⟨y, 0, none⟩)] w fun e w' => ∃ x, e = .returned (.pointer (some ⟨x, 0, none⟩)) ∧ w.heap.size ≤ x ∧ Lg w' x g y q n P per p s ∧ Below w.heap.size w w' := by
  have C := Lib.hid (tlines_is hT)
  have i1 : ¬ (n : Int) ≤ 16 := by omega
  obtain ⟨W, hW⟩ : ∃ W, w.alloc (.cells #[.pointer (some ⟨g, 0, none⟩), .pointer (some ⟨y, 0, none⟩)] 65) = W := ⟨_, rfl⟩
  have LW : Hid (Lg W w.heap.size g y q n P per p s ∧ Below w.heap.size w W) := Lib.hid (by
    rw [← hW]
    exact ⟨⟨heap_alloc_last w _, hT.alloc _, hQ.alloc _, hN.alloc _, h1, h2, h3, by have := hN.lt; omega, by have := hT.lt; omega⟩, bal (Below.refl _ _)⟩)
  clear hT hQ hN h1 h2 h3 hn
  go_enter Try.func24, Try.ntmps24
  go_wp2_with fail
  refine (C.out).mono ?_; rintro e w' ⟨rfl, rfl⟩
  go_wp2_with fail
  go_ret
  exact ⟨_, rfl, Nat.le_refl _, LW.out⟩
theorem lg_new_nil (w : World) (g : Nat) : Calls Try.prog 24 #[.pointer (some ⟨g, 0, none⟩), .pointer none] w fun e w' => e = .returned (.pointer none) ∧ Below w.heap.size w w' := by
  go_enter Try.func24, Try.ntmps24
  go_wp2_with fail
  refine (tlines_nil w).mono ?_; rintro e w' ⟨rfl, rfl⟩
  go_wp2_with fail
  go_ret
  exact ⟨rfl, Below.refl _ _⟩
theorem lg_new_few (hT : Tq w y g q n per p) (hn : n ≤ 16) (g' : Nat) :
    Calls Try.prog 24 #[.pointer (some ⟨g', 0, none⟩), .pointer (some ⟨y, 0, none⟩)] w fun e w' => e = .returned (.pointer none) ∧ Below w.heap.size w w' := by
  have C := Lib.hid (tlines_is hT)
  have i1 : (n : Int) ≤ 16 := by omega
  clear hT hn
  go_enter Try.func24, Try.ntmps24
  go_wp2_with fail
  refine (C.out).mono ?_; rintro e w' ⟨rfl, rfl⟩
  go_wp2_with fail
  go_ret
  exact ⟨rfl, Below.refl _ _⟩

theorem pd_live {v : Int} (r : Bool) (h : Lg w x g y q n P per p s) (hd : s.dark = false) (hr : s.rg 1 = v) (hv : r = true ↔ v ≠ 0) : Calls Try.prog 14 #[.pointer (some ⟨x, 0, none⟩)] w fun e w' => e = .returned (.bool r) ∧ w = w' := by
  have C := Lib.hid (lpend_live h hd hr)
  clear h hd hr
  by_cases h0 : v = 0
  · obtain rfl : r = false := by cases r; rfl; exact absurd h0 (hv.1 rfl)
    subst h0
    clear hv
    go_enter Try.func14, Try.ntmps14
    go_wp2_with fail
    refine (C.out).mono ?_; rintro e w' ⟨rfl, rfl⟩
    go_wp2_with fail
    go_ret
    exact ⟨rfl, rfl⟩
  · obtain rfl : r = true := hv.2 h0
    have b0 : (v != 0) = true := bne_iff_ne.2 h0
    clear hv
    go_enter Try.func14, Try.ntmps14
    go_wp2_with fail
    refine (C.out).mono ?_; rintro e w' ⟨rfl, rfl⟩
    go_wp2_with fail
    go_ret
    exact ⟨rfl, rfl⟩
theorem pd_dark (h : Lg w x g y q n P per p s) (hd : s.dark = true) : Calls Try.prog 14 #[.pointer (some ⟨x, 0, none⟩)] w fun e w' => e = .returned (.bool false) ∧ w = w' := by
  have C := Lib.hid (lpend_dark h hd)
  clear h hd
  go_enter Try.func14, Try.ntmps14
  go_wp2_with fail
  refine (C.out).mono ?_; rintro e w' ⟨rfl, rfl⟩
  go_wp2_with fail
  go_ret
  exact ⟨rfl, rfl⟩
theorem pd_nil (w : World) : Calls Try.prog 14 #[.pointer none] w fun e w' => e = .returned (.bool false) ∧ w = w' := by
  go_enter Try.func14, Try.ntmps14
  go_wp2_with fail
  refine (lpend_nil w).mono ?_; rintro e w' ⟨rfl, rfl⟩
  go_wp2_with fail
  go_ret
  exact ⟨rfl, rfl⟩
end
end Go.Proofs.Ytjghhcbiaklomaa

/-
  Contracts of package log: which homes may be together.
-/
namespace Go.Proofs.Ytjghhcbiaklomaa
set_option maxRecDepth 100000
open Go.RowKit

/-- the function that May hands on: is it the same line -/
theorem same_is {B : Nat} {ci : Int} {x : Hm} {W : World} (hc : W.cell? ⟨B, 0, none⟩ = some (.int .i64 ci)) (h8 : x.l.length = 8) (r : Bool) (hr : r = true ↔ x.i = ci) :
    Calls Try.prog 35 #[.agg (hmc x), .pointer (some ⟨B, 0, none⟩)] W fun e w' => e = .returned (.bool r) ∧ Below W.heap.size W w' := by
  obtain ⟨W2, hW, H⟩ := home_boxed W h8
  have d0 := H.out.1.slot
  have hB := World.block_lt_of_cell? _ _ hc
  have c1 := (H.out.2.cell (p := ⟨B, 0, none⟩) hB).trans hc
  obtain ⟨xi, hx⟩ : ∃ xi, x.i = xi := ⟨_, rfl⟩
  rw [hx] at d0 hr
  clear hx hc
  by_cases h : xi = ci
  · obtain rfl : r = true := hr.2 h
    subst h
    clear hr
    go_enter Try.func35, Try.ntmps35
    go_wp2_with fail
    go_ret
    exact ⟨rfl, H.out.2⟩
  · obtain rfl : r = false := by cases r; rfl; exact absurd (hr.1 rfl) h
    have b0 : (xi == ci) = false := beq_eq_false_iff_ne.2 h
    clear hr
    go_enter Try.func35, Try.ntmps35
    go_wp2_with fail
    go_ret
    exact ⟨rfl, H.out.2⟩

set_option maxHeartbeats 1000000 in
theorem idxf_is {B n cap : Nat} {p : Option Addr} {ci : Int} {l : List Hm} {w : World} (hc : w.cell? ⟨B, 0, none⟩ = some (.int .i64 ci)) (hv : RA homeE w (.slice p n cap) l) :
    Calls Try.prog 52 #[.slice p n cap, .func (.func 35) #[] #[.pointer (some ⟨B, 0, none⟩)]] w fun e w' =>
      (∃ i : Int, e = .returned (.int .i64 i) ∧ (0 ≤ i ↔ ∃ x ∈ l, x.i = ci)) ∧ Below w.heap.size w w' := by
  obtain ⟨p', cap', e0, hlc, hcm⟩ := ra_shape hv
  cases e0
  unfold maxLen at hcm
  have eg : ∀ args w, (callFunc 35 args).run Try.prog w = .ok (.enter 35 args) w := Go.Proofs.enters_of Try.func35 (by kernel_rfl) rfl
  have HV := Lib.hid hv
  have HC := Lib.hid hc
  have HM := Lib.hid (And.intro hlc hcm)
  clear hv hc hlc hcm
  go_enter Try.func52, Try.ntmps52
  go_wp2
  go_loopw [8] (fun i wr => ∃ k : Nat, k ≤ l.length ∧ i = .int .i64 k ∧ Hid ((∀ x ∈ l.take k, x.i ≠ ci) ∧ Below w.heap.size w wr)) (fun i _ => l.length - (intOf i).toNat)
  case atStart => exact ⟨0, Nat.zero_le _, rfl, Lib.hid ⟨fun x hx => by simp at hx, Below.refl _ _⟩⟩
  case round =>
    obtain ⟨k, hk, rfl, H⟩ := hrel
    by_cases hlt : k < l.length
    · obtain ⟨b, off, e, _, hx⟩ := home_at (ra_below HV.out H.out.2) (by omega)
      subst e
      obtain ⟨hl, _, _, hwf⟩ := hx k hlt
      obtain ⟨X, hX⟩ : ∃ X, l.getD k default = X := ⟨_, rfl⟩
      rw [hX] at hl hwf
      have hcw := (H.out.2.cell (p := ⟨B, 0, none⟩) (World.block_lt_of_cell? _ _ HC.out)).trans HC.out
      have i0 : (0 : Int) ≤ (k : Int) := by omega
      have i3 : (k : Int) < (l.length : Int) := by omega
      have i4 : ¬ (k : Int) < 0 := by omega
      have j0 : IntKind.i64.wrap ((k : Int) + 1) = ((k + 1 : Nat) : Int) := by rw [show (k : Int) + 1 = ((k + 1 : Nat) : Int) by omega]; exact i64_nat _ (by have := HM.out; omega)
      have HK := Lib.hid hlt
      have HX : Hid (X ∈ l ∧ l.take (k + 1) = l.take k ++ [X]) := Lib.hid ⟨by rw [← hX]; exact getD_mem hlt, by rw [List.take_add_one, ← hX, List.getD_eq_getElem?_getD, List.getElem?_eq_getElem hlt]; rfl⟩
      have h8 := hwf.len
      have KS := Lib.hid fun (r : Bool) (hr : r = true ↔ X.i = ci) => same_is hcw h8 r hr
      clear hx hX hwf hlt hk hcw
      by_cases hi : X.i = ci
      · have hcall := KS.out true ⟨fun _ => hi, fun _ => rfl⟩
        have HI := Lib.hid hi
        clear hi
        go_wp2_with fail
        refine hcall.mono ?_; rintro e w' ⟨rfl, hb'⟩
        go_wp2
        go_ret
        exact ⟨⟨_, rfl, fun _ => ⟨X, HX.out.1, HI.out⟩, fun _ => by omega⟩, below_more H.out.2 hb'⟩
      · have hcall := KS.out false ⟨fun h => (by cases h), fun h => absurd h hi⟩
        have HI := Lib.hid hi
        clear hi
        go_wp2_with fail
        refine hcall.mono ?_; rintro e w' ⟨rfl, hb'⟩
        go_wp2
        have HB := Lib.hid (below_more H.out.2 hb')
        clear hb'
        go_roundw
        case rel => exact ⟨k + 1, by have := HK.out; omega, by go_num, Lib.hid ⟨fun x hx => by
          rw [HX.out.2, List.mem_append] at hx
          rcases hx with hx | hx
          · exact H.out.1 x hx
          · rw [List.mem_singleton.1 hx]; exact HI.out, HB.out⟩⟩
        case measure => have := HK.out; simp [intOf]; omega
    · obtain rfl : k = l.length := by omega
      go_wp2
      go_ret
      exact ⟨⟨_, rfl, fun h => absurd h (by decide), fun ⟨x, hx, e⟩ => absurd e (H.out.1 x (by rw [List.take_length]; exact hx))⟩, H.out.2⟩

theorem cfn_is {B n cap : Nat} {p : Option Addr} {ci : Int} {l : List Hm} {w : World} (r : Bool) (hr : r = true ↔ ∃ x ∈ l, x.i = ci) (hc : w.cell? ⟨B, 0, none⟩ = some (.int .i64 ci)) (hv : RA homeE w (.slice p n cap) l) :
    Calls Try.prog 36 #[.slice p n cap, .func (.func 35) #[] #[.pointer (some ⟨B, 0, none⟩)]] w fun e w' => e = .returned (.bool r) ∧ Below w.heap.size w w' := by
  have C := Lib.hid (idxf_is hc hv)
  have HR := Lib.hid hr
  clear hc hv hr
  go_enter Try.func36, Try.ntmps36
  go_wp2_with fail
  refine (C.out).mono ?_; rintro e w' ⟨⟨i, rfl, hi⟩, hb⟩
  by_cases h : 0 ≤ i
  · have i1 : i ≥ 0 := h
    obtain rfl : r = true := HR.out.2 (hi.1 h)
    clear hi
    go_wp2_with fail
    go_ret
    exact ⟨rfl, hb⟩
  · have i1 : ¬ i ≥ 0 := h
    have i2 : i < 0 := by omega
    have i3 : decide (0 ≤ i) = false := decide_eq_false h
    obtain rfl : r = false := by cases r; rfl; exact absurd (hi.2 (HR.out.1 rfl)) h
    clear hi
    go_wp2_with fail
    go_ret
    exact ⟨rfl, hb⟩

end Go.Proofs.Ytjghhcbiaklomaa

/-
  Contracts of package log: May.
-/
namespace Go.Proofs.Ytjghhcbiaklomaa
set_option maxRecDepth 100000
open Go.RowKit

set_option maxHeartbeats 2000000 in
/-- WHICH HOMES MAY BE TOGETHER -/
theorem may_is (n : Int) (v : Value) (l : List Hm) (r : Bool) (w : World) (hv : RA homeE w v l) (hr : r = true ↔ MayH n l) :
    Calls Try.prog 23 #[.int .i64 n, v] w fun e w' => e = .returned (.bool r) ∧ Below w.heap.size w w' := by
  have hr := hr.trans mayH_good
  obtain ⟨p, cap, rfl, hlc, hcm⟩ := ra_shape hv
  unfold maxLen at hcm
  by_cases h2 : l.length < 1
  · obtain rfl : r = false := by cases r; rfl; have := (hr.1 rfl).2.1; omega
    clear hr
    have i1 : (l.length : Int) < 1 := by omega
    generalize l.length = L at *
    go_enter Try.func23, Try.ntmps23
    go_wp2_with fail
    go_ret
    exact ⟨rfl, Below.refl _ _⟩
  have i1 : ¬ (l.length : Int) < 1 := by omega
  by_cases h3 : 14 < l.length
  · obtain rfl : r = false := by cases r; rfl; have := (hr.1 rfl).2.2.1; omega
    have i2 : (l.length : Int) > 14 := by omega
    clear hr h2 h3
    generalize l.length = L at *
    go_enter Try.func23, Try.ntmps23
    go_wp2_with fail
    go_ret
    exact ⟨rfl, Below.refl _ _⟩
  have i2 : ¬ (l.length : Int) > 14 := by omega
  obtain ⟨b, off, rfl, hb, hx⟩ := home_at hv (by omega)
  have HR : Hid (r = true ↔ GoodH n l l.length) := Lib.hid ⟨fun h => (hr.1 h).2.2.2, fun h => hr.2 ⟨by have := (h 0 (by omega)).1; omega, by omega, by omega, h⟩⟩
  have HC := Lib.hid hlc
  have HL : Hid (l.length ≤ 14) := Lib.hid (by omega)
  have HM := Lib.hid hcm
  have HV := Lib.hid hv
  clear hr hx hlc hcm hb hv h2 h3
  go_enter Try.func23, Try.ntmps23
  go_wp2
  go_loopw [18] (fun i wr => ∃ k : Nat, k ≤ l.length ∧ i = .int .i64 k ∧ Hid (GoodH n l k ∧ Below w.heap.size w wr)) (fun i _ => l.length - (intOf i).toNat)
  case atStart => exact ⟨0, Nat.zero_le _, rfl, Lib.hid ⟨fun i hi => by omega, Below.refl _ _⟩⟩
  case round =>
    obtain ⟨k, hk, rfl, H⟩ := hrel
    by_cases hlt : k < l.length
    · obtain ⟨b', off', e, _, hx⟩ := home_at (ra_below HV.out H.out.2) (by omega)
      cases e
      obtain ⟨hl, _, _, hwf⟩ := hx k hlt
      obtain ⟨x, hx0⟩ : ∃ x, l.getD k default = x := ⟨_, rfl⟩
      rw [hx0] at hl hwf
      obtain ⟨W, hW, HW⟩ := home_boxed wr hwf.len
      have c0 := HW.out.1.slot
      have hw8 := hwf.len
      have HBW := Lib.hid (below_more H.out.2 HW.out.2)
      have i0 : (0 : Int) ≤ (k : Int) := by omega
      have i3 : (k : Int) < (l.length : Int) := by omega
      have i4 : ¬ (k : Int) < 0 := by omega
      have j0 : IntKind.i64.wrap ((k : Int) + 1) = ((k + 1 : Nat) : Int) := by rw [show (k : Int) + 1 = ((k + 1 : Nat) : Int) by omega]; exact i64_nat _ (by have := HL.out; omega)
      have KF : Hid (∀ i, l.getD k default = i → ((16 ≤ i.i ∧ i.i < n) ∧ ∀ j, j < k → i.i ≠ (l.getD j default).i) → GoodH n l (k + 1)) := Lib.hid (by
        rintro i rfl h j hj
        by_cases e : j = k
        · subst e; exact h
        · exact H.out.1 j (by omega))
      have KN : Hid (r = true → (16 ≤ x.i ∧ x.i < n) ∧ ∀ j, j < k → x.i ≠ (l.getD j default).i) := Lib.hid (by
        intro h; have := HR.out.1 h k hlt; rw [hx0] at this; exact this)
      have HX0 := Lib.hid hx0
      have HK := Lib.hid hlt
      have HT : Hid (RA homeE W (.slice (some ⟨b, off, none⟩) k cap) (l.take k)) := Lib.hid (by
        have := ra_take (ra_below HV.out HBW.out) k
        rw [show min k l.length = k by omega] at this; exact this)
      have HTE : Hid (∀ xi, (∃ y ∈ l.take k, y.i = xi) ↔ ∃ j, j < k ∧ (l.getD j default).i = xi) := Lib.hid fun xi => by
        constructor
        · rintro ⟨y, hy, e⟩
          obtain ⟨j, hj, rfl⟩ := mem_getD hy
          rw [List.length_take] at hj
          refine ⟨j, by omega, ?_⟩
          rw [← e, List.getD_eq_getElem?_getD, List.getD_eq_getElem?_getD, List.getElem?_take, if_pos (by omega)]
        · rintro ⟨j, hj, e⟩
          refine ⟨l.getD j default, ?_, e⟩
          have : (l.take k).getD j default = l.getD j default := by rw [List.getD_eq_getElem?_getD, List.getD_eq_getElem?_getD, List.getElem?_take, if_pos hj]
          rw [← this]
          exact getD_mem (by rw [List.length_take]; omega)
      obtain ⟨xi, hxi⟩ : ∃ z, x.i = z := ⟨_, rfl⟩
      rw [hxi] at c0
      have HE := Lib.hid hxi
      have i5 : (k : Int) ≤ (cap : Int) := by have := HC.out; omega
      have i6 : ¬ (cap : Int) < (k : Int) := by omega
      clear hx hwf hx0 hk hxi
      by_cases hbh : 16 ≤ xi ∧ xi < n
      · have BC := Lib.hid (behind_any xi n true ⟨fun _ => hbh, fun _ => rfl⟩ W)
        have HBH := Lib.hid hbh
        clear hbh
        obtain ⟨rr, hrr⟩ : ∃ rr : Bool, rr = true ↔ ∃ y ∈ l.take k, y.i = xi := by
          by_cases hm : ∃ y ∈ l.take k, y.i = xi
          · exact ⟨true, fun _ => hm, fun _ => rfl⟩
          · exact ⟨false, fun e => (by cases e), fun e => absurd e hm⟩
        have CC := Lib.hid (cfn_is rr hrr c0 HT.out)
        have HRR := Lib.hid hrr
        clear hrr hlt
        go_wp2_with fail
        refine (BC.out).mono ?_; rintro e w' ⟨rfl, rfl⟩
        go_wp2_with fail
        refine (CC.out).mono ?_; rintro e w2 ⟨rfl, hb2⟩
        have HB2 := Lib.hid (below_more HBW.out hb2)
        clear hb2
        cases rr
        · have GK : Hid (GoodH n l (k + 1)) := Lib.hid (KF.out x HX0.out ⟨by rw [HE.out]; exact HBH.out, fun j hj e => by
            have := HRR.out.2 ((HTE.out xi).2 ⟨j, hj, e.symm.trans HE.out⟩)
            cases this⟩)
          go_wp2
          go_roundw
          case rel => exact ⟨k + 1, by have := HK.out; omega, by go_num, Lib.hid ⟨GK.out, HB2.out⟩⟩
          case measure => have := HK.out; simp [intOf]; omega
        · obtain rfl : r = false := by
            cases r
            · rfl
            · obtain ⟨j, hj, e⟩ := (HTE.out xi).1 (HRR.out.1 rfl)
              exact absurd (HE.out.trans e.symm) ((KN.out rfl).2 j hj)
          go_wp2
          go_ret
          exact ⟨rfl, HB2.out⟩
      · obtain rfl : r = false := by cases r; rfl; exact absurd (by rw [← HE.out]; exact (KN.out rfl).1) hbh
        have BC := Lib.hid (behind_any xi n false ⟨fun h => (by cases h), fun h => absurd h hbh⟩ W)
        clear hbh hlt
        go_wp2_with fail
        refine (BC.out).mono ?_; rintro e w' ⟨rfl, rfl⟩
        go_wp2
        go_ret
        exact ⟨rfl, HBW.out⟩
    · obtain rfl : k = l.length := by omega
      obtain rfl : r = true := HR.out.2 H.out.1
      go_wp2
      go_ret
      exact ⟨rfl, H.out.2⟩
end Go.Proofs.Ytjghhcbiaklomaa

/-
  Contracts of package log: the index is read.
-/
namespace Go.Proofs.Ytjghhcbiaklomaa
set_option maxRecDepth 100000
open Go.RowKit

/-- what is read so far -/
def rdI (t : Nat → List Int) (i j : Nat) : Hm := if j < i then ⟨ixW t j, zeros⟩ else ⟨0, zeros⟩
theorem rdI_step (t : Nat → List Int) (i j : Nat) : rdI t (i + 1) j = upd (rdI t i) i ⟨ixW t i, zeros⟩ j := by
  unfold rdI upd
  by_cases e : j = i
  · subst e; rw [if_pos (by omega), if_pos rfl]
  · rw [if_neg e]; dsimp only
    by_cases h : j < i
    · rw [if_pos h, if_pos (by omega)]
    · rw [if_neg h, if_neg (by omega)]

set_option maxHeartbeats 1000000 in
theorem ridx_is {x g y q n P per p b k c B : Nat} {s : Nv} {w : World} {t : Nat → List Int} (ht : th s n P = t) (h : Lg w x g y q n P per p s) (L : LgOk s n P) (hd : s.dark = false) (hn : n ≤ 1000) (hk14 : k ≤ 14)
    (hI : ∀ i, i < k → 16 ≤ ixW t i ∧ ixW t i < n) (ho : Oh B w b k c (fun _ => ⟨0, zeros⟩)) (hne : b ≠ x ∧ b ≠ g ∧ b ≠ y ∧ b ≠ q) :
    Calls Try.prog 47 #[.pointer (some ⟨x, 0, none⟩), .slice (some ⟨b, 0, none⟩) k c] w fun e w' => e = .returned (.int .i64 0) ∧ Oh B w' b k c (rdI t k) ∧ Chg [b] w w' := by
  have n17 := L.n17
  have O0 : Hid (Oh B w b k c (rdI t 0)) := Lib.hid (ho.as fun i _ => by unfold rdI; rw [if_neg (by omega)])
  have HL := Lib.hid h
  have HT := Lib.hid (L.g.tok hd)
  have HE := Lib.hid ht
  have HI := Lib.hid hI
  have HN : Hid (17 ≤ n ∧ n ≤ 1000 ∧ k ≤ 14) := Lib.hid ⟨n17, hn, hk14⟩
  have NE := Lib.hid hne
  clear h L hd hI ho hne n17 ht hn hk14
  go_enter Try.func47, Try.ntmps47
  go_wp2
  go_loopw [10] (fun i wr => ∃ z : Nat, z ≤ k ∧ i = .int .i64 z ∧ Hid (Oh B wr b k c (rdI t z) ∧ Chg [b] w wr)) (fun i _ => k - (intOf i).toNat)
  case atStart => exact ⟨0, Nat.zero_le _, rfl, Lib.hid ⟨O0.out, Chg.refl _ _⟩⟩
  case round =>
    obtain ⟨z, hz, rfl, H⟩ := hrel
    clear O0
    by_cases hlt : z < k
    · have L1 := Lib.hid (HL.out.chg H.out.2 (by simpa using NE.out.1.symm) (by simpa using NE.out.2.1.symm) (by simpa using NE.out.2.2.1.symm) (by simpa using NE.out.2.2.2.symm))
      have c1 := L1.out.c1
      obtain ⟨Y, hY⟩ : ∃ Y, t (z / 8) = Y := ⟨_, rfl⟩
      have h8 : Y.length = 8 := by rw [← hY, ← HE.out]; exact th_wide HT.out.l.ok _ _ _
      have GC := Lib.hid (tget_is (a := z / 8) (y := Y) (by rw [← hY, ← HE.out]; rfl) HT.out HN.out.2.1 (by have := HN.out; omega) L1.out.tq L1.out.lq L1.out.nm)
      obtain ⟨v, hv⟩ : ∃ v, Y.getD (z % 8) 0 = v := ⟨_, rfl⟩
      have hvi : ixW t z = v := by unfold ixW; rw [hY, hv]
      have hvb := HI.out z hlt
      rw [hvi] at hvb
      have i0 : (0 : Int) ≤ (z : Int) := by omega
      have i3 : (z : Int) < (k : Int) := by omega
      have i4 : ¬ (z : Int) < 0 := by omega
      have j0 : IntKind.i64.wrap ((z : Int) + 1) = ((z + 1 : Nat) : Int) := by rw [show (z : Int) + 1 = ((z + 1 : Nat) : Int) by omega]; exact i64_nat _ (by have := HN.out; omega)
      have j1 : (z : Int).tdiv 8 = ((z / 8 : Nat) : Int) := tdiv_nat _ _
      have j2 : IntKind.i64.wrap ((z / 8 : Nat) : Int) = ((z / 8 : Nat) : Int) := i64_nat _ (by have := HN.out; omega)
      have j3 : (z : Int).tmod 8 = ((z % 8 : Nat) : Int) := tmod_nat _ _
      have j4 : IntKind.i64.wrap ((z % 8 : Nat) : Int) = ((z % 8 : Nat) : Int) := i64_nat _ (by omega)
      have j5 : (0 : Int) ≤ ((z % 8 : Nat) : Int) := by omega
      have j6 : ((z % 8 : Nat) : Int) < 8 := by omega
      have j7 : ¬ ((z % 8 : Nat) : Int) < 0 := by omega
      have r8 : z % 8 < 8 := by omega
      have m0 : min v 9223372036854775807 = v := by have := HN.out; omega
      have m1 : v < 9223372036854775807 := by have := HN.out; omega
      have m2 : v ≤ 9223372036854775807 := by omega
      have m3 : IntKind.i64.wrap v = v := by
        have := HN.out
        rw [show v = ((v.toNat : Nat) : Int) by omega]; exact i64_nat _ (by omega)
      have m4 : (Lit.int .i64 v).wf = true := by
        have := HN.out
        simp [Lit.wf, IntKind.min, IntKind.max, IntKind.signed, IntKind.bits]; omega
      have HK := Lib.hid hlt
      have VI := Lib.hid hvi
      have ZI : Hid (rdI t z z = ⟨0, zeros⟩) := Lib.hid (by unfold rdI; rw [if_neg (by omega)])
      have M4 := Lib.hid m4
      clear hY hvi hvb hlt hz m4
      generalize z / 8 = za at *
      generalize hzr : z % 8 = zr at *
      clear hzr
      go_wp2_with fail
      refine (GC.out).mono ?_; rintro e w1 ⟨rfl, hb⟩
      obtain ⟨W, hW, H1⟩ := boxed1 w1 h8
      have OW := Lib.hid ((H.out.1.below hb).below H1.out.2)
      have CW := Lib.hid ((H.out.2.trans (Chg.of_below hb [b])).trans (Chg.of_below H1.out.2 [b]))
      obtain ⟨d0, _⟩ := H1.out.1.cell r8
      rw [hv] at d0
      have e0 := OW.out.cell HK.out
      rw [ZI.out] at e0
      have f0 := OW.out.free (z * 9)
      obtain ⟨V, hV⟩ : ∃ V, W.setCell ⟨b, z * 9, none⟩ (.int .i64 v) = V := ⟨_, rfl⟩
      have OV : Hid (Oh B V b k c (rdI t (z + 1)) ∧ Chg [b] w V) := Lib.hid (by
        refine ⟨?_, ?_⟩
        · have := OW.out.num HK.out M4.out
          rw [hV, ZI.out] at this
          refine this.as fun i _ => ?_
          rw [rdI_step, VI.out]
        · rw [← hV]
          exact CW.out.setCell (.inl (by simp)) _)
      clear hb c1 hv
      go_wp2
      exact ⟨⟨z + 1, by have := HK.out; omega, by go_num, OV⟩, by have := HK.out; simp [intOf]; omega⟩
    · obtain rfl : z = k := by omega
      go_wp2
      go_ret
      exact ⟨rfl, H.out⟩
end Go.Proofs.Ytjghhcbiaklomaa

/-
  Contracts of package log: the data are read.
-/
namespace Go.Proofs.Ytjghhcbiaklomaa
set_option maxRecDepth 100000
open Go.RowKit

/-- what is read so far -/
def rdD (t : Nat → List Int) (k i j : Nat) : Hm := ⟨ixW t j, if j < i then t (ixN k + j) else zeros⟩
theorem rdD_step (t : Nat → List Int) (k i j : Nat) : rdD t k (i + 1) j = upd (rdD t k i) i ⟨ixW t i, t (ixN k + i)⟩ j := by
  unfold rdD upd
  by_cases e : j = i
  · subst e; rw [if_pos (by omega), if_pos rfl]
  · rw [if_neg e]; dsimp only
    by_cases h : j < i
    · rw [if_pos h, if_pos (by omega)]
    · rw [if_neg h, if_neg (by omega)]

set_option maxRecDepth 100000 in
set_option maxHeartbeats 2000000 in
theorem rdat_is {x g y q n P per p b k c B : Nat} {s : Nv} {w : World} {t : Nat → List Int} (ht : th s n P = t) (h : Lg w x g y q n P per p s) (L : LgOk s n P) (hd : s.dark = false) (hn : n ≤ 1000) (hk14 : k ≤ 14)
    (ho : Oh B w b k c (rdI t k)) (hne : b ≠ x ∧ b ≠ g ∧ b ≠ y ∧ b ≠ q) :
    Calls Try.prog 48 #[.pointer (some ⟨x, 0, none⟩), .slice (some ⟨b, 0, none⟩) k c] w fun e w' => e = .returned (.int .i64 0) ∧ Oh B w' b k c (rdD t k k) ∧ Chg [b] w w' := by
  have n17 := L.n17
  have O0 : Hid (Oh B w b k c (rdD t k 0)) := Lib.hid (ho.as fun i hi => by unfold rdD rdI; rw [if_neg (by omega), if_pos hi])
  have HL := Lib.hid h
  have HT := Lib.hid (L.g.tok hd)
  have HE := Lib.hid ht
  have HN : Hid (17 ≤ n ∧ n ≤ 1000 ∧ k ≤ 14) := Lib.hid ⟨n17, hn, hk14⟩
  have NE := Lib.hid hne
  have IC := Lib.hid (ixl_nat k (by omega))
  have XB : Hid (ixN k ≤ 2) := Lib.hid (by unfold ixN; omega)
  clear h L hd ho hne n17 ht hn hk14
  go_enter Try.func48, Try.ntmps48
  go_wp2
  go_loopw [10] (fun i wr => ∃ z : Nat, z ≤ k ∧ i = .int .i64 z ∧ Hid (Oh B wr b k c (rdD t k z) ∧ Chg [b] w wr)) (fun i _ => k - (intOf i).toNat)
  case atStart => exact ⟨0, Nat.zero_le _, rfl, Lib.hid ⟨O0.out, Chg.refl _ _⟩⟩
  case round =>
    obtain ⟨z, hz, rfl, H⟩ := hrel
    clear O0
    by_cases hlt : z < k
    · have L1 := Lib.hid (HL.out.chg H.out.2 (by simpa using NE.out.1.symm) (by simpa using NE.out.2.1.symm) (by simpa using NE.out.2.2.1.symm) (by simpa using NE.out.2.2.2.symm))
      have c1 : ∀ w' : World, Kept (Below wr.heap.size wr w') → w'.cell? ⟨x, 1, none⟩ = some (.pointer (some ⟨y, 0, none⟩)) := fun w' hb => (L1.out.below hb.out).c1
      obtain ⟨Y, hY⟩ : ∃ Y, t (ixN k + z) = Y := ⟨_, rfl⟩
      have h8 : Y.length = 8 := by rw [← hY, ← HE.out]; exact th_wide HT.out.l.ok _ _ _
      have GC := Lib.hid fun (w' : World) (hb : Kept (Below wr.heap.size wr w')) => tget_is (a := ixN k + z) (y := Y) (by rw [← hY, ← HE.out]; rfl) HT.out HN.out.2.1 (by have := HN.out; have := XB.out; omega) (L1.out.below hb.out).tq (L1.out.below hb.out).lq (L1.out.below hb.out).nm
      have i0 : (0 : Int) ≤ (z : Int) := by omega
      have i3 : (z : Int) < (k : Int) := by omega
      have i4 : ¬ (z : Int) < 0 := by omega
      have j0 : IntKind.i64.wrap ((z : Int) + 1) = ((z + 1 : Nat) : Int) := by rw [show (z : Int) + 1 = ((z + 1 : Nat) : Int) by omega]; exact i64_nat _ (by have := HN.out; omega)
      have j1 : IntKind.i64.wrap ((ixN k : Int) + (z : Int)) = ((ixN k + z : Nat) : Int) := by rw [show (ixN k : Int) + (z : Int) = ((ixN k + z : Nat) : Int) by omega]; exact i64_nat _ (by have := HN.out; have := XB.out; omega)
      have HK := Lib.hid hlt
      have YE : Hid (∀ i, rdD t k (z + 1) i = upd (rdD t k z) z ⟨ixW t z, Y⟩ i) := Lib.hid fun i => by rw [rdD_step, hY]
      have ZI : Hid ((rdD t k z z).i = ixW t z) := Lib.hid rfl
      clear hY hlt hz
      generalize ixN k + z = za at *
      generalize hxk : ixN k = xk at *
      go_upto_region 4 with fail
      go_cut [6, 7, 10] from 10 to 34 (fun v6 v7 v10 wx => ∃ g' : Nat, v6 = .pointer (some ⟨g', 0, none⟩) ∧ v7 = .int .i64 0 ∧ v10 = .int .i64 (z : Int) ∧ Hid (Ln wx g' Y ∧ Below wr.heap.size wr wx))
      case first =>
        go_region_held3 (fun w' => Kept (Below wr.heap.size wr w'))
          (((refine ⟨?_⟩); (repeat' (with_reducible (first | exact Below.refl _ _ | refine Below.drew ?_ | refine below_more ?_ (by assumption) | refine bal ?_ | refine below_row ?_ ?_ | (simp only [Hid, size_alloc, size_drew] at *; omega))))))
          (first
            | (go_at_call 55; refine (IC.out _).mono ?_; rintro e wq ⟨rfl, rfl⟩)
            | (go_at_call 34; refine (GC.out _ (by first | assumption | ((refine ⟨?_⟩); (repeat' (with_reducible (first | exact Below.refl _ _ | refine Below.drew ?_ | refine below_more ?_ (by assumption) | refine bal ?_)))))).mono ?_; rintro e wq ⟨rfl, hbq⟩; have zq := Lib.hid hbq.size)
            | (rw [run_store_is (by (repeat' (first
                | ((with_reducible refine IsLn.fresh _ _ ?_ ?_); (focus (with_reducible rfl)); (focus (first | assumption | rfl)))
                | (with_reducible refine IsLn.up ?_ _) | (with_reducible refine IsLn.drew ?_) | (with_reducible refine IsLn.row ?_ (by assumption)) | (with_reducible refine IsLn.call (by assumption) ?_)))) (by assumption)]))
        all_goals (go_wp2_with fail; go_meet)
        all_goals
          refine ⟨_, rfl, rfl, rfl, Lib.hid ⟨?_, Kept.out ‹Kept (Below wr.heap.size wr _)›⟩⟩ <;>
          (repeat' (first
            | ((with_reducible refine Ln.fresh _ _ ?_ ?_); (focus (with_reducible rfl)); (focus (first | assumption | rfl)))
            | ((with_reducible refine put_at ?_ ?_ ?_); (focus (with_reducible rfl)))
            | ((with_reducible refine Ln.past ?_ ?_); rotate_left; (focus (simp only [Hid, size_alloc, size_drew] at *; omega)))
            | (with_reducible refine Ln.alloc ?_ _) | (with_reducible refine Ln.drew ?_)
            | ((with_reducible refine IsLn.fresh _ _ ?_ ?_); (focus (with_reducible rfl)); (focus (first | assumption | rfl)))
            | (with_reducible refine IsLn.up ?_ _) | (with_reducible refine IsLn.drew ?_) | (with_reducible refine IsLn.row ?_ (by assumption)) | (with_reducible refine IsLn.call (by assumption) ?_) | assumption))
      case rest =>
        obtain ⟨g', rfl, rfl, rfl, HC⟩ := hcut
        have OW := Lib.hid (H.out.1.below HC.out.2)
        have CW := Lib.hid (H.out.2.trans (Chg.of_below HC.out.2 [b]))
        have l0 := HC.out.1.load
        obtain ⟨s0, o0⟩ := OW.out.line HK.out h8
        obtain ⟨V, hV⟩ : ∃ V, wc.setCells b (z * 9 + 1) (Y.map uv) = V := ⟨_, rfl⟩
        rw [hV] at s0 o0
        have OV : Hid (Oh B V b k c (rdD t k (z + 1)) ∧ Chg [b] w V) := Lib.hid (by
          refine ⟨?_, ?_⟩
          · rw [ZI.out] at o0
            refine o0.as fun i _ => ?_
            exact YE.out i
          · rw [← hV]
            exact Chg.setCells (.inl (by simp)) _ _ _ CW.out)
        clear o0
        go_wp2
        exact ⟨⟨z + 1, by have := HK.out; omega, by go_num, OV⟩, by have := HK.out; simp [intOf]; omega⟩
    · obtain rfl : z = k := by omega
      go_wp2
      go_ret
      exact ⟨rfl, H.out⟩
end Go.Proofs.Ytjghhcbiaklomaa

/-
  Contracts of package log: what is committed, and not done; what a line reads as.
-/
namespace Go.Proofs.Ytjghhcbiaklomaa
set_option maxRecDepth 100000
open Go.RowKit

theorem mayH_congr {n : Int} {h h' : List Hm} (e : h'.map (·.i) = h.map (·.i)) (M : MayH n h) : MayH n h' := by
  have el : h'.length = h.length := by simpa using congrArg List.length e
  refine ⟨M.n16, by rw [el]; exact M.lo, by rw [el]; exact M.hi, fun x hx => ?_, by rw [e]; exact M.nd⟩
  have : x.i ∈ h'.map (·.i) := List.mem_map.2 ⟨x, hx, rfl⟩
  rw [e] at this
  obtain ⟨y, hy, ey⟩ := List.mem_map.1 this
  rw [← ey]; exact M.at_ y hy
theorem rdI_i (t : Nat → List Int) (k : Nat) : ((List.range k).map (rdI t k)).map (·.i) = (logD t k).map (·.i) := by
  unfold logD
  rw [List.map_map, List.map_map]
  refine List.map_congr_left fun i hi => ?_
  have hi := List.mem_range.1 hi
  simp [rdI, hi]
theorem rdD_all (t : Nat → List Int) (k : Nat) : (List.range k).map (rdD t k k) = logD t k := by
  unfold logD
  refine List.map_congr_left fun i hi => ?_
  have hi := List.mem_range.1 hi
  simp [rdD, hi]

section
variable {x g y q n P per p : Nat} {s : Nv} {w : World}
theorem cm_zero (h : Lg w x g y q n P per p s) (hd : s.dark = false) (hr : s.rg 1 = 0) : Calls Try.prog 33 #[.pointer (some ⟨x, 0, none⟩)] w fun e w' => e = .returned (.tuple #[.slice none 0 0, .int .i64 0]) ∧ w = w' := by
  have C := Lib.hid (lpend_live h hd hr)
  clear h hd hr
  go_enter Try.func33, Try.ntmps33
  go_wp2_with fail
  refine (C.out).mono ?_; rintro e w' ⟨rfl, rfl⟩
  go_wp2_with fail
  go_ret2
  exact ⟨rfl, rfl⟩
theorem cm_dark (h : Lg w x g y q n P per p s) (hd : s.dark = true) : Calls Try.prog 33 #[.pointer (some ⟨x, 0, none⟩)] w fun e w' => e = .returned (.tuple #[.slice none 0 0, .int .i64 2]) ∧ w = w' := by
  have C := Lib.hid (lpend_dark h hd)
  clear h hd
  go_enter Try.func33, Try.ntmps33
  go_wp2_with fail
  refine (C.out).mono ?_; rintro e w' ⟨rfl, rfl⟩
  go_wp2_with fail
  go_ret2
  exact ⟨rfl, rfl⟩
theorem cm_nil (w : World) : Calls Try.prog 33 #[.pointer none] w fun e w' => e = .returned (.tuple #[.slice none 0 0, .int .i64 1]) ∧ w = w' := by
  have C := Lib.hid (lpend_nil w)
  go_enter Try.func33, Try.ntmps33
  go_wp2_with fail
  refine (C.out).mono ?_; rintro e w' ⟨rfl, rfl⟩
  go_wp2_with fail
  go_ret2
  exact ⟨rfl, rfl⟩
theorem cm_raw {v : Int} (h : Lg w x g y q n P per p s) (hd : s.dark = false) (hr : s.rg 1 = v) (hv : 14 < v) : Calls Try.prog 33 #[.pointer (some ⟨x, 0, none⟩)] w fun e w' => e = .returned (.tuple #[.slice none 0 0, .int .i64 6]) ∧ w = w' := by
  have C := Lib.hid (lpend_live h hd hr)
  have b0 : (v == 0) = false := beq_eq_false_iff_ne.2 (by omega)
  have b1 : v > 14 := hv
  clear h hd hr hv
  go_enter Try.func33, Try.ntmps33
  go_wp2_with fail
  refine (C.out).mono ?_; rintro e w' ⟨rfl, rfl⟩
  go_wp2_with fail
  go_ret2
  exact ⟨rfl, rfl⟩

set_option maxHeartbeats 1000000 in
theorem cm_some (h : Lg w x g y q n P per p s) (L : LgOk s n P) (hd : s.dark = false) (hn : n ≤ 1000) (h0 : lk s ≠ 0) :
    Calls Try.prog 33 #[.pointer (some ⟨x, 0, none⟩)] w fun e w' => ∃ v, e = .returned (.tuple #[v, .int .i64 0]) ∧ (∀ b, v.ownBlock = some b → w.heap.size ≤ b) ∧ RA homeE w' v (com s n P) ∧ Below w.heap.size w w' := by
  have M := L.fo.resolve_left h0
  obtain ⟨k, hk⟩ : ∃ k, lk s = k := ⟨_, rfl⟩
  obtain ⟨t, ht⟩ : ∃ t, th s n P = t := ⟨_, rfl⟩
  have ec : com s n P = logD t k := by unfold com; rw [ht, hk]
  rw [ec] at M ⊢
  have hk14 : k ≤ 14 := by have := M.hi; rw [logD_length] at this; exact this
  have hr := L.r1
  rw [hk] at hr h0
  have C := Lib.hid (lpend_live h hd hr)
  have b0 : ((k : Int) == 0) = false := beq_eq_false_iff_ne.2 (by omega)
  have b1 : ¬ (k : Int) > 14 := by omega
  have hmk := run_make_homes k (by omega) .u64 w
  have o0 := oh_made w k (by omega)
  obtain ⟨W, hW⟩ : ∃ W, w.alloc (.cells (madeCells homeE.z.cells (k * 9)) 41) = W := ⟨_, rfl⟩
  have hb0 : Below w.heap.size w W := by rw [← hW]; exact bal (Below.refl _ _)
  rw [hW] at hmk o0
  have LW := h.below hb0
  have NE : Hid (w.heap.size ≠ x ∧ w.heap.size ≠ g ∧ w.heap.size ≠ y ∧ w.heap.size ≠ q) := Lib.hid ⟨by have := h.xlt; omega, by have := h.nm.lt; omega, by have := h.tq.lt; omega, by have := h.lq.lt; omega⟩
  have hI : ∀ i, i < k → 16 ≤ ixW t i ∧ ixW t i < n := fun i hi => M.at_ ⟨ixW t i, t (ixN k + i)⟩ (List.mem_map.2 ⟨i, List.mem_range.2 hi, rfl⟩)
  have RI_ := Lib.hid (ridx_is ht LW L hd hn hk14 hI o0 NE.out)
  have HB := Lib.hid hb0
  have HL := Lib.hid LW
  have HH := Lib.hid (And.intro L (And.intro hd (And.intro hn hk14)))
  have HM := Lib.hid (mayH_congr (rdI_i t k) M)
  have HT := Lib.hid ht
  clear h L hd hn M ht ec hk14 hr o0 hb0 LW hI hk h0
  go_enter Try.func33, Try.ntmps33
  go_wp2_with fail
  refine (C.out).mono ?_; rintro e w' ⟨rfl, rfl⟩
  go_wp2_with fail
  refine (RI_.out).mono ?_; rintro e w1 ⟨rfl, ho, hc⟩
  have O1 := Lib.hid ho
  have L1 := Lib.hid (HL.out.chg hc (by simpa using NE.out.1.symm) (by simpa using NE.out.2.1.symm) (by simpa using NE.out.2.2.1.symm) (by simpa using NE.out.2.2.2.symm))
  have B1 := Lib.hid (hc.below HB.out HB.out.size (fun j hj => by rw [List.mem_singleton.1 hj]; exact Nat.le_refl _))
  have LC := Lib.hid (llines_is L1.out)
  have MC := Lib.hid (may_is (n : Int) _ _ true w1 O1.out.ra ⟨fun _ => HM.out, fun _ => rfl⟩)
  clear ho hc hmk hW
  go_wp2_with fail
  refine (LC.out).mono ?_; rintro e w' ⟨rfl, rfl⟩
  go_wp2_with fail
  refine (MC.out).mono ?_; rintro e w2 ⟨rfl, hb⟩
  have B2 := Lib.hid (below_more B1.out hb)
  have RD := Lib.hid (rdat_is HT.out (L1.out.below hb) HH.out.1 HH.out.2.1 HH.out.2.2.1 HH.out.2.2.2 (O1.out.below hb) NE.out)
  clear hb
  go_wp2_with fail
  refine (RD.out).mono ?_; rintro e w3 ⟨rfl, ho, hc⟩
  have B3 := Lib.hid (hc.below B2.out B2.out.size (fun j hj => by rw [List.mem_singleton.1 hj]; exact Nat.le_refl _))
  have RR := Lib.hid ho.ra
  rw [rdD_all] at RR
  clear ho hc
  go_wp2_with fail
  go_ret2
  exact ⟨_, rfl, fun b hb => (by cases hb; exact Nat.le_refl _), RR.out, B3.out⟩
end
end Go.Proofs.Ytjghhcbiaklomaa

/-
  Contracts of package log: Get.
-/
namespace Go.Proofs.Ytjghhcbiaklomaa
set_option maxRecDepth 100000
open Go.RowKit

set_option maxHeartbeats 2000000 in
/-- what a line reads as, where these are committed -/
theorem get_from0 {x g y q n P per p a : Nat} {s : Nv} {w : World} {C : List Hm} {Z : List Int} (h : Lg w x g y q n P per p s) (L : GOk s n P) (hd : s.dark = false) (hn : n ≤ 1000) (ha : 16 ≤ a) (han : a < n) (nd : (C.map (·.i)).Nodup) (hC14 : C.length ≤ 14) (hZ : hv C (th s n P) a = Z)
    (CM : ∀ w', Below w.heap.size w w' → Calls Try.prog 33 #[.pointer (some ⟨x, 0, none⟩)] w' fun e w2 => ∃ v, e = .returned (.tuple #[v, .int .i64 0]) ∧ RA homeE w2 v C ∧ Below w'.heap.size w' w2) :
    Calls Try.prog 17 #[.pointer (some ⟨x, 0, none⟩), .int .i64 (a : Int)] w fun e w' => e = .returned (.tuple #[.agg (lc Z), .int .i64 0]) ∧ Below w.heap.size w w' := by
  obtain ⟨W, hW, H0⟩ := boxed1 w (a := [0, 0, 0, 0, 0, 0, 0, 0]) rfl
  have HL := Lib.hid (h.below H0.out.2)
  have LC := Lib.hid (llines_is HL.out)
  have BC := Lib.hid (behind_any (a : Int) (n : Int) true ⟨fun _ => ⟨by omega, by omega⟩, fun _ => rfl⟩ W)
  have CC := Lib.hid (CM W H0.out.2)
  have HT := Lib.hid (L.tok hd)
  have HN : Hid (16 ≤ a ∧ a < n ∧ n ≤ 1000 ∧ C.length ≤ 14) := Lib.hid ⟨ha, han, hn, hC14⟩
  have ND := Lib.hid nd
  have HZ := Lib.hid hZ
  have HG := Lib.hid L
  clear h L hd hn ha han nd hZ CM hC14
  go_enter Try.func17, Try.ntmps17
  go_wp2_with fail
  refine (LC.out).mono ?_; rintro e w' ⟨rfl, rfl⟩
  go_wp2_with fail
  refine (BC.out).mono ?_; rintro e w' ⟨rfl, rfl⟩
  go_wp2_with fail
  refine (CC.out).mono ?_; rintro e w1 ⟨v, rfl, hr, hb⟩
  obtain ⟨pv, cap, rfl, hlc, hcm⟩ := ra_shape hr
  have HR := Lib.hid hr
  have L1 := Lib.hid (HL.out.below hb)
  have G1 := Lib.hid (H0.out.1.below hb)
  have B1 := Lib.hid (below_more H0.out.2 hb)
  clear hr hb hlc hcm
  go_wp2
  go_loopw [31] (fun i wr => ∃ z : Nat, z ≤ C.length ∧ i = .int .i64 z ∧ Hid ((∀ j, j < z → (C.getD j default).i ≠ (a : Int)) ∧ Below w1.heap.size w1 wr)) (fun i _ => C.length - (intOf i).toNat)
  case atStart => exact ⟨0, Nat.zero_le _, rfl, Lib.hid ⟨fun j hj => by omega, Below.refl _ _⟩⟩
  case round =>
    obtain ⟨z, hz, rfl, H⟩ := hrel
    by_cases hlt : z < C.length
    · obtain ⟨b, off, e, _, hx⟩ := home_at (ra_below HR.out H.out.2) (by omega)
      subst e
      obtain ⟨hl, _, _, hwf⟩ := hx z hlt
      obtain ⟨X, hX⟩ : ∃ X, C.getD z default = X := ⟨_, rfl⟩
      rw [hX] at hl hwf
      obtain ⟨V, hV, HV⟩ := home_boxed wr hwf.len
      have d0 := HV.out.1.slot
      have d1 := HV.out.1.line
      have h8 := hwf.len
      have hw8 := hwf.len
      have hXC : X ∈ C := by rw [← hX]; exact getD_mem hlt
      have HXC := Lib.hid hXC
      have BV := Lib.hid (below_more H.out.2 HV.out.2)
      have GV := Lib.hid (G1.out.below BV.out)
      have i0 : (0 : Int) ≤ (z : Int) := by omega
      have i3 : (z : Int) < (C.length : Int) := by omega
      have i4 : ¬ (z : Int) < 0 := by omega
      have j0 : IntKind.i64.wrap ((z : Int) + 1) = ((z + 1 : Nat) : Int) := by rw [show (z : Int) + 1 = ((z + 1 : Nat) : Int) by omega]; exact i64_nat _ (by have := HN.out; omega)
      obtain ⟨xi, hxi⟩ : ∃ xi, X.i = xi := ⟨_, rfl⟩
      obtain ⟨xl, hxl⟩ : ∃ xl, X.l = xl := ⟨_, rfl⟩
      rw [hxi] at d0
      rw [hxl] at d1 h8
      have HK := Lib.hid hlt
      have XI := Lib.hid hxi
      have XL := Lib.hid hxl
      have XE := Lib.hid hX
      clear hx hwf hX hXC hlt hz hxi hxl
      by_cases he : xi = (a : Int)
      · have hst := GV.out.store h8
        have FY := Lib.hid (GV.out.put h8)
        have EZ : Hid (Z = xl) := Lib.hid (by rw [← HZ.out, hv_mem ND.out HXC.out (XI.out.trans he)]; exact XL.out)
        subst he
        have BF := Lib.hid (((Chg.of_below (below_more B1.out BV.out) [w.heap.size]).setRow (g := w.heap.size) (.inl (by simp)) (lc xl)).below (Below.refl w.heap.size w) (Nat.le_refl _) (fun k hk => by rw [List.mem_singleton.1 hk]; exact Nat.le_refl _))
        go_wp2
        exact bodyPost_ret (v := .tuple #[.agg (lc xl), .int .i64 0]) (results_cell_tmp rfl _ _ _ _ _ _ _ _ rfl rfl FY.out.1 Try.underlying39 rfl (by rw [info_line, lc_size, h8])) rfl ⟨by rw [EZ.out], BF.out⟩
      · have he0 : (xi == (a : Int)) = false := beq_eq_false_iff_ne.2 he
        have NX : Hid (∀ j, j < z + 1 → (C.getD j default).i ≠ (a : Int)) := Lib.hid (fun j hj => by
          by_cases e : j = z
          · subst e; rw [XE.out, XI.out]; exact he
          · exact H.out.1 j (by omega))
        go_wp2
        go_roundw
        case rel => exact ⟨z + 1, by have := HK.out; omega, by go_num, Lib.hid ⟨NX.out, BV.out⟩⟩
        case measure => have := HK.out; simp [intOf]; omega
    · obtain rfl : z = C.length := by omega
      have EZ : th s n P a = Z := by
        rw [← HZ.out]
        refine (hv_not fun X hX => ?_).symm
        obtain ⟨j, hj, rfl⟩ := mem_getD hX
        exact H.out.1 j hj
      have h8 : Z.length = 8 := by rw [← EZ]; exact th_wide HG.out.ok _ _ _
      have L2 := Lib.hid (L1.out.below H.out.2)
      have c1 := L2.out.c1
      have GC := Lib.hid (tget_is (a := a) (y := Z) EZ HT.out HN.out.2.2.1 HN.out.2.1 L2.out.tq L2.out.lq L2.out.nm)
      clear EZ
      go_wp2_with fail
      refine (GC.out).mono ?_; rintro e w3 ⟨rfl, hb⟩
      have GV := Lib.hid ((G1.out.below H.out.2).below hb)
      have hst := GV.out.store h8
      have FY := Lib.hid (GV.out.put h8)
      have BF := Lib.hid (((Chg.of_below (below_more (below_more B1.out H.out.2) hb) [w.heap.size]).setRow (g := w.heap.size) (.inl (by simp)) (lc Z)).below (Below.refl w.heap.size w) (Nat.le_refl _) (fun k hk => by rw [List.mem_singleton.1 hk]; exact Nat.le_refl _))
      clear hb
      go_wp2
      exact bodyPost_ret (v := .tuple #[.agg (lc Z), .int .i64 0]) (results_cell_tmp rfl _ _ _ _ _ _ _ _ rfl rfl FY.out.1 Try.underlying39 rfl (by rw [info_line, lc_size, h8])) rfl ⟨rfl, BF.out⟩
set_option maxHeartbeats 2000000 in
/-- what a line reads as, where these are committed -/
theorem get_from6 {x g y q n P per p a : Nat} {s : Nv} {w : World} {C : List Hm} {Z : List Int} (h : Lg w x g y q n P per p s) (L : GOk s n P) (hd : s.dark = false) (hn : n ≤ 1000) (ha : 16 ≤ a) (han : a < n) (nd : (C.map (·.i)).Nodup) (hC14 : C.length ≤ 14) (hZ : hv C (th s n P) a = Z)
    (CM : ∀ w', Below w.heap.size w w' → Calls Try.prog 33 #[.pointer (some ⟨x, 0, none⟩)] w' fun e w2 => ∃ v, e = .returned (.tuple #[v, .int .i64 6]) ∧ RA homeE w2 v C ∧ Below w'.heap.size w' w2) :
    Calls Try.prog 17 #[.pointer (some ⟨x, 0, none⟩), .int .i64 (a : Int)] w fun e w' => e = .returned (.tuple #[.agg (lc Z), .int .i64 0]) ∧ Below w.heap.size w w' := by
  obtain ⟨W, hW, H0⟩ := boxed1 w (a := [0, 0, 0, 0, 0, 0, 0, 0]) rfl
  have HL := Lib.hid (h.below H0.out.2)
  have LC := Lib.hid (llines_is HL.out)
  have BC := Lib.hid (behind_any (a : Int) (n : Int) true ⟨fun _ => ⟨by omega, by omega⟩, fun _ => rfl⟩ W)
  have CC := Lib.hid (CM W H0.out.2)
  have HT := Lib.hid (L.tok hd)
  have HN : Hid (16 ≤ a ∧ a < n ∧ n ≤ 1000 ∧ C.length ≤ 14) := Lib.hid ⟨ha, han, hn, hC14⟩
  have ND := Lib.hid nd
  have HZ := Lib.hid hZ
  have HG := Lib.hid L
  clear h L hd hn ha han nd hZ CM hC14
  go_enter Try.func17, Try.ntmps17
  go_wp2_with fail
  refine (LC.out).mono ?_; rintro e w' ⟨rfl, rfl⟩
  go_wp2_with fail
  refine (BC.out).mono ?_; rintro e w' ⟨rfl, rfl⟩
  go_wp2_with fail
  refine (CC.out).mono ?_; rintro e w1 ⟨v, rfl, hr, hb⟩
  obtain ⟨pv, cap, rfl, hlc, hcm⟩ := ra_shape hr
  have HR := Lib.hid hr
  have L1 := Lib.hid (HL.out.below hb)
  have G1 := Lib.hid (H0.out.1.below hb)
  have B1 := Lib.hid (below_more H0.out.2 hb)
  clear hr hb hlc hcm
  go_wp2
  go_loopw [31] (fun i wr => ∃ z : Nat, z ≤ C.length ∧ i = .int .i64 z ∧ Hid ((∀ j, j < z → (C.getD j default).i ≠ (a : Int)) ∧ Below w1.heap.size w1 wr)) (fun i _ => C.length - (intOf i).toNat)
  case atStart => exact ⟨0, Nat.zero_le _, rfl, Lib.hid ⟨fun j hj => by omega, Below.refl _ _⟩⟩
  case round =>
    obtain ⟨z, hz, rfl, H⟩ := hrel
    by_cases hlt : z < C.length
    · obtain ⟨b, off, e, _, hx⟩ := home_at (ra_below HR.out H.out.2) (by omega)
      subst e
      obtain ⟨hl, _, _, hwf⟩ := hx z hlt
      obtain ⟨X, hX⟩ : ∃ X, C.getD z default = X := ⟨_, rfl⟩
      rw [hX] at hl hwf
      obtain ⟨V, hV, HV⟩ := home_boxed wr hwf.len
      have d0 := HV.out.1.slot
      have d1 := HV.out.1.line
      have h8 := hwf.len
      have hw8 := hwf.len
      have hXC : X ∈ C := by rw [← hX]; exact getD_mem hlt
      have HXC := Lib.hid hXC
      have BV := Lib.hid (below_more H.out.2 HV.out.2)
      have GV := Lib.hid (G1.out.below BV.out)
      have i0 : (0 : Int) ≤ (z : Int) := by omega
      have i3 : (z : Int) < (C.length : Int) := by omega
      have i4 : ¬ (z : Int) < 0 := by omega
      have j0 : IntKind.i64.wrap ((z : Int) + 1) = ((z + 1 : Nat) : Int) := by rw [show (z : Int) + 1 = ((z + 1 : Nat) : Int) by omega]; exact i64_nat _ (by have := HN.out; omega)
      obtain ⟨xi, hxi⟩ : ∃ xi, X.i = xi := ⟨_, rfl⟩
      obtain ⟨xl, hxl⟩ : ∃ xl, X.l = xl := ⟨_, rfl⟩
      rw [hxi] at d0
      rw [hxl] at d1 h8
      have HK := Lib.hid hlt
      have XI := Lib.hid hxi
      have XL := Lib.hid hxl
      have XE := Lib.hid hX
      clear hx hwf hX hXC hlt hz hxi hxl
      by_cases he : xi = (a : Int)
      · have hst := GV.out.store h8
        have FY := Lib.hid (GV.out.put h8)
        have EZ : Hid (Z = xl) := Lib.hid (by rw [← HZ.out, hv_mem ND.out HXC.out (XI.out.trans he)]; exact XL.out)
        subst he
        have BF := Lib.hid (((Chg.of_below (below_more B1.out BV.out) [w.heap.size]).setRow (g := w.heap.size) (.inl (by simp)) (lc xl)).below (Below.refl w.heap.size w) (Nat.le_refl _) (fun k hk => by rw [List.mem_singleton.1 hk]; exact Nat.le_refl _))
        go_wp2
        exact bodyPost_ret (v := .tuple #[.agg (lc xl), .int .i64 0]) (results_cell_tmp rfl _ _ _ _ _ _ _ _ rfl rfl FY.out.1 Try.underlying39 rfl (by rw [info_line, lc_size, h8])) rfl ⟨by rw [EZ.out], BF.out⟩
      · have he0 : (xi == (a : Int)) = false := beq_eq_false_iff_ne.2 he
        have NX : Hid (∀ j, j < z + 1 → (C.getD j default).i ≠ (a : Int)) := Lib.hid (fun j hj => by
          by_cases e : j = z
          · subst e; rw [XE.out, XI.out]; exact he
          · exact H.out.1 j (by omega))
        go_wp2
        go_roundw
        case rel => exact ⟨z + 1, by have := HK.out; omega, by go_num, Lib.hid ⟨NX.out, BV.out⟩⟩
        case measure => have := HK.out; simp [intOf]; omega
    · obtain rfl : z = C.length := by omega
      have EZ : th s n P a = Z := by
        rw [← HZ.out]
        refine (hv_not fun X hX => ?_).symm
        obtain ⟨j, hj, rfl⟩ := mem_getD hX
        exact H.out.1 j hj
      have h8 : Z.length = 8 := by rw [← EZ]; exact th_wide HG.out.ok _ _ _
      have L2 := Lib.hid (L1.out.below H.out.2)
      have c1 := L2.out.c1
      have GC := Lib.hid (tget_is (a := a) (y := Z) EZ HT.out HN.out.2.2.1 HN.out.2.1 L2.out.tq L2.out.lq L2.out.nm)
      clear EZ
      go_wp2_with fail
      refine (GC.out).mono ?_; rintro e w3 ⟨rfl, hb⟩
      have GV := Lib.hid ((G1.out.below H.out.2).below hb)
      have hst := GV.out.store h8
      have FY := Lib.hid (GV.out.put h8)
      have BF := Lib.hid (((Chg.of_below (below_more (below_more B1.out H.out.2) hb) [w.heap.size]).setRow (g := w.heap.size) (.inl (by simp)) (lc Z)).below (Below.refl w.heap.size w) (Nat.le_refl _) (fun k hk => by rw [List.mem_singleton.1 hk]; exact Nat.le_refl _))
      clear hb
      go_wp2
      exact bodyPost_ret (v := .tuple #[.agg (lc Z), .int .i64 0]) (results_cell_tmp rfl _ _ _ _ _ _ _ _ rfl rfl FY.out.1 Try.underlying39 rfl (by rw [info_line, lc_size, h8])) rfl ⟨rfl, BF.out⟩

section
variable {x g y q n P per p a : Nat} {s : Nv} {w : World}
theorem gt_live (h : Lg w x g y q n P per p s) (L : LgOk s n P) (hd : s.dark = false) (hn : n ≤ 1000) (ha : 16 ≤ a) (han : a < n) :
    Calls Try.prog 17 #[.pointer (some ⟨x, 0, none⟩), .int .i64 (a : Int)] w fun e w' => e = .returned (.tuple #[.agg (lc (view s n P a)), .int .i64 0]) ∧ Below w.heap.size w w' := by
  by_cases h0 : lk s = 0
  · have e0 : com s n P = [] := by unfold com; rw [h0]; rfl
    refine get_from0 (C := com s n P) h L.g hd hn ha han (by rw [e0]; exact List.nodup_nil) (by rw [e0]; decide) rfl fun w' hb => (cm_zero (h.below hb) hd (by rw [L.r1, h0]; rfl)).mono ?_
    rintro e w2 ⟨rfl, rfl⟩
    exact ⟨_, rfl, by rw [e0]; exact ra_nil _ _, Below.refl _ _⟩
  · have M := L.fo.resolve_left h0
    refine get_from0 h L.g hd hn ha han M.nd M.hi rfl fun w' hb => (cm_some (h.below hb) L hd hn h0).mono ?_
    rintro e w2 ⟨v, rfl, _, hr, hb2⟩
    exact ⟨v, rfl, hr, hb2⟩
theorem gt_raw {v : Int} (h : Lg w x g y q n P per p s) (L : GOk s n P) (hd : s.dark = false) (hn : n ≤ 1000) (ha : 16 ≤ a) (han : a < n) (hr : s.rg 1 = v) (hv : 14 < v) :
    Calls Try.prog 17 #[.pointer (some ⟨x, 0, none⟩), .int .i64 (a : Int)] w fun e w' => e = .returned (.tuple #[.agg (lc (th s n P a)), .int .i64 0]) ∧ Below w.heap.size w w' := by
  refine get_from6 (C := []) h L hd hn ha han List.nodup_nil (by decide) rfl fun w' hb => (cm_raw (h.below hb) hd hr hv).mono ?_
  rintro e w2 ⟨rfl, rfl⟩
  exact ⟨_, rfl, ra_nil _ _, Below.refl _ _⟩
theorem gt_dark (h : Lg w x g y q n P per p s) (hd : s.dark = true) (ha : 16 ≤ a) (han : a < n) :
    Calls Try.prog 17 #[.pointer (some ⟨x, 0, none⟩), .int .i64 (a : Int)] w fun e w' => e = .returned (.tuple #[.agg (lc zeros), .int .i64 2]) ∧ Below w.heap.size w w' := by
  obtain ⟨W, hW, H0⟩ := boxed1 w (a := [0, 0, 0, 0, 0, 0, 0, 0]) rfl
  have HL := Lib.hid (h.below H0.out.2)
  have LC := Lib.hid (llines_is HL.out)
  have BC := Lib.hid (behind_any (a : Int) (n : Int) true ⟨fun _ => ⟨by omega, by omega⟩, fun _ => rfl⟩ W)
  have CC := Lib.hid (cm_dark HL.out hd)
  have hst := H0.out.1.store (x := [0, 0, 0, 0, 0, 0, 0, 0]) rfl
  have FY := Lib.hid (H0.out.1.put (x := [0, 0, 0, 0, 0, 0, 0, 0]) rfl)
  have BF := Lib.hid (((Chg.of_below H0.out.2 [w.heap.size]).setRow (g := w.heap.size) (.inl (by simp)) (lc [0, 0, 0, 0, 0, 0, 0, 0])).below (Below.refl w.heap.size w) (Nat.le_refl _) (fun k hk => by rw [List.mem_singleton.1 hk]; exact Nat.le_refl _))
  clear h hd ha han
  go_enter Try.func17, Try.ntmps17
  go_wp2_with fail
  refine (LC.out).mono ?_; rintro e w' ⟨rfl, rfl⟩
  go_wp2_with fail
  refine (BC.out).mono ?_; rintro e w' ⟨rfl, rfl⟩
  go_wp2_with fail
  refine (CC.out).mono ?_; rintro e w' ⟨rfl, rfl⟩
  go_wp2
  exact bodyPost_ret (v := .tuple #[.agg (lc [0, 0, 0, 0, 0, 0, 0, 0]), .int .i64 2]) (results_cell_tmp rfl _ _ _ _ _ _ _ _ rfl rfl FY.out.1 Try.underlying39 rfl (by rw [info_line, lc_size]; rfl)) rfl ⟨rfl, BF.out⟩
theorem gt_out {a : Int} (h : Lg w x g y q n P per p s) (ha : ¬ (16 ≤ a ∧ a < (n : Int))) :
    Calls Try.prog 17 #[.pointer (some ⟨x, 0, none⟩), .int .i64 a] w fun e w' => e = .returned (.tuple #[.agg (lc zeros), .int .i64 1]) ∧ Below w.heap.size w w' := by
  obtain ⟨W, hW, H0⟩ := boxed1 w (a := [0, 0, 0, 0, 0, 0, 0, 0]) rfl
  have HL := Lib.hid (h.below H0.out.2)
  have LC := Lib.hid (llines_is HL.out)
  have BC := Lib.hid (behind_any a (n : Int) false ⟨fun h => (by cases h), fun h => absurd h ha⟩ W)
  have hst := H0.out.1.store (x := [0, 0, 0, 0, 0, 0, 0, 0]) rfl
  have FY := Lib.hid (H0.out.1.put (x := [0, 0, 0, 0, 0, 0, 0, 0]) rfl)
  have BF := Lib.hid (((Chg.of_below H0.out.2 [w.heap.size]).setRow (g := w.heap.size) (.inl (by simp)) (lc [0, 0, 0, 0, 0, 0, 0, 0])).below (Below.refl w.heap.size w) (Nat.le_refl _) (fun k hk => by rw [List.mem_singleton.1 hk]; exact Nat.le_refl _))
  clear h ha
  go_enter Try.func17, Try.ntmps17
  go_wp2_with fail
  refine (LC.out).mono ?_; rintro e w' ⟨rfl, rfl⟩
  go_wp2_with fail
  refine (BC.out).mono ?_; rintro e w' ⟨rfl, rfl⟩
  go_wp2
  exact bodyPost_ret (v := .tuple #[.agg (lc [0, 0, 0, 0, 0, 0, 0, 0]), .int .i64 1]) (results_cell_tmp rfl _ _ _ _ _ _ _ _ rfl rfl FY.out.1 Try.underlying39 rfl (by rw [info_line, lc_size]; rfl)) rfl ⟨rfl, BF.out⟩
theorem gt_nil (a : Int) (w : World) :
    Calls Try.prog 17 #[.pointer none, .int .i64 a] w fun e w' => e = .returned (.tuple #[.agg (lc zeros), .int .i64 1]) ∧ Below w.heap.size w w' := by
  obtain ⟨W, hW, H0⟩ := boxed1 w (a := [0, 0, 0, 0, 0, 0, 0, 0]) rfl
  have LC := Lib.hid (llines_nil W)
  have BC := Lib.hid (behind_any a 0 false ⟨fun h => (by cases h), fun h => by omega⟩ W)
  have hst := H0.out.1.store (x := [0, 0, 0, 0, 0, 0, 0, 0]) rfl
  have FY := Lib.hid (H0.out.1.put (x := [0, 0, 0, 0, 0, 0, 0, 0]) rfl)
  have BF := Lib.hid (((Chg.of_below H0.out.2 [w.heap.size]).setRow (g := w.heap.size) (.inl (by simp)) (lc [0, 0, 0, 0, 0, 0, 0, 0])).below (Below.refl w.heap.size w) (Nat.le_refl _) (fun k hk => by rw [List.mem_singleton.1 hk]; exact Nat.le_refl _))
  go_enter Try.func17, Try.ntmps17
  go_wp2_with fail
  refine (LC.out).mono ?_; rintro e w' ⟨rfl, rfl⟩
  go_wp2_with fail
  refine (BC.out).mono ?_; rintro e w' ⟨rfl, rfl⟩
  go_wp2
  exact bodyPost_ret (v := .tuple #[.agg (lc [0, 0, 0, 0, 0, 0, 0, 0]), .int .i64 1]) (results_cell_tmp rfl _ _ _ _ _ _ _ _ rfl rfl FY.out.1 Try.underlying39 rfl (by rw [info_line, lc_size]; rfl)) rfl ⟨rfl, BF.out⟩
end
end Go.Proofs.Ytjghhcbiaklomaa

/-
  Contracts of package log: the lines that keep homes.
-/
namespace Go.Proofs.Ytjghhcbiaklomaa
set_option maxRecDepth 100000
open Go.RowKit

/-- the lines that keep homes, z of them so far -/
def ldF (h : List Hm) (z j : Nat) : List Int :=
  if j < ixN h.length then (List.range 8).map fun i => if 8 * j + i < z then (h.getD (8 * j + i) default).i else 0
  else if j - ixN h.length < z then (h.getD (j - ixN h.length) default).l else zeros
theorem ldF_step {h : List Hm} {z : Nat} (hz : z < h.length) (j : Nat) : ldF h (z + 1) j = upd (upd (ldF h z) (z / 8) ((ldF h z (z / 8)).set (z % 8) (h.getD z default).i)) (ixN h.length + z) (h.getD z default).l j := by
  have hx : z / 8 < ixN h.length := by unfold ixN; omega
  unfold upd
  by_cases e1 : j = ixN h.length + z
  · subst e1
    rw [if_pos rfl]; unfold ldF
    rw [if_neg (by omega), if_pos (by omega), show ixN h.length + z - ixN h.length = z by omega]
  · rw [if_neg e1]
    by_cases e2 : j = z / 8
    · subst e2
      rw [if_pos rfl]
      unfold ldF
      rw [if_pos hx, if_pos hx]
      refine List.ext_getElem (by simp) fun i h1 h2 => ?_
      simp only [List.length_map, List.length_range] at h1
      rw [List.getElem_set]
      simp only [List.getElem_map, List.getElem_range]
      by_cases e3 : z % 8 = i
      · rw [if_pos e3, if_pos (by omega), show 8 * (z / 8) + i = z by omega]
      · rw [if_neg e3]
        by_cases h3 : 8 * (z / 8) + i < z
        · rw [if_pos h3, if_pos (by omega)]
        · rw [if_neg h3, if_neg (by omega)]
    · rw [if_neg e2]; unfold ldF
      by_cases h1 : j < ixN h.length
      · rw [if_pos h1, if_pos h1]
        refine List.map_congr_left fun i hi => ?_
        have := List.mem_range.1 hi
        by_cases h2 : 8 * j + i < z
        · rw [if_pos h2, if_pos (by omega)]
        · rw [if_neg h2, if_neg (by omega)]
      · rw [if_neg h1, if_neg h1]
        by_cases h2 : j - ixN h.length < z
        · rw [if_pos h2, if_pos (by omega)]
        · rw [if_neg h2, if_neg (by omega)]
theorem ldF_none (h : List Hm) (j : Nat) : ldF h 0 j = zeros := by
  unfold ldF
  by_cases h1 : j < ixN h.length
  · rw [if_pos h1]; simp only [Nat.not_lt_zero, if_false]; rfl
  · rw [if_neg h1, if_neg (by omega)]
theorem lgP_at {h : List Hm} {j : Nat} (hj : j < ixN h.length + h.length) : (lgP h)[j]? = some (j, ldF h h.length j) := by
  unfold lgP ldF
  by_cases h1 : j < ixN h.length
  · rw [if_pos h1, List.getElem?_append_left (by simpa [ixP] using h1)]
    have e : idxL h j = (List.range 8).map fun i => if 8 * j + i < h.length then (h.getD (8 * j + i) default).i else 0 := by
      unfold idxL
      refine List.map_congr_left fun i _ => ?_
      by_cases h2 : 8 * j + i < h.length
      · rw [if_pos h2]
      · rw [if_neg h2, List.getD_eq_getElem?_getD, List.getElem?_eq_none (by omega)]; rfl
    rw [← e]
    simp [ixP, h1]
  · rw [if_neg h1, if_pos (by omega), List.getElem?_append_right (by simp [ixP]; omega)]
    have e : j - (ixP h).length = j - ixN h.length := by simp [ixP]
    have h2 : j - ixN h.length < h.length := by omega
    rw [e]
    simp [daP, h2]
    omega

/-- a word of a line of one's own: read, stored -/
theorem Ol.cell {B : Nat} {w : World} {g n c : Nat} {f : Nat → List Int} (h : Ol B w g n c f) {k j : Nat} (hk : k < n) (hj : j < 8) : w.cell? ⟨g, k * 8 + j, none⟩ = some (.int .u64 ((f k).getD j 0)) := by
  obtain ⟨b, off, e, _, hx⟩ := ra_at (OwnA.ra h) (by simp; omega)
  cases e
  have hw := h.wide hk
  have := hx k (by simpa using hk)
  rw [ol_getD hk] at this
  have := this j (uv ((f k).getD j 0)) (by simp [lineE, hw, hj])
  rw [show lineE.size = 8 from rfl, Nat.zero_add] at this
  exact this
theorem Ol.word {B : Nat} {w : World} {g n c : Nat} {f : Nat → List Int} (h : Ol B w g n c f) {k j : Nat} (hk : k < n) (hj : j < 8) (x : Int) : Ol B (w.setCell ⟨g, k * 8 + j, none⟩ (.int .u64 x)) g n c (upd f k ((f k).set j x)) := by
  have hw := h.wide hk
  have := OwnA.setCell (k := k) (j := j) (x := (f k).set j x) (u := .int .u64 x) h (by simpa using hk) hj (by show ((f k).set j x).length = 8; rw [List.length_set]; exact hw) (by
    rw [ol_getD hk]
    show ((f k).set j x).map uv = ((f k).map uv).set j (uv x)
    rw [List.map_set])
  have e : ((List.range n).map f).set k ((f k).set j x) = (List.range n).map (upd f k ((f k).set j x)) := by
    refine List.ext_getElem (by simp) fun i h1 h2 => ?_
    rw [List.getElem_set]
    simp only [List.getElem_map, List.getElem_range, upd]
    split
    · rename_i e; rw [if_pos e.symm]
    · rename_i e; rw [if_neg fun q => e q.symm]
  rw [e] at this
  exact this
theorem Ol.free {B : Nat} {w : World} {g n c : Nat} {f : Nat → List Int} (h : Ol B w g n c f) (j : Nat) : w.frozen? ⟨g, j, none⟩ = false := OwnA.free h j

set_option maxRecDepth 100000 in
set_option maxHeartbeats 2000000 in
theorem laid_is {n : Nat} {v : Value} {h : List Hm} {w : World} (hv : RA homeE w v h) (M : MayH n h) (hn : n ≤ 1000) :
    Calls Try.prog 45 #[v] w fun e w' => ∃ gw, w.heap.size ≤ gw ∧ e = .returned (.slice (some ⟨gw, 0, none⟩) (ixN h.length + h.length) (ixN h.length + h.length)) ∧
      Ol w.heap.size w' gw (ixN h.length + h.length) (ixN h.length + h.length) (ldF h h.length) ∧ Below w.heap.size w w' := by
  obtain ⟨pv, cap, rfl, hlc, hcm⟩ := ra_shape hv
  have h14 := M.hi
  have hlo := M.lo
  have hx2 : ixN h.length ≤ 2 := by unfold ixN; omega
  have IC := Lib.hid (ixl_nat h.length (by omega) w)
  obtain ⟨m, hm⟩ : ∃ m, ixN h.length + h.length = m := ⟨_, rfl⟩
  have jm : IntKind.i64.wrap ((ixN h.length : Int) + (h.length : Int)) = (m : Int) := by rw [show (ixN h.length : Int) + (h.length : Int) = (m : Int) by omega]; exact i64_nat _ (by omega)
  have hmk := run_make_want m (by omega) w
  have W0 := Wt.new w m
  obtain ⟨W, hW⟩ : ∃ W, w.alloc (.cells (tab (m * 8) (wl fun _ => zeros)) 39) = W := ⟨_, rfl⟩
  have C0 : Chg [] w W := by rw [← hW]; exact Chg.of_below (bal (Below.refl _ _)) _
  have O0 : Ol w.heap.size W w.heap.size m m (ldF h 0) := by
    rw [← hW]
    exact (Ol.of_wt W0 (Nat.le_refl _) (by unfold maxLen; omega)).as fun i _ => ldF_none _ _
  rw [hW] at hmk
  have KP : Hid (Ol w.heap.size W w.heap.size m m (ldF h 0) ∧ Chg [] w W) := Lib.hid ⟨O0, C0⟩
  have HV := Lib.hid hv
  have HM := Lib.hid (And.intro M (And.intro hn (And.intro hm (And.intro h14 hx2))))
  rw [hm]
  clear W0 C0 O0 hv M hn hlc hcm h14 hlo hx2
  generalize hxk : ixN h.length = xk at *
  go_enter Try.func45, Try.ntmps45
  go_wp2_with fail
  refine (IC.out).mono ?_; rintro e w' ⟨rfl, rfl⟩
  go_wp2
  go_loopw [17] (fun i wr => ∃ z : Nat, z ≤ h.length ∧ i = .int .i64 z ∧ Hid (Ol w.heap.size wr w.heap.size m m (ldF h z) ∧ Chg [] w wr)) (fun i _ => h.length - (intOf i).toNat)
  case atStart => exact ⟨0, Nat.zero_le _, rfl, KP⟩
  case round =>
    obtain ⟨z, hz, rfl, H⟩ := hrel
    clear KP hmk
    by_cases hlt : z < h.length
    · obtain ⟨b, off, e, _, hx⟩ := home_at (ra_below HV.out (H.out.2.below (Below.refl w.heap.size w) (Nat.le_refl _) (fun k hk => by cases hk))) (by omega)
      subst e
      obtain ⟨hl, _, _, hwf⟩ := hx z hlt
      obtain ⟨X, hX⟩ : ∃ X, h.getD z default = X := ⟨_, rfl⟩
      have hat := HM.out.1.at_ _ (getD_mem hlt)
      rw [hX] at hl hwf hat
      obtain ⟨V, hV, HV2⟩ := home_boxed wr hwf.len
      have hw8 := hwf.len
      obtain ⟨xi, hxi⟩ : ∃ xi, X.i = xi := ⟨_, rfl⟩
      obtain ⟨xl, hxl⟩ : ∃ xl, X.l = xl := ⟨_, rfl⟩
      have h8 : xl.length = 8 := by rw [← hxl]; exact hw8
      have d0 := HV2.out.1.slot
      rw [hxi] at d0 hat
      have OV : Ol w.heap.size V.drew w.heap.size m m (ldF h z) := H.out.1.below HV2.out.2.drew
      have CV : Chg [] w V.drew := H.out.2.trans (Chg.of_below HV2.out.2.drew [])
      have GE : w.heap.size ≠ wr.heap.size := by obtain ⟨_, _, e, hlt', _⟩ := ra_at (OwnA.ra H.out.1) (by simp; omega); cases e; omega
      have hx2 := HM.out.2.2.2.2
      have hmm := HM.out.2.2.1
      have h14 := HM.out.2.2.2.1
      have hn := HM.out.2.1
      have za : z / 8 < m := by omega
      have zr : z % 8 < 8 := by omega
      have e0 := OV.cell za zr
      have f0 := OV.free (z / 8 * 8 + z % 8)
      have OW := OV.word za zr xi
      have CW : Chg [w.heap.size] V.drew (V.drew.setCell ⟨w.heap.size, z / 8 * 8 + z % 8, none⟩ (.int .u64 xi)) := (Chg.refl _ _).setCell (.inl (by simp)) _
      have CU := CV.setCell (p := ⟨w.heap.size, z / 8 * 8 + z % 8, none⟩) (.inr (Nat.le_refl _)) (.int .u64 xi)
      obtain ⟨U, hU⟩ : ∃ U, V.drew.setCell ⟨w.heap.size, z / 8 * 8 + z % 8, none⟩ (.int .u64 xi) = U := ⟨_, rfl⟩
      rw [hU] at OW CW CU
      have HU := Hv.chg (show Hv V.drew wr.heap.size X from HV2.out.1) CW (by simpa using GE.symm)
      have d1 := HU.line
      rw [hxl] at d1
      obtain ⟨hst, OY⟩ := OW.store (k := xk + z) (by omega) h8
      obtain ⟨Y, hY⟩ : ∃ Y, U.setCells w.heap.size ((xk + z) * 8) (xl.map uv) = Y := ⟨_, rfl⟩
      have CY : Chg [] w (U.setCells w.heap.size ((xk + z) * 8) (xl.map uv)) := Chg.setCells (.inr (Nat.le_refl _)) _ _ _ CU
      rw [hY] at hst OY CY
      have KY : Hid (Ol w.heap.size Y w.heap.size m m (ldF h (z + 1)) ∧ Chg [] w Y) := Lib.hid ⟨OY.as fun i _ => by rw [ldF_step hlt, hX, hxi, hxl, hxk], CY⟩
      have i0 : (0 : Int) ≤ (z : Int) := by omega
      have i3 : (z : Int) < (h.length : Int) := by omega
      have i4 : ¬ (z : Int) < 0 := by omega
      have j0 : IntKind.i64.wrap ((z : Int) + 1) = ((z + 1 : Nat) : Int) := by rw [show (z : Int) + 1 = ((z + 1 : Nat) : Int) by omega]; exact i64_nat _ (by omega)
      have j1 : (z : Int).tdiv 8 = ((z / 8 : Nat) : Int) := tdiv_nat _ _
      have j2 : IntKind.i64.wrap ((z / 8 : Nat) : Int) = ((z / 8 : Nat) : Int) := i64_nat _ (by omega)
      have j3 : (z : Int).tmod 8 = ((z % 8 : Nat) : Int) := tmod_nat _ _
      have j4 : IntKind.i64.wrap ((z % 8 : Nat) : Int) = ((z % 8 : Nat) : Int) := i64_nat _ (by omega)
      have j5 : (0 : Int) ≤ ((z % 8 : Nat) : Int) := by omega
      have j6 : ((z % 8 : Nat) : Int) < 8 := by omega
      have j7 : (0 : Int) ≤ ((z / 8 : Nat) : Int) := by omega
      have j8 : ((z / 8 : Nat) : Int) < (m : Int) := by omega
      have j9 : IntKind.u64.wrap xi = xi := u64_same (by omega) (by omega)
      have k1 : IntKind.i64.wrap ((xk : Int) + (z : Int)) = ((xk + z : Nat) : Int) := by rw [show (xk : Int) + (z : Int) = ((xk + z : Nat) : Int) by omega]; exact i64_nat _ (by omega)
      have k2 : (0 : Int) ≤ ((xk + z : Nat) : Int) := by omega
      have k3 : ((xk + z : Nat) : Int) < (m : Int) := by omega
      have HK := Lib.hid hlt
      clear hx hX hat hwf OV CV GE hx2 hmm h14 hn OW CW CU HU OY CY hlt hz hxi hxl za zr
      generalize z / 8 = za at *
      generalize z % 8 = zr at *
      generalize xk + z = zx at *
      go_wp2
      refine wp_region_still_tail 10 (by kernel_rfl) (by kernel_rfl) ?_
      simp only [List.take_succ_cons, List.take_zero, List.drop_succ_cons, List.drop_zero]
      change wpStill _ _ (World.drew _) _ _ _
      repeat still_step
      refine wpStill_nil ?_
      change wpList _ _ _ _ _ (World.drew _)
      go_wp2
      exact ⟨⟨z + 1, by have := HK.out; omega, by go_num, KY⟩, by have := HK.out; simp [intOf]; omega⟩
    · obtain rfl : z = h.length := by omega
      go_wp2
      go_ret
      exact ⟨_, Nat.le_refl _, rfl, H.out.1, H.out.2.below (Below.refl w.heap.size w) (Nat.le_refl _) (fun k hk => by cases hk)⟩
end Go.Proofs.Ytjghhcbiaklomaa

/-
  Contracts of package log: homes are kept; homes are done.
-/
namespace Go.Proofs.Ytjghhcbiaklomaa
set_option maxRecDepth 100000
open Go.RowKit

/-- Puts under way: R is what all of them come to -/
structure Stp (n P per p : Nat) (s : Nv) (L : List (Nat × List Int)) (R : Int × Nat × Nv) (j pj : Nat) (sj : Nv) : Prop where
  g : GOk sj n P
  live : sj.dark = false
  tm : tm sj ≤ tm s + j
  c : sj.c ≤ s.c + 81 * j
  p : pj ≤ p + j
  r : R = tputs n P per pj (L.drop j) sj
theorem Stp.start {n P per p : Nat} {s : Nv} {L : List (Nat × List Int)} (g : GOk s n P) (hd : s.dark = false) : Stp n P per p s L (tputs n P per p L s) 0 p s :=
  ⟨g, hd, Nat.le_refl _, by simp, Nat.le_refl _, rfl⟩
theorem Stp.next {n P per p j pj a : Nat} {s sj : Nv} {L : List (Nat × List Int)} {R : Int × Nat × Nv} {d : List Int} {Q : Int × Nv} (h : Stp n P per p s L R j pj sj) (hj : L[j]? = some (a, d)) (hn : 0 < n) (ha : a < n) (hd : d.length = 8) (hm : Go.Proofs.Ytjghhcbiaklomaa.tm s + j + 1 < 4611686018427387904)
    (hQ : tput n P per pj (Go.Proofs.Ytjghhcbiaklomaa.tm sj) a d sj = Q) : (Q.1 = 0 ∧ Stp n P per p s L R (j + 1) (tp per pj) Q.2) ∨ (Q.1 ≠ 0 ∧ R = (Q.1, tp per pj, Q.2)) := by
  have htm := h.tm
  have u := tput_u per pj h.g h.live hn ha hd (by omega)
  have hlt : j < L.length := (List.getElem?_eq_some_iff.1 hj).1
  have el : L[j] = (a, d) := (List.getElem?_eq_some_iff.1 hj).2
  have ed : L.drop j = (a, d) :: L.drop (j + 1) := by rw [List.drop_eq_getElem_cons hlt, el]
  have er := h.r
  rw [ed, tputs] at er
  dsimp only at er
  rw [hQ] at er u
  have htp := tp_le per pj
  by_cases h0 : Q.1 = 0
  · rw [if_pos h0] at er
    refine .inl ⟨h0, u.g, ?_, by have := u.hi; omega, by have := u.c; have := h.c; push_cast; omega, by have := h.p; omega, er⟩
    rcases u.own with ⟨_, q, _⟩ | ⟨e, _⟩ | ⟨e, _⟩
    · exact q
    · rw [h0] at e; cases e
    · rw [h0] at e; cases e
  · rw [if_neg h0] at er
    exact .inr ⟨h0, er⟩
theorem Stp.done {n P per p pj : Nat} {s sj : Nv} {L : List (Nat × List Int)} {R : Int × Nat × Nv} (h : Stp n P per p s L R L.length pj sj) : R = (0, pj, sj) := by
  have := h.r
  rw [List.drop_length, tputs] at this
  exact this

section
variable {x g y q n P per p : Nat} {s : Nv} {w : World}
/-- one Put of the log's lines -/
theorem lg_put {a : Nat} {d : List Int} {Q : Int × Nv} (hQ : tput n P per p (tm s) a d s = Q) (h : Lg w x g y q n P per p s) (G : GOk s n P) (hd : s.dark = false) (hn : n ≤ 1000) (ha : a < n) (hd8 : d.length = 8) (hm : tm s + 1 < 4611686018427387904) (hp : p < 4611686018427387904) (hc : s.c + 500 < 4611686018427387904) :
    Calls Try.prog 46 #[.pointer (some ⟨y, 0, none⟩), .int .i64 (a : Int), .agg (lc d)] w fun e w' => e = .returned (.int .i64 Q.1) ∧ Lg w' x g y q n P per (tp per p) Q.2 ∧ Chg [g, y] w w' := by
  refine (tput_is hQ (G.tok hd) hn ha hd8 hm hp h.qg h.yg h.yq hc h.tq h.lq h.nm).mono ?_
  rintro e w' ⟨rfl, h1, h2, h3, h4⟩
  exact ⟨rfl, ⟨h4.whole h.lb (by simpa using ⟨h.xg, h.xy⟩), h2, h3, h1, h.qg, h.yg, h.yq, h.xg, h.xy⟩, h4⟩
/-- RCommit is Set -/
theorem lg_set {v : Int} (h : Lg w x g y q n P per p s) (ok : s.Ok) (hc : s.c < 4611686018427387904) :
    Calls Try.prog 26 #[.pointer (some ⟨g, 0, none⟩), .int .i64 1, .int .u64 v] w fun e w' => e = .returned (.int .i64 (s.setE ((1 : Nat) : Int))) ∧ Lg w' x g y q n P per p (s.set ((1 : Nat) : Int) v) ∧ Chg [g, y] w w' := by
  refine (set_is (i := 1) (v := v) rfl rfl h.nm ok hc).mono ?_
  rintro e w' ⟨rfl, h1, _, h3⟩
  exact ⟨rfl, ⟨h3.whole h.lb (by simpa using h.xg), h.tq.chg h3 (by simpa using h.yg), h.lq.chg h3 (by simpa using h.qg), h1, h.qg, h.yg, h.yq, h.xg, h.xy⟩, h3.mono (by simp)⟩
end

/-- the homes are kept -/
def lkeep (n P per p : Nat) (h : List Hm) (s : Nv) : Int × Nat × Nv :=
  if (tputs n P per p (lgP h) s).1 = 0 then ((tputs n P per p (lgP h) s).2.2.setE ((1 : Nat) : Int), (tputs n P per p (lgP h) s).2.1, (tputs n P per p (lgP h) s).2.2.set ((1 : Nat) : Int) (h.length : Int))
  else tputs n P per p (lgP h) s
theorem lcom_keep (n P per p : Nat) (h : List Hm) (s : Nv) : lcom n P per p h s = if (lkeep n P per p h s).1 = 0 then lfin n P per (lkeep n P per p h s).2.1 h (lkeep n P per p h s).2.2 else lkeep n P per p h s := by
  unfold lcom lkeep
  by_cases h0 : (tputs n P per p (lgP h) s).1 = 0
  · rw [if_pos h0, if_pos h0]
  · rw [if_neg h0, if_neg h0, if_neg h0]

set_option maxRecDepth 100000 in
set_option maxHeartbeats 2000000 in
theorem keep_is {x g y q n P per p : Nat} {s : Nv} {w : World} {v : Value} {h : List Hm} {R : Int × Nat × Nv} (hR : lkeep n P per p h s = R) (hv : ∀ w', Chg [g, y] w w' → RA homeE w' v h) (H : Lg w x g y q n P per p s) (G : GOk s n P) (hd : s.dark = false) (rm : Room n P per p s) (M : MayH n h) :
    Calls Try.prog 30 #[.pointer (some ⟨x, 0, none⟩), v] w fun e w' => e = .returned (.int .i64 R.1) ∧ Lg w' x g y q n P per R.2.1 R.2.2 ∧ Chg [g, y] w w' := by
  have hv0 := hv w (Chg.refl _ _)
  obtain ⟨pv, cap, rfl, hlc, hcm⟩ := ra_shape hv0
  have n16 := M.n16
  have h14 := M.hi
  have hw : Wide h := fun x hx => (ra_ok hv0 x hx).len
  have hx2 : ixN h.length ≤ 2 := by unfold ixN; omega
  have LC := Lib.hid (laid_is hv0 M rm.n)
  obtain ⟨m, hm⟩ : ∃ m, ixN h.length + h.length = m := ⟨_, rfl⟩
  rw [hm] at LC
  have hLm : (lgP h).length = m := by rw [lgP_length, hm]
  have HA : Hid (∀ j, j < m → (lgP h)[j]? = some (j, ldF h h.length j)) := Lib.hid fun j hj => lgP_at (by omega)
  have h8 : Hid (∀ j, j < m → (ldF h h.length j).length = 8) := Lib.hid fun j hj => (lgP_pairs (n := n) (by omega) h14 hw).lt (j, ldF h h.length j) (List.mem_of_getElem? (HA.out j hj)) |>.2
  have KK : Hid (m ≤ 16 ∧ 16 ≤ n ∧ h.length ≤ 14 ∧ Room n P per p s) := Lib.hid ⟨by omega, by omega, h14, rm⟩
  obtain ⟨T, hT⟩ : ∃ T, tputs n P per p (lgP h) s = T := ⟨_, rfl⟩
  have S0 : Hid (Stp n P per p s (lgP h) T 0 p s) := Lib.hid (by rw [← hT]; exact Stp.start G hd)
  have HR : Hid ((if T.1 = 0 then (T.2.2.setE ((1 : Nat) : Int), T.2.1, T.2.2.set ((1 : Nat) : Int) (h.length : Int)) else T) = R) := Lib.hid (by rw [← hR, lkeep, hT])
  have ju : IntKind.u64.wrap (h.length : Int) = (h.length : Int) := u64_same (by omega) (by omega)
  have HL := Lib.hid H
  have GL : Hid (g < w.heap.size ∧ y < w.heap.size ∧ x < w.heap.size) := Lib.hid ⟨H.nm.lt, H.tq.lt, H.xlt⟩
  have HM := Lib.hid hLm
  have NEx : Hid (x ≠ g ∧ x ≠ y) := Lib.hid ⟨H.xg, H.xy⟩
  clear hv hv0 H G hd rm M hR hT hm hw hx2 n16 h14 hLm hlc hcm
  generalize hLL : lgP h = L at *
  generalize ldF h h.length = F at *
  generalize h.length = k at *
  go_enter Try.func30, Try.ntmps30
  go_wp2_with fail
  refine (LC.out).mono ?_; rintro e w1 ⟨gw, hgw, rfl, ho, hb⟩
  have O1 := Lib.hid ho
  have L1 := Lib.hid (HL.out.below hb)
  have B1 := Lib.hid hb
  have NG : Hid (gw ≠ g ∧ gw ≠ y) := Lib.hid ⟨by have := GL.out; omega, by have := GL.out; omega⟩
  clear ho hb hgw
  go_wp2
  go_loopw [11] (fun i wr => ∃ j : Nat, j ≤ m ∧ i = .int .i64 j ∧ Hid (∃ pj sj, Stp n P per p s L T j pj sj ∧ Lg wr x g y q n P per pj sj ∧ Chg [g, y] w1 wr)) (fun i _ => m - (intOf i).toNat)
  case atStart => exact ⟨0, Nat.zero_le _, rfl, Lib.hid ⟨p, s, S0.out, L1.out, Chg.refl _ _⟩⟩
  case round =>
    obtain ⟨j, hj, rfl, H⟩ := hrel
    obtain ⟨pj, sj, hS, hL, hC⟩ := H.out
    have ST := Lib.hid hS
    have LJ := Lib.hid hL
    have CJ := Lib.hid hC
    clear H hS hL hC
    by_cases hlt : j < m
    · have OJ := O1.out.chg CJ.out (by simpa using NG.out)
      have ll := OJ.load hlt
      have hd8 := h8.out j hlt
      have hat := HA.out j hlt
      obtain ⟨d, hd⟩ : ∃ d, F j = d := ⟨_, rfl⟩
      rw [hd] at ll hd8 hat
      obtain ⟨W, hW, H1⟩ := boxed1 wr hd8
      have LW := Lib.hid (LJ.out.below H1.out.2)
      obtain ⟨Q, hQ⟩ : ∃ Q, tput n P per pj (tm sj) j d sj = Q := ⟨_, rfl⟩
      have hst := ST.out
      have kk := KK.out
      have rmm := kk.2.2.2
      have nx := ST.out.next hat (by omega) (by omega) hd8 (by have := rmm.m; omega) hQ
      have PC := Lib.hid fun (w' : World) (hb : Below W.heap.size W w') => lg_put hQ (LW.out.below hb) ST.out.g ST.out.live rmm.n (by omega) hd8 (by have := hst.tm; have := rmm.m; omega) (by have := hst.p; have := rmm.p; omega) (by have := hst.c; have := rmm.c; omega)
      have NX := Lib.hid nx
      have VN : Hid (wr.heap.size ∉ [g, y]) := Lib.hid (by have := LJ.out.nm.lt; have := LJ.out.tq.lt; simp; omega)
      have l0 : ∀ w', Chg [g, y] W w' → (lineLoad (.pointer (some ⟨wr.heap.size, 0, none⟩))).run Try.prog w' = .ok (.agg (lc d)) w' := fun w' hc => (hc.ln H1.out.1 VN.out).load
      have d1 : ∀ w', Chg [g, y] W w' → w'.cell? ⟨x, 1, none⟩ = some (.pointer (some ⟨y, 0, none⟩)) := fun w' hc => by
        rw [Whole.at_ (hc.whole LW.out.lb (by simpa using NEx.out))]; rfl
      have hbd : Below W.heap.size W W.drew := (Below.refl _ _).drew
      have i0 : (0 : Int) ≤ (j : Int) := by omega
      have i3 : (j : Int) < (m : Int) := by omega
      have i4 : ¬ (j : Int) < 0 := by omega
      have j0 : IntKind.i64.wrap ((j : Int) + 1) = ((j + 1 : Nat) : Int) := by rw [show (j : Int) + 1 = ((j + 1 : Nat) : Int) by omega]; exact i64_nat _ (by omega)
      have HK := Lib.hid hlt
      have CB := Lib.hid (Chg.of_below H1.out.2 [g, y])
      clear OJ hat hst rmm nx hlt hj hd hQ kk
      go_wp2
      go_region_held3 (fun w' => Chg [g, y] W w')
        (first | assumption | exact (Chg.refl _ _).drew)
        (first
          | (go_at_call 46; refine (PC.out _ hbd).mono ?_; rintro e wy ⟨rfl, hLy, hCy⟩
             have LY := Lib.hid hLy
             have CY := Lib.hid ((Chg.of_below hbd [g, y]).trans hCy)
             clear hLy hCy))
      have CZ := Lib.hid ((CJ.out.trans CB.out).trans CY.out)
      clear l0 d1 hbd ll
      obtain ⟨e1, s1⟩ := Q
      rcases NX.out with ⟨h0, S1⟩ | ⟨h0, hT⟩
      · dsimp only at h0
        subst h0
        have KN := Lib.hid S1
        clear S1
        go_wp2
        exact ⟨⟨j + 1, by have := HK.out; omega, by go_num, Lib.hid ⟨_, _, KN.out, LY.out, CZ.out⟩⟩, by have := HK.out; simp [intOf]; omega⟩
      · dsimp only at h0
        have b0 : (e1 != 0) = true := bne_iff_ne.2 h0
        have ER : Hid ((e1, tp per pj, s1) = R) := Lib.hid (by rw [← HR.out, hT, if_neg h0])
        clear h0 hT
        go_wp2
        go_ret
        exact ⟨by rw [← ER.out]; rfl, by rw [← ER.out]; exact LY.out, (Chg.of_below B1.out [g, y]).trans CZ.out⟩
    · obtain rfl : j = m := by omega
      have hT := Stp.done (by have := ST.out; rw [← HM.out] at this; exact this)
      have hst := ST.out
      have kk := KK.out
      have rmm := kk.2.2.2
      have SC := Lib.hid (lg_set (v := (k : Int)) LJ.out ST.out.g.ok (by have := hst.c; have := rmm.c; omega))
      have c0 := LJ.out.c0
      have ER : Hid ((sj.setE ((1 : Nat) : Int), pj, sj.set ((1 : Nat) : Int) (k : Int)) = R) := Lib.hid (by rw [← HR.out, hT, if_pos rfl])
      clear hT hst kk rmm hj
      go_wp2_with fail
      refine (SC.out).mono ?_; rintro e w3 ⟨rfl, hL, hC⟩
      have L3 := Lib.hid hL
      have C3 := Lib.hid (((Chg.of_below B1.out [g, y]).trans CJ.out).trans hC)
      clear hL hC
      go_wp2
      go_ret
      exact ⟨by rw [← ER.out]; rfl, by rw [← ER.out]; exact L3.out, C3.out⟩

set_option maxRecDepth 100000 in
set_option maxHeartbeats 2000000 in
theorem do_is {x g y q n P per p : Nat} {s : Nv} {w : World} {v : Value} {C : List Hm} {R : Int × Nat × Nv} (hR : lfin n P per p C s = R) (hv : ∀ w', Chg [g, y] w w' → RA homeE w' v C) (H : Lg w x g y q n P per p s) (G : GOk s n P) (hd : s.dark = false) (hn : n ≤ 1000) (hp : p + 14 < 4611686018427387904) (hm : tm s + 14 < 4611686018427387904) (hc : s.c + 10000 < 4611686018427387904) (M : MayH n C) :
    Calls Try.prog 31 #[.pointer (some ⟨x, 0, none⟩), v] w fun e w' => e = .returned (.int .i64 R.1) ∧ Lg w' x g y q n P per R.2.1 R.2.2 ∧ Chg [g, y] w w' := by
  have hv0 := hv w (Chg.refl _ _)
  obtain ⟨pv, cap, rfl, hlc, hcm⟩ := ra_shape hv0
  have n16 := M.n16
  have h14 := M.hi
  have KK : Hid (16 ≤ n ∧ n ≤ 1000 ∧ C.length ≤ 14 ∧ p + 14 < 4611686018427387904 ∧ tm s + 14 < 4611686018427387904 ∧ s.c + 10000 < 4611686018427387904) := Lib.hid ⟨by omega, hn, h14, hp, hm, hc⟩
  obtain ⟨T, hT⟩ : ∃ T, tputs n P per p (hmP C) s = T := ⟨_, rfl⟩
  have S0 : Hid (Stp n P per p s (hmP C) T 0 p s) := Lib.hid (by rw [← hT]; exact Stp.start G hd)
  have HR : Hid ((if T.1 = 0 then (T.2.2.setE ((1 : Nat) : Int), T.2.1, T.2.2.set ((1 : Nat) : Int) 0) else if T.1 = 3 then (0, T.2.1, T.2.2) else T) = R) := Lib.hid (by rw [← hR, lfin, hT])
  have HL := Lib.hid H
  have HM : Hid (MayH n C ∧ (hmP C).length = C.length) := Lib.hid ⟨M, hmP_length C⟩
  have HA : Hid (∀ j, j < C.length → (hmP C)[j]? = some ((C.getD j default).i.toNat, (C.getD j default).l)) := Lib.hid fun j hj => by
    unfold hmP
    rw [List.getElem?_map, List.getElem?_eq_getElem hj, List.getD_eq_getElem?_getD, List.getElem?_eq_getElem hj]; rfl
  have NEx : Hid (x ≠ g ∧ x ≠ y) := Lib.hid ⟨H.xg, H.xy⟩
  have HV := Lib.hid hv
  clear hv hv0 H G hd hn hp hm hc M hR hT n16 h14 hlc hcm
  generalize hLL : hmP C = L at *
  go_enter Try.func31, Try.ntmps31
  go_wp2
  go_loopw [10] (fun i wr => ∃ j : Nat, j ≤ C.length ∧ i = .int .i64 j ∧ Hid (∃ pj sj, Stp n P per p s L T j pj sj ∧ Lg wr x g y q n P per pj sj ∧ Chg [g, y] w wr)) (fun i _ => C.length - (intOf i).toNat)
  case atStart => exact ⟨0, Nat.zero_le _, rfl, Lib.hid ⟨p, s, S0.out, HL.out, Chg.refl _ _⟩⟩
  case round =>
    obtain ⟨j, hj, rfl, H⟩ := hrel
    obtain ⟨pj, sj, hS, hL, hC⟩ := H.out
    have ST := Lib.hid hS
    have LJ := Lib.hid hL
    have CJ := Lib.hid hC
    clear H hS hL hC S0 HL
    by_cases hlt : j < C.length
    · obtain ⟨b, off, e, _, hx⟩ := home_at (HV.out _ CJ.out) (by omega)
      subst e
      obtain ⟨hl, _, _, hwf⟩ := hx j hlt
      have hat := HA.out j hlt
      obtain ⟨X, hX⟩ : ∃ X, C.getD j default = X := ⟨_, rfl⟩
      have hbd := HM.out.1.at_ _ (getD_mem hlt)
      rw [hX] at hl hwf hat hbd
      obtain ⟨a, ha⟩ : ∃ a : Nat, X.i = (a : Int) := ⟨X.i.toNat, by omega⟩
      rw [show X.i.toNat = a by omega] at hat
      obtain ⟨d, hd⟩ : ∃ d, X.l = d := ⟨_, rfl⟩
      have hw8 := hwf.len
      have hd8 : d.length = 8 := by rw [← hd]; exact hw8
      rw [hd] at hat
      obtain ⟨W, hW, H1⟩ := home_boxed wr hw8
      have LW := Lib.hid (LJ.out.below H1.out.2)
      obtain ⟨Q, hQ⟩ : ∃ Q, tput n P per pj (tm sj) a d sj = Q := ⟨_, rfl⟩
      have hst := ST.out
      have kk := KK.out
      have nx := ST.out.next hat (by omega) (by omega) hd8 (by omega) hQ
      have PC := Lib.hid fun (w' : World) (hb : Below W.heap.size W w') => lg_put hQ (LW.out.below hb) ST.out.g ST.out.live kk.2.1 (by omega) hd8 (by have := hst.tm; omega) (by have := hst.p; omega) (by have := hst.c; omega)
      have NX := Lib.hid nx
      have VN : Hid (wr.heap.size ∉ [g, y]) := Lib.hid (by have := LJ.out.nm.lt; have := LJ.out.tq.lt; simp; omega)
      have l0 : ∀ w', Chg [g, y] W w' → w'.cell? ⟨wr.heap.size, 0, none⟩ = some (.int .i64 (a : Int)) := fun w' hc => by rw [(H1.out.1.chg hc VN.out).slot, ha]
      have l1 : ∀ w', Chg [g, y] W w' → (lineLoad (.pointer (some ⟨wr.heap.size, 1, none⟩))).run Try.prog w' = .ok (.agg (lc d)) w' := fun w' hc => by rw [(H1.out.1.chg hc VN.out).line, hd]
      have d1 : ∀ w', Chg [g, y] W w' → w'.cell? ⟨x, 1, none⟩ = some (.pointer (some ⟨y, 0, none⟩)) := fun w' hc => by
        rw [Whole.at_ (hc.whole LW.out.lb (by simpa using NEx.out))]; rfl
      have hbd : Below W.heap.size W W.drew := (Below.refl _ _).drew
      have i0 : (0 : Int) ≤ (j : Int) := by omega
      have i3 : (j : Int) < (C.length : Int) := by omega
      have i4 : ¬ (j : Int) < 0 := by omega
      have j0 : IntKind.i64.wrap ((j : Int) + 1) = ((j + 1 : Nat) : Int) := by rw [show (j : Int) + 1 = ((j + 1 : Nat) : Int) by omega]; exact i64_nat _ (by omega)
      have HK := Lib.hid hlt
      have CB := Lib.hid (Chg.of_below H1.out.2 [g, y])
      clear hx hX hwf hat hst nx hlt hj hd hQ kk ha
      go_wp2
      go_region_held3 (fun w' => Chg [g, y] W w')
        (first | assumption | exact (Chg.refl _ _).drew)
        (first
          | (go_at_call 46; refine (PC.out _ hbd).mono ?_; rintro e wy ⟨rfl, hLy, hCy⟩
             have LY := Lib.hid hLy
             have CY := Lib.hid ((Chg.of_below hbd [g, y]).trans hCy)
             clear hLy hCy))
      have CZ := Lib.hid ((CJ.out.trans CB.out).trans CY.out)
      clear l0 l1 d1 hbd hl
      obtain ⟨e1, s1⟩ := Q
      rcases NX.out with ⟨h0, S1⟩ | ⟨h0, hT⟩
      · dsimp only at h0
        subst h0
        have KN := Lib.hid S1
        clear S1
        go_wp2
        exact ⟨⟨j + 1, by have := HK.out; omega, by go_num, Lib.hid ⟨_, _, KN.out, LY.out, CZ.out⟩⟩, by have := HK.out; simp [intOf]; omega⟩
      · dsimp only at h0
        by_cases h3 : e1 = 3
        · subst h3
          have ER : Hid ((0, tp per pj, s1) = R) := Lib.hid (by rw [← HR.out, hT, if_neg h0, if_pos rfl])
          clear h0 hT
          go_wp2
          go_ret
          exact ⟨by rw [← ER.out]; rfl, by rw [← ER.out]; exact LY.out, CZ.out⟩
        · have b0 : (e1 == 0) = false := beq_eq_false_iff_ne.2 h0
          have b3 : (e1 == 3) = false := beq_eq_false_iff_ne.2 h3
          have ER : Hid ((e1, tp per pj, s1) = R) := Lib.hid (by rw [← HR.out, hT, if_neg h0, if_neg h3])
          clear h0 hT h3
          go_wp2
          go_ret
          exact ⟨by rw [← ER.out]; rfl, by rw [← ER.out]; exact LY.out, CZ.out⟩
    · obtain rfl : j = C.length := by omega
      have hT := Stp.done (by have := ST.out; rw [← HM.out.2] at this; exact this)
      have hst := ST.out
      have kk := KK.out
      have SC := Lib.hid (lg_set (v := 0) LJ.out ST.out.g.ok (by have := hst.c; omega))
      have c0 := LJ.out.c0
      have ER : Hid ((sj.setE ((1 : Nat) : Int), pj, sj.set ((1 : Nat) : Int) 0) = R) := Lib.hid (by rw [← HR.out, hT, if_pos rfl])
      clear hT hst kk hj
      go_wp2_with fail
      refine (SC.out).mono ?_; rintro e w3 ⟨rfl, hL, hC⟩
      have L3 := Lib.hid hL
      have C3 := Lib.hid (CJ.out.trans hC)
      clear hL hC
      go_wp2
      go_ret
      exact ⟨by rw [← ER.out]; rfl, by rw [← ER.out]; exact L3.out, C3.out⟩
end Go.Proofs.Ytjghhcbiaklomaa

/-
  Contracts of package log: Commit, Recover; what the statements ask of the program's functions is so.
-/
namespace Go.Proofs.Ytjghhcbiaklomaa
set_option maxRecDepth 100000
open Go.RowKit

/-- what keeping leaves, if it goes well -/
theorem lkeep_ok {n P per p : Nat} {h : List Hm} {s : Nv} {R : Int × Nat × Nv} (hR : lkeep n P per p h s = R) (G : GOk s n P) (hd : s.dark = false) (M : MayH n h) (hw : Wide h) (hm : tm s + 30 < 4611686018427387904) (h0 : R.1 = 0) :
    GOk R.2.2 n P ∧ R.2.2.dark = false ∧ tm R.2.2 ≤ tm s + 16 ∧ R.2.2.c ≤ s.c + 1300 ∧ R.2.1 ≤ p + 16 := by
  have n16 := M.n16
  have h14 := M.hi
  obtain ⟨o, op⟩ := tputs_out (n := n) (P := P) (per := per) (by omega) (lgP h) p s (lgP_pairs (by omega) h14 hw) G hd (by rw [lgP_length]; unfold ixN; omega)
  have hl16 : (lgP h).length ≤ 16 := by rw [lgP_length]; unfold ixN; omega
  unfold lkeep at hR
  generalize tputs n P per p (lgP h) s = T at *
  have oh := o.hi
  have oc := o.c
  by_cases t0 : T.1 = 0
  · rw [if_pos t0] at hR
    subst hR
    have d1 : T.2.2.dark = false := by rcases o.own with ⟨_, q, _⟩ | ⟨e, _⟩ | ⟨e, _⟩; exact q; rw [t0] at e; cases e; rw [t0] at e; cases e
    obtain ⟨a1, _, _, a4, _, _, a7, a8⟩ := set1 o.g d1 (h.length : Int)
    dsimp only at h0
    refine ⟨a1, ?_, by dsimp only; omega, by dsimp only; omega, by dsimp only; omega⟩
    rcases a8 with ⟨_, q, _⟩ | ⟨e, _⟩
    · exact q
    · rw [h0] at e; cases e
  · rw [if_neg t0] at hR
    subst hR
    exact absurd h0 t0

section
variable {x g y q n P per p : Nat} {s : Nv} {w : World}
theorem cmt_arg {v : Value} {h : List Hm} (H : Lg w x g y q n P per p s) (hv : RA homeE w v h) (M : ¬ MayH n h) :
    Calls Try.prog 15 #[.pointer (some ⟨x, 0, none⟩), v] w fun e w' => e = .returned (.int .i64 1) ∧ Below w.heap.size w w' := by
  have LC := Lib.hid (llines_is H)
  have MC := Lib.hid (may_is (n : Int) v h false w hv ⟨fun e => (by cases e), fun e => absurd e M⟩)
  clear H hv M
  go_enter Try.func15, Try.ntmps15
  go_wp2_with fail
  refine (LC.out).mono ?_; rintro e w' ⟨rfl, rfl⟩
  go_wp2_with fail
  refine (MC.out).mono ?_; rintro e w1 ⟨rfl, hb⟩
  go_wp2
  go_ret
  exact ⟨rfl, hb⟩
theorem cmt_nil {v : Value} {h : List Hm} (hv : RA homeE w v h) :
    Calls Try.prog 15 #[.pointer none, v] w fun e w' => e = .returned (.int .i64 1) ∧ Below w.heap.size w w' := by
  have LC := Lib.hid (llines_nil w)
  have MC := Lib.hid (may_is 0 v h false w hv ⟨fun e => (by cases e), fun e => absurd e.n16 (by decide)⟩)
  clear hv
  go_enter Try.func15, Try.ntmps15
  go_wp2_with fail
  refine (LC.out).mono ?_; rintro e w' ⟨rfl, rfl⟩
  go_wp2_with fail
  refine (MC.out).mono ?_; rintro e w1 ⟨rfl, hb⟩
  go_wp2
  go_ret
  exact ⟨rfl, hb⟩
theorem cmt_dark {v : Value} {h : List Hm} (H : Lg w x g y q n P per p s) (hd : s.dark = true) (hv : RA homeE w v h) (M : MayH n h) :
    Calls Try.prog 15 #[.pointer (some ⟨x, 0, none⟩), v] w fun e w' => e = .returned (.int .i64 2) ∧ Below w.heap.size w w' := by
  have LC := Lib.hid (llines_is H)
  have MC := Lib.hid (may_is (n : Int) v h true w hv ⟨fun _ => M, fun _ => rfl⟩)
  have HL := Lib.hid H
  have HD := Lib.hid hd
  clear H hv M hd
  go_enter Try.func15, Try.ntmps15
  go_wp2_with fail
  refine (LC.out).mono ?_; rintro e w' ⟨rfl, rfl⟩
  go_wp2_with fail
  refine (MC.out).mono ?_; rintro e w1 ⟨rfl, hb⟩
  have PC := Lib.hid (lpend_dark (HL.out.below hb) HD.out)
  have HB := Lib.hid hb
  clear hb
  go_wp2_with fail
  refine (PC.out).mono ?_; rintro e w' ⟨rfl, rfl⟩
  go_wp2
  go_ret
  exact ⟨rfl, HB.out⟩
theorem cmt_state {v : Value} {h : List Hm} {r : Int} (H : Lg w x g y q n P per p s) (hd : s.dark = false) (hr : s.rg 1 = r) (h0 : r ≠ 0) (hv : RA homeE w v h) (M : MayH n h) :
    Calls Try.prog 15 #[.pointer (some ⟨x, 0, none⟩), v] w fun e w' => e = .returned (.int .i64 5) ∧ Below w.heap.size w w' := by
  have LC := Lib.hid (llines_is H)
  have MC := Lib.hid (may_is (n : Int) v h true w hv ⟨fun _ => M, fun _ => rfl⟩)
  have HL := Lib.hid H
  have HD := Lib.hid (And.intro hd hr)
  have b0 : (r != 0) = true := bne_iff_ne.2 h0
  clear H hv M hd hr
  go_enter Try.func15, Try.ntmps15
  go_wp2_with fail
  refine (LC.out).mono ?_; rintro e w' ⟨rfl, rfl⟩
  go_wp2_with fail
  refine (MC.out).mono ?_; rintro e w1 ⟨rfl, hb⟩
  have PC := Lib.hid (lpend_live (HL.out.below hb) HD.out.1 HD.out.2)
  have HB := Lib.hid hb
  clear hb
  go_wp2_with fail
  refine (PC.out).mono ?_; rintro e w' ⟨rfl, rfl⟩
  go_wp2
  go_ret
  exact ⟨rfl, HB.out⟩
set_option maxHeartbeats 1000000 in
theorem cmt_is {v : Value} {h : List Hm} {R : Int × Nat × Nv} (hR : lcom n P per p h s = R) (H : Lg w x g y q n P per p s) (L : LgOk s n P) (hd : s.dark = false) (rm : Room n P per p s) (h0 : lk s = 0) (hv : ∀ w', Chg [g, y] w w' → RA homeE w' v h) (M : MayH n h) :
    Calls Try.prog 15 #[.pointer (some ⟨x, 0, none⟩), v] w fun e w' => e = .returned (.int .i64 R.1) ∧ Lg w' x g y q n P per R.2.1 R.2.2 ∧ Chg [g, y] w w' := by
  have hv0 := hv w (Chg.refl _ _)
  have hw : Wide h := fun x hx => (ra_ok hv0 x hx).len
  have LC := Lib.hid (llines_is H)
  have MC := Lib.hid (may_is (n : Int) v h true w hv0 ⟨fun _ => M, fun _ => rfl⟩)
  have HL := Lib.hid H
  have HD := Lib.hid (And.intro hd (show s.rg 1 = 0 by rw [L.r1, h0]; rfl))
  rw [lcom_keep] at hR
  obtain ⟨K, hK⟩ : ∃ K, lkeep n P per p h s = K := ⟨_, rfl⟩
  have KO := lkeep_ok hK L.g hd M hw rm.m
  rw [hK] at hR
  have HR := Lib.hid hR
  have HK := Lib.hid hK
  have HO := Lib.hid KO
  have HA := Lib.hid (And.intro L.g (And.intro rm M))
  have HV := Lib.hid hv
  clear H hv hv0 M hd hR hK KO rm L h0 hw
  go_enter Try.func15, Try.ntmps15
  go_wp2_with fail
  refine (LC.out).mono ?_; rintro e w' ⟨rfl, rfl⟩
  go_wp2_with fail
  refine (MC.out).mono ?_; rintro e w1 ⟨rfl, hb⟩
  have L1 := Lib.hid (HL.out.below hb)
  have C1 := Lib.hid (Chg.of_below hb [g, y])
  have PC := Lib.hid (lpend_live L1.out HD.out.1 HD.out.2)
  have KC := Lib.hid (keep_is (v := v) HK.out (fun w' hc => HV.out w' (C1.out.trans hc)) L1.out HA.out.1 HD.out.1 HA.out.2.1 HA.out.2.2)
  clear hb
  go_wp2_with fail
  refine (PC.out).mono ?_; rintro e w' ⟨rfl, rfl⟩
  go_wp2_with fail
  refine (KC.out).mono ?_; rintro e w2 ⟨rfl, hL, hC⟩
  have L2 := Lib.hid hL
  have C2 := Lib.hid (C1.out.trans hC)
  clear hL hC
  obtain ⟨e1, p1, s1⟩ := K
  by_cases h0 : e1 = 0
  · subst h0
    obtain ⟨g1, g2, g3, g4, g5⟩ := HO.out rfl
    have hR := HR.out
    rw [if_pos rfl] at hR
    dsimp only at hR g1 g2 g3 g4 g5
    have rmm := HA.out.2.1
    have DC := Lib.hid (do_is (v := v) hR (fun w' hc => HV.out w' (C2.out.trans hc)) L2.out g1 g2 rmm.n (by have := rmm.p; omega) (by have := rmm.m; omega) (by have := rmm.c; omega) HA.out.2.2)
    clear g1 g2 g3 g4 g5 hR rmm
    go_wp2_with fail
    refine (DC.out).mono ?_; rintro e w3 ⟨rfl, hL, hC⟩
    have L3 := Lib.hid hL
    have C3 := Lib.hid (C2.out.trans hC)
    clear hL hC
    go_wp2
    go_ret
    exact ⟨rfl, L3.out, C3.out⟩
  · have b0 : (e1 != 0) = true := bne_iff_ne.2 h0
    have ER : Hid ((e1, p1, s1) = R) := Lib.hid (by rw [← HR.out, if_neg h0])
    clear h0
    go_wp2
    go_ret
    exact ⟨by rw [← ER.out]; rfl, by rw [← ER.out]; exact L2.out, C2.out⟩

theorem rcv_nil (w : World) : Calls Try.prog 21 #[.pointer none] w fun e w' => e = .returned (.int .i64 1) ∧ w = w' := by
  go_enter Try.func21, Try.ntmps21
  go_wp2_with fail
  refine (cm_nil w).mono ?_; rintro e w' ⟨rfl, rfl⟩
  go_wp2_with fail
  go_ret
  exact ⟨rfl, rfl⟩
theorem rcv_dark (H : Lg w x g y q n P per p s) (hd : s.dark = true) : Calls Try.prog 21 #[.pointer (some ⟨x, 0, none⟩)] w fun e w' => e = .returned (.int .i64 2) ∧ w = w' := by
  have C := Lib.hid (cm_dark H hd)
  clear H hd
  go_enter Try.func21, Try.ntmps21
  go_wp2_with fail
  refine (C.out).mono ?_; rintro e w' ⟨rfl, rfl⟩
  go_wp2_with fail
  go_ret
  exact ⟨rfl, rfl⟩
theorem rcv_raw {v : Int} (H : Lg w x g y q n P per p s) (hd : s.dark = false) (hr : s.rg 1 = v) (hv : 14 < v) : Calls Try.prog 21 #[.pointer (some ⟨x, 0, none⟩)] w fun e w' => e = .returned (.int .i64 6) ∧ w = w' := by
  have C := Lib.hid (cm_raw H hd hr hv)
  clear H hd hr hv
  go_enter Try.func21, Try.ntmps21
  go_wp2_with fail
  refine (C.out).mono ?_; rintro e w' ⟨rfl, rfl⟩
  go_wp2_with fail
  go_ret
  exact ⟨rfl, rfl⟩
theorem rcv_zero (H : Lg w x g y q n P per p s) (hd : s.dark = false) (hr : s.rg 1 = 0) : Calls Try.prog 21 #[.pointer (some ⟨x, 0, none⟩)] w fun e w' => e = .returned (.int .i64 0) ∧ w = w' := by
  have C := Lib.hid (cm_zero H hd hr)
  clear H hd hr
  go_enter Try.func21, Try.ntmps21
  go_wp2_with fail
  refine (C.out).mono ?_; rintro e w' ⟨rfl, rfl⟩
  go_wp2_with fail
  go_ret
  exact ⟨rfl, rfl⟩
theorem rcv_is {R : Int × Nat × Nv} (hR : lrec n P per p s = R) (H : Lg w x g y q n P per p s) (L : LgOk s n P) (hd : s.dark = false) (rm : Room n P per p s) :
    Calls Try.prog 21 #[.pointer (some ⟨x, 0, none⟩)] w fun e w' => e = .returned (.int .i64 R.1) ∧ Lg w' x g y q n P per R.2.1 R.2.2 ∧ Chg [g, y] w w' := by
  unfold lrec at hR
  by_cases h0 : lk s = 0
  · rw [if_pos h0] at hR
    subst hR
    refine (rcv_zero H hd (by rw [L.r1, h0]; rfl)).mono ?_
    rintro e w' ⟨rfl, rfl⟩
    exact ⟨rfl, H, Chg.refl _ _⟩
  · rw [if_neg h0] at hR
    have M := L.fo.resolve_left h0
    have C := Lib.hid (cm_some H L hd rm.n h0)
    have HD := Lib.hid (fun (v : Value) (w1 : World) (hv : ∀ w', Chg [g, y] w1 w' → RA homeE w' v (com s n P)) (hL : Lg w1 x g y q n P per p s) => do_is hR hv hL L.g hd rm.n (by have := rm.p; omega) (by have := rm.m; omega) (by have := rm.c; omega) M)
    have HL := Lib.hid H
    have hlo := M.lo
    clear hR L hd rm h0 M H
    generalize com s n P = CC at *
    go_enter Try.func21, Try.ntmps21
    go_wp2_with fail
    refine (C.out).mono ?_; rintro e w1 ⟨v, rfl, ho, hr, hb⟩
    have L1 := Lib.hid (HL.out.below hb)
    have C1 := Lib.hid (Chg.of_below hb [g, y])
    have DC := Lib.hid (HD.out v w1 (fun w' hc => ra_chg hr hc fun b hb => by have := ho b hb; have := HL.out.nm.lt; have := HL.out.tq.lt; simp; omega) L1.out)
    obtain ⟨pv, cap, rfl, _, _⟩ := ra_shape hr
    have b0 : ((CC.length : Int) == 0) = false := beq_eq_false_iff_ne.2 (by omega)
    clear ho hr hb hlo
    generalize CC.length = k at *
    go_wp2_with fail
    refine (DC.out).mono ?_; rintro e w3 ⟨rfl, hL, hC⟩
    have L3 := Lib.hid hL
    have C3 := Lib.hid (C1.out.trans hC)
    clear hL hC
    go_wp2
    go_ret
    exact ⟨rfl, L3.out, C3.out⟩
end

theorem ctr : Ctr where
  new := fun _ _ _ _ _ _ _ _ _ hT hQ hN h1 h2 h3 hn => lg_new hT hQ hN h1 h2 h3 hn
  may := fun w n v h r hv hr => may_is n v h r w hv hr
  newNil := fun w g => lg_new_nil w g
  newFew := fun _ g _ _ _ _ _ _ _ hT _ _ hn => lg_new_few hT hn g
  pend := fun w _ _ _ _ _ _ _ _ s h L hd => (pd_live (decide (lk s ≠ 0)) h hd L.r1 (by simp)).mono fun _ _ ⟨e, hw⟩ => ⟨e, by subst hw; exact Below.refl _ _⟩
  get := fun _ _ _ _ _ _ _ _ _ _ _ h L hd rm ha han => gt_live h L hd rm.n ha han
  getOut := fun _ _ _ _ _ _ _ _ _ _ _ h ha => gt_out h ha
  com := fun _ _ _ _ _ _ _ _ _ _ _ _ h L hd rm h0 hv M => cmt_is rfl h L hd rm h0 hv M
  comArg := fun _ _ _ _ _ _ _ _ _ _ _ _ h _ hv M => cmt_arg h hv M
  comState := fun _ _ _ _ _ _ _ _ _ _ _ _ h hd hr h0 _ hv M => cmt_state h hd hr (by omega) hv M
  recv := fun _ _ _ _ _ _ _ _ _ _ h L hd rm => rcv_is rfl h L hd rm
end Go.Proofs.Ytjghhcbiaklomaa

/-
  A commit, whenever the power goes, as one contract; the state of LogWhole behind it.
-/
namespace Go.Proofs.Ytjghhcbiaklomaa
set_option maxRecDepth 100000
open Go.RowKit

theorem commit_all (C : Ctr) {w : World} {x g y q N P per p : Nat} {s : Nv} {v : Value} {h : List Hm} (hL : Lg w x g y q N P per p s) (hk : LgOk s N P) (hd : s.dark = false) (hr : Room N P per p s) (hvc : ∀ w', Chg [g, y] w w' → RA homeE w' v h) :
    Calls Try.prog 15 #[.pointer (some ⟨x, 0, none⟩), v] w fun e w' => ∃ (E : Int) (p' : Nat) (s' : Nv), e = .returned (.int .i64 E) ∧ Lg w' x g y q N P per p' s' ∧ Chg [g, y] w w' ∧ Same s s' N P 32 ∧ p' ≤ p + 30 ∧
      (((E = 0 ∨ E = 2) ∧ lk s = 0 ∧ MayH N h ∧ ∀ b, 16 ≤ b → b < N → view s' N P b = hv h (view s N P) b) ∨ (E ≠ 0 ∧ ∀ b, 16 ≤ b → b < N → view s' N P b = view s N P b)) ∧ (s.comes = false → s'.dark = false ∧ E ≠ 2) := by
  have hv_ := hvc w (Chg.refl _ _)
  have S0 : Same s s N P 32 := ⟨hk, rfl, rfl, rfl, by omega, by omega⟩
  by_cases hm : MayH N h
  · by_cases h0 : lk s = 0
    · obtain ⟨S, hp, o⟩ := lcom_out per p hk hd h0 hm (ra_wide hv_) (by have := hr.m; omega)
      refine (C.com w x g y q N P per p s v h hL hk hd hr h0 hvc hm).mono ?_
      rintro e w' ⟨rfl, h1, h2⟩
      generalize lcom N P per p h s = R at *
      refine ⟨_, _, _, rfl, h1, h2, S, hp, ?_, ?_⟩
      · rcases o with ⟨a, b, c⟩ | ⟨a, b, c, d⟩ | ⟨a, b, c | c⟩
        · exact .inl ⟨.inl a, h0, hm, c⟩
        · exact .inr ⟨by rw [a]; decide, d⟩
        · exact .inr ⟨by rw [a]; decide, c⟩
        · exact .inl ⟨.inr a, h0, hm, c⟩
      · intro hc
        rcases o with ⟨a, b, c⟩ | ⟨a, b, c, d⟩ | ⟨a, b, c⟩
        · exact ⟨b, by rw [a]; decide⟩
        · exact ⟨b, by rw [a]; decide⟩
        · rw [hc] at b; cases b
    · refine (C.comState w x g y q N P per p s v h hL hd hk.r1 h0 hr.n hv_ hm).mono ?_
      rintro e w' ⟨rfl, hb⟩
      exact ⟨5, p, s, rfl, hL.below hb, Chg.of_below hb _, S0, by omega, .inr ⟨by decide, fun _ _ _ => rfl⟩, fun _ => ⟨hd, by decide⟩⟩
  · refine (C.comArg w x g y q N P per p s v h hL hr.n hv_ hm).mono ?_
    rintro e w' ⟨rfl, hb⟩
    exact ⟨1, p, s, rfl, hL.below hb, Chg.of_below hb _, S0, by omega, .inr ⟨by decide, fun _ _ _ => rfl⟩, fun _ => ⟨hd, by decide⟩⟩

/-- a memory with the homes F on it, and two slices of lines beside it -/
structure Kw (w wr : World) (g n P gw gx c K : Nat) (s : Nv) (f fx F : Nat → List Int) : Prop where
  nm : Nm wr g s
  ok : LgOk s (16 + n) P
  own : Ol w.heap.size wr gw n n f
  nxt : Ol w.heap.size wr gx n c fx
  bel : Below w.heap.size w wr
  eq : ∀ i, i < n → view s (16 + n) P (16 + i) = F i
  pl : w.heap.size ≤ g ∧ gw ≠ g ∧ gx ≠ g ∧ w.heap.size ≤ gx
  num : n ≤ 20 ∧ P ≤ 16 ∧ K ≤ 100 ∧ tm s ≤ 32 * K
  c : s.c ≤ 2624 * K
theorem Kw.below {w wr wr' : World} {g n P gw gx c K : Nat} {s : Nv} {f fx F : Nat → List Int} (h : Kw w wr g n P gw gx c K s f fx F) (hb : Below wr.heap.size wr wr') : Kw w wr' g n P gw gx c K s f fx F :=
  ⟨h.nm.below hb, h.ok, h.own.below hb, h.nxt.below hb, below_base h.bel h.bel.size hb, h.eq, h.pl, h.num, h.c⟩
/-- the memory is turned, what is read stays -/
theorem Kw.turn {w wr wr' : World} {g n P gw gx c K y : Nat} {s s' : Nv} {f fx F : Nat → List Int} (h : Kw w wr g n P gw gx c K s f fx F) (hN : Nm wr' g s') (hC : Chg [g, y] wr wr') (hy : w.heap.size ≤ y ∧ gw ≠ y ∧ gx ≠ y) (hO : LgOk s' (16 + n) P) (h1 : tm s' ≤ tm s + 32) (h2 : s'.c ≤ s.c + 82 * 32) (hK : K < 100)
    (hv : ∀ b, 16 ≤ b → b < 16 + n → view s' (16 + n) P b = view s (16 + n) P b) : Kw w wr' g n P gw gx c (K + 1) s' f fx F := by
  have pl := h.pl
  have num := h.num
  have h3 := h.c
  exact ⟨hN, hO, h.own.chg hC (by simp; omega), h.nxt.chg hC (by simp; omega), hC.below h.bel h.bel.size (fun j hj => by simp at hj; rcases hj with rfl | rfl; exact pl.1; exact hy.1), fun i hi => (hv _ (by omega) (by omega)).trans (h.eq i hi), h.pl, by omega, by push_cast; omega⟩
theorem Kw.power {w wr wr' : World} {g n P gw gx c K : Nat} {s : Nv} {f fx F : Nat → List Int} (h : Kw w wr g n P gw gx c K s f fx F) (hN : Nm wr' g s.power) (hC : Chg [g] wr wr') (hK : K < 100) : Kw w wr' g n P gw gx c (K + 1) s.power f fx F := by
  obtain ⟨a, _, t, _, e⟩ := h.ok.power
  exact h.turn (y := g) hN (hC.mono fun k hk => by simp at hk ⊢; exact hk) ⟨h.pl.1, h.pl.2.1, h.pl.2.2.1⟩ a (by omega) (by show s.c ≤ _; omega) hK fun b _ _ => e b
theorem Kw.cut {w wr wr' : World} {g n P gw gx c K : Nat} {s : Nv} {f fx F : Nat → List Int} {k m : Int} (h : Kw w wr g n P gw gx c K s f fx F) (hk : k ≤ 9223372036854775807) (hN : Nm wr' g (s.cutAt k m)) (hC : Chg [g] wr wr') (hK : K < 100) : Kw w wr' g n P gw gx c (K + 1) (s.cutAt k m) f fx F := by
  obtain ⟨a, _, t, _, e⟩ := h.ok.cutAt hk m
  exact h.turn (y := g) hN (hC.mono fun k hk => by simp at hk ⊢; exact hk) ⟨h.pl.1, h.pl.2.1, h.pl.2.2.1⟩ a (by omega) (by show s.c ≤ _; omega) hK fun b _ _ => e b
/-- recovered -/
theorem recv_all (C : Ctr) {w wr : World} {g n P gw gx c K x y q per p : Nat} {s : Nv} {f fx F : Nat → List Int} (h : Kw w wr g n P gw gx c K s f fx F) (hL : Lg wr x g y q (16 + n) P per p s) (hd : s.dark = false) (hy : w.heap.size ≤ y ∧ gw ≠ y ∧ gx ≠ y) (hper : per ≤ 20) (hp : p ≤ 1000) (hK : K < 100) :
    Calls Try.prog 21 #[.pointer (some ⟨x, 0, none⟩)] wr fun e w' => ∃ (E : Int) (p' : Nat) (s' : Nv), e = .returned (.int .i64 E) ∧ p' ≤ p + 14 ∧ Lg w' x g y q (16 + n) P per p' s' ∧ Kw w w' g n P gw gx c (K + 1) s' f fx F ∧ (s.comes = false → E = 0 ∧ s'.dark = false ∧ s'.comes = false) := by
  have num := h.num
  have hc := h.c
  obtain ⟨S, hpp, ev, o⟩ := lrec_out per p h.ok hd (by omega)
  refine (C.recv wr x g y q (16 + n) P per p s hL h.ok hd ⟨by omega, by omega, by omega, by omega, by omega⟩).mono ?_
  rintro e w' ⟨rfl, h1, h2⟩
  generalize lrec (16 + n) P per p s = R at *
  refine ⟨_, _, _, rfl, hpp, h1, h.turn h1.nm h2 hy S.lg (by have := S.hi; omega) (by have := S.c; omega) hK (fun b _ hb => ev b hb), fun hcm => ?_⟩
  rcases o with ⟨a, b⟩ | ⟨_, b⟩
  · exact ⟨a, b, S.comes.trans hcm⟩
  · rw [hcm] at b; cases b
end Go.Proofs.Ytjghhcbiaklomaa

/-
  The states of LogWhole: ahead of the cut, behind the last recover.
-/
namespace Go.Proofs.Ytjghhcbiaklomaa
set_option maxRecDepth 100000
open Go.RowKit

/-- a commit while the power does not go -/
theorem Kp.com_all (C : Ctr) {w wr : World} {x g y q n P per gw K p : Nat} {s : Nv} {f : Nat → List Int} {v : Value} {h : List Hm} (k : Kp w wr x g y q n P per gw K p s f) (hK : K < 100) (hr : RA homeE w v h) :
    Calls Try.prog 15 #[.pointer (some ⟨x, 0, none⟩), v] wr fun e w' => ∃ (E : Int) (p' : Nat) (s' : Nv), e = .returned (.int .i64 E) ∧ Kp w w' x g y q n P per gw (K + 1) p' s' f ∧
      ((E = 0 ∧ MayH (16 + n : Nat) h ∧ ∀ b, 16 ≤ b → b < 16 + n → view s' (16 + n) P b = hv h (view s (16 + n) P) b) ∨ (E ≠ 0 ∧ ∀ b, 16 ≤ b → b < 16 + n → view s' (16 + n) P b = view s (16 + n) P b)) := by
  refine (commit_all C k.lg k.ok k.calm.1 k.room (k.homes hr)).mono ?_
  rintro e w' ⟨E, p', s', rfl, hL, hC, S, hp, o, hc⟩
  obtain ⟨hd, h2⟩ := hc k.calm.2
  have hS := S.hi
  have hc2 := S.c
  have hc3 := k.c
  have num := k.num
  refine ⟨E, p', s', rfl, ⟨hL, S.lg, ⟨hd, S.comes.trans k.calm.2⟩, k.own.chg hC (by have := k.pl; simp; omega), hC.below k.bel k.bel.size (fun j hj => by simp at hj; have := k.pl; rcases hj with rfl | rfl; exact this.1; exact this.2.1), k.pl, by omega, by push_cast; omega⟩, ?_⟩
  rcases o with ⟨a, _, b, c⟩ | ⟨a, b⟩
  · rcases a with rfl | rfl
    · exact .inl ⟨rfl, b, c⟩
    · exact absurd rfl h2
  · exact .inr ⟨a, b⟩

/-- beside it a second slice of lines -/
structure Kx (w wr : World) (x g y q n P per gw gx c K p : Nat) (s : Nv) (f fx : Nat → List Int) : Prop where
  kp : Kp w wr x g y q n P per gw K p s f
  nxt : Ol w.heap.size wr gx n c fx
  ne : gx ≠ g ∧ gx ≠ y ∧ gx ≠ x ∧ gx ≠ q ∧ gx ≠ gw ∧ w.heap.size ≤ gx
theorem Kx.below {w wr wr' : World} {x g y q n P per gw gx c K p : Nat} {s : Nv} {f fx : Nat → List Int} (h : Kx w wr x g y q n P per gw gx c K p s f fx) (hb : Below wr.heap.size wr wr') : Kx w wr' x g y q n P per gw gx c K p s f fx := ⟨h.kp.below hb, h.nxt.below hb, h.ne⟩
theorem Kx.as {w wr : World} {x g y q n P per gw gx c K p : Nat} {s : Nv} {f fx fx' : Nat → List Int} (h : Kx w wr x g y q n P per gw gx c K p s f fx) (he : ∀ i, i < n → fx' i = fx i) : Kx w wr x g y q n P per gw gx c K p s f fx' := ⟨h.kp, h.nxt.as he, h.ne⟩
theorem Kx.lay {w wr : World} {x g y q n P per gw gx c K p m : Nat} {s : Nv} {f fx : Nat → List Int} {l : List Int} (h : Kx w wr x g y q n P per gw gx c K p s f fx) (hm : m < n) (hl : l.length = 8) :
    (lineStore (.pointer (some ⟨gx, m * 8, none⟩)) (.agg (lc l))).run Try.prog wr = .ok () (wr.setCells gx (m * 8) (l.map uv)) ∧ Kx w (wr.setCells gx (m * 8) (l.map uv)) x g y q n P per gw gx c K p s f (upd fx m l) := by
  obtain ⟨a, b⟩ := h.nxt.store hm hl
  have ne := h.ne
  have k := h.kp
  have hc : Chg [gx] wr (wr.setCells gx (m * 8) (l.map uv)) := Chg.setCells (.inl (by simp)) _ _ _ (Chg.refl _ _)
  exact ⟨a, ⟨k.lg.chg hc (by simp; omega) (by simp; omega) (by simp; omega) (by simp; omega), k.ok, k.calm, k.own.chg hc (by simp; omega), hc.below k.bel k.bel.size (fun j hj => by rw [List.mem_singleton.1 hj]; exact ne.2.2.2.2.2), k.pl, k.num, k.c⟩, b, h.ne⟩
/-- the power may go, then a commit: what it leaves -/
theorem Kx.cutcom (C : Ctr) {w wr w1 : World} {x g y q n P per gw gx c K p : Nat} {s : Nv} {f fx : Nat → List Int} {v : Value} {h : List Hm} {a m : Int} (k : Kx w wr x g y q n P per gw gx c K p s f fx) (hK : K < 90) (hr : RA homeE w v h)
    (hf : ∀ i, i < n → f i = view s (16 + n) P (16 + i)) (hfx : lk s = 0 → MayH (16 + n : Nat) h → ∀ i, i < n → fx i = hv h (view s (16 + n) P) (16 + i)) (ha : a ≤ 9223372036854775807) (hN : Nm w1 g (s.cutAt a m)) (hC1 : Chg [g] wr w1) :
    Calls Try.prog 15 #[.pointer (some ⟨x, 0, none⟩), v] w1 fun e w' => ∃ (E : Int) (s' : Nv) (F : Nat → List Int), e = .returned (.int .i64 E) ∧ Kw w w' g n P gw gx c (K + 1) s' f fx F ∧
      (E = 0 → ∀ i, i < n → F i = fx i) ∧ (E ≠ 0 → E ≠ 2 → ∀ i, i < n → F i = f i) ∧ ((∀ i, i < n → F i = f i) ∨ ∀ i, i < n → F i = fx i) := by
  have kp := k.kp
  have ne := k.ne
  have pl := kp.pl
  have num := kp.num
  have hc0 := kp.c
  obtain ⟨o1, o2, o3, _, o5⟩ := kp.ok.cutAt ha m
  have L1 := kp.lg.mem hC1 hN
  have B1 : Below w.heap.size w w1 := hC1.below kp.bel kp.bel.size (fun j hj => by rw [List.mem_singleton.1 hj]; exact pl.1)
  refine (commit_all C L1 o1 kp.calm.1 ⟨by omega, by omega, by omega, by show s.c + _ < _; omega, by omega⟩ (fun w' hc => ra_below hr (hc.below B1 B1.size (fun j hj => by simp at hj; rcases hj with rfl | rfl; exact pl.1; exact pl.2.1)))).mono ?_
  rintro e w' ⟨E, p', s', rfl, hL, hC, S, hp, o, _⟩
  have hS := S.hi
  have hc2 := S.c
  have hc3 : (s.cutAt a m).c = s.c := rfl
  have ev : ∀ i, view (s.cutAt a m) (16 + n) P (16 + i) = view s (16 + n) P (16 + i) := fun i => o5 _
  refine ⟨E, s', fun i => view s' (16 + n) P (16 + i), rfl, ⟨hL.nm, S.lg, (kp.own.chg hC1 (by simp; omega)).chg hC (by simp; omega), (k.nxt.chg hC1 (by simp; omega)).chg hC (by simp; omega), hC.below B1 B1.size (fun j hj => by simp at hj; rcases hj with rfl | rfl; exact pl.1; exact pl.2.1), fun _ _ => rfl, ⟨pl.1, pl.2.2.1, ne.1, ne.2.2.2.2.2⟩, by omega, by push_cast; omega⟩, ?_⟩
  rcases o with ⟨a1, a2, a3, a4⟩ | ⟨a1, a2⟩
  · have key : ∀ i, i < n → view s' (16 + n) P (16 + i) = fx i := fun i hi => by
      rw [a4 _ (by omega) (by omega), hfx (by rw [← o2]; exact a2) a3 i hi]
      exact hv_congr fun _ => o5 _
    exact ⟨fun _ => key, fun e0 e2 => by rcases a1 with h | h; exact absurd h e0; exact absurd h e2, .inr key⟩
  · have key : ∀ i, i < n → view s' (16 + n) P (16 + i) = f i := fun i hi => by rw [a2 _ (by omega) (by omega), ev, ← hf i hi]
    exact ⟨fun e0 => absurd e0 a1, fun _ _ => key, .inl key⟩

/-- recovered for the last time -/
structure Kz (w wr : World) (x g y q n P per gw gx c K p : Nat) (s : Nv) (f fx F : Nat → List Int) : Prop where
  kw : Kw w wr g n P gw gx c K s f fx F
  lg : Lg wr x g y q (16 + n) P per p s
  calm : s.calm
  y : w.heap.size ≤ y ∧ gw ≠ y ∧ gx ≠ y
  per : per ≤ 20 ∧ p ≤ 500
theorem Kz.below {w wr wr' : World} {x g y q n P per gw gx c K p : Nat} {s : Nv} {f fx F : Nat → List Int} (h : Kz w wr x g y q n P per gw gx c K p s f fx F) (hb : Below wr.heap.size wr wr') : Kz w wr' x g y q n P per gw gx c K p s f fx F :=
  ⟨h.kw.below hb, h.lg.below hb, h.calm, h.y, h.per⟩
theorem Kz.room {w wr : World} {x g y q n P per gw gx c K p : Nat} {s : Nv} {f fx F : Nat → List Int} (h : Kz w wr x g y q n P per gw gx c K p s f fx F) : Room (16 + n) P per p s := by
  have := h.kw.num
  have := h.kw.c
  have := h.per
  exact ⟨by omega, by omega, by omega, by omega, by omega⟩
theorem Kz.get (C : Ctr) {w wr : World} {x g y q n P per gw gx c K p i : Nat} {s : Nv} {f fx F : Nat → List Int} {l : List Int} (h : Kz w wr x g y q n P per gw gx c K p s f fx F) (hi : i < n) (hF : F i = l) :
    Calls Try.prog 17 #[.pointer (some ⟨x, 0, none⟩), .int .i64 ((16 + i : Nat) : Int)] wr fun e w' => e = .returned (.tuple #[.agg (lc l), .int .i64 0]) ∧ Below wr.heap.size wr w' := by
  have := C.get wr x g y q (16 + n) P per p (16 + i) s h.lg h.kw.ok h.calm.1 h.room (by omega) (by omega)
  rw [h.kw.eq i hi, hF] at this
  exact this
theorem Kz.recv (C : Ctr) {w wr : World} {x g y q n P per gw gx c K p : Nat} {s : Nv} {f fx F : Nat → List Int} (h : Kz w wr x g y q n P per gw gx c K p s f fx F) (hK : K < 100) (hp : p ≤ 400) :
    Calls Try.prog 21 #[.pointer (some ⟨x, 0, none⟩)] wr fun e w' => e = .returned (.int .i64 0) ∧ ∃ p' s', p' ≤ p + 14 ∧ Kz w w' x g y q n P per gw gx c (K + 1) p' s' f fx F := by
  refine (recv_all C h.kw h.lg h.calm.1 h.y h.per.1 (by omega) hK).mono ?_
  rintro e w' ⟨E, p', s', rfl, hpp, hL, hk, hc⟩
  obtain ⟨rfl, h1, h2⟩ := hc h.calm.2
  exact ⟨rfl, p', s', hpp, hk, hL, ⟨h1, h2⟩, h.y, ⟨h.per.1, by omega⟩⟩
end Go.Proofs.Ytjghhcbiaklomaa
