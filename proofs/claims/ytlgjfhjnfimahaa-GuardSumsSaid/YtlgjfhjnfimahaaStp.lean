/-
  The machine of package guard: a step.
-/
import Derived.Test.YtlgjfhjnfimahaaMch
namespace Go.Proofs.Ytlgjfhjnfimahaa
open Go.RowKit

def Died (e : Ending) : Prop := ∃ u pv, e = .panicked [{ v := .iface u pv, recovered := false }]

theorem step_push (w0 : World) (bm : Nat) (rv : Value) (t : List Int) (d n : Int) (w : World) (h : Mc w0 bm rv w t d) (ht : t.length < 1000) :
    Calls Try.prog 22 #[.pointer (some ⟨bm, 0, none⟩), .agg #[.int .i64 1, .int .i64 n]] w fun e w' => e = .returned (.tuple #[]) ∧ Mc w0 bm rv w' (n :: t) d := by
  obtain ⟨p, c, hv, hc, hm⟩ := (h.alloc (.cells #[.int .i64 1, .int .i64 n] 37)).view
  obtain ⟨_, c1, _, f1, _⟩ := hv.cells
  have C := Lib.hid (put_ok w0 bm rv t [] d n _ (h.alloc (.cells #[.int .i64 1, .int .i64 n] 37)) ht)
  clear h hv
  unfold maxLen at hm
  generalize t.length = N at *
  go_enter Try.func22, Try.ntmps22
  go_wp2_with fail
  refine C.out.mono ?_; rintro e w1 ⟨rfl, hM⟩
  have HM := Lib.hid hM
  clear hM
  go_wp2
  go_end0
  exact ⟨rfl, HM.out⟩

theorem step_push_full (w0 : World) (bm : Nat) (rv : Value) (t : List Int) (d n : Int) (w : World) (h : Mc w0 bm rv w t d) (ht : t.length = 1000) :
    Calls Try.prog 22 #[.pointer (some ⟨bm, 0, none⟩), .agg #[.int .i64 1, .int .i64 n]] w fun e w' => Died e ∧ Mc w0 bm rv w' t d := by
  obtain ⟨p, c, hv, hc, hm⟩ := (h.alloc (.cells #[.int .i64 1, .int .i64 n] 37)).view
  obtain ⟨_, c1, _, f1, _⟩ := hv.cells
  have C := Lib.hid (put_full w0 bm rv t d n _ (h.alloc (.cells #[.int .i64 1, .int .i64 n] 37)) ht)
  clear h hv
  unfold maxLen at hm
  rw [ht] at c1 hc
  go_enter Try.func22, Try.ntmps22
  go_wp2_with fail
  refine C.out.mono ?_; rintro e w1 ⟨⟨u, pv, rfl⟩, hM⟩
  have HM := Lib.hid hM
  clear hM
  go_wp2
  exact ⟨rfl, ⟨_, _, rfl⟩, HM.out⟩

/-- two taken, one laid -/
theorem put_two {w0 : World} {bm : Nat} {rv : Value} {a b : Int} {r : List Int} {d : Int} {w : World} (h : Mc w0 bm rv w (b :: a :: r) d) (x : Int) :
    Calls Try.prog 23 #[.pointer (some ⟨bm, 0, none⟩), .int .i64 2, .int .i64 x] w fun e w' => e = .returned (.tuple #[]) ∧ Mc w0 bm rv w' (x :: r) d :=
  put_ok w0 bm rv r [b, a] d x w h (by have := h.len; simp only [List.length_cons] at this; omega)
theorem put_one {w0 : World} {bm : Nat} {rv : Value} {b : Int} {r : List Int} {d : Int} {w : World} (h : Mc w0 bm rv w (b :: r) d) (x : Int) :
    Calls Try.prog 23 #[.pointer (some ⟨bm, 0, none⟩), .int .i64 1, .int .i64 x] w fun e w' => e = .returned (.tuple #[]) ∧ Mc w0 bm rv w' (x :: r) d :=
  put_ok w0 bm rv r [b] d x w h (by have := h.len; simp only [List.length_cons] at this; omega)

/-- the two on top, where they lie -/
theorem View.two {w0 w : World} {bm N c : Nat} {rv : Value} {d : Int} {p : Option Addr} {a b : Int} {r : List Int} (h : View w0 bm rv d w p N c (b :: a :: r).reverse) :
    ∃ g off, p = some ⟨g, off, none⟩ ∧ w.cell? ⟨g, off + r.length, none⟩ = some (.int .i64 a) ∧ w.cell? ⟨g, off + (r.length + 1), none⟩ = some (.int .i64 b) := by
  obtain ⟨g, off, rfl, _, hc⟩ := ri_some h.own.ri (by simp)
  refine ⟨g, off, rfl, ?_, ?_⟩
  · rw [hc _ (by simp), rev_at1]
  · rw [hc _ (by simp), show r.length + 1 = (a :: r).length from rfl, rev_at0]
theorem View.one {w0 w : World} {bm N c : Nat} {rv : Value} {d : Int} {p : Option Addr} {b : Int} {r : List Int} (h : View w0 bm rv d w p N c (b :: r).reverse) :
    ∃ g off, p = some ⟨g, off, none⟩ ∧ w.cell? ⟨g, off + r.length, none⟩ = some (.int .i64 b) := by
  obtain ⟨g, off, rfl, _, hc⟩ := ri_some h.own.ri (by simp)
  exact ⟨g, off, rfl, by rw [hc _ (by simp), rev_at0]⟩

set_option maxHeartbeats 1000000 in
theorem step_add (w0 : World) (bm : Nat) (rv : Value) (a b : Int) (r : List Int) (d n : Int) (w : World) (h : Mc w0 bm rv w (b :: a :: r) d) :
    Calls Try.prog 22 #[.pointer (some ⟨bm, 0, none⟩), .agg #[.int .i64 2, .int .i64 n]] w fun e w' => e = .returned (.tuple #[]) ∧ Mc w0 bm rv w' (wrapI (a + b) :: r) d := by
  have hlen := h.len
  have h1 := h.alloc (.cells #[.int .i64 2, .int .i64 n] 37)
  obtain ⟨p, c, hv, hc, hm⟩ := h1.view
  obtain ⟨_, c1, _, f1, _⟩ := hv.cells
  obtain ⟨g, off, rfl, ca, cb⟩ := hv.two
  have C := Lib.hid (put_two (h1.drewN 1) (wrapI (a + b)))
  unfold maxLen at hm
  obtain ⟨N, hN⟩ : ∃ N, (b :: a :: r).length = N := ⟨_, rfl⟩
  obtain ⟨K, hK⟩ : ∃ K, r.length + 1 = K := ⟨_, rfl⟩
  obtain ⟨R, hR⟩ : ∃ R, r.length = R := ⟨_, rfl⟩
  have hx : K = R + 1 ∧ N = K + 1 := by simp only [List.length_cons] at hN; omega
  rw [hN] at c1 hc hlen
  rw [hK] at cb
  rw [hR] at ca
  have e1 : (N : Int) - 1 = (K : Int) := by omega
  have e2 : (K : Int) - 1 = (R : Int) := by omega
  have b1 : R < K := by omega
  have b2 : K < N := by omega
  have b3 : N ≤ 1000 := hlen
  have e3 : IntKind.i64.wrap (R : Int) = (R : Int) := IntWalk.i64_in _ (by omega)
  have b4 : (R : Int) < (N : Int) := by omega
  have b5 : (K : Int) < (N : Int) := by omega
  have wr : IntKind.i64.wrap (a + b) = wrapI (a + b) := IntKind.wrap_i64 _
  clear h h1 hv hlen hN hK hR hx
  go_enter Try.func22, Try.ntmps22
  go_wp2_with fail
  refine wp_region_still_tail 17 (by kernel_rfl) (by kernel_rfl) ?_
  simp only [List.take_succ_cons, List.take_zero, List.drop_succ_cons, List.drop_zero]
  change wpStill _ _ (World.drew _) _ _ _
  repeat still_step
  refine wpStill_nil ?_
  change wpList _ _ _ _ _ (World.drew _)
  go_wp2_with fail
  refine C.out.mono ?_; rintro e w1 ⟨rfl, hM⟩
  have HM := Lib.hid hM
  clear hM
  go_wp2
  go_end0
  exact ⟨rfl, HM.out⟩
set_option maxHeartbeats 1000000 in
theorem step_div (w0 : World) (bm : Nat) (rv : Value) (a b : Int) (r : List Int) (d n : Int) (w : World) (hb : ¬ b = 0) (h : Mc w0 bm rv w (b :: a :: r) d) :
    Calls Try.prog 22 #[.pointer (some ⟨bm, 0, none⟩), .agg #[.int .i64 3, .int .i64 n]] w fun e w' => e = .returned (.tuple #[]) ∧ Mc w0 bm rv w' (wrapI (a.tdiv b) :: r) d := by
  have hlen := h.len
  have h1 := h.alloc (.cells #[.int .i64 3, .int .i64 n] 37)
  obtain ⟨p, c, hv, hc, hm⟩ := h1.view
  obtain ⟨_, c1, _, f1, _⟩ := hv.cells
  obtain ⟨g, off, rfl, ca, cb⟩ := hv.two
  have C := Lib.hid (put_two (h1.drewN 1) (wrapI (a.tdiv b)))
  unfold maxLen at hm
  obtain ⟨N, hN⟩ : ∃ N, (b :: a :: r).length = N := ⟨_, rfl⟩
  obtain ⟨K, hK⟩ : ∃ K, r.length + 1 = K := ⟨_, rfl⟩
  obtain ⟨R, hR⟩ : ∃ R, r.length = R := ⟨_, rfl⟩
  have hx : K = R + 1 ∧ N = K + 1 := by simp only [List.length_cons] at hN; omega
  rw [hN] at c1 hc hlen
  rw [hK] at cb
  rw [hR] at ca
  have e1 : (N : Int) - 1 = (K : Int) := by omega
  have e2 : (K : Int) - 1 = (R : Int) := by omega
  have b1 : R < K := by omega
  have b2 : K < N := by omega
  have b3 : N ≤ 1000 := hlen
  have e3 : IntKind.i64.wrap (R : Int) = (R : Int) := IntWalk.i64_in _ (by omega)
  have b4 : (R : Int) < (N : Int) := by omega
  have b5 : (K : Int) < (N : Int) := by omega
  have wr : IntKind.i64.wrap (a.tdiv b) = wrapI (a.tdiv b) := IntKind.wrap_i64 _
  clear h h1 hv hlen hN hK hR hx
  go_enter Try.func22, Try.ntmps22
  go_wp2_with fail
  refine wp_region_still_tail 17 (by kernel_rfl) (by kernel_rfl) ?_
  simp only [List.take_succ_cons, List.take_zero, List.drop_succ_cons, List.drop_zero]
  change wpStill _ _ (World.drew _) _ _ _
  repeat still_step
  refine wpStill_nil ?_
  change wpList _ _ _ _ _ (World.drew _)
  go_wp2_with fail
  refine C.out.mono ?_; rintro e w1 ⟨rfl, hM⟩
  have HM := Lib.hid hM
  clear hM
  go_wp2
  go_end0
  exact ⟨rfl, HM.out⟩
end Go.Proofs.Ytlgjfhjnfimahaa
