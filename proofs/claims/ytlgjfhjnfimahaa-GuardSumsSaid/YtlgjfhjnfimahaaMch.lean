/-
  The machine of package guard: put, step.
-/
import Derived.Test.YtlgjfhjnfimahaaDie
import Derived.Test.YtlgjfhjnfimahaaApp
import Derived.Test.YtlgjfhjnfimahaaStk
import Derived.StillTailTactics
import Derived.BigQuiet
namespace Go.Proofs.Ytlgjfhjnfimahaa
open Go.RowKit

/-- the machine lies in block bm, as whole; its stack is of the call's own, made behind w0 -/
structure Mc (w0 : World) (bm : Nat) (rv : Value) (w : World) (t : List Int) (d : Int) : Prop where
  lt : bm < w0.heap.size
  far : w0.grownBy w (some bm)
  len : t.length ≤ 1000
  have_ : ∃ v, Whole w bm 43 #[rv, v, .int .i64 d] ∧ OwnI w0.heap.size w v t.reverse

theorem grown_drewN {w0 w : World} {r : Option Nat} (h : w0.grownBy w r) (n : Nat) : w0.grownBy (w.drewN n) r := ⟨h.os, h.tape, h.output, h.size, h.block⟩
theorem grown_of_drewN {w w1 : World} {r : Option Nat} {n : Nat} (h : (w.drewN n).grownBy w1 r) : w.grownBy w1 r := ⟨h.os, h.tape, h.output, h.size, h.block⟩
theorem grown_alloc {w0 w : World} {r : Option Nat} (h : w0.grownBy w r) (o : Obj) : w0.grownBy (w.alloc o) r :=
  ⟨h.os, h.tape, h.output, Nat.le_trans h.size (by simp), fun k hk hne => (Below.heap_alloc w o k (Nat.lt_of_lt_of_le hk h.size)).trans (h.block k hk hne)⟩
theorem grown_set {w0 w : World} {g : Nat} (h : w0.grownBy w (some g)) (i : Nat) (u : Value) : w0.grownBy (w.setCell ⟨g, i, none⟩ u) (some g) :=
  ⟨h.os, h.tape, h.output, by simpa [World.setCell] using h.size, fun k hk hne => (Below.heap_setCell w _ u k (by intro e; exact hne (by rw [e]))).trans (h.block k hk hne)⟩
theorem grown_own {w0 w w' : World} {r s : Option Nat} (h : w0.grownBy w r) (hg : w.grownBy w' s) (hs : ∀ k, s = some k → w0.heap.size ≤ k) : w0.grownBy w' r :=
  ⟨hg.os.trans h.os, hg.tape.trans h.tape, hg.output.trans h.output, Nat.le_trans h.size hg.size, fun k hk hne => (hg.block k (Nat.lt_of_lt_of_le hk h.size) (fun e => by have := hs k e.symm; omega)).trans (h.block k hk hne)⟩

theorem Mc.drewN {w0 w : World} {bm : Nat} {rv : Value} {t : List Int} {d : Int} (h : Mc w0 bm rv w t d) (n : Nat) : Mc w0 bm rv (w.drewN n) t d :=
  ⟨h.lt, grown_drewN h.far n, h.len, h.have_⟩
theorem Mc.alloc {w0 w : World} {bm : Nat} {rv : Value} {t : List Int} {d : Int} (h : Mc w0 bm rv w t d) (o : Obj) : Mc w0 bm rv (w.alloc o) t d := by
  obtain ⟨v, h1, h2⟩ := h.have_
  exact ⟨h.lt, grown_alloc h.far o, h.len, v, h1.alloc o, World.ownsRow.alloc h2 o⟩

theorem rev_drop (s r : List Int) : (s ++ r).reverse.take r.length = r.reverse := by
  rw [List.reverse_append, List.take_append_of_le_length (by simp), List.take_of_length_le (by simp)]

/-- what is told of the machine ahead of a walk, in numbers: its stack's value, N long, of which the lowest R are r -/
structure View (w0 : World) (bm : Nat) (rv : Value) (d : Int) (w : World) (p : Option Addr) (N c : Nat) (l : List Int) : Prop where
  lt : bm < w0.heap.size
  far : w0.grownBy w (some bm)
  whole : Whole w bm 43 #[rv, .slice p N c, .int .i64 d]
  own : OwnI w0.heap.size w (.slice p N c) l
theorem Mc.view {w0 w : World} {bm : Nat} {rv : Value} {t : List Int} {d : Int} (h : Mc w0 bm rv w t d) : ∃ p c, View w0 bm rv d w p t.length c t.reverse ∧ t.length ≤ c ∧ c ≤ maxLen := by
  obtain ⟨hlt, hfar, _, v, hw, ho⟩ := h
  obtain ⟨p, c, rfl, h1, h2, _⟩ := ho.ri
  rw [List.length_reverse] at hw ho h1
  exact ⟨p, c, ⟨hlt, hfar, hw, ho⟩, h1, h2⟩
theorem View.cells {w0 w : World} {bm N c : Nat} {rv : Value} {d : Int} {p : Option Addr} {l : List Int} (h : View w0 bm rv d w p N c l) :
    w.cell? ⟨bm, 0, none⟩ = some rv ∧ w.cell? ⟨bm, 1, none⟩ = some (.slice p N c) ∧ w.cell? ⟨bm, 2, none⟩ = some (.int .i64 d) ∧ w.frozen? ⟨bm, 1, none⟩ = false ∧ w.frozen? ⟨bm, 2, none⟩ = false :=
  ⟨by rw [h.whole.at_]; rfl, by rw [h.whole.at_]; rfl, by rw [h.whole.at_]; rfl, h.whole.free 1, h.whole.free 2⟩

/-- the stack stored anew -/
theorem View.stored {w0 w w1 : World} {bm N c : Nat} {rv : Value} {d : Int} {p : Option Addr} {l : List Int} (h : View w0 bm rv d w p N c l) {v' : Value} {t' : List Int} {s : Option Nat}
    (hg : w.grownBy w1 s) (hs : ∀ k, s = some k → w0.heap.size ≤ k) (ho : OwnI w0.heap.size w1 v' t'.reverse) (hl : t'.length ≤ 1000) : Mc w0 bm rv (w1.setCell ⟨bm, 1, none⟩ v') t' d := by
  have hne : some bm ≠ s := fun e => by have := hs bm e.symm; have := h.lt; omega
  refine ⟨h.lt, grown_set (grown_own h.far hg hs) 1 v', hl, v', ?_, ho.far h.lt v'⟩
  have := (h.whole.grown hg hne).set_ 1 v'
  exact this

theorem View.not_own {w0 w : World} {bm N c : Nat} {rv : Value} {d : Int} {p : Option Addr} {l : List Int} (h : View w0 bm rv d w p N c l) {v : Value} {n : Nat} {xs : List Value} (ho : w.ownsRow w0.heap.size 3 1 v n xs) : some bm ≠ v.ownBlock :=
  fun e => by have := (World.ownsRow.lt ho bm e.symm).1; have := h.lt; omega

set_option maxHeartbeats 400000 in
theorem put_ok (w0 : World) (bm : Nat) (rv : Value) (r s : List Int) (d x : Int) (w : World) (h : Mc w0 bm rv w (s ++ r) d) (hr : r.length < 1000) :
    Calls Try.prog 23 #[.pointer (some ⟨bm, 0, none⟩), .int .i64 (s.length : Nat), .int .i64 x] w fun e w' => e = .returned (.tuple #[]) ∧ Mc w0 bm rv w' (x :: r) d := by
  have hlen := h.len
  obtain ⟨p, c, hv, hc, hm⟩ := h.view
  have HR : Hid (OwnI w0.heap.size w (.slice p r.length c) r.reverse) := Lib.hid (by
    have := hv.own.upto (k := r.length) (by simp)
    rw [rev_drop] at this; exact this)
  obtain ⟨_, c1, _, f1, _⟩ := hv.cells
  have V := Lib.hid hv
  have HX : Hid ((x :: r).length ≤ 1000) := Lib.hid hr
  have hsub : IntKind.i64.wrap (((s ++ r).length : Int) - (s.length : Int)) = (r.length : Int) := by
    rw [List.length_append]; exact (IntWalk.i64_in _ (by omega)).trans (by omega)
  have hRc : r.length ≤ c := by rw [List.length_append] at hc; omega
  have hRl : Hid (r.reverse.length = r.length) := Lib.hid (by simp)
  have T : (((r.length : Nat) : Int) == 1000) = false := by simp; omega
  have HLR : Hid (r.reverse.length + [x].length ≤ 1000000) := Lib.hid (by simp; omega)
  have HSZ : Hid (w0.heap.size ≤ ((w.drewN 0).alloc (.cells #[.int .i64 x] 3)).heap.size) := Lib.hid (by have := hv.far.size; simp; exact Nat.le_succ_of_le this)
  clear h hv hc hlen
  unfold maxLen at hm
  generalize (s ++ r).length = N at *
  generalize s.length = S at *
  generalize hRR : r.length = R at *
  go_enter Try.func23, Try.ntmps23
  go_wp2_with fail
  go_quiet (fail)
  go_wp2_with (first
    | (at_builtin
       refine list_app_int rfl (.tmp 24) (.tmp 26) rfl w0.heap.size (.slice p R c) r.reverse rfl (World.ownsRow.alloc HR.out _) _ [x] rfl (ri_one (w.drewN nq) x) HLR.out HSZ.out ?_
       intro v1 w1 hown hg _
       have hg' : w.grownBy w1 (Value.slice p R c).ownBlock := grown_of_drewN ((World.grownBy_alloc (w.drewN nq) (.cells #[.int .i64 x] 3) _).trans hg)
       have hM := V.out.stored hg' (fun k hk => (World.ownsRow.lt HR.out k hk).1) (t' := x :: r) (by simpa using hown) HX.out
       have hW := V.out.whole.grown hg' (V.out.not_own HR.out)
       have d1 : w1.cell? ⟨bm, 1, none⟩ = some (.slice p N c) := by rw [hW.at_]; rfl
       have z1 := hW.free 1
       have HM := Lib.hid hM
       obtain ⟨q1, d1, rfl⟩ := hown.shape
       clear hown hg hg' hM hW c1 f1))
  go_end0
  exact ⟨rfl, by simpa [hRR] using HM.out⟩

theorem put_full (w0 : World) (bm : Nat) (rv : Value) (t : List Int) (d x : Int) (w : World) (h : Mc w0 bm rv w t d) (ht : t.length = 1000) :
    Calls Try.prog 23 #[.pointer (some ⟨bm, 0, none⟩), .int .i64 0, .int .i64 x] w fun e w' => (∃ u pv, e = .panicked [{ v := .iface u pv, recovered := false }]) ∧ Mc w0 bm rv w' t d := by
  obtain ⟨p, c, hv, hc, hm⟩ := h.view
  obtain ⟨_, c1, _, f1, _⟩ := hv.cells
  have M := Lib.hid h
  have hsub : IntKind.i64.wrap ((1000 : Int) - 0) = 1000 := by decide
  rw [ht] at c1 hc
  clear h hv ht
  unfold maxLen at hm
  go_enter Try.func23, Try.ntmps23
  go_wp2_with fail
  go_quiet (fail)
  go_wp2
  exact ⟨rfl, ⟨_, _, rfl⟩, M.out.drewN _⟩
end Go.Proofs.Ytlgjfhjnfimahaa
