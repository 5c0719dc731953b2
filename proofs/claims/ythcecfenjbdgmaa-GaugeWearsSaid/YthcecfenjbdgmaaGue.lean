/-
  A memory whose lines do not wear out: what Puts leave; how often its lines were written.
-/
import Derived.Test.YthcecfenjbdgmaaGua
namespace Go.Proofs.Ythcecfenjbdgmaa
set_option maxRecDepth 100000
open D Go.ChangeShapes Go.WideShapes Go.ChangeAt Go.RowKit

theorem own_kept_i {B : Nat} {D : List Nat} {w w' : World} {v : Value} {l : List Int} (h : OwnI B w v l) (hc : Chg D w w') (hD : ∀ k ∈ D, k < B) : OwnI B w' v l := by
  refine ⟨h.1, h.2.imp id ?_⟩
  rintro ⟨g, cap, cur, hv, h1, hg, r⟩
  exact ⟨g, cap, cur, hv, h1, (hc.block g (Array.getElem?_eq_some_iff.1 hg).1 (fun hm => by have := hD g hm; omega)).trans hg, r⟩
def one1 (x : Int) : List Int := [x, 0, 0, 0, 0, 0, 0, 0]
/-- a memory of n lines that do not wear out, behind k Puts -/
structure Calm (n k : Nat) (s : Nv) : Prop where
  ok : s.Ok
  nn : s.n = n
  calm : s.calm
  la : ∀ i, i < n → s.la i = -1
  cc : s.c = k
theorem calm_new {n : Nat} (h1 : 1 ≤ n) (h2 : n ≤ 200) : Calm n 0 (newNv n []) :=
  ⟨newNv_ok h1 h2 _, rfl, newNv_calm _ _, fun i hi => by simp [newNv, hi], rfl⟩
/-- a Put goes well, and is counted -/
theorem Calm.put {n k : Nat} {s : Nv} (h : Calm n k s) {p : Nat} (hp : p < n) (x : Int) : Calm n (k + 1) (s.put p (one1 x)) ∧ s.putE p = 0 ∧ (s.put p (one1 x)).wr = upd s.wr p (s.wr p + 1) := by
  have hk : p < s.n := by rw [h.nn]; exact hp
  have e := h.calm.put h.ok hk (l := one1 x) rfl
  have e2 := h.calm.putE hk
  have hO := h.ok.put (l := one1 x) rfl p
  have hc := h.calm.put_ p (one1 x)
  have hw : s.worn p = false := by simp [Nv.worn, h.la p hp]
  rw [hw] at e e2
  refine ⟨⟨hO, (s.put_n p (one1 x)).trans h.nn, hc, fun i hi => by rw [s.put_la]; exact h.la i hi, ?_⟩, e2, ?_⟩
  · rw [e]
    show s.c + 1 = _
    rw [h.cc]; simp
  · rw [e]; rfl
theorem wear_of {s : Nv} {k : Nat} (hk : k < s.n) : s.wear (k : Int) = s.wr k := by
  unfold Nv.wear; rw [Nv.has_of hk]; rfl
theorem wrs_all {s : Nv} {n : Nat} (hn : s.n = n) : wrs s 0 (n : Int) = byF n s.wr := by
  unfold wrs
  rw [hn, show (min (n : Int) (n : Int) - max 0 0).toNat = n by omega]
  refine List.map_congr_left fun k hk => ?_
  have := List.mem_range.1 hk
  rw [show max (0 : Int) 0 + (k : Int) = (k : Int) by omega]
  exact wear_of (by omega)
theorem wrs_wide {s : Nv} {n : Nat} (hn : s.n = n) : wrs s (-9) ((n : Int) + 9) = byF n s.wr := by
  rw [← wrs_all hn]
  unfold wrs
  rw [hn, show min ((n : Int) + 9) (n : Int) = min (n : Int) (n : Int) by omega]; rfl
theorem wrs_past {s : Nv} {n : Nat} (hn : s.n = n) : (wrs s (n : Int) ((n : Int) + 3)).length = 0 := by
  rw [wrs_length, hn]; omega
end Go.Proofs.Ythcecfenjbdgmaa
