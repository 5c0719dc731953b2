/-
  The program's memory and the reference's, side by side.
-/
import Derived.Test.YtomodoofpjgpgaaRmf
namespace Go.Proofs.Ytomodoofpjgpgaa
open Go.RowKit

/-- the program's memory and the reference's lie apart, both above B -/
structure Apart (B g : Nat) (r : Rg) : Prop where
  g0 : B ≤ g
  d0 : ∀ k ∈ r.D, B ≤ k
  gd : g ∉ r.D
  lim : ∀ p n c, r.v = .slice p n c → ∀ q, p = some q → q.block ≠ g
/-- both are s -/
structure Both (w0 : World) (g : Nat) (r : Rg) (w : World) (s : Nv) (n k : Nat) : Prop where
  nm : Nm w g s
  rm : Rm w r s
  ok : s.Ok
  ln : s.n = n
  c : s.c ≤ (k : Int)
  bel : Below w0.heap.size w0 w
theorem Rm.chg {w w' : World} {r : Rg} {s : Nv} {g : Nat} {B : Nat} (h : Rm w r s) (hc : Chg [g] w w') (ha : Apart B g r) : Rm w' r s := by
  obtain ⟨cuts, mk, h1, h2⟩ := h
  exact ⟨cuts, mk, h1.chg hc (fun k hk => by rw [List.mem_singleton.1 hk]; exact ⟨ha.gd, ha.lim⟩), h2⟩
theorem Rm.below {w w' : World} {r : Rg} {s : Nv} (h : Rm w r s) (hb : Below w.heap.size w w') : Rm w' r s := by
  obtain ⟨cuts, mk, h1, h2⟩ := h
  exact ⟨cuts, mk, h1.below hb, h2⟩
theorem Both.below {w0 w w' : World} {g : Nat} {r : Rg} {s : Nv} {n k : Nat} (h : Both w0 g r w s n k) (hb : Below w.heap.size w w') : Both w0 g r w' s n k :=
  ⟨h.nm.below hb, h.rm.below hb, h.ok, h.ln, h.c, below_more h.bel hb⟩
theorem Both.more {w0 w : World} {g : Nat} {r : Rg} {s : Nv} {n k : Nat} (h : Both w0 g r w s n k) : Both w0 g r w s n (k + 1) := ⟨h.nm, h.rm, h.ok, h.ln, by have := h.c; omega, h.bel⟩
theorem Both.small {w0 w : World} {g : Nat} {r : Rg} {s : Nv} {n k : Nat} (h : Both w0 g r w s n k) (hk : k ≤ 1000) : s.c < 1000000 ∧ s.c < 4611686018427387904 := by have := h.c; omega
/-- the same call on both -/
theorem Both.step {w0 w w1 w2 : World} {g : Nat} {r : Rg} {s s' : Nv} {n k : Nat} (h : Both w0 g r w s n k) (ha : Apart w0.heap.size g r) (hN : Nm w1 g s') (hC : Chg [g] w w1) (hR : Rm w2 r s') (hD : Chg r.D w1 w2) (ho : s'.Ok) (hn : s'.n = s.n) (hc : s'.c ≤ s.c + 1) : Both w0 g r w2 s' n (k + 1) := by
  have h1 := hC.own h.bel ha.g0
  exact ⟨hN.chg hD ha.gd, hR, ho, hn.trans h.ln, by have := h.c; omega, hD.below h1 h1.size ha.d0⟩
theorem at_start {w0 w1 w2 : World} {g n : Nat} {r : Rg} {lim : List Int} (hn1 : 1 ≤ n) (hn2 : n ≤ 200) (h1 : w0.heap.size ≤ g) (hN : Nm w1 g (newNv n lim)) (hb : Below w0.heap.size w0 w1) (hD : ∀ k ∈ r.D, w1.heap.size ≤ k) (hv : ∀ p k c, r.v = .slice p k c → ∀ q, p = some q → w1.heap.size ≤ q.block) (hR : Rm w2 r (newNv n lim)) (hb2 : Below w1.heap.size w1 w2) :
    Apart w0.heap.size g r ∧ Both w0 g r w2 (newNv n lim) n 0 := by
  have hlt := hN.lt
  refine ⟨⟨h1, fun k hk => Nat.le_trans hb.size (hD k hk), fun hx => ?_, fun p k c e q hq => ?_⟩, ⟨hN.below hb2, hR, newNv_ok hn1 hn2 lim, rfl, Int.le_refl 0, below_more hb hb2⟩⟩
  · have := hD g hx; omega
  · have := hv p k c e q hq; omega
theorem lines_is {g : Nat} {s : Nv} {w : World} {n : Nat} (hx : s.n = n) (h : Nm w g s) : Calls Try.prog 26 #[.pointer (some ⟨g, 0, none⟩)] w fun e w' => e = .returned (.int .i64 (n : Int)) ∧ w = w' := by
  rw [← hx]; exact lines_any g s w h
theorem Rm.D_lt {w : World} {r : Rg} {s : Nv} (h : Rm w r s) : ∀ k ∈ r.D, k < w.heap.size := by
  obtain ⟨cuts, mk, hB, _⟩ := h
  have h1 := hB.blk.lt; have h2 := hB.lin.lt; have h3 := hB.wea.lt
  intro k hk
  simp [Rg.D] at hk
  omega
theorem Rm.reads {w : World} {r : Rg} {s : Nv} (h : Rm w r s) : w.cell? ⟨r.a, 40, none⟩ = some (.bool s.dark) ∧ w.cell? ⟨r.a, 41, none⟩ = some (.int .i64 s.c) := by
  obtain ⟨cuts, mk, hB, _⟩ := h
  obtain ⟨_, _, _, _, _, h1, h2⟩ := hB.cells
  exact ⟨h1, h2⟩
/-- what the reference tells of a line -/
theorem Both.line {w0 w : World} {g : Nat} {r : Rg} {s : Nv} {n k : Nat} (h : Both w0 g r w s n k) {q : Nat} (hq : q < n) : w.cell? ⟨r.a, 0, none⟩ = some (.slice (some ⟨r.l, 0, none⟩) n n) ∧ w.cell? ⟨r.a, 36, none⟩ = some (.slice (some ⟨r.m, 0, none⟩) n n) ∧
    (lineLoad (.pointer (some ⟨r.l, q * 8, none⟩))).run Try.prog w = .ok (.agg (lc (s.h q))) w ∧ w.cell? ⟨r.m, q, none⟩ = some (.int .i64 (s.wr q)) := by
  obtain ⟨cuts, mk, hB, _⟩ := h.rm
  obtain ⟨c0, c36, _⟩ := hB.cells
  rw [h.ln] at c0 c36
  exact ⟨c0, c36, hB.loadLine (by rw [h.ln]; exact hq) (h.ok.line q), hB.wearAt (by rw [h.ln]; exact hq)⟩
theorem Both.drew {w0 w : World} {g : Nat} {r : Rg} {s : Nv} {n k : Nat} (h : Both w0 g r w s n k) : Both w0 g r w.drew s n k := h.below (Below.refl _ _).drew
end Go.Proofs.Ytomodoofpjgpgaa
