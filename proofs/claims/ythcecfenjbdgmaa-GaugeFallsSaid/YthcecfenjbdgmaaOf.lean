/-
  Numbers of their bits, and comparing two lists of words: contracts over slices that a call made itself.
-/
import Derived.Test.YthcecfenjbdgmaaLaw
import Derived.Test.YthcecfenjbdgmaaTwo
import Derived.Handy
namespace Go.Proofs.Ythcecfenjbdgmaa
set_option maxRecDepth 100000
open D Go.RowKit

/-- a word as a value -/
def fl (x : Nat) : Value := .float .f64 x

theorem info_f64 : (Try.prog.info? 25).map (fun i => (i.zero, i.size, i.bytes)) = some (some (.float .f64 0), 1, 8) := by kernel_rfl

/-- a slice of words of a call's own -/
def Own (B : Nat) (w : World) (v : Value) (l : List Nat) : Prop := w.ownsRow B 25 1 v l.length (l.map fl)

theorem take_snoc {l : List Nat} {k : Nat} (h : k < l.length) : l.take (k + 1) = l.take k ++ [l.getD k 0] := by
  rw [List.take_succ_eq_append_getElem h]; simp [h]



def nats (l : List Int) : List Nat := l.map Int.toNat
theorem nats_length (l : List Int) : (nats l).length = l.length := by simp [nats]
theorem nats_small {l : List Int} (h : ∀ n ∈ l, (Lit.int .u64 n).wf = true) : Small (nats l) := by
  intro i hi
  rw [nats_length] at hi
  obtain ⟨n, hn, hlt⟩ := nat_of_u64 (h l[i] (List.getElem_mem hi))
  simp [nats, hi, hn]
  exact hlt
theorem nats_at {l : List Int} (h : ∀ n ∈ l, (Lit.int .u64 n).wf = true) (i : Nat) (hi : i < l.length) : (((nats l).getD i 0 : Nat) : Int) = l.getD i 0 := by
  obtain ⟨n, hn, hlt⟩ := nat_of_u64 (h l[i] (List.getElem_mem hi))
  simp [nats, hi, hn]


/-- a slice that can be read: it holds l -/
def Reads (w : World) (v : Value) (l : List Nat) : Prop := ∃ p cap, v = .slice p l.length cap ∧ (l = [] ∨ ∃ b off, p = some ⟨b, off, none⟩ ∧ Words w b off l)

theorem Reads.below {w w' : World} {v : Value} {l : List Nat} (h : Reads w v l) (hb : Below w.heap.size w w') : Reads w' v l := by
  obtain ⟨p, cap, rfl, h | ⟨b, off, rfl, hw⟩⟩ := h
  · exact ⟨p, cap, rfl, .inl h⟩
  · refine ⟨_, cap, rfl, .inr ⟨b, off, rfl, fun i hi => ?_⟩⟩
    have := hw i hi
    rw [hb.cell (World.block_lt_of_cell? w _ this)]; exact this

theorem Own.reads {B : Nat} {w : World} {v : Value} {l : List Nat} (h : Own B w v l) : Reads w v l := by
  have h' : w.ownsRow B 25 1 v l.length (l.map fl) := h
  obtain ⟨_, ⟨rfl, h0⟩ | ⟨g, cap, cur, rfl, _⟩⟩ := h
  · exact ⟨none, 0, by rw [h0], .inl (List.eq_nil_of_length_eq_zero h0)⟩
  · refine ⟨_, cap, rfl, .inr ⟨g, 0, rfl, fun i hi => ?_⟩⟩
    have := h'.cells (g := g) rfl i (fl (l.getD i 0)) (by simp [hi])
    have e : (⟨g, 0, none⟩ : Addr).add i = ⟨g, 0 + i, none⟩ := Go.WideShapes.add_plain ..
    rw [e] at this; exact this

theorem min_rd (v : Value) (l : List Nat) (w : World) (h : Reads w v l) (hm : l.length ≤ maxLen) (hs : Small l) :
    Calls Try.prog 28 #[v] w fun e w' => e = .returned (.float .f64 (minV l)) ∧ w = w' := by
  obtain ⟨p, cap, rfl, h | ⟨b, off, rfl, hw⟩⟩ := h
  · subst h; exact min_none p cap w
  · exact min_any l b off cap w hm hw hs

def sameL (a b : List Nat) : Bool := decide (a.map rk = b.map rk)




end Go.Proofs.Ythcecfenjbdgmaa
