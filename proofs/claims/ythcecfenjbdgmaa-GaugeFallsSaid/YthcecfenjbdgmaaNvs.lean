/-
  The memory, plainly: what it holds, and what each call makes of it.
-/
import Derived.Test.YthcecfenjbdgmaaAlk
namespace Go.Proofs.Ythcecfenjbdgmaa
set_option maxRecDepth 100000
open Go.RowKit

def upd {α : Type} (f : Nat → α) (i : Nat) (x : α) : Nat → α := fun j => if j = i then x else f j
theorem upd_same {α : Type} (f : Nat → α) (i : Nat) (x : α) : upd f i x i = x := if_pos rfl
theorem upd_other {α : Type} (f : Nat → α) {i j : Nat} (x : α) (h : j ≠ i) : upd f i x j = f j := if_neg h

/-- a memory: lines, how often each was written and lasts; registers; writes; is the power gone; when it goes -/
structure Nv where
  n : Nat
  h : Nat → List Int
  wr : Nat → Int
  la : Nat → Int
  rg : Nat → Int
  c : Int
  dark : Bool
  comes : Bool
  ahead : Int
  mask : Int

/-- what is always so -/
structure Nv.Ok (s : Nv) : Prop where
  lo : 1 ≤ s.n
  hi : s.n ≤ 200
  line : ∀ i, (s.h i).length = 8
  wr0 : ∀ i, 0 ≤ s.wr i
  wr1 : ∀ i, s.wr i ≤ s.c
  ah : s.ahead ≤ 9223372036854775807

def Nv.has (s : Nv) (i : Int) : Bool := decide (0 ≤ i) && decide (i < (s.n : Int))
def hasR (i : Int) : Bool := decide (0 ≤ i) && decide (i < 35)
/-- why what is there, or isn't, cannot be reached -/
def Nv.rdy (s : Nv) (b : Bool) : Int := if b then (if s.dark then 2 else 0) else 1
/-- does the power go at the next write -/
def Nv.goes (s : Nv) : Bool := s.comes && decide (s.ahead ≤ 0)
def Nv.by_ (s : Nv) : Int := if s.goes then s.mask else 255
def Nv.told (s : Nv) : Int := if s.goes then 2 else 0
/-- a write is counted -/
def Nv.tick (s : Nv) : Nv := { s with c := s.c + 1, dark := s.dark || s.goes, ahead := if s.comes && decide (0 < s.ahead) then s.ahead - 1 else s.ahead }
def Nv.worn (s : Nv) (i : Nat) : Bool := decide (0 ≤ s.la i) && decide (s.la i ≤ s.wr i)
def Nv.lay (s : Nv) (i : Nat) (l : List Int) (m : Int) : Nv := { s with wr := upd s.wr i (s.wr i + 1), h := upd s.h i (mix (s.h i) l m) }
def Nv.reg (s : Nv) (i : Nat) (v : Int) : Nv := { s with rg := upd s.rg i v }

def Nv.putE (s : Nv) (i : Int) : Int := if s.rdy (s.has i) = 0 then (if s.worn i.toNat && !s.goes then 3 else s.told) else s.rdy (s.has i)
def Nv.put (s : Nv) (i : Int) (l : List Int) : Nv := if s.rdy (s.has i) = 0 then (if s.worn i.toNat then s.tick else s.tick.lay i.toNat l s.by_) else s
def Nv.setE (s : Nv) (i : Int) : Int := if s.rdy (hasR i) = 0 then s.told else s.rdy (hasR i)
def Nv.set (s : Nv) (i : Int) (v : Int) : Nv := if s.rdy (hasR i) = 0 then (if s.by_ % 2 = 1 then s.tick.reg i.toNat v else s.tick) else s
def Nv.get (s : Nv) (i : Int) : List Int := if s.rdy (s.has i) = 0 then s.h i.toNat else zeros
def Nv.rd (s : Nv) (i : Int) : Int := if s.rdy (hasR i) = 0 then s.rg i.toNat else 0
def Nv.wear (s : Nv) (i : Int) : Int := if s.has i then s.wr i.toNat else 0
def Nv.cutAt (s : Nv) (n m : Int) : Nv := { s with comes := decide (0 ≤ n), ahead := n, mask := m }
def Nv.power (s : Nv) : Nv := { s with dark := false, comes := false, ahead := 0, mask := 0 }
/-- a new one -/
def newNv (n : Nat) (lim : List Int) : Nv :=
  { n := n, h := fun _ => zeros, wr := fun _ => 0, la := fun i => if i < n then (if i < lim.length then lim.getD i 0 else -1) else 0, rg := fun _ => 0, c := 0, dark := false, comes := false, ahead := 0, mask := 0 }

theorem Nv.Ok.tick {s : Nv} (h : s.Ok) : s.tick.Ok := by
  refine ⟨h.lo, h.hi, h.line, h.wr0, fun i => ?_, ?_⟩
  · have := h.wr1 i; show s.wr i ≤ s.c + 1; omega
  · have := h.ah
    have e : s.tick.ahead = s.ahead ∨ s.tick.ahead = s.ahead - 1 := by
      simp only [Nv.tick]; split
      · exact .inr rfl
      · exact .inl rfl
    rcases e with e | e <;> rw [e]
    · exact this
    · have : s.ahead - 1 ≤ s.ahead := Int.sub_le_self _ (by decide)
      exact Int.le_trans this h.ah
theorem Nv.Ok.put {s : Nv} (h : s.Ok) {l : List Int} (hl : l.length = 8) (i : Int) : (s.put i l).Ok := by
  unfold Nv.put
  split
  · split
    · exact h.tick
    · have ht := h.tick
      refine ⟨ht.lo, ht.hi, fun j => ?_, fun j => ?_, fun j => ?_, ht.ah⟩
      · show (upd s.h i.toNat (mix (s.h i.toNat) l s.by_) j).length = 8
        unfold upd
        split
        · rw [mix_length _ _ _ ((h.line _).trans hl.symm)]; exact h.line _
        · exact h.line j
      · have := h.wr0 j; have := h.wr0 i.toNat
        show 0 ≤ upd s.wr _ (s.wr i.toNat + 1) j
        unfold upd; split <;> omega
      · have := h.wr1 j; have := h.wr1 i.toNat
        show upd s.wr _ (s.wr i.toNat + 1) j ≤ s.c + 1
        unfold upd; split <;> omega
  · exact h
theorem Nv.Ok.set {s : Nv} (h : s.Ok) (i v : Int) : (s.set i v).Ok := by
  unfold Nv.set
  split
  · split
    · have ht := h.tick
      exact ⟨ht.lo, ht.hi, ht.line, ht.wr0, ht.wr1, ht.ah⟩
    · exact h.tick
  · exact h
theorem Nv.Ok.cutAt {s : Nv} (h : s.Ok) {n : Int} (hn : n ≤ 9223372036854775807) (m : Int) : (s.cutAt n m).Ok := ⟨h.lo, h.hi, h.line, h.wr0, h.wr1, hn⟩
theorem Nv.Ok.power {s : Nv} (h : s.Ok) : s.power.Ok := ⟨h.lo, h.hi, h.line, h.wr0, h.wr1, by simp [Nv.power]⟩
theorem newNv_ok {n : Nat} (h1 : 1 ≤ n) (h2 : n ≤ 200) (lim : List Int) : (newNv n lim).Ok := ⟨h1, h2, fun _ => rfl, fun _ => Int.le_refl 0, fun _ => Int.le_refl 0, by simp [newNv]⟩

/-- what lies in each cell of it -/
def Nv.val (s : Nv) (k : Nat) : Value :=
  if k < 2000 then
    if k % 10 < 8 then .int .u64 ((s.h (k / 10)).getD (k % 10) 0) else if k % 10 = 8 then .int .i64 (s.wr (k / 10)) else .int .i64 (s.la (k / 10))
  else if k = 2000 then .int .i64 s.n
  else if k < 2036 then .int .u64 (s.rg (k - 2001))
  else if k = 2036 then .int .i64 s.c
  else if k = 2037 then .bool s.dark
  else if k = 2038 then .bool s.comes
  else if k = 2039 then .int .i64 s.ahead
  else .int .i64 s.mask
def Nv.cells (s : Nv) : Array Value := ((List.range 2041).map s.val).toArray
theorem Nv.cells_size (s : Nv) : s.cells.size = 2041 := by rw [Nv.cells, List.size_toArray, List.length_map, List.length_range]
theorem Nv.cells_at (s : Nv) (k : Nat) : s.cells[k]? = if k < 2041 then some (s.val k) else none := by
  rw [Nv.cells, List.getElem?_toArray, List.getElem?_map]
  by_cases hk : k < 2041
  · rw [List.getElem?_range hk, if_pos hk]; rfl
  · rw [List.getElem?_eq_none (by rw [List.length_range]; omega), if_neg hk]; rfl

theorem Nv.val_h (s : Nv) {i j : Nat} (hi : i < 200) (hj : j < 8) : s.val (i * 10 + j) = .int .u64 ((s.h i).getD j 0) := by
  have e1 : (i * 10 + j) / 10 = i := by omega
  have e2 : (i * 10 + j) % 10 = j := by omega
  rw [Nv.val, if_pos (by omega), e1, e2, if_pos hj]
theorem Nv.val_wr (s : Nv) {i : Nat} (hi : i < 200) : s.val (i * 10 + 8) = .int .i64 (s.wr i) := by
  have e1 : (i * 10 + 8) / 10 = i := by omega
  have e2 : (i * 10 + 8) % 10 = 8 := by omega
  rw [Nv.val, if_pos (by omega), e1, e2, if_neg (by omega), if_pos rfl]
theorem Nv.val_la (s : Nv) {i : Nat} (hi : i < 200) : s.val (i * 10 + 9) = .int .i64 (s.la i) := by
  have e1 : (i * 10 + 9) / 10 = i := by omega
  have e2 : (i * 10 + 9) % 10 = 9 := by omega
  rw [Nv.val, if_pos (by omega), e1, e2, if_neg (by omega), if_neg (by omega)]
theorem Nv.val_rg (s : Nv) {i : Nat} (hi : i < 35) : s.val (2001 + i) = .int .u64 (s.rg i) := by
  have e : 2001 + i - 2001 = i := by omega
  rw [Nv.val, if_neg (by omega), if_neg (by omega), if_pos (by omega), e]
theorem Nv.val_n (s : Nv) : s.val 2000 = .int .i64 s.n := rfl
theorem Nv.val_c (s : Nv) : s.val 2036 = .int .i64 s.c := rfl
theorem Nv.val_dark (s : Nv) : s.val 2037 = .bool s.dark := rfl
theorem Nv.val_comes (s : Nv) : s.val 2038 = .bool s.comes := rfl
theorem Nv.val_ahead (s : Nv) : s.val 2039 = .int .i64 s.ahead := rfl
theorem Nv.val_mask (s : Nv) : s.val 2040 = .int .i64 s.mask := rfl
end Go.Proofs.Ythcecfenjbdgmaa
