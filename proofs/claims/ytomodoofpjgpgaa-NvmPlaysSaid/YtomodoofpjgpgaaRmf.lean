/-
  Contract of the reference's NewMemory.
-/
import Derived.Test.YtomodoofpjgpgaaRme
namespace Go.Proofs.Ytomodoofpjgpgaa
open Go.RowKit

theorem rnew_no (n : Int) (v : Value) (w : World) (hn : n < 1 ∨ 200 < n) : Calls Try.prog 11 #[.int .i64 n, v] w fun e w' => e = .returned (.pointer none) ∧ w = w' := by
  by_cases h1 : n < 1
  · go_enter Try.func11, Try.ntmps11
    go_wp2
    go_ret
    exact ⟨rfl, rfl⟩
  · have h2 : 200 < n := by omega
    go_enter Try.func11, Try.ntmps11
    go_wp2
    go_ret
    exact ⟨rfl, rfl⟩

theorem info_line3 : (Try.prog.info? 31).map (fun i => (i.zero, i.size, i.bytes)) = some (some (.agg (lc zeros)), 8, 64) := by kernel_rfl
theorem made_tab (z : Array Value) (m : Nat) (f : Nat → Value) (h : ∀ j, j < m → z[j % z.size]! = f j) : madeCells z m = tab m f := tab_ext fun j => by
  unfold madeCells
  rw [Array.getElem?_map, Array.getElem?_range]
  by_cases hj : j < m
  · rw [if_pos hj, if_pos hj]; simp only [Option.map_some, h j hj]
  · rw [if_neg hj, if_neg hj]; rfl
/-- the lines of a new one -/
def lz (n : Nat) : Array Value := tab (n * 8) (lcell (newNv n []))
def wz (n : Nat) : Array Value := tab n (wcell (newNv n []))
theorem run_make_lines (n : Nat) (hn : n ≤ 200) (w : World) :
    (Instr.makeSlice 42 (.int .i64 (n : Int)) (.int .i64 (n : Int))).run Try.prog w = .ok (.slice (some ⟨w.heap.size, 0, none⟩) n n) (w.alloc (.cells (lz n) 31)) := by
  obtain ⟨i, hi, hzz⟩ := Option.map_eq_some_iff.1 info_line3
  simp only [Prod.mk.injEq] at hzz
  obtain ⟨hz, hs, hb⟩ := hzz
  have := run_make (P := Try.prog) w 42 31 i _ Try.underlying42 hi hz .i64 .i64 n n (by omega) (by omega) (by rw [hb]; omega) (by omega)
  rw [Int.toNat_natCast, hs] at this
  rw [this, lz, made_tab _ _ (lcell (newNv n []))]
  intro j _
  have h8 : (Value.agg (lc zeros)).cells.size = 8 := rfl
  rw [h8]
  have hlt : j % 8 < 8 := Nat.mod_lt _ (by decide)
  have key : ∀ q : Fin 8, (Value.agg (lc zeros)).cells[q.val]! = .int .u64 (zeros.getD q.val 0) := by
    intro q
    rcases q with ⟨q, hq⟩
    rcases (by omega : q = 0 ∨ q = 1 ∨ q = 2 ∨ q = 3 ∨ q = 4 ∨ q = 5 ∨ q = 6 ∨ q = 7) with h | h | h | h | h | h | h | h <;> subst h <;> rfl
  exact key ⟨j % 8, hlt⟩
theorem run_make_wears (n : Nat) (hn : n ≤ 200) (w : World) :
    (Instr.makeSlice 22 (.int .i64 (n : Int)) (.int .i64 (n : Int))).run Try.prog w = .ok (.slice (some ⟨w.heap.size, 0, none⟩) n n) (w.alloc (.cells (wz n) 3)) := by
  rw [run_make_row' (P := Try.prog) 22 3 (.int .i64 0) 8 Try.underlying22 info_int rfl .i64 .i64 n (by omega) (by omega), wz, made_tab _ _ (wcell (newNv n []))]
  intro j _
  have : j % 1 = 0 := Nat.mod_one j
  show #[Value.int .i64 0][j % 1]! = _
  rw [this]; rfl

/-- the struct built -/
def rz (sL sW sM : Value) (k : Nat) : Value :=
  if k = 0 then sL else if k < 36 then .int .u64 0 else if k = 36 then sW else if k = 37 then sM else if k = 38 then .int .i64 0 else if k = 39 then .int .i64 0 else if k = 40 then .bool false else .int .i64 0
theorem built_ref (p q x : Option Addr) (a b c d e f : Nat) : Try.prog.built 45 [(0, .slice p a b), (2, .slice q c d), (3, .slice x e f)] = some (tab 42 (rz (.slice p a b) (.slice q c d) (.slice x e f))) := by kernel_rfl
def refBuild (ps : Array (Nat × Value)) : Sem Value := Instr.build 45 ps
@[go_sem ↓] theorem build_ref (ps : Array (Nat × Value)) : Instr.build 45 ps = refBuild ps := rfl
@[go_sem] theorem run_refBuild (w : World) (p q x : Option Addr) (a b c d e f : Nat) : (refBuild #[(0, .slice p a b), (2, .slice q c d), (3, .slice x e f)]).run Try.prog w = .ok (.agg (tab 42 (rz (.slice p a b) (.slice q c d) (.slice x e f)))) w := run_build w _ _ _ (built_ref p q x a b c d e f)
@[go_sem] theorem tab_ne (f : Nat → Value) : (tab 42 f = #[]) = False := by
  simp only [eq_iff_iff, iff_false]
  intro h
  have := tab_size 42 f
  rw [h] at this
  simp at this

theorem World.size_drew' (w : World) : w.drew.heap.size = w.heap.size := rfl
theorem Whole.drew {w : World} {g : Nat} {t : TypeId} {cs : Array Value} (h : Whole w g t cs) : Whole w.drew g t cs := h
theorem ownI_nil (B : Nat) (w : World) : OwnI B w (.slice none 0 0) [] := World.ownsRow_nil _ _ _ _
theorem new_at (w : World) (o : Obj) {g : Nat} (e : g = w.heap.size) {t : TypeId} {cs : Array Value} (ho : o = .cells cs t) : Whole (w.alloc o) g t cs := by subst e ho; exact heap_alloc_last w _

theorem rz_new (n gl gm : Nat) (v : Value) (lim : List Int) (a : Nat) : ∀ j, j < 42 → rcell ⟨a, gl, gm, v, lim⟩ 0 0 (newNv n lim) j = rz (.slice (some ⟨gl, 0, none⟩) n n) (.slice (some ⟨gm, 0, none⟩) n n) v j := by
  intro j hj
  unfold rcell rz
  rfl
/-- the parts put together -/
theorem rb_new {w : World} {a gl gm n : Nat} {v : Value} {lim : List Int} (h1 : Whole w a 45 (tab 42 (rz (.slice (some ⟨gl, 0, none⟩) n n) (.slice (some ⟨gm, 0, none⟩) n n) v))) (h2 : Whole w gl 31 (lz n)) (h3 : Whole w gm 3 (wz n)) (h4 : RI w v lim)
    (hv : ∀ p k c, v = .slice p k c → ∀ q, p = some q → q.block ≠ a ∧ q.block ≠ gl ∧ q.block ≠ gm) (n1 : a ≠ gl) (n2 : a ≠ gm) (n3 : gl ≠ gm) : Rm w ⟨a, gl, gm, v, lim⟩ (newNv n lim) := by
  refine ⟨0, 0, ⟨h1.tabEq (rz_new n gl gm v lim a), h2, h3, h4, ?_, fun i hi => ?_, n1, n2, n3⟩, .inr (.inl ⟨rfl, rfl⟩)⟩
  · intro p k c e q hq
    obtain ⟨b1, b2, b3⟩ := hv p k c e q hq
    simp [Rg.D]; exact ⟨b1, b2, b3⟩
  · have hi' : i < n := hi
    simp only [newNv, if_pos hi']

set_option maxHeartbeats 1000000 in
theorem rnew_yes (n : Nat) (v : Value) (lim : List Int) (w : World) (h1 : 1 ≤ n) (h2 : n ≤ 200) (hr : RI w v lim) (hl : lim.length ≤ 300) :
    Calls Try.prog 11 #[.int .i64 n, v] w fun e w' => ∃ r : Rg, e = .returned (.pointer (some ⟨r.a, 0, none⟩)) ∧ (∀ k ∈ r.D, w.heap.size ≤ k) ∧ (∀ p k c, r.v = .slice p k c → ∀ q, p = some q → w.heap.size ≤ q.block) ∧ Rm w' r (newNv n lim) ∧ Below w.heap.size w w' := by
  have i1 : (1 : Int) ≤ (n : Int) := by omega
  have i2 : (n : Int) ≤ 200 := by omega
  have hm1 := fun w => run_make_lines n h2 w
  have hm2 := fun w => run_make_wears n h2 w
  have HR := Lib.hid hr
  have HL := Lib.hid (show ([] : List Int).length + lim.length ≤ 1000000 by simp; omega)
  clear hr hl
  go_enter Try.func11, Try.ntmps11
  go_wp2
  go_region_law (first
    | (refine step_app_int (o := ⟨some 16, _, _, _, _, _⟩) rfl (.const (.slice none 0 0)) (.tmp 15) rfl w.heap.size (.slice none 0 0) [] (by simp [Act.eval]) (ownI_nil _ _) v lim (by simp [Act.eval, Act.put]) (ri_below HR.out (by repeat' (first | (with_reducible exact Below.refl _ _) | (with_reducible refine Below.drew ?_) | (with_reducible refine bal ?_)))) HL.out (by simp <;> omega) ?_
       intro v1 w1 hown hg hat
       have OW := Lib.hid hown
       have GR := Lib.hid hg
       have AT := Lib.hid hat
       obtain ⟨p1, c1, rfl⟩ := hown.shape
       clear hown hg hat))
  all_goals
    have hsz := GR.out.size
    have hlt := World.ownsRow.lt OW.out
    have hat := AT.out
    have hri := OW.out.ri
    rw [List.nil_append] at hri
    have hbl : Below w.heap.size w w1 := Below.grown (by repeat' (first | (with_reducible exact Below.refl _ _) | (with_reducible refine Below.drew ?_) | (with_reducible refine bal ?_))) GR.out (by simp <;> omega) (by intro k hk; simp [Value.ownBlock] at hk)
    have HH := Lib.hid hri
    have HB := Lib.hid hbl
    simp only [World.size_drew', size_alloc] at hsz hat
    clear hri hbl
    go_wp2
    go_ret
    refine ⟨⟨_, _, _, _, lim⟩, rfl, ?_, ?_, rb_new (new_at _ _ (by simp) rfl) ?_ ?_ ?_ ?_ ?_ ?_ ?_, ?_⟩
    focus (intro k hk; simp [Rg.D] at hk; omega)
    focus (intro p k c e q hq; cases e; subst hq; exact (hlt _ rfl).1)
    iterate 2 (focus (repeat' (first | (with_reducible exact new_at _ _ (by simp) rfl) | (with_reducible refine Whole.alloc ?_ _) | (with_reducible refine Whole.drew ?_) | (with_reducible refine Whole.grown ?_ GR.out (by simp [Value.ownBlock])))))
    focus (exact ri_below HH.out (by repeat' (first | (with_reducible exact Below.refl _ _) | (with_reducible refine Below.drew ?_) | (with_reducible refine bal ?_))))
    focus (intro p k c e q hq; cases e; subst hq; have h := hlt _ rfl; rcases hat with hat | hat <;> first | (have hx := Option.some.inj (show some q.block = some _ from hat); refine ⟨?_, ?_, ?_⟩ <;> (try simp only [Array.length_toList]) <;> omega) | (cases hat))
    iterate 3 (focus (simp <;> omega))
    focus (repeat' (first | (with_reducible exact HB.out) | (with_reducible refine Below.drew ?_) | (with_reducible refine bal ?_)))
end Go.Proofs.Ytomodoofpjgpgaa
