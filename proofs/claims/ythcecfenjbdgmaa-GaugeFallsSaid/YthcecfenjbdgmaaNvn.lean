/-
  Contract of package nvm's New.
-/
import Derived.Test.YthcecfenjbdgmaaNvg
import Derived.Test.YthcecfenjbdgmaaRi
namespace Go.Proofs.Ythcecfenjbdgmaa
set_option maxRecDepth 100000
open Go.RowKit

def zeroNv (n : Nat) : Nv := { n := n, h := fun _ => zeros, wr := fun _ => 0, la := fun _ => 0, rg := fun _ => 0, c := 0, dark := false, comes := false, ahead := 0, mask := 0 }
theorem zero_mem : (Try.prog.info? 61).map (fun i => (i.zero, i.size)) = some (some (.agg (zeroNv 0).cells), 2041) := by kernel_rfl

theorem cells_put {s s' : Nv} (k : Nat) (v : Value) (hk : k < 2041) (he : ∀ j, j < 2041 → s'.val j = if j = k then v else s.val j) : s.cells.setIfInBounds k v = s'.cells := by
  apply Array.ext_getElem?
  intro j
  rw [Array.getElem?_setIfInBounds, s'.cells_at, s.cells_at, s.cells_size]
  by_cases hj : j < 2041
  · rw [if_pos hj, if_pos hj, he j hj]
    by_cases e : k = j
    · subst e; simp [hk]
    · rw [if_neg e, if_neg (fun h => e h.symm)]
  · rw [if_neg hj, if_neg hj]
    by_cases e : k = j
    · rw [if_pos e, if_neg (fun hx => hj (e ▸ hx))]
    · rw [if_neg e]
theorem zero_put (n : Nat) : (zeroNv 0).cells.setIfInBounds 2000 (.int .i64 n) = (zeroNv n).cells := by
  refine cells_put 2000 _ (by decide) fun j hj => ?_
  by_cases e : j = 2000
  · subst e; rfl
  · rw [if_neg e]; simp only [Nv.val, zeroNv, e, if_false]

theorem places_mem : (match Try.prog.underlying 61 with
    | some (.struct fields) => fields.toList.mapM (fun f => (Try.prog.info? f.type).map fun i => (f.offset, i.size))
    | _ => none) = some [(0, 2000), (2000, 1), (2001, 35), (2036, 1), (2037, 1), (2038, 3)] := by kernel_rfl

theorem built_mem (n : Nat) : Try.prog.built 61 [(1, .int .i64 n)] = some (zeroNv n).cells := by
  have hz := zero_mem
  have hp := places_mem
  have hs := (zeroNv 0).cells_size
  rw [← zero_put n]
  generalize (zeroNv 0).cells = Z at *
  unfold Program.built
  cases hi : Try.prog.info? 61 with
  | none => rw [hi] at hz; cases hz
  | some it =>
    rw [hi] at hz
    obtain ⟨hz1, _⟩ : it.zero = some (.agg Z) ∧ it.size = 2041 := by simpa using hz
    rw [Try.underlying61] at hp ⊢
    simp only at hp ⊢
    rw [hp, hz1]
    simp [Instr.fill, Value.cells, hs]
def memBuild (ps : Array (Nat × Value)) : Sem Value := Instr.build 61 ps
@[go_sem ↓] theorem build_mem (ps : Array (Nat × Value)) : Instr.build 61 ps = memBuild ps := rfl
@[go_sem] theorem run_memBuild (w : World) (n : Nat) : (memBuild #[(1, .int .i64 (n : Int))]).run Try.prog w = .ok (.agg (zeroNv n).cells) w := run_build w _ _ _ (built_mem n)
@[go_sem] theorem cells_ne (s : Nv) : (s.cells = #[]) = False := by
  simp only [eq_iff_iff, iff_false]
  intro h
  have := s.cells_size
  rw [h] at this
  simp at this

/-- New where it may not be -/
theorem new_no (n : Int) (v : Value) (w : World) (hn : n < 1 ∨ 200 < n) : Calls Try.prog 14 #[.int .i64 n, v] w fun e w' => e = .returned (.pointer none) ∧ w = w' := by
  by_cases h1 : n < 1
  · go_enter Try.func14, Try.ntmps14
    go_wp2
    go_ret
    exact ⟨rfl, rfl⟩
  · have h2 : 200 < n := by omega
    go_enter Try.func14, Try.ntmps14
    go_wp2
    go_ret
    exact ⟨rfl, rfl⟩

/-- the k first lines told how long they last -/
def Nv.laid (n : Nat) (lim : List Int) (k : Nat) : Nv := { zeroNv n with la := fun i => if i < k then (if i < lim.length then lim.getD i 0 else -1) else 0 }
theorem laid_zero (n : Nat) (lim : List Int) : Nv.laid n lim 0 = zeroNv n := by simp [Nv.laid, zeroNv]
theorem laid_all (n : Nat) (lim : List Int) : Nv.laid n lim n = newNv n lim := rfl
theorem laid_some {n k : Nat} {lim : List Int} (h : k < lim.length) (x : Int) : ({ { Nv.laid n lim k with la := upd (Nv.laid n lim k).la k x } with la := upd (upd (Nv.laid n lim k).la k x) k (lim.getD k 0) } : Nv) = Nv.laid n lim (k + 1) := by
  simp only [Nv.laid, Nv.mk.injEq, true_and, and_true]
  funext i
  simp only [upd]
  by_cases e : i = k
  · subst e; simp [h]
  · rw [if_neg e, if_neg e]
    have h3 : i < k + 1 ↔ i < k := by omega
    simp only [h3]
theorem laid_none {n k : Nat} {lim : List Int} (h : ¬ k < lim.length) : ({ Nv.laid n lim k with la := upd (Nv.laid n lim k).la k (-1) } : Nv) = Nv.laid n lim (k + 1) := by
  simp only [Nv.laid, Nv.mk.injEq, true_and, and_true]
  funext i
  simp only [upd]
  by_cases e : i = k
  · subst e; simp [h]
  · rw [if_neg e]
    have h3 : i < k + 1 ↔ i < k := by omega
    simp only [h3]

theorem Nm.new (w : World) (s : Nv) : Nm (w.alloc (.cells s.cells 61)) w.heap.size s := heap_alloc_last w _

theorem new_yes (n : Nat) (v : Value) (lim : List Int) (w : World) (h1 : 1 ≤ n) (h2 : n ≤ 200) (hr : RI w v lim) :
    Calls Try.prog 14 #[.int .i64 n, v] w fun e w' => ∃ g, e = .returned (.pointer (some ⟨g, 0, none⟩)) ∧ w.heap.size ≤ g ∧ Nm w' g (newNv n lim) ∧ Below w.heap.size w w' := by
  have HN := Lib.hid ((Nm.new w (zeroNv n)).as (laid_zero n lim).symm)
  have HB := Lib.hid (bal (o := .cells (zeroNv n).cells 61) (Below.refl w.heap.size w))
  have i1 : (1 : Int) ≤ (n : Int) := by omega
  have i2 : (n : Int) ≤ 200 := by omega
  have HR := Lib.hid hr
  obtain ⟨p, cap, rfl, hlc, _, _⟩ := hr
  clear hlc
  go_enter Try.func14, Try.ntmps14
  go_wp2
  go_loopw [17] (fun i wr => ∃ k : Nat, k ≤ n ∧ i = .int .i64 k ∧ Hid (Nm wr w.heap.size (Nv.laid n lim k) ∧ Below w.heap.size w wr)) (fun i _ => n - (intOf i).toNat)
  case atStart => exact ⟨0, by omega, rfl, Lib.hid ⟨HN.out, HB.out⟩⟩
  case round =>
    obtain ⟨k, hk, rfl, H⟩ := hrel
    by_cases hlt : k < n
    · have h200 : k < 200 := by omega
      have j0 : (0 : Int) ≤ (k : Int) := by omega
      have j1 : (k : Int) < 200 := by omega
      have c9 := H.out.1.at_ (k := k * 10 + 9) (by omega)
      rw [Nv.val_la _ h200] at c9
      have z9 := H.out.1.free (k * 10 + 9)
      have N1 := Lib.hid (H.out.1.setLa h200 (-1))
      have B1 := Lib.hid (H.out.2.setCell (p := ⟨w.heap.size, k * 10 + 9, none⟩) (Nat.le_refl _) (.int .i64 (-1)))
      generalize (Nv.laid n lim k).la k = q at c9
      by_cases hl : k < lim.length
      · have R1 := ri_below HR.out (H.out.2)
        obtain ⟨b, off, rfl, hb, hc⟩ := ri_some HR.out (by omega)
        have ck := hc k hl
        have ck1 := ((H.out.2.setCell (p := ⟨w.heap.size, k * 10 + 9, none⟩) (Nat.le_refl _) (.int .i64 (-1))).cell (p := ⟨b, off + k, none⟩) hb).trans ck
        have N2 := Lib.hid ((N1.out.setLa h200 (lim.getD k 0)).as (laid_some hl (-1)))
        have B2 := Lib.hid (B1.out.setCell (p := ⟨w.heap.size, k * 10 + 9, none⟩) (Nat.le_refl _) (.int .i64 (lim.getD k 0)))
        generalize lim.getD k 0 = x at *
        obtain ⟨W, hW⟩ : ∃ W, wr.setCell ⟨w.heap.size, k * 10 + 9, none⟩ (.int .i64 (-1)) = W := ⟨_, rfl⟩
        rw [hW] at ck1 N1 N2 B2
        have d9 := N1.out.at_ (k := k * 10 + 9) (by omega)
        rw [Nv.val_la _ h200] at d9
        obtain ⟨q2, hq2⟩ : ∃ q2, ({ Nv.laid n lim k with la := upd (Nv.laid n lim k).la k (-1) } : Nv).la k = q2 := ⟨_, rfl⟩
        rw [hq2] at d9
        have y9 := N1.out.free (k * 10 + 9)
        clear hq2
        obtain ⟨L, hL⟩ : ∃ L, lim.length = L := ⟨_, rfl⟩
        rw [hL] at hl ⊢
        have j2 : (k : Int) < (L : Int) := by omega
        clear hc ck hL R1
        go_wp2
        go_region_law (fail)
        all_goals
          go_wp2
          exact ⟨⟨k + 1, by omega, by go_num, Lib.hid ⟨N2.out.drew, B2.out.drew⟩⟩, by simp [intOf]; omega⟩
      · have N2 := Lib.hid (N1.out.as (laid_none hl))
        have j2 : ¬ (k : Int) < (lim.length : Int) := by omega
        generalize lim.length = L at *
        go_wp2
        exact ⟨⟨k + 1, by omega, by go_num, Lib.hid ⟨N2.out, B1.out⟩⟩, by simp [intOf]; omega⟩
    · obtain rfl : k = n := by omega
      go_wp2
      go_ret
      exact ⟨_, rfl, Nat.le_refl _, H.out.1.as (laid_all _ lim), H.out.2⟩
end Go.Proofs.Ythcecfenjbdgmaa
