/-
  Contracts of package model: a new one, its root, a copy, which block begins at an offset, a block given back.
-/
import Derived.Test.YtkpefnjohdjejaaMak
namespace Go.Proofs.Ytkpefnjohdjejaa
set_option maxRecDepth 100000
open Go.ChangeShapes Go.WideShapes Go.ChangeAt Go.RowKit

theorem info_mod : (Try.prog.info? 77).map (·.size) = some 3 := by kernel_rfl
def moLoad (p : Value) : Sem Value := Instr.loadAt 77 p
def moStore (p v : Value) : Sem Unit := Instr.storeAt 77 p v
@[go_sem ↓] theorem loadAt_mo (p : Value) : Instr.loadAt 77 p = moLoad p := rfl
@[go_sem ↓] theorem storeAt_mo (p v : Value) : Instr.storeAt 77 p v = moStore p v := rfl
theorem run_moLoad {w : World} {g : Nat} {a b c : Value} (h : Whole w g 77 #[a, b, c]) : (moLoad (.pointer (some ⟨g, 0, none⟩))).run Try.prog w = .ok (.agg #[a, b, c]) w :=
  run_loadAt_mid (P := Try.prog) w g 0 77 [a, b, c] _ (fun j u hj => by rw [Whole.at_ h, Nat.zero_add, ← hj]; simp) Try.underlying77 rfl info_mod
theorem run_moStore (w : World) {z : Array Value} (hz : z.size = 3) (a b c : Value) (h1 : a.oneCell' = true) (h2 : b.oneCell' = true) (h3 : c.oneCell' = true) :
    (moStore (.pointer (some ⟨w.heap.size, 0, none⟩)) (.agg #[a, b, c])).run Try.prog (w.alloc (.cells z 77)) = .ok () (w.alloc (.cells #[a, b, c] 77)) := by
  unfold moStore
  simp only [Instr.storeAt, Instr.sureAddr, Sem.run_bind, Sem.run_pure, Result.andThen]
  rw [run_storeVar_row _ _ 77 77 z #[a, b, c] (heap_alloc_new w _) (by rw [info_mod]; rfl) (by rw [hz]; rfl) (by simp [h1, h2, h3]), World.setRow_alloc_new]
def moBuild (ps : Array (Nat × Value)) : Sem Value := Instr.build 77 ps
@[go_sem ↓] theorem build_mo (ps : Array (Nat × Value)) : Instr.build 77 ps = moBuild ps := rfl
theorem built_mo (n : Int) : Try.prog.built 77 [(0, .int .i64 n)] = some #[.int .i64 n, .slice none 0 0, .int .i64 0] := by kernel_rfl
@[go_sem] theorem run_moBuild (w : World) (n : Int) : (moBuild #[(0, .int .i64 n)]).run Try.prog w = .ok (.agg #[.int .i64 n, .slice none 0 0, .int .i64 0]) w := run_build w _ _ _ (built_mo n)

theorem first_len {n : Int} (h : Mw n) : (firstL n).length = n.toNat := by rw [firstL, if_pos h, List.length_set, List.length_replicate]
theorem mnew_no (n : Int) (h : ¬ Mw n) (w : World) : Calls Try.prog 17 #[.int .i64 n] w fun e w' => e = .returned (.pointer none) ∧ Below w.heap.size w w' := by
  have C := Lib.hid (first_is n w)
  rw [firstL_no h] at C
  clear h
  go_enter Try.func17, Try.ntmps17
  go_wp2_with fail
  refine (C.out).mono ?_; rintro e w1 ⟨⟨v, rfl, o⟩, b1⟩
  obtain ⟨p, c, rfl⟩ := o.shape
  have D1 := Lib.hid b1
  clear b1 o
  simp only [List.length_nil]
  go_wp2_with fail
  go_ret
  exact ⟨rfl, D1.out⟩
theorem mnew_yes (n : Nat) (h : Mw n) (w : World) : Calls Try.prog 17 #[.int .i64 n] w fun e w' => (∃ g, e = .returned (.pointer (some ⟨g, 0, none⟩)) ∧ w.heap.size ≤ g ∧ ∀ D : List Nat, (∀ k ∈ D, k < w.heap.size) → Mo w' (g :: D) g (firstL n) [⟨0, n, false⟩] 0) ∧ Below w.heap.size w w' := by
  have C := Lib.hid (first_is n w)
  obtain ⟨f1, f2, f3⟩ := first_blk h
  obtain ⟨h8, h5, _⟩ := h
  have hx : ¬ (firstL n).length = 0 := by rw [f2]; omega
  have HF := Lib.hid (And.intro f1 (And.intro f2 f3))
  have e0 : ((n : Int) == 0) = false := beq_eq_false_iff_ne.2 (by omega)
  have hn0 : ¬ n = 0 := by omega
  clear f1 f3 hx
  go_enter Try.func17, Try.ntmps17
  go_wp2_with fail
  refine (C.out).mono ?_; rintro e w1 ⟨⟨v, rfl, o⟩, b1⟩
  obtain ⟨p, c, rfl⟩ := o.shape
  have D1 := Lib.hid b1
  rw [f2]
  clear b1 o C f2
  have HM : Hid (∀ D : List Nat, (∀ k ∈ D, k < w.heap.size) → Mo (w1.alloc (.cells #[.int .i64 n, .slice none 0 0, .int .i64 0] 77)) (w1.heap.size :: D) w1.heap.size (firstL n) [⟨0, n, false⟩] 0) := Lib.hid fun D hD => by
    obtain ⟨q1, q2, q3⟩ := HF.out
    refine ⟨q1, q3, List.mem_cons_self .., fun k hk => ?_, _, [], ?_, ra_nil _ _, (fun k hk => by cases hk), ⟨rfl, fun x hx => by cases hx⟩, .inl rfl⟩
    · rw [size_alloc]
      rcases List.mem_cons.1 hk with rfl | hk
      · omega
      · have := hD k hk
        have := D1.out.size
        omega
    · rw [q2]
      exact heap_alloc_new _ _
  go_wp2_with fail
  go_ret
  exact ⟨⟨_, rfl, D1.out.size, HM.out⟩, bal D1.out⟩

theorem mroot_is {D : List Nat} {g : Nat} {wl : List Int} {l : List Bk} {r : Int} (w : World) (h : Mo w D g wl l r) : Calls Try.prog 25 #[.pointer (some ⟨g, 0, none⟩)] w fun e w' => e = .returned (.int .i64 r) ∧ w = w' := by
  obtain ⟨v, us, hW, _⟩ := h.rows
  have c2 : w.cell? ⟨g, 2, none⟩ = some (.int .i64 r) := by rw [Whole.at_ hW]; rfl
  clear h hW
  go_enter Try.func25, Try.ntmps25
  go_wp2_with fail
  go_ret
  exact ⟨rfl, rfl⟩
theorem mroot_nil (w : World) : Calls Try.prog 25 #[.pointer none] w fun e w' => e = .returned (.int .i64 0) ∧ w = w' := by
  go_enter Try.func25, Try.ntmps25
  go_wp2_with fail
  go_ret
  exact ⟨rfl, rfl⟩
theorem mcopy_nil (w : World) : Calls Try.prog 44 #[.pointer none] w fun e w' => e = .returned (.pointer none) ∧ w = w' := by
  go_enter Try.func44, Try.ntmps44
  go_wp2_with fail
  go_ret
  exact ⟨rfl, rfl⟩
theorem mcopy_is {D : List Nat} {g : Nat} {wl : List Int} {l : List Bk} {r : Int} (w : World) (h : Mo w D g wl l r) : Calls Try.prog 44 #[.pointer (some ⟨g, 0, none⟩)] w fun e w' =>
    (∃ x, e = .returned (.pointer (some ⟨x, 0, none⟩)) ∧ w.heap.size ≤ x ∧ x < w'.heap.size ∧ Mo w' (x :: D) x wl l r) ∧ Below w.heap.size w w' := by
  obtain ⟨v, us, hW, hR, hF, hU, hP⟩ := h.rows
  obtain ⟨p, cap, rfl, _, _⟩ := ra_shape hR
  have l0 := run_moLoad hW
  obtain ⟨W, hWn⟩ : ∃ W, w.alloc (.cells #[.int .i64 (wl.length : Int), .slice p us.length cap, .int .i64 r] 77) = W := ⟨_, rfl⟩
  have hst : (moStore (.pointer (some ⟨w.heap.size, 0, none⟩)) (.agg #[.int .i64 (wl.length : Int), .slice p us.length cap, .int .i64 r])).run Try.prog (w.alloc (.cells #[.int .i64 0, .slice none 0 0, .int .i64 0] 77)) = .ok () W := by
    rw [← hWn]
    exact run_moStore w rfl _ _ _ rfl rfl rfl
  have hb : Below w.heap.size w W := by rw [← hWn]; exact bal (Below.refl _ _)
  have hs : W.heap.size = w.heap.size + 1 := by rw [← hWn, size_alloc]
  have HM : Hid (Mo W (w.heap.size :: D) w.heap.size wl l r) := Lib.hid (by
    have hm := h.more hb (Nat.le_refl _) (by omega)
    refine ⟨h.hB, h.ok, List.mem_cons_self .., hm.dlt, .slice p us.length cap, us, ?_, ra_below hR hb, hF.more hb.size (Nat.le_refl _), ⟨hU.map, fun y hy => ?_⟩, hP⟩
    · rw [← hWn]; exact heap_alloc_new _ _
    · obtain ⟨g1, g2, g3⟩ := hU.ws y hy
      exact ⟨g1, ru_below g2 hb, g3.more hb.size (Nat.le_refl _)⟩)
  have HB := Lib.hid (And.intro hb (show w.heap.size < W.heap.size by omega))
  clear hW hR hF hU hP h hb hs
  generalize us.length = L at *
  generalize wl.length = N at *
  go_enter Try.func44, Try.ntmps44
  go_wp2_with fail
  go_ret
  exact ⟨⟨_, rfl, Nat.le_refl _, HB.out.2, HM.out⟩, HB.out.1⟩

/-- which of the used ones begins there -/
theorem mbeg_nil (o : Int) (w : World) : Calls Try.prog 86 #[.pointer none, .int .i64 o] w fun e w' => e = .returned (.int .i64 (-1)) ∧ Below w.heap.size w w' := by
  go_enter Try.func86, Try.ntmps86
  go_wp2_with fail
  go_ret
  exact ⟨rfl, bal (Below.refl _ _)⟩
theorem mbeg_is {D : List Nat} {g : Nat} {wl : List Int} {l : List Bk} {r : Int} (o : Int) (w : World) (h : Mo w D g wl l r) : Calls Try.prog 86 #[.pointer (some ⟨g, 0, none⟩), .int .i64 o] w fun e w' =>
    e = .returned (.int .i64 (oi (ixF (atO o) 0 (usd l)))) ∧ Below w.heap.size w w' := by
  obtain ⟨v, us, hW, hR, hF, hU, hP⟩ := h.rows
  obtain ⟨p, cap, rfl, _, _⟩ := ra_shape hR
  obtain ⟨W, hWn⟩ : ∃ W, w.alloc (.cells #[.int .i64 o] 3) = W := ⟨_, rfl⟩
  have hb : Below w.heap.size w W := by rw [← hWn]; exact bal (Below.refl _ _)
  have cB : W.cell? ⟨w.heap.size, 0, none⟩ = some (.int .i64 o) := by rw [← hWn]; exact Whole.at_ (heap_alloc_new w _) 0
  have c1 : W.cell? ⟨g, 1, none⟩ = some (.slice p us.length cap) := by rw [hb.cell (p := ⟨g, 1, none⟩) hW.lt, Whole.at_ hW]; rfl
  have C := Lib.hid (xbegi_is (B := w.heap.size) (atO o) (ra_below hR hb) fun x hx W' hb' => hbeg_is ((hb'.cell (p := ⟨w.heap.size, 0, none⟩) (World.block_lt_of_cell? _ _ cB)).trans cB))
  rw [hU.map] at C
  have HB := Lib.hid hb
  clear hR hW hF hU hP h hb cB
  generalize us.length = L at *
  generalize ixF (atO o) 0 (usd l) = R at *
  go_enter Try.func86, Try.ntmps86
  go_wp2_with fail
  refine (C.out).mono ?_; rintro e w1 ⟨rfl, b1⟩
  have D1 := Lib.hid (below_more HB.out b1)
  go_wp2_with fail
  go_ret
  exact ⟨rfl, D1.out⟩

/-- another root -/
theorem Mo.root {D : List Nat} {g : Nat} {wl : List Int} {l : List Bk} {r : Int} {w w' : World} (h : Mo w D g wl l r) (hb : Below w.heap.size w w') (o : Int) : Mo (w'.setCell ⟨g, 2, none⟩ (.int .i64 o)) D g wl l o ∧ Chg [g] w (w'.setCell ⟨g, 2, none⟩ (.int .i64 o)) := by
  obtain ⟨v, us, h1, h2, h3, h4, h5⟩ := (h.below hb).rows
  have hc : Chg [g] w' (w'.setCell ⟨g, 2, none⟩ (.int .i64 o)) := (Chg.refl [g] w').setCell (p := ⟨g, 2, none⟩) (.inl (List.mem_singleton.2 rfl)) _
  have hgD : ∀ k ∈ [g], k ∈ D := fun k hk => by rw [List.mem_singleton.1 hk]; exact h.gD
  exact ⟨⟨h.hB, h.ok, h.gD, fun k hk => Nat.lt_of_lt_of_le ((h.below hb).dlt k hk) hc.size, v, us, h1.set_ 2 _, ra_chg h2 hc (fun k hk q => (h3 k hk).2 (hgD k q)), h3.grow hc.size, h4.chg hc hgD, h5⟩, (Chg.of_below hb [g]).trans hc⟩
def srQ (l : List Bk) (o : Int) : Int := if o ≠ 0 ∧ isN o l = none then 1 else 0
theorem msetr_nil (o : Int) (w : World) : Calls Try.prog 70 #[.pointer none, .int .i64 o] w fun e w' => e = .returned (.int .i64 1) ∧ Below w.heap.size w w' := by
  go_enter Try.func70, Try.ntmps70
  go_wp2_with fail
  go_ret
  exact ⟨rfl, Below.refl _ _⟩
theorem msetr_is {D : List Nat} {g : Nat} {wl : List Int} {l : List Bk} {r : Int} (o : Int) (w : World) (h : Mo w D g wl l r) : Calls Try.prog 70 #[.pointer (some ⟨g, 0, none⟩), .int .i64 o] w fun e w' =>
    e = .returned (.int .i64 (srQ l o)) ∧ Mo w' D g wl l (if srQ l o = 0 then o else r) ∧ Chg [g] w w' := by
  have hm := h.len.2.2
  have C := Lib.hid (mbeg_is o w h)
  rw [ix_begins hm] at C
  have FIN := Lib.hid (fun w' (hb : Below w.heap.size w w') => h.root hb o)
  have HN := Lib.hid (fun w' (hb : Below w.heap.size w w') => And.intro (h.below hb) (Chg.of_below hb [g]))
  obtain ⟨v, us, hW, _⟩ := h.rows
  have c2 : ∀ w', Below w.heap.size w w' → w'.cell? ⟨g, 2, none⟩ = some (.int .i64 r) := fun w' hb => by rw [hb.cell (p := ⟨g, 2, none⟩) hW.lt, Whole.at_ hW]; rfl
  have f2 : ∀ w', Below w.heap.size w w' → w'.frozen? ⟨g, 2, none⟩ = false := fun w' hb => Whole.free ((hb.block g hW.lt).trans hW) 2
  clear hm h hW
  by_cases h0 : o = 0
  · subst h0
    have e0 : srQ l 0 = 0 := if_neg (fun q => q.1 rfl)
    rw [e0, if_pos rfl]
    have d2 := c2 w (Below.refl _ _)
    have g2 := f2 w (Below.refl _ _)
    have F0 := Lib.hid (FIN.out w (Below.refl _ _))
    clear c2 f2 C HN FIN e0
    go_enter Try.func70, Try.ntmps70
    go_wp2_with fail
    go_ret
    exact ⟨rfl, F0.out⟩
  · have n0 : (o != 0) = true := by simpa using h0
    cases e : isN o l with
    | none =>
      have e0 : srQ l o = 1 := if_pos ⟨h0, e⟩
      rw [e0, if_neg (by decide)]
      rw [e] at C
      simp only [Option.map_none, oi] at C
      clear c2 f2 FIN e0 h0 e
      go_enter Try.func70, Try.ntmps70
      go_wp2_with fail
      refine (C.out).mono ?_; rintro e w1 ⟨rfl, b1⟩
      have F0 := Lib.hid (HN.out w1 b1)
      clear b1 HN C
      go_wp2_with fail
      go_ret
      exact ⟨rfl, F0.out⟩
    | some k =>
      have e0 : srQ l o = 0 := if_neg (fun q => by rw [e] at q; cases q.2)
      rw [e0, if_pos rfl]
      rw [e] at C
      simp only [Option.map_some, oi] at C
      generalize (usd (l.take k)).length = j at *
      have n1 : ((j : Int) == -1) = false := beq_eq_false_iff_ne.2 (by omega)
      clear e0 h0 e HN
      go_enter Try.func70, Try.ntmps70
      go_wp2_with fail
      refine (C.out).mono ?_; rintro e w1 ⟨rfl, b1⟩
      have F0 := Lib.hid (FIN.out w1 b1)
      have d2 := c2 w1 b1
      have g2 := f2 w1 b1
      clear b1 FIN C c2 f2
      go_wp2_with fail
      go_ret
      exact ⟨rfl, F0.out⟩
end Go.Proofs.Ytkpefnjohdjejaa
