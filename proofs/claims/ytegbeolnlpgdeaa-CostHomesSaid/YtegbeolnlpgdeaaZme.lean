/- texts written together: Kpd Spx -/
import Derived.Test.YtegbeolnlpgdeaaZmb
import Derived.Deep.WholeRow
import Derived.Test.YtegbeolnlpgdeaaZmc
import Derived.Laws.CopyOwn

/-
  What is done to an image (the statement's Do), by value, in a variable, in a slice: how it came in, how it reads; whether it can be gone through.
-/
namespace Go.Proofs.Ytegbeolnlpgdeaa
set_option maxRecDepth 100000
open Go.ChangeShapes Go.WideShapes Go.ChangeAt Go.RowKit

structure Dx where
  d : Int
  nn : Int
  k : Int
  o : Int
  v : Value
  bl : List Int
instance : Inhabited Dx := ⟨⟨0, 0, 0, 0, .slice none 0 0, []⟩⟩
def Dx.cells (x : Dx) : List Value := [.int .i64 x.d, .int .i64 x.nn, .int .i64 x.k, .int .i64 x.o, x.v]
def dc (x : Dx) : Array Value := x.cells.toArray
structure Dx.Wf (W : World) (x : Dx) : Prop where
  wd : (Lit.int .i64 x.d).wf = true
  wn : (Lit.int .i64 x.nn).wf = true
  wk : (Lit.int .i64 x.k).wf = true
  wo : (Lit.int .i64 x.o).wf = true
  one : x.v.oneCell' = true
  rv : RA byE W x.v x.bl

theorem cells_do : Try.prog.cellsOf 41 = 5 := by kernel_rfl
theorem cells_int_d : Try.prog.cellsOf 3 = 1 := by kernel_rfl
theorem cells_bs_d : Try.prog.cellsOf 22 = 1 := by kernel_rfl
theorem info_do : (Try.prog.info? 41).map (·.size) = some 5 := by kernel_rfl
theorem trod_five {H : Type} {enc : TypeId × Value → H} {P : Program} {w : World} {base : Nat} {spare : Nat → Bool} {held : Bool} {t : TypeId} {f0 f1 f2 f3 f4 : Field} {fuel : Nat} {cs : List Value} {x : DataW H × List MemPlace}
    (ht : P.underlying t = some (.struct #[f0, f1, f2, f3, f4])) (h : DataW.trod enc P w base spare held fuel t cs = some x) :
    ∃ y0 y1 y2 y3 y4 n, cs.length = P.cellsOf t ∧ DataW.trod enc P w base spare held n f0.type ((cs.drop f0.offset).take (P.cellsOf f0.type)) = some y0 ∧
      DataW.trod enc P w base spare held n f1.type ((cs.drop f1.offset).take (P.cellsOf f1.type)) = some y1 ∧ DataW.trod enc P w base spare held n f2.type ((cs.drop f2.offset).take (P.cellsOf f2.type)) = some y2 ∧
      DataW.trod enc P w base spare held n f3.type ((cs.drop f3.offset).take (P.cellsOf f3.type)) = some y3 ∧ DataW.trod enc P w base spare held n f4.type ((cs.drop f4.offset).take (P.cellsOf f4.type)) = some y4 := by
  obtain ⟨xs, n, _, rfl, hl, hlen, hf⟩ := DataW.trod_struct ht h
  match xs, hlen with
  | [y0, y1, y2, y3, y4], _ => exact ⟨y0, y1, y2, y3, y4, n, hl, by simpa using hf 0 f0 rfl, by simpa using hf 1 f1 rfl, by simpa using hf 2 f2 rfl, by simpa using hf 3 f3 rfl, by simpa using hf 4 f4 rfl⟩
theorem byte_el {H : Type} {enc : TypeId × Value → H} {W : World} {base n : Nat} {sp : Nat → Bool} {held : Bool} {c : List Value} {y : DataW H × List MemPlace} (hy : DataW.trod enc Try.prog W base sp held n 5 c = some y) : ∃ a, c = byE.enc a ∧ byE.ok a := by
  obtain ⟨i, e0, _, w0⟩ := DataW.trod_int Try.underlying5 hy
  refine ⟨i, e0, ?_⟩
  have : 0 ≤ i ∧ i ≤ 255 := by simpa [Lit.wf, IntKind.min, IntKind.max, IntKind.signed, IntKind.bits] using w0
  show By i
  unfold By; omega
theorem do_cells {H : Type} {enc : TypeId × Value → H} {W : World} {n : Nat} {sp : Nat → Bool} {held : Bool} {cs : List Value} {y : DataW H × List MemPlace}
    (h : DataW.trod enc Try.prog W 0 sp held n 41 cs = some y) : ∃ c : Dx, cs = c.cells ∧ c.Wf W := by
  obtain ⟨y0, y1, y2, y3, y4, k, hl, g0, g1, g2, g3, g4⟩ := trod_five Try.underlying41 h
  rw [cells_do] at hl
  dsimp only at g0 g1 g2 g3 g4
  rw [cells_int_d] at g0 g1 g2 g3
  rw [cells_bs_d] at g4
  obtain ⟨d, e0, _, w0⟩ := DataW.trod_int Try.underlying3 g0
  obtain ⟨i, e1, _, w1⟩ := DataW.trod_int Try.underlying3 g1
  obtain ⟨m, e2, _, w2⟩ := DataW.trod_int Try.underlying3 g2
  obtain ⟨o, e3, _, w3⟩ := DataW.trod_int Try.underlying3 g3
  obtain ⟨u, l, e4, hr⟩ := elems_in byE g4 (fun _ _ _ hy _ => byte_el hy)
  obtain ⟨q, c, eu, _⟩ := ra_shape hr
  refine ⟨⟨d, i, m, o, u, l⟩, ?_, ⟨w0, w1, w2, w3, by rw [eu]; rfl, hr⟩⟩
  match cs, hl with
  | [c0, c1, c2, c3, c4], _ =>
    simp at e0 e1 e2 e3 e4
    simp [Dx.cells, e0, e1, e2, e3, e4]
/-- slices of them -/
def doE (W : World) : Elm Try.prog Dx where
  t := 36
  e := 41
  size := 5
  bytes := 56
  z := .agg #[.int .i64 0, .int .i64 0, .int .i64 0, .int .i64 0, .slice none 0 0]
  enc := Dx.cells
  ok := Dx.Wf W
  ht := Try.underlying36
  hi := by kernel_rfl
  hzs := rfl
  pos := by decide
  bpos := by decide
  len := fun _ _ => rfl
  one := fun a ha u hu => by
    simp only [Dx.cells, List.mem_cons, List.not_mem_nil, or_false] at hu
    rcases hu with rfl | rfl | rfl | rfl | rfl
    · rfl
    · rfl
    · rfl
    · rfl
    · exact ha.one
theorem dos_in {H : Type} {enc : TypeId × Value → H} {W : World} {base : Nat} {v : Value} {d : DataW H} {p : List MemPlace}
    (hval : Value.okWide Try.prog W .any base 36 v) (h : DataW.Trod enc Try.prog W 0 (fun _ => true) true 36 v d p) : ∃ l : List Dx, RA (doE W) W v l := by
  obtain ⟨va, vl, vc, rfl⟩ := okWide_slice Try.underlying36 hval
  obtain ⟨fuel, hf⟩ := h
  obtain ⟨u, l, e, hr⟩ := elems_in (doE W) hf (fun _ _ _ hy _ => do_cells hy)
  have e' : Value.slice va vl vc = u := by simpa [Value.cells] using e
  exact ⟨l, by rw [e']; exact hr⟩

@[go_sem] theorem dc_ne (x : Dx) : (dc x = #[]) = False := by simp [dc, Dx.cells]
theorem dc_size (x : Dx) : (dc x).size = 5 := rfl
/-- block g holds it -/
def Dv (w : World) (g : Nat) (x : Dx) : Prop := Whole w g 41 (dc x)
section
variable {w w' : World} {g : Nat} {x : Dx}
theorem Dv.lt (h : Dv w g x) : g < w.heap.size := Whole.lt h
theorem Dv.below (h : Dv w g x) (hb : Below w.heap.size w w') : Dv w' g x := (hb.block g (Whole.lt h)).trans h
theorem Dv.of_heap (h : Dv w g x) (hb : w'.heap[g]? = w.heap[g]?) : Dv w' g x := hb.trans h
theorem Dv.new (w : World) (x : Dx) : Dv (w.alloc (.cells (dc x) 41)) w.heap.size x := heap_alloc_new w _
theorem Dv.c0 (h : Dv w g x) : w.cell? ⟨g, 0, none⟩ = some (.int .i64 x.d) := Whole.at_ h 0
theorem Dv.c1 (h : Dv w g x) : w.cell? ⟨g, 1, none⟩ = some (.int .i64 x.nn) := Whole.at_ h 1
theorem Dv.c2 (h : Dv w g x) : w.cell? ⟨g, 2, none⟩ = some (.int .i64 x.k) := Whole.at_ h 2
theorem Dv.c3 (h : Dv w g x) : w.cell? ⟨g, 3, none⟩ = some (.int .i64 x.o) := Whole.at_ h 3
theorem Dv.c4 (h : Dv w g x) : w.cell? ⟨g, 4, none⟩ = some x.v := Whole.at_ h 4
end
def doLoad (p : Value) : Sem Value := Instr.loadAt 41 p
def doStore (p v : Value) : Sem Unit := Instr.storeAt 41 p v
@[go_sem ↓] theorem loadAt_do (p : Value) : Instr.loadAt 41 p = doLoad p := rfl
@[go_sem ↓] theorem storeAt_do (p v : Value) : Instr.storeAt 41 p v = doStore p v := rfl
theorem run_doLoad {w : World} {b o : Nat} {c : Dx} (h : w.rangeAt b o c.cells) : (doLoad (.pointer (some ⟨b, o, none⟩))).run Try.prog w = .ok (.agg (dc c)) w :=
  run_loadAt_mid (P := Try.prog) w b o 41 c.cells _ h Try.underlying41 rfl info_do
theorem run_doStore (w : World) {z : Array Value} (hz : z.size = 5) (c : Dx) (h1 : c.v.oneCell' = true) :
    (doStore (.pointer (some ⟨w.heap.size, 0, none⟩)) (.agg (dc c))).run Try.prog (w.alloc (.cells z 41)) = .ok () (w.alloc (.cells (dc c) 41)) := by
  unfold doStore
  simp only [Instr.storeAt, Instr.sureAddr, Sem.run_bind, Sem.run_pure, Result.andThen]
  rw [run_storeVar_row _ _ 41 41 z (dc c) (heap_alloc_new w _) (by rw [info_do, dc_size]) (by rw [hz, dc_size]) (by simp [dc, Dx.cells, Value.oneCell'] ; exact h1), World.setRow_alloc_new]
/-- the k-th of a slice: loaded whole -/
theorem do_at {W w : World} {p : Option Addr} {n cap : Nat} {l : List Dx} (h : RA (doE W) w (.slice p n cap) l) (h0 : 0 < l.length) :
    ∃ b off, p = some ⟨b, off, none⟩ ∧ b < w.heap.size ∧ ∀ k, k < l.length → (doLoad (.pointer (some ⟨b, off + k * 5, none⟩))).run Try.prog w = .ok (.agg (dc (l.getD k default))) w ∧ (l.getD k default).Wf W := by
  obtain ⟨b, off, e, hb, hr⟩ := ra_at h h0
  refine ⟨b, off, e, hb, fun k hk => ?_⟩
  have hk2 := hr k hk
  exact ⟨run_doLoad hk2, (ra_ok h).at_ hk⟩
theorem do_boxed (w : World) (c : Dx) (h1 : c.v.oneCell' = true) : ∃ W, w.alloc (.cells (dc c) 41) = W ∧ (doStore (.pointer (some ⟨w.heap.size, 0, none⟩)) (.agg (dc c))).run Try.prog (w.alloc (.cells #[.int .i64 0, .int .i64 0, .int .i64 0, .int .i64 0, .slice none 0 0] 41)) = .ok () W ∧ Hid (Dv W w.heap.size c ∧ Below w.heap.size w W) :=
  ⟨_, rfl, run_doStore w rfl c h1, Lib.hid ⟨Dv.new w c, bal (Below.refl _ _)⟩⟩

/-- can it be gone through -/
def hvF : Nat → List Dx → Int
  | _, [] => 0
  | k, x :: r => if 100 ≤ k ∨ 500 < x.bl.length then (k : Int) + 1 else hvF (k + 1) r
theorem hvF_zero : ∀ {l : List Dx} {k : Nat}, ¬ 0 < hvF k l → (∀ x ∈ l, x.bl.length ≤ 500) ∧ (l = [] ∨ k + l.length ≤ 100)
  | [], k, _ => ⟨fun x hx => (List.not_mem_nil hx).elim, .inl rfl⟩
  | x :: r, k, h => by
    rw [hvF] at h
    split at h
    · omega
    · rename_i c
      obtain ⟨h1, h2⟩ := hvF_zero h
      refine ⟨fun y hy => ?_, .inr ?_⟩
      · rcases List.mem_cons.1 hy with rfl | hy
        · omega
        · exact h1 y hy
      · rw [List.length_cons]
        rcases h2 with rfl | h2
        · simp; omega
        · omega
theorem do_cut {l : List Dx} {k : Nat} (hk : k < l.length) : l.drop k = l.getD k default :: l.drop (k + 1) := by
  rw [List.getD_eq_getElem?_getD, List.getElem?_eq_getElem hk]; exact List.drop_eq_getElem_cons hk
set_option maxHeartbeats 1000000 in
theorem heavy_is (l : List Dx) (v : Value) (w : World) (hv : RA (doE w) w v l) (R : Int) (hR : hvF 0 l = R) :
    Calls Try.prog 16 #[v] w fun e w' => e = .returned (.int .i64 R) ∧ Below w.heap.size w w' := by
  obtain ⟨p, cap, rfl, hlc, hcm⟩ := ra_shape hv
  unfold maxLen at hcm
  have HL : Hid (l.length ≤ 9223372036854775807) := Lib.hid (by omega)
  have HV := Lib.hid hv
  have HR := Lib.hid hR
  clear hR hcm hlc hv
  go_enter Try.func16, Try.ntmps16
  go_wp2
  go_loopw [7] (fun i wr => ∃ k : Nat, k ≤ l.length ∧ i = .int .i64 k ∧ Hid (hvF k (l.drop k) = R ∧ Below w.heap.size w wr)) (fun i _ => l.length - (intOf i).toNat)
  case atStart => exact ⟨0, Nat.zero_le _, rfl, Lib.hid ⟨HR.out, Below.refl _ _⟩⟩
  case round =>
    obtain ⟨k, hk, rfl, H⟩ := hrel
    by_cases hlt : k < l.length
    · obtain ⟨b, off, rfl, hb, hx⟩ := do_at (ra_below HV.out H.out.2) (by omega)
      obtain ⟨hld, hwf⟩ := hx k hlt
      have hF := H.out.1
      rw [do_cut hlt, hvF] at hF
      generalize l.getD k default = y at *
      obtain ⟨W, hW, hst, HW⟩ := do_boxed wr y hwf.one
      obtain ⟨pv, cv, hpv, _, _⟩ := ra_shape hwf.rv
      have c4 : W.cell? ⟨wr.heap.size, 4, none⟩ = some (.slice pv y.bl.length cv) := by rw [← hpv]; exact HW.out.1.c4
      have HB := Lib.hid (below_more H.out.2 HW.out.2)
      have i0 : (0 : Int) ≤ (k : Int) := by omega
      have i1 : (k : Int) < (l.length : Int) := by omega
      have i2 : ¬ (k : Int) < 0 := by omega
      have i3 : IntKind.i64.wrap ((k : Int) + 1) = ((k + 1 : Nat) : Int) := by rw [show (k : Int) + 1 = ((k + 1 : Nat) : Int) by omega]; exact i64_nat _ (by have := HL.out; omega)
      have HK := Lib.hid hlt
      clear hx hk hb hwf hpv hW
      generalize y.bl.length = M at *
      by_cases h1 : (k : Int) ≥ 100
      · rw [if_pos (.inl (by omega))] at hF
        have e1 : (((k + 1 : Nat) : Int)) = R := by rw [← hF]; omega
        rw [e1] at i3
        clear hF e1
        go_wp2
        go_ret
        exact ⟨rfl, HB.out⟩
      · by_cases h2 : (M : Int) > 500
        · rw [if_pos (.inr (by omega))] at hF
          have e1 : (((k + 1 : Nat) : Int)) = R := by rw [← hF]; omega
          rw [e1] at i3
          clear hF e1
          go_wp2
          go_ret
          exact ⟨rfl, HB.out⟩
        · rw [if_neg (by omega)] at hF
          have HF := Lib.hid hF
          clear hF
          go_wp2
          go_roundw
          case rel => exact ⟨k + 1, by have := HK.out; omega, by go_num, Lib.hid ⟨HF.out, HB.out⟩⟩
          case measure => have := HK.out; simp [intOf]; omega
    · obtain rfl : k = l.length := by omega
      have hF := H.out.1
      rw [List.drop_length, hvF] at hF
      subst hF
      go_wp2
      go_ret
      exact ⟨rfl, H.out.2⟩
end Go.Proofs.Ytegbeolnlpgdeaa

/-
  Contracts of package span's Apply, and of the reference's at no words.
-/
namespace Go.Proofs.Ytegbeolnlpgdeaa
set_option maxRecDepth 100000
open Go.RowKit

theorem made_words (n : Nat) : (madeCells #[.int .u64 0] n).toList = List.replicate n (.int .u64 0) := by rw [toList_madeCells_one]
theorem size_u64s : (Try.prog.info? 34).map (·.size) = some 1 := by kernel_rfl
theorem appF_nil : ∀ es : List Ed, appF [] es = []
  | [] => rfl
  | e :: r => by rw [appF, if_neg (by simp only [List.length_nil]; omega), appF_nil r]
set_option maxHeartbeats 1000000 in
theorem rapply_nil (es : List Ed) (v u : Value) (w : World) (hv : RU w v []) (hu : RA edE w u es) (hel : es.length ≤ 4000) :
    Calls Try.prog 22 #[v, u] w fun e w' => (∃ x, e = .returned x ∧ OwnU w.heap.size w' x []) ∧ Below w.heap.size w w' := by
  obtain ⟨p, c, rfl, _, _⟩ := ra_shape hu
  obtain ⟨p2, c2, rfl, _, _, _⟩ := id hv
  have HE := Lib.hid (fun (w' : World) (hb : Below w.heap.size w w') => ra_below hu hb)
  have HV := Lib.hid hv
  have HL := Lib.hid hel
  clear hu hv hel
  go_enter Try.func22, Try.ntmps22
  go_wp2_with (at_builtin; refine list_app_u64 rfl _ _ rfl w.heap.size (.slice none 0 0) [] rfl (own_nil_u _ _) _ [] rfl HV.out (by simp) (Nat.le_refl _) ?_)
  intro v' w1 ho hg _
  have hb1 := below_app_u (Below.refl _ _) (Nat.le_refl _) (own_nil_u w.heap.size w) hg
  have ho : OwnU w.heap.size w1 v' [] := ho
  obtain ⟨q, d, e⟩ := ho.shape
  subst e
  have O1 := Lib.hid ho
  have D1 := Lib.hid hb1
  clear ho hg hb1
  go_wp2
  go_loopw [7, 12] (fun x i wr => ∃ k : Nat, k ≤ es.length ∧ i = .int .i64 k ∧ Hid (OwnU w.heap.size wr (.slice q 0 d) [] ∧ Below w.heap.size w wr)) (fun _ i _ => es.length - (intOf i).toNat)
  case atStart => exact ⟨0, Nat.zero_le _, rfl, Lib.hid ⟨O1.out, D1.out⟩⟩
  case round =>
    obtain ⟨k, hk, rfl, H⟩ := hrel
    by_cases hlt : k < es.length
    · obtain ⟨b, off, rfl, hb, hx⟩ := ed_at (HE.out _ H.out.2) (by omega)
      obtain ⟨hld, _, _, _⟩ := hx k hlt
      generalize es.getD k default = y at *
      obtain ⟨a, x⟩ := y
      obtain ⟨W, hW, HW⟩ := ed_boxed wr ⟨a, x⟩
      have c0 : W.cell? ⟨wr.heap.size, 0, none⟩ = some (.int .i64 a) := HW.out.1.c0
      have HN := Lib.hid (And.intro (H.out.1.below HW.out.2) (below_more H.out.2 HW.out.2))
      have i0 : (0 : Int) ≤ (k : Int) := by omega
      have i1 : (k : Int) < (es.length : Int) := by omega
      have i2 : ¬ (k : Int) < 0 := by omega
      have i3 : IntKind.i64.wrap ((k : Int) + 1) = ((k + 1 : Nat) : Int) := by rw [show (k : Int) + 1 = ((k + 1 : Nat) : Int) by omega]; exact i64_nat _ (by have := HL.out; omega)
      have HK := Lib.hid hlt
      clear hx hb hk hlt
      by_cases h1 : 0 ≤ a
      · have h2 : ¬ a < 0 := by omega
        go_wp2
        go_roundw
        case rel => exact ⟨k + 1, by have := HK.out; omega, by go_num, HN⟩
        case measure => have := HK.out; simp [intOf]; omega
      · go_wp2
        go_roundw
        case rel => exact ⟨k + 1, by have := HK.out; omega, by go_num, HN⟩
        case measure => have := HK.out; simp [intOf]; omega
    · obtain rfl : k = es.length := by omega
      go_wp2
      go_ret
      exact ⟨⟨_, rfl, H.out.1⟩, H.out.2⟩
theorem rapply_any (l : List Int) (es : List Ed) (v u : Value) (w : World) (hv : RU w v l) (hu : RA edE w u es) (hl : l.length ≤ 1000) (hel : es.length ≤ 4000) :
    Calls Try.prog 22 #[v, u] w fun e w' => (∃ x, e = .returned x ∧ OwnU w.heap.size w' x (appF l es)) ∧ Below w.heap.size w w' := by
  by_cases h0 : 0 < l.length
  · exact rapply_is l es v u w hv hu h0 hl hel
  · obtain rfl : l = [] := List.eq_nil_of_length_eq_zero (by omega)
    rw [appF_nil]
    exact rapply_nil es v u w hv hu hel
end Go.Proofs.Ytegbeolnlpgdeaa
