/-
  Bytes as elements of slices, and what a conversion to a string makes of them.
-/
import Derived.Test.YtdnijdbhdlengaaByp
import Derived.Test.YtdnijdbhdlengaaElm
import Derived.Laws.BytesArg
import Derived.Lib.Tables
namespace Go.Proofs.Ytdnijdbhdlengaa
set_option maxRecDepth 100000
open Go.ChangeShapes Go.WideShapes Go.ChangeAt Go.RowKit

/-- slices of bytes -/
def byE : Elm Try.prog Int where
  t := 22
  e := 5
  size := 1
  bytes := 1
  z := .int .u8 0
  enc := fun x => [.int .u8 x]
  ok := By
  ht := Try.underlying22
  hi := by kernel_rfl
  hzs := rfl
  pos := by decide
  bpos := by decide
  len := fun _ _ => rfl
  one := fun a _ u hu => by rw [List.mem_singleton.1 hu]; rfl
theorem cells_u8 : Try.prog.cellsOf 5 = 1 := by kernel_rfl
theorem bytes_in {H : Type} {enc : TypeId × Value → H} {W : World} {base : Nat} {v : Value} {d : DataW H} {p : List MemPlace}
    (hval : Value.okWide Try.prog W .any base 22 v) (h : DataW.Trod enc Try.prog W 0 (fun _ => true) true 22 v d p) : ∃ l : List Int, RA byE W v l := by
  obtain ⟨va, vl, vc, rfl⟩ := okWide_slice Try.underlying22 hval
  obtain ⟨fuel, hf⟩ := h
  obtain ⟨u, l, e, hr⟩ := elems_in byE hf (fun n c y hy hl => by
    obtain ⟨i, e0, _, w0⟩ := DataW.trod_int Try.underlying5 hy
    refine ⟨i, e0, ?_⟩
    have : 0 ≤ i ∧ i ≤ 255 := by simpa [Lit.wf, IntKind.min, IntKind.max, IntKind.signed, IntKind.bits] using w0
    show By i
    unfold By; omega)
  have e' : Value.slice va vl vc = u := by simpa [Value.cells] using e
  exact ⟨l, by rw [e']; exact hr⟩
/-- its k-th -/
theorem byte_at {w : World} {p : Option Addr} {n cap : Nat} {l : List Int} (h : RA byE w (.slice p n cap) l) (h0 : 0 < l.length) :
    ∃ b off, p = some ⟨b, off, none⟩ ∧ b < w.heap.size ∧ ∀ k, k < l.length → w.cell? ⟨b, off + k, none⟩ = some (.int .u8 (l.getD k 0)) ∧ By (l.getD k 0) := by
  obtain ⟨b, off, e, hb, hr⟩ := ra_at h h0
  refine ⟨b, off, e, hb, fun k hk => ?_⟩
  have := hr k hk 0 _ rfl
  exact ⟨by simpa [byE] using this, (ra_ok h).at_ hk⟩
/-- made into a string -/
def strConv (v : Value) : Sem Value := convert 22 9 v
@[go_sem ↓] theorem convert_str (v : Value) : convert 22 9 v = strConv v := rfl
theorem run_strConv {w : World} {v : Value} {l : List Int} (h : RA byE w v l) : (strConv v).run Try.prog w = .ok (.string (strOfNums l)) w := by
  obtain ⟨p, cap, rfl, h1, h2, hok, rfl | ⟨b, off, rfl, hb, hr⟩⟩ := h
  · cases p with
    | none =>
      have := run_convert_bytes_nil (P := Try.prog) w 22 5 Try.underlying22 Try.underlying5 0 cap 9 Try.underlying9
      unfold strConv
      rw [List.length_nil, this]; rfl
    | some a =>
      obtain ⟨b, off, s⟩ := a
      unfold strConv
      rw [run_convert_bytes_string w 22 9 5 _ _ cap Try.underlying22 Try.underlying5 Try.underlying9, List.length_nil, run_bytesToString w _ 0 cap [] (by simpa using run_loadCells_list (P := Try.prog) w ⟨b, off, s⟩ [] (fun j v hj => by simp at hj))]
      rfl
  · unfold strConv
    refine run_convert_bytes_arg (P := Try.prog) w 22 5 Try.underlying22 Try.underlying5 b off l.length cap l rfl (fun i hi => ?_) 9 Try.underlying9
    have h' : RA byE w (.slice (some ⟨b, off, none⟩) l.length cap) l := ⟨_, cap, rfl, h1, h2, hok, .inr ⟨b, off, rfl, hb, hr⟩⟩
    obtain ⟨_, _, e, _, hx⟩ := byte_at h' (by omega)
    cases e
    exact (hx i hi).1
theorem built_by1 (w : World) (c : Int) : (Instr.buildSlice 22 1 #[(0, .int .u8 c)]).run Try.prog w = .ok (.slice (some ⟨w.heap.size, 0, none⟩) 1 1) (w.alloc (.cells #[.int .u8 c] 5)) := by
  simp [Instr.buildSlice, run_underlying Try.underlying22, Instr.fill, go_sem]
theorem built_by0 (w : World) : (Instr.buildSlice 22 0 #[]).run Try.prog w = .ok (.slice (some ⟨w.heap.size, 0, none⟩) 0 0) (w.alloc (.cells #[] 5)) := by
  simp [Instr.buildSlice, run_underlying Try.underlying22, Instr.fill, go_sem]
theorem built_by4 (w : World) (a b c d : Int) : (Instr.buildSlice 22 4 #[(0, .int .u8 a), (1, .int .u8 b), (2, .int .u8 c), (3, .int .u8 d)]).run Try.prog w = .ok (.slice (some ⟨w.heap.size, 0, none⟩) 4 4) (w.alloc (.cells #[.int .u8 a, .int .u8 b, .int .u8 c, .int .u8 d] 5)) := by
  simp [Instr.buildSlice, run_underlying Try.underlying22, Instr.fill, go_sem]
theorem built_by15 (w : World) (a b c d e f g h i j k l m n o : Int) : (Instr.buildSlice 22 15 #[(0, .int .u8 a), (1, .int .u8 b), (2, .int .u8 c), (3, .int .u8 d), (4, .int .u8 e), (5, .int .u8 f), (6, .int .u8 g), (7, .int .u8 h), (8, .int .u8 i), (9, .int .u8 j), (10, .int .u8 k), (11, .int .u8 l), (12, .int .u8 m), (13, .int .u8 n), (14, .int .u8 o)]).run Try.prog w = .ok (.slice (some ⟨w.heap.size, 0, none⟩) 15 15) (w.alloc (.cells #[.int .u8 a, .int .u8 b, .int .u8 c, .int .u8 d, .int .u8 e, .int .u8 f, .int .u8 g, .int .u8 h, .int .u8 i, .int .u8 j, .int .u8 k, .int .u8 l, .int .u8 m, .int .u8 n, .int .u8 o] 5)) := by
  simp [Instr.buildSlice, run_underlying Try.underlying22, Instr.fill, go_sem]
def bySlice (n : Nat) (ps : Array (Nat × Value)) : Sem Value := Instr.buildSlice 22 n ps
@[go_sem ↓] theorem slice_by (n : Nat) (ps : Array (Nat × Value)) : Instr.buildSlice 22 n ps = bySlice n ps := rfl
@[go_sem] theorem run_bySlice1 (w : World) (c : Int) : (bySlice 1 #[(0, .int .u8 c)]).run Try.prog w = .ok (.slice (some ⟨w.heap.size, 0, none⟩) 1 1) (w.alloc (.cells #[.int .u8 c] 5)) := built_by1 w c
theorem by_one (w : World) {c : Int} (h : By c) : OwnA byE w.heap.size (w.alloc (.cells #[.int .u8 c] 5)) (.slice (some ⟨w.heap.size, 0, none⟩) 1 1) [c] := by
  have := own_lit_a byE w (l := [c]) (fun x hx => by rw [List.mem_singleton.1 hx]; exact h) (by unfold maxLen; simp)
  simpa [byE] using this
section
variable {ops : Array Oper} {rest : List Oper} {o : Oper} {a : Act} {w : World} {Q : Exit → Act → World → Prop} {K : Act → World → Prop}
theorem app_by (hgd : o.guard = none) (s x : Operand) (ho : o.op = .call { callee := .builtin .append, args := #[s, x], argTypes := #[22, 22] }) (B : Nat) (v : Value) (l : List Int) (hs : a.eval s = v) (hown : OwnA byE B w v l)
    (u : Value) (r : List Int) (hx : a.eval x = u) (hr : RA byE w u r) (hlen : Hid (l.length + r.length ≤ 4000)) (hB : B ≤ w.heap.size)
    (h : ∀ v' w', OwnA byE B w' v' (l ++ r) → w.grownBy w' v.ownBlock → (v'.ownBlock = v.ownBlock ∨ v'.ownBlock = some w.heap.size) → wpList Try.prog ops Q rest (a.put o.dst v') w') : wpList Try.prog ops Q (o :: rest) a w :=
  list_app byE hgd s x ho B v l hs hown u r hx hr (by have := hlen.out; show _ * 1 ≤ _; omega) hB h
end
/-- strings of bytes that are alike -/
theorem ofNat_inj {x y : Int} (hx : By x) (hy : By y) (h : UInt8.ofNat x.toNat = UInt8.ofNat y.toNat) : x = y := by
  obtain ⟨x0, x1⟩ := hx
  obtain ⟨y0, y1⟩ := hy
  have := congrArg UInt8.toNat h
  rw [UInt8.toNat_ofNat', UInt8.toNat_ofNat'] at this
  omega
theorem map_inj_by : ∀ {l m : List Int}, (∀ x ∈ l, By x) → (∀ x ∈ m, By x) → (l.map fun n => UInt8.ofNat n.toNat) = (m.map fun n => UInt8.ofNat n.toNat) → l = m
  | [], [], _, _, _ => rfl
  | [], _ :: _, _, _, h => by simp at h
  | _ :: _, [], _, _, h => by simp at h
  | x :: l, y :: m, hl, hm, h => by
    rw [List.map_cons, List.map_cons, List.cons.injEq] at h
    rw [ofNat_inj (hl x (List.mem_cons_self ..)) (hm y (List.mem_cons_self ..)) h.1, map_inj_by (fun z hz => hl z (List.mem_cons_of_mem _ hz)) (fun z hz => hm z (List.mem_cons_of_mem _ hz)) h.2]
theorem strOf_inj {l m : List Int} (hl : ∀ x ∈ l, By x) (hm : ∀ x ∈ m, By x) (h : (strOfNums l).toList = (strOfNums m).toList) : l = m := by
  unfold strOfNums at h
  rw [ByteArray.toList_mk, ByteArray.toList_mk] at h
  exact map_inj_by hl hm h
end Go.Proofs.Ytdnijdbhdlengaa
