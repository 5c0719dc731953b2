/- texts written together: Kpm Kph Spx -/
import Derived.Test.YtkpefnjohdjejaaZmb
import Derived.Test.YtkpefnjohdjejaaZma
import Derived.Maps.RangeWalk
import Derived.Test.YtkpefnjohdjejaaZmc
import Derived.Laws.CopyOwn

/-
  The map of strings that the statement keeps: what is looked up in it, what it is behind a store, behind a deletion; what else stays.
-/
namespace Go.Proofs.Ytkpefnjohdjejaa
set_option maxRecDepth 100000
open Go.ChangeShapes Go.WideShapes Go.ChangeAt Go.RowKit

def str8 (L : List Int) : List UInt8 := L.map fun n => UInt8.ofNat n.toNat
theorem str_ext {s : ByteArray} {L : List Int} (h : s.data.toList = str8 L) : s = strOfNums L := by
  apply ByteArray.ext
  rw [← Array.toArray_toList (xs := s.data), h]
  rfl
theorem str_take (L : List Int) (n : Nat) : (strOfNums L).extract 0 n = strOfNums (L.take n) := by
  unfold strOfNums
  rw [ByteArray.extract_mk, List.drop_zero, Nat.sub_zero, List.map_take]
theorem str_drop (L : List Int) (n : Nat) : (strOfNums L).extract n (strOfNums L).size = strOfNums (L.drop n) := by
  rw [strOfNums_size]
  unfold strOfNums
  rw [ByteArray.extract_mk, List.take_of_length_le (by simp), List.map_drop]
theorem str_app (A B : List Int) : strOfNums A ++ strOfNums B = strOfNums (A ++ B) := by
  unfold strOfNums
  rw [ByteArray.mk_append_mk, List.map_append]

/-- how what is kept reads -/
def bsR : Value → Option (DataW Unit × List MemPlace)
  | .agg cs => match cs.toList with
    | [.string s] => some (.lit (.string s.data.toList), [])
    | _ => none
  | _ => none
theorem bsR_mk (s : ByteArray) : bsR (.agg #[.string s]) = some (.lit (.string s.data.toList), []) := rfl
theorem bsR_inv {v : Value} {z : DataW Unit × List MemPlace} (h : bsR v = some z) : ∃ s, v = .agg #[.string s] ∧ z = (.lit (.string s.data.toList), []) := by
  unfold bsR at h
  split at h
  · rename_i cs
    split at h
    · rename_i s e
      cases h
      refine ⟨s, ?_, rfl⟩
      rw [← Array.toArray_toList (xs := cs), e]
    · cases h
  · cases h
theorem key_law : Maps.Keyed Try.prog 3 := Maps.int_keyed Try.underlying3

/-- block b is a map that keeps S -/
structure HM (w : World) (b n : Nat) (S : Int → Option (List Int)) : Prop where
  ex : ∃ D : DataW Unit, w.ownsMap Try.prog 3 bsR b n D ∧ (∀ x, Maps.has D (.int .i64 x) = (S x).isSome) ∧ ∀ x L, S x = some L → ∀ z, D.atKey (.int .i64 x) z = .lit (.string (str8 L))
def updS (S : Int → Option (List Int)) (x : Int) (o : Option (List Int)) : Int → Option (List Int) := fun y => if y = x then o else S y
theorem updS_self (S : Int → Option (List Int)) (x : Int) (o : Option (List Int)) : updS S x o x = o := if_pos rfl
theorem updS_other (S : Int → Option (List Int)) {x y : Int} (o : Option (List Int)) (h : y ≠ x) : updS S x o y = S y := if_neg h

section
variable {w w' : World} {b n : Nat} {S : Int → Option (List Int)}
theorem HM.made (w : World) : HM (w.alloc (.map #[] 0)) w.heap.size 0 (fun _ => none) :=
  ⟨.map [], World.ownsMap_made _ _ _ _, fun _ => rfl, fun _ _ h => by cases h⟩
theorem HM.lt (h : HM w b n S) : b < w.heap.size := by
  obtain ⟨D, ho, _⟩ := h.ex
  exact ho.lt
theorem HM.of_heap (h : HM w b n S) (he : w'.heap[b]? = w.heap[b]?) : HM w' b n S := by
  obtain ⟨D, ⟨es, clock, hb, r⟩, h2⟩ := h.ex
  exact ⟨D, ⟨es, clock, he.trans hb, r⟩, h2⟩
theorem HM.below (h : HM w b n S) (hb : Below w.heap.size w w') : HM w' b n S := h.of_heap (hb.block b h.lt)
theorem HM.grown {row : Option Nat} (h : HM w b n S) (hg : w.grownBy w' row) (hne : some b ≠ row) : HM w' b n S := h.of_heap (hg.block b h.lt hne)
theorem HM.no_cell (h : HM w b n S) {p : Addr} (hp : p.block = b) : w.cell? p = none := by
  obtain ⟨D, ⟨es, clock, hb, _⟩, _⟩ := h.ex
  subst hp
  simp [World.cell?, hb]
theorem HM.put {D : DataW Unit} {x : Int} {L : List Int} (ho : w.ownsMap Try.prog 3 bsR b n D) (h1 : ∀ x, Maps.has D (.int .i64 x) = (S x).isSome) (h2 : ∀ x L, S x = some L → ∀ z, D.atKey (.int .i64 x) z = .lit (.string (str8 L)))
    (ho' : w'.ownsMap Try.prog 3 bsR b (n + 1) (D.put (.int .i64 x) (.lit (.string (strOfNums L).data.toList)))) : HM w' b (n + 1) (updS S x (some L)) := by
  have hm := ho.isMap
  refine ⟨_, ho', fun y => ?_, fun y M hy z => ?_⟩
  · by_cases e : y = x
    · subst e
      rw [updS_self]
      exact Maps.has_put_same hm (show WideAt.IsKeyLit (.int .i64 y) from trivial) _
    · rw [updS_other _ _ e, ← h1 y]
      exact Maps.has_put_other (fun q => e (by injection q)) _
  · by_cases e : y = x
    · subst e
      rw [updS_self] at hy
      cases hy
      rw [Maps.atKey_put_same hm (show WideAt.IsKeyLit (.int .i64 y) from trivial)]
      rfl
    · rw [updS_other _ _ e] at hy
      rw [Maps.atKey_put_other (fun q => e (by injection q)), h2 y M hy]
theorem HM.del {D : DataW Unit} {x : Int} (h1 : ∀ x, Maps.has D (.int .i64 x) = (S x).isSome) (h2 : ∀ x L, S x = some L → ∀ z, D.atKey (.int .i64 x) z = .lit (.string (str8 L)))
    (ho' : w'.ownsMap Try.prog 3 bsR b n (D.del (.int .i64 x))) : HM w' b n (updS S x none) := by
  refine ⟨_, ho', fun y => ?_, fun y M hy z => ?_⟩
  · by_cases e : y = x
    · subst e
      rw [updS_self]
      exact Maps.has_del_same
    · rw [updS_other _ _ e, ← h1 y]
      exact Maps.has_del_other (fun q => e (by injection q))
  · by_cases e : y = x
    · subst e
      rw [updS_self] at hy
      cases hy
    · rw [updS_other _ _ e] at hy
      rw [Maps.atKey_del_other (fun q => e (by injection q)), h2 y M hy]
end

/-- all cells stay where a block without cells alone is turned -/
theorem cells_stay {w w' : World} {b : Nat} (hg : w.grownBy w' (some b)) (h : ∀ p : Addr, p.block = b → w.cell? p = none) (h' : ∀ p : Addr, p.block = b → w'.cell? p = none) : ∀ p : Addr, p.block < w.heap.size → w'.cell? p = w.cell? p := fun p hp => by
  by_cases e : p.block = b
  · rw [h p e, h' p e]
  · exact World.cell?_of_block (hg.block p.block hp (fun q => e (by injection q)))
theorem ra_stay {P : Program} {α : Type} [Inhabited α] {E : Elm P α} {w w' : World} {v : Value} {l : List α} (h : RA E w v l) (hs : w.heap.size ≤ w'.heap.size) (hc : ∀ p : Addr, p.block < w.heap.size → w'.cell? p = w.cell? p) : RA E w' v l := by
  obtain ⟨p, cap, rfl, h1, h2, h3, h | ⟨b, off, rfl, hlt, hr⟩⟩ := h
  · exact ⟨p, cap, rfl, h1, h2, h3, .inl h⟩
  · exact ⟨_, cap, rfl, h1, h2, h3, .inr ⟨b, off, rfl, Nat.lt_of_lt_of_le hlt hs, fun j u hj => (hc ⟨b, off + j, none⟩ hlt).trans (hr j u hj)⟩⟩

/-- the loop over it -/
structure RG (w : World) (b r n : Nat) (S : Int → Option (List Int)) : Prop where
  ex : ∃ (D : DataW Unit) (left : Lit → Bool) (cnt : Nat), w.ranges Try.prog 3 bsR b r n D left cnt ∧ (∀ x, Maps.has D (.int .i64 x) = (S x).isSome) ∧ ∀ x L, S x = some L → ∀ z, D.atKey (.int .i64 x) z = .lit (.string (str8 L))
theorem ranges_of {w w' : World} {b r n cnt : Nat} {D : DataW Unit} {left : Lit → Bool} (h : w.ranges Try.prog 3 bsR b r n D left cnt) (hb : w'.heap[b]? = w.heap[b]?) (hr : w'.heap[r]? = w.heap[r]?) : w'.ranges Try.prog 3 bsR b r n D left cnt := by
  obtain ⟨es, clock, since, seen, c0, h1, h2, h3, h4, h5, h6⟩ := h
  exact ⟨es, clock, since, seen, c0, hb.trans h1, h2, h3, h4, hr.trans h5, h6⟩
theorem ranges_no_cell {w : World} {b r n cnt : Nat} {D : DataW Unit} {left : Lit → Bool} (h : w.ranges Try.prog 3 bsR b r n D left cnt) {p : Addr} (hp : p.block = r) : w.cell? p = none := by
  obtain ⟨es, clock, since, seen, c0, _, _, _, _, h5, _⟩ := h
  subst hp
  simp [World.cell?, h5]

section
variable {w : World} {ops : Array Oper} {rest : List Oper} {o : Oper} {a : Act} {Q : Exit → Act → World → Prop} {b n r cnt : Nat} {D : DataW Unit} {left : Lit → Bool}
theorem wpList_next_bs (hg : o.guard = none) (it : Operand) (hop : o.op = Op.next it false) (hit : a.eval it = .pointer (some ⟨r, 0, none⟩)) (h : w.ranges Try.prog 3 bsR b r n D left cnt)
    (hDone : cnt = 0 → wpList Try.prog ops Q rest (a.put o.dst (.tuple #[.bool false])) w)
    (hMore : ∀ (x : Int) (s : ByteArray) (w' : World) (cnt' : Nat), (Lit.int .i64 x).wf = true → (∀ zd, D.atKey (.int .i64 x) zd = .lit (.string s.data.toList)) → w'.ranges Try.prog 3 bsR b r n D (fun z => left z && !z.sameKey (.int .i64 x)) cnt' → cnt' < cnt →
      w.grownBy w' (some r) → w'.heap.size = w.heap.size → (Instr.entry (.pointer (some ⟨r, 0, none⟩))).run Try.prog w' = .ok (.tuple #[.int .i64 x, .agg #[.string s]]) w' → wpList Try.prog ops Q rest (a.put o.dst (.tuple #[.bool true, .int .i64 x, .agg #[.string s]])) w') :
    wpList Try.prog ops Q (o :: rest) a w :=
  wpList_next_ranges w hg it hop 3 key_law bsR (Value.int .i64) (fun s => .agg #[.string s]) (fun key kl hkey => by obtain ⟨x, rfl, _⟩ := Maps.keyOf_int_inv Try.underlying3 hkey; exact ⟨x, rfl⟩) (fun v y hv => by obtain ⟨s, rfl, _⟩ := bsR_inv hv; exact ⟨s, rfl⟩)
    b r n D left cnt hit h (fun h0 _ => hDone h0) (fun x s kl y w' cnt' hkey _ hv hat hrg hlt hgr hsz hen => by
      obtain ⟨x', ex, rfl, hwx⟩ := Maps.keyOf_int_inv Try.underlying3 hkey
      obtain rfl : x = x' := by simpa using ex
      obtain ⟨s', es, rfl⟩ := bsR_inv hv
      obtain rfl : s = s' := by simpa using es
      exact hMore x s w' cnt' hwx hat hrg hlt hgr hsz hen)
end
theorem at_is_of {D : DataW Unit} {S : Int → Option (List Int)} {x : Int} {s : ByteArray} (h1 : ∀ x, Maps.has D (.int .i64 x) = (S x).isSome) (h2 : ∀ x L, S x = some L → ∀ z, D.atKey (.int .i64 x) z = .lit (.string (str8 L))) (h : ∀ zd, D.atKey (.int .i64 x) zd = .lit (.string s.data.toList)) : ∃ L, S x = some L ∧ s = strOfNums L := by
  have hh := h1 x
  rw [Maps.has_true_of_atKey h] at hh
  cases hS : S x with
  | none => rw [hS] at hh; cases hh
  | some L =>
    refine ⟨L, rfl, str_ext ?_⟩
    have e := (h2 x L hS (.map [])).symm.trans (h (.map []))
    injection e with e
    injection e with e
    exact e.symm
end Go.Proofs.Ytkpefnjohdjejaa

/-
  What each block holds, plainly: behind a taking, a giving back, a writing it is kept right.
-/
namespace Go.Proofs.Ytkpefnjohdjejaa
set_option maxRecDepth 100000

theorem rdB_get (w : List Int) : ∀ (n o k : Nat), (rdB w o n)[k]? = if k < n then some (bAt_ w (o + k)) else none
  | 0, o, k => by rw [rdB, if_neg (by omega)]; rfl
  | n + 1, o, 0 => by rw [rdB, if_pos (by omega)]; rfl
  | n + 1, o, k + 1 => by
    rw [rdB, List.getElem?_cons_succ, rdB_get w n (o + 1) k]
    by_cases c : k < n
    · rw [if_pos c, if_pos (by omega), show o + 1 + k = o + (k + 1) by omega]
    · rw [if_neg c, if_neg (by omega)]
/-- a block's bytes -/
def byt (wl : List Int) (b : Bk) : List Int := rdB wl (8 * (b.a.toNat + 1)) (8 * (b.s.toNat - 1))
theorem byt_length (wl : List Int) (b : Bk) : (byt wl b).length = 8 * (b.s.toNat - 1) := rdB_length ..
structure Held (wl : List Int) (l : List Bk) (S : Int → Option (List Int)) : Prop where
  has : ∀ b ∈ l, b.u = true → S (offB b.a) = some (byt wl b)
  only : ∀ x L, S x = some L → ∃ b ∈ l, b.u = true ∧ offB b.a = x
theorem Held.start {wl : List Int} {n : Int} : Held wl [⟨0, n, false⟩] (fun _ => none) :=
  ⟨fun b hb hu => (by rw [List.mem_singleton.1 hb] at hu; cases hu), fun _ _ h => by cases h⟩
/-- bytes of words that are the same -/
theorem rdB_same {X V : List Int} {o n : Nat} (h : ∀ p, o ≤ p → p < o + n → bAt_ V p = bAt_ X p) : rdB V o n = rdB X o n := by
  refine List.ext_getElem? fun i => ?_
  rw [rdB_get, rdB_get]
  by_cases c : i < n
  · rw [if_pos c, if_pos c, h _ (by omega) (by omega)]
  · rw [if_neg c, if_neg c]
theorem byt_get (w : List Int) (b : Bk) (k : Nat) : (byt w b)[k]? = if k < 8 * (b.s.toNat - 1) then some (bAt_ w (8 * (b.a.toNat + 1) + k)) else none := rdB_get ..
theorem byt_same {X V : List Int} {b : Bk} (h : ∀ j, b.a.toNat < j → j < b.a.toNat + b.s.toNat → V.getD j 0 = X.getD j 0) : byt V b = byt X b := by
  refine rdB_same fun p h1 h2 => ?_
  unfold bAt_
  rw [h (p / 8) (by omega) (by omega)]
theorem byt_nul {V : List Int} {b : Bk} (h : ∀ j, b.a.toNat < j → j < b.a.toNat + b.s.toNat → V.getD j 0 = 0) : byt V b = List.replicate (8 * (b.s.toNat - 1)) 0 := by
  refine List.ext_getElem? fun i => ?_
  rw [byt_get, List.getElem?_replicate]
  by_cases c : i < 8 * (b.s.toNat - 1)
  · rw [if_pos c, if_pos c]
    unfold bAt_
    rw [h _ (by omega) (by omega)]
    simp [bt]
  · rw [if_neg c, if_neg c]
theorem offB_inj {n : Int} {l : List Bk} (h : mayL n l = true) {b c : Bk} (hb : b ∈ l) (hc : c ∈ l) (e : offB b.a = offB c.a) : b = c := by
  obtain ⟨i, hi, rfl⟩ := List.getElem_of_mem hb
  obtain ⟨j, hj, rfl⟩ := List.getElem_of_mem hc
  have hn := (mayL_yes.1 h).1.2.1
  have e1 : l[i] = l.getD i default := by rw [List.getD_eq_getElem?_getD, List.getElem?_eq_getElem hi]; rfl
  have e2 : l[j] = l.getD j default := by rw [List.getD_eq_getElem?_getD, List.getElem?_eq_getElem hj]; rfl
  obtain ⟨⟨q1, _⟩, q2, q3⟩ := at_in h hi
  obtain ⟨⟨q4, _⟩, q5, q6⟩ := at_in h hj
  rw [e1, e2] at e ⊢
  rw [offB_at q2 (by omega), offB_at q5 (by omega)] at e
  rw [apart_a h hi hj (by omega)]
/-- two blocks lie apart -/
theorem lie_apart {n : Int} {l : List Bk} (h : mayL n l = true) {b c : Bk} (hb : b ∈ l) (hc : c ∈ l) (hne : b.a ≠ c.a) : b.a + b.s ≤ c.a ∨ c.a + c.s ≤ b.a := by
  obtain ⟨i, hi, rfl⟩ := List.getElem_of_mem hb
  obtain ⟨j, hj, rfl⟩ := List.getElem_of_mem hc
  have e1 : l[i] = l.getD i default := by rw [List.getD_eq_getElem?_getD, List.getElem?_eq_getElem hi]; rfl
  have e2 : l[j] = l.getD j default := by rw [List.getD_eq_getElem?_getD, List.getElem?_eq_getElem hj]; rfl
  have hf := (mayL_yes.1 h).2
  rw [e1, e2] at hne ⊢
  rcases Nat.lt_trichotomy i j with c | c | c
  · exact .inl (mayF_apart hf i j c hj)
  · subst c
    exact absurd rfl hne
  · exact .inr (mayF_apart hf j i c hi)

theorem Held.alloc {wl : List Int} {l : List Bk} {S : Int → Option (List Int)} (h : Held wl l S) (hB : blkF wl = some l) (hok : WordsOk wl) {d : Nat} {N : Int} (hc : canC l d N = true) (hd : d < l.length) :
    ∃ z t : Nat, (crvF l d N).getD d default = ⟨z, t, true⟩ ∧ 2 ≤ t ∧ t ≤ 512 ∧ z ≤ 512 ∧ offB (atL l d) = offB z ∧ Held (appF wl (cedF l d N)) (crvF l d N) (updS S (offB z) (some (List.replicate (8 * (t - 1)) 0))) := by
  obtain ⟨k1, z, t, m, hg, ht, htm, hgt, hT⟩ := taken hB hok hc
  have hm := blkF_some hB
  have hm1 := blkF_some k1
  have hlen1 := crv_length hc
  have hd1 : d < (crvF l d N).length := by rw [hlen1]; split <;> omega
  obtain ⟨⟨s1, s2⟩, s3, s4⟩ := at_in hm1 hd1
  have hn := (mayL_yes.1 hm1).1.2.1
  rw [hgt] at s1 s2 s3 s4
  simp only at s1 s2 s3 s4
  have hza : (l.getD d default).a = z := by rw [hg]
  have hmem := getD_mem hd
  rw [hg] at hmem
  refine ⟨z, t, hgt, by omega, by omega, by omega, by rw [atL, hza], fun b hb hu => ?_, fun x L hx => ?_⟩
  · rcases crv_from hc hb hu with hb' | hb'
    · have hne : b.a ≠ z := fun e => by
        obtain ⟨i, hi, rfl⟩ := List.getElem_of_mem hb'
        have e1 : l[i] = l.getD i default := by rw [List.getD_eq_getElem?_getD, List.getElem?_eq_getElem hi]; rfl
        rw [e1] at e hu
        have := apart_a hm hi hd (by rw [e, hza])
        subst this
        rw [hg] at hu
        cases hu
      have hbi := mayF_sizes (mayL_yes.1 hm).2 b hb'
      obtain ⟨⟨b1, _⟩, b2, b3⟩ := hbi
      have hn0 := (mayL_yes.1 hm).1.2.1
      rw [updS_other _ _ (fun e => hne (by rw [offB_at b2 (by omega), offB_at (by omega) (by omega)] at e; omega)), h.has b hb' hu]
      have hap := lie_apart hm hb' hmem (by simp only; exact hne)
      simp only at hap
      congr 1
      refine (byt_same fun j j1 j2 => hT.far j ?_).symm
      omega
    · rw [hg] at hb'
      simp only [ht] at hb'
      subst hb'
      rw [updS_self]
      congr 1
      refine (byt_nul (b := ⟨z, t, true⟩) fun j j1 j2 => hT.nul j ?_ ?_).symm
      · simp only at j1; omega
      · simp only at j2; omega
  · by_cases e : x = offB z
    · exact ⟨⟨z, t, true⟩, by rw [← hgt]; exact getD_mem hd1, rfl, e.symm⟩
    · rw [updS_other _ _ e] at hx
      obtain ⟨b, hb, hu, ho⟩ := h.only x L hx
      exact ⟨b, crv_keeps hc hb hu, hu, ho⟩
theorem Held.free {wl : List Int} {l : List Bk} {S : Int → Option (List Int)} (h : Held wl l S) (hB : blkF wl = some l) (hok : WordsOk wl) {k : Nat} (hc : canM l k = true) :
    Held (appF wl [medF l k]) (mrgF l k) (updS S (offB (l.getD k default).a) none) := by
  have hm := blkF_some hB
  obtain ⟨_, hk, hku⟩ := canM_nat hc
  obtain ⟨g1, g2, g3, i, hi, hii, g4⟩ := given hB hok hc
  have hn := (mayL_yes.1 hm).1.2.1
  refine ⟨fun b hb hu => ?_, fun x L hx => ?_⟩
  · obtain ⟨hb', hne⟩ := mrg_from hm hc hb hu
    have hno : offB b.a ≠ offB (l.getD k default).a := fun e => hne (by rw [offB_inj hm hb' (getD_mem hk) e])
    rw [updS_other _ _ hno, h.has b hb' hu]
    congr 1
    refine (byt_same fun j j1 j2 => g4 j ?_).symm
    have hai : b.a ≠ (l.getD i default).a := fun e => by
      rcases hii with rfl | hf
      · exact hne e
      · have := offB_inj hm hb' (getD_mem hi) (by rw [e])
        rw [this, hf] at hu
        cases hu
    have hap := lie_apart hm hb' (getD_mem hi) hai
    obtain ⟨⟨b1, _⟩, b2, b3⟩ := mayF_sizes (mayL_yes.1 hm).2 b hb'
    have := (at_in hm hi).1.1
    omega
  · by_cases e : x = offB (l.getD k default).a
    · subst e
      rw [updS_self] at hx
      cases hx
    · rw [updS_other _ _ e] at hx
      obtain ⟨b, hb, hu, ho⟩ := h.only x L hx
      exact ⟨b, mrg_keeps hc hb hu (fun q => e (by rw [← ho, q])), hu, ho⟩
/-- bytes put into bytes -/
def put8 (A bl : List Int) (f : Nat) : List Int := A.take f ++ bl ++ A.drop (f + bl.length)
theorem Held.write {wl : List Int} {l : List Bk} {S : Int → Option (List Int)} (h : Held wl l S) (hB : blkF wl = some l) (hok : WordsOk wl) {b : Bk} (hb : b ∈ l) (hu : b.u = true) {f : Nat} {bl : List Int} (hf : f + bl.length ≤ 8 * (b.s.toNat - 1)) (h448 : bl.length ≤ 448) {E : List Ed} (hE : Tells wl bl (offB b.a + f) E) :
    blkF (appF wl E) = some l ∧ WordsOk (appF wl E) ∧ (appF wl E).length = wl.length ∧ E.length ≤ 4000 ∧ Held (appF wl E) l (updS S (offB b.a) (some (put8 (byt wl b) bl f))) := by
  have hm := blkF_some hB
  obtain ⟨hn, hF⟩ := mayL_yes.1 hm
  obtain ⟨_, hn5, _⟩ := hn
  obtain ⟨⟨b1, b1'⟩, b2, b3⟩ := mayF_sizes hF b hb
  obtain ⟨a, ha⟩ : ∃ a : Nat, b.a = a := ⟨b.a.toNat, by omega⟩
  obtain ⟨s, hs⟩ : ∃ a : Nat, b.s = a := ⟨b.s.toNat, by omega⟩
  have hat : b.a.toNat = a := by omega
  have hst : b.s.toNat = s := by omega
  have ho : offB b.a = ((8 * (a + 1) : Nat) : Int) := by rw [offB_at b2 (by omega)]; omega
  rw [hst] at hf
  have hIn : InB wl.length (offB b.a + f) bl.length := ⟨by omega, by omega, by omega, by omega⟩
  unfold Tells at hE
  rw [if_pos hIn] at hE
  have ho2 : (offB b.a + f).toNat = 8 * (a + 1) + f := by omega
  rw [ho2] at hE
  obtain ⟨v1, v2⟩ := appF_isE hE (wd_ok hok) (by omega)
  have hlen : (appF wl E).length = wl.length := appF_length ..
  have hoth : ∀ p, p < 8 * wl.length → (p < 8 * (a + 1) + f ∨ 8 * (a + 1) + f + bl.length ≤ p) → bAt_ (appF wl E) p = bAt_ wl p := fun p hp q => by
    rw [v2 p hp, tgt, if_neg (by omega)]
  have hhd : ∀ c ∈ l, (appF wl E).getD c.a.toNat 0 = wl.getD c.a.toNat 0 := fun c hc => by
    obtain ⟨⟨c1, _⟩, c2, c3⟩ := mayF_sizes hF c hc
    have hwd : ∀ {v : List Int} {j : Nat}, (∀ x ∈ v, Wd x) → j < v.length → Wd (v.getD j 0) := fun hv hj => by
      rw [List.getD_eq_getElem?_getD, List.getElem?_eq_getElem hj]
      exact hv _ (List.getElem_mem hj)
    refine wd_ext (hwd v1 (by rw [hlen]; omega)) (hwd (wd_ok hok) (by omega)) fun k hk => ?_
    have := hoth (8 * c.a.toNat + k) (by omega) (by
      by_cases e : c.a = b.a
      · omega
      · rcases lie_apart hm hc hb e with q | q <;> omega)
    unfold bAt_ at this
    rwa [show (8 * c.a.toNat + k) / 8 = c.a.toNat by omega, show (8 * c.a.toNat + k) % 8 = k by omega] at this
  refine ⟨blkF_of (by rw [hlen]; exact hm) fun c hc => by rw [hhd c hc]; exact blkF_hd hB c hc, fun j hj => ?_, hlen, ?_, fun c hc hcu => ?_, fun x L hx => ?_⟩
  · have := v1 _ (List.getElem_mem hj)
    rw [List.getD_eq_getElem?_getD, List.getElem?_eq_getElem hj]
    exact ⟨this.1, by have := this.2; simp only [Option.getD_some]; omega⟩
  · rw [hE.len]
    unfold cnt
    split <;> omega
  · by_cases e : c = b
    · subst e
      rw [updS_self]
      congr 1
      refine (List.ext_getElem? fun i => ?_).symm
      have hbl : (byt wl c).length = 8 * (s - 1) := by rw [byt_length, hst]
      have e2 := byt_get wl c
      rw [hst, hat] at e2
      rw [byt_get, hat, hst, put8]
      by_cases c0 : i < 8 * (s - 1)
      · rw [if_pos c0, v2 _ (by omega), tgt]
        by_cases c1 : i < f
        · rw [if_neg (by omega), List.append_assoc, List.getElem?_append_left (by rw [List.length_take]; omega), List.getElem?_take_of_lt c1, e2 i, if_pos c0]
        · by_cases c2 : i < f + bl.length
          · rw [if_pos (by omega), List.append_assoc, List.getElem?_append_right (by rw [List.length_take]; omega), List.length_take, List.getElem?_append_left (by omega), List.getD_eq_getElem?_getD]
            rw [show i - min f (byt wl c).length = i - f by omega, show 8 * (a + 1) + i - (8 * (a + 1) + f) = i - f by omega, List.getElem?_eq_getElem (by omega)]
            rfl
          · rw [if_neg (by omega), List.getElem?_append_right (by rw [List.length_append, List.length_take]; omega), List.getElem?_drop, List.length_append, List.length_take, e2, if_pos (by omega)]
            congr 2
            omega
      · rw [if_neg c0, List.getElem?_eq_none (by rw [List.length_append, List.length_append, List.length_take, List.length_drop, hbl]; omega)]
    · have hne : offB c.a ≠ offB b.a := fun q => e (offB_inj hm hc hb q)
      rw [updS_other _ _ hne, h.has c hc hcu]
      congr 1
      obtain ⟨⟨c1, _⟩, c2, c3⟩ := mayF_sizes hF c hc
      refine (rdB_same fun p p1 p2 => hoth p (by omega) ?_).symm
      rcases lie_apart hm hc hb (fun q => hne (by rw [q])) with q | q <;> omega
  · by_cases e : x = offB b.a
    · exact ⟨b, hb, hu, e.symm⟩
    · rw [updS_other _ _ e] at hx
      exact h.only x L hx
/-- what is read of what is held -/
theorem Held.read {wl : List Int} {l : List Bk} {S : Int → Option (List Int)} (h : Held wl l S) (hB : blkF wl = some l) {x : Int} {L : List Int} (hx : S x = some L) {n : Nat} (hn : n ≤ L.length) (h448 : n ≤ 448) :
    refF wl x n = 0 ∧ rdR wl x n = L.take n ∧ 8 ≤ x ∧ x ≤ 4104 ∧ L.length ≤ 4096 := by
  obtain ⟨b, hb, hu, rfl⟩ := h.only x L hx
  rw [h.has b hb hu] at hx
  cases hx
  have hm := blkF_some hB
  obtain ⟨⟨_, hn5, _⟩, hF⟩ := mayL_yes.1 hm
  obtain ⟨⟨b1, _⟩, b2, b3⟩ := mayF_sizes hF b hb
  have ho : offB b.a = ((8 * (b.a.toNat + 1) : Nat) : Int) := by rw [offB_at b2 (by omega)]; omega
  rw [byt_length] at hn ⊢
  have hr : refF wl (offB b.a) n = 0 := by
    unfold refF
    rw [hB]
    simp only
    rw [if_pos (inL_yes.2 ⟨by omega, b, hb, hu, by omega, by omega⟩)]
  refine ⟨hr, ?_, by omega, by omega, by omega⟩
  rw [rdR, if_pos hr, rdL, if_pos ⟨by omega, by omega, by omega, by omega⟩, ho, Int.toNat_natCast, Int.toNat_natCast]
  unfold byt
  obtain ⟨q, hq⟩ : ∃ q, 8 * (b.s.toNat - 1) = n + q := ⟨8 * (b.s.toNat - 1) - n, by omega⟩
  rw [hq]
  refine List.ext_getElem? fun i => ?_
  rw [rdB_get, List.getElem?_take, rdB_get]
  by_cases c : i < n
  · rw [if_pos c, if_pos c, if_pos (by omega)]
  · rw [if_neg c, if_neg c]
end Go.Proofs.Ytkpefnjohdjejaa

/-
  Contracts of package span's Apply, and of the reference's at no words.
-/
namespace Go.Proofs.Ytkpefnjohdjejaa
set_option maxRecDepth 100000
open Go.RowKit

theorem made_words (n : Nat) : (madeCells #[.int .u64 0] n).toList = List.replicate n (.int .u64 0) := by rw [toList_madeCells_one]
theorem size_u64s : (Try.prog.info? 49).map (·.size) = some 1 := by kernel_rfl
theorem appF_nil : ∀ es : List Ed, appF [] es = []
  | [] => rfl
  | e :: r => by rw [appF, if_neg (by simp only [List.length_nil]; omega), appF_nil r]
set_option maxHeartbeats 1000000 in
theorem apply_is (l : List Int) (es : List Ed) (v u : Value) (w : World) (hv : RU w v l) (hu : RA edE w u es) (hl : l.length ≤ 1000) (hel : es.length ≤ 4000) :
    Calls Try.prog 88 #[v, u] w fun e w' => (∃ x, e = .returned x ∧ OwnU w.heap.size w' x (appF l es)) ∧ Below w.heap.size w w' := by
  obtain ⟨p, c, rfl, _, _⟩ := ra_shape hu
  obtain ⟨p2, c2, rfl, _, _, _⟩ := id hv
  have hmk := run_make_row' (P := Try.prog) 41 49 (.int .u64 0) 8 Try.underlying41 info_u64 rfl .i64 .i64 l.length (by omega) (by omega)
  obtain ⟨W, hW⟩ : ∃ W, w.alloc (.cells (madeCells #[.int .u64 0] l.length) 49) = W := ⟨_, rfl⟩
  have hB : Below w.heap.size w W := by rw [← hW]; exact bal (Below.refl _ _)
  have hg : W.heap[w.heap.size]? = some (.cells (List.replicate l.length (.int .u64 0)).toArray 49 (0, 0)) := by
    rw [← hW, ← made_words, Array.toArray_toList]; exact heap_alloc_new w _
  have HG := Lib.hid hg
  have HBW := Lib.hid hB
  have HE := Lib.hid (fun (w' : World) (hb : Below w.heap.size w w') => ra_below hu hb)
  have HV := Lib.hid (ru_below hv hB)
  have HL := Lib.hid (And.intro hl hel)
  have CS : Hid ((l.map uv).length = Nat.min l.length l.length) := Lib.hid (by simp)
  have CF : Hid (0 + (l.map uv).length ≤ (List.replicate l.length (Value.int .u64 0)).length) := Lib.hid (by simp)
  have CP : Hid (0 < (l.map uv).length → some (⟨w.heap.size, 0, none⟩ : Addr) = some ⟨w.heap.size, 0, none⟩ ∧ ∃ ad, p2 = some ad ∧ ∀ j v, (l.map uv)[j]? = some v → W.cell? (ad.add j) = some v) := Lib.hid fun h0 => by
    obtain ⟨b, off, rfl, _, hc⟩ := ru_some HV.out (by simpa using h0)
    refine ⟨rfl, _, rfl, fun j v hj => ?_⟩
    have hj' : j < l.length := by have := (List.getElem?_eq_some_iff.1 hj).1; simpa using this
    have e : (⟨b, off, none⟩ : Addr).add j = ⟨b, off + j, none⟩ := Go.WideShapes.add_plain ..
    rw [e, hc j hj']
    simp [hj', uv] at hj ⊢
    exact hj
  have FIN : Hid (∀ w', w'.heap[w.heap.size]? = some (.cells (splice (List.replicate l.length (Value.int .u64 0)) 0 (l.map uv)).toArray 49 (0, 0)) → OwnU w.heap.size w' (.slice (some ⟨w.heap.size, 0, none⟩) l.length l.length) l) := Lib.hid fun w' h => by
    have es : splice (List.replicate l.length (Value.int .u64 0)) 0 (l.map uv) = l.map uv := by simp [splice]
    rw [es] at h
    refine ⟨by simp, .inr ⟨w.heap.size, l.length, _, rfl, Nat.le_refl _, h, Nat.le_refl _, by unfold maxLen; omega, by simp, by simp [List.take_of_length_le]⟩⟩
  clear hu hv hl hel hB hg
  obtain ⟨R0, hR0⟩ : ∃ R0, List.replicate l.length (Value.int .u64 0) = R0 := ⟨_, rfl⟩
  obtain ⟨C0, hC0⟩ : ∃ C0, l.map uv = C0 := ⟨_, rfl⟩
  rw [hR0] at HG CF FIN
  rw [hC0] at CS CF CP FIN
  have CO : Hid (∀ v ∈ C0, v.oneCell' = true) := Lib.hid (by rw [← hC0]; exact uv_one l)
  clear hR0 hC0
  go_enter Try.func88, Try.ntmps88
  go_wp2_with (refine wpList_copy_splice (o := ⟨some 13, _, _, _, _, _⟩) rfl (.tmp 11) (.tmp 12) 41 41 rfl 49 Try.underlying41 size_u64s _ _ _ _ _ _ rfl rfl w.heap.size 0 R0 49 HG.out C0 CS.out CP.out CF.out CO.out w.heap.size w HBW.out (Nat.le_refl _) ?_)
  intro w1 hg1 hb1
  have O1 := Lib.hid (FIN.out _ hg1.out)
  have D1 := Lib.hid hb1
  clear hg1 hb1 FIN CP CF CO HG CS
  go_wp2
  go_loopw [7, 16] (fun x i wr => ∃ k : Nat, k ≤ es.length ∧ i = .int .i64 k ∧ Hid (OwnU w.heap.size wr (.slice (some ⟨w.heap.size, 0, none⟩) l.length l.length) (appF l (es.take k)) ∧ Below w.heap.size w wr)) (fun _ i _ => es.length - (intOf i).toNat)
  case atStart => exact ⟨0, Nat.zero_le _, rfl, Lib.hid ⟨O1.out, D1.out⟩⟩
  case round =>
    obtain ⟨k, hk, rfl, H⟩ := hrel
    by_cases hlt : k < es.length
    · obtain ⟨b, off, rfl, hb, hx⟩ := ed_at (HE.out _ H.out.2) (by omega)
      obtain ⟨hld, _, _, hwf⟩ := hx k hlt
      have hF := appF_take (l := l) hlt
      rw [appF_length] at hF
      generalize es.getD k default = y at *
      obtain ⟨a, x⟩ := y
      simp only at hF
      obtain ⟨W, hW, HW⟩ := ed_boxed wr ⟨a, x⟩
      have c0 : W.cell? ⟨wr.heap.size, 0, none⟩ = some (.int .i64 a) := HW.out.1.c0
      have c1 : W.cell? ⟨wr.heap.size, 1, none⟩ = some (.int .u64 x) := HW.out.1.c1
      have hB := below_more H.out.2 HW.out.2
      have hO := H.out.1.below HW.out.2
      have i0 : (0 : Int) ≤ (k : Int) := by omega
      have i1 : (k : Int) < (es.length : Int) := by omega
      have i2 : ¬ (k : Int) < 0 := by omega
      have i3 : IntKind.i64.wrap ((k : Int) + 1) = ((k + 1 : Nat) : Int) := by rw [show (k : Int) + 1 = ((k + 1 : Nat) : Int) by omega]; exact i64_nat _ (by have := HL.out; omega)
      have HK := Lib.hid hlt
      by_cases h1 : 0 ≤ a
      · by_cases h2 : a < (l.length : Int)
        · rw [if_pos ⟨h1, h2⟩] at hF
          obtain ⟨z, rfl⟩ : ∃ z : Nat, a = z := ⟨a.toNat, by omega⟩
          rw [Int.toNat_natCast] at hF
          have i4 : (z : Int) ≥ 0 := by omega
          have i5 : ¬ (z : Int) < 0 := by omega
          have i6 : ¬ (l.length : Int) ≤ (z : Int) := by omega
          obtain ⟨_, z3⟩ := OwnU.cells hO (j := z) (by rw [appF_length]; omega)
          obtain ⟨c3, _⟩ := OwnU.cells hO (j := z) (by rw [appF_length]; omega)
          generalize (appF l (es.take k)).getD z 0 = y at c3
          have HN : Hid (OwnU w.heap.size (W.setCell ⟨w.heap.size, z, none⟩ (.int .u64 x)) (.slice (some ⟨w.heap.size, 0, none⟩) l.length l.length) (appF l (es.take (k + 1))) ∧ Below w.heap.size w (W.setCell ⟨w.heap.size, z, none⟩ (.int .u64 x))) := Lib.hid ⟨by rw [hF]; exact OwnU.stored hO z x, hB.setCell (p := ⟨w.heap.size, z, none⟩) (Nat.le_refl _) _⟩
          clear hx hF hB hO hb hk hlt h1 hwf
          go_wp2
          go_roundw
          case rel => exact ⟨k + 1, by have := HK.out; omega, by go_num, HN⟩
          case measure => have := HK.out; simp [intOf]; omega
        · rw [if_neg (by omega)] at hF
          have HN := Lib.hid (And.intro hO hB)
          rw [← hF] at HN
          clear hx hF hB hO hb hk hlt hwf
          go_wp2
          go_roundw
          case rel => exact ⟨k + 1, by have := HK.out; omega, by go_num, HN⟩
          case measure => have := HK.out; simp [intOf]; omega
      · rw [if_neg (by omega)] at hF
        have HN := Lib.hid (And.intro hO hB)
        rw [← hF] at HN
        clear hx hF hB hO hb hk hlt hwf
        go_wp2
        go_roundw
        case rel => exact ⟨k + 1, by have := HK.out; omega, by go_num, HN⟩
        case measure => have := HK.out; simp [intOf]; omega
    · obtain rfl : k = es.length := by omega
      have hF := H.out
      rw [List.take_length] at hF
      have HF := Lib.hid hF
      clear hF
      go_wp2
      go_ret
      exact ⟨⟨_, rfl, HF.out.1⟩, HF.out.2⟩
set_option maxHeartbeats 1000000 in
theorem rapply_nil (es : List Ed) (v u : Value) (w : World) (hv : RU w v []) (hu : RA edE w u es) (hel : es.length ≤ 4000) :
    Calls Try.prog 53 #[v, u] w fun e w' => (∃ x, e = .returned x ∧ OwnU w.heap.size w' x []) ∧ Below w.heap.size w w' := by
  obtain ⟨p, c, rfl, _, _⟩ := ra_shape hu
  obtain ⟨p2, c2, rfl, _, _, _⟩ := id hv
  have HE := Lib.hid (fun (w' : World) (hb : Below w.heap.size w w') => ra_below hu hb)
  have HV := Lib.hid hv
  have HL := Lib.hid hel
  clear hu hv hel
  go_enter Try.func53, Try.ntmps53
  go_wp2_with (at_builtin; refine list_app_u64 rfl _ _ rfl w.heap.size (.slice none 0 0) [] rfl (own_nil_u _ _) _ [] rfl HV.out (by simp) (Nat.le_refl _) ?_)
  intro v' w1 ho hg _
  have hb1 := below_app_u (Below.refl _ _) (Nat.le_refl _) (own_nil_u w.heap.size w) hg
  have ho : OwnU w.heap.size w1 v' [] := ho
  obtain ⟨q, d, e⟩ := ho.shape
  subst e
  have O1 := Lib.hid ho
  have D1 := Lib.hid hb1
  clear ho hg hb1
  go_wp2
  go_loopw [7, 12] (fun x i wr => ∃ k : Nat, k ≤ es.length ∧ i = .int .i64 k ∧ Hid (OwnU w.heap.size wr (.slice q 0 d) [] ∧ Below w.heap.size w wr)) (fun _ i _ => es.length - (intOf i).toNat)
  case atStart => exact ⟨0, Nat.zero_le _, rfl, Lib.hid ⟨O1.out, D1.out⟩⟩
  case round =>
    obtain ⟨k, hk, rfl, H⟩ := hrel
    by_cases hlt : k < es.length
    · obtain ⟨b, off, rfl, hb, hx⟩ := ed_at (HE.out _ H.out.2) (by omega)
      obtain ⟨hld, _, _, _⟩ := hx k hlt
      generalize es.getD k default = y at *
      obtain ⟨a, x⟩ := y
      obtain ⟨W, hW, HW⟩ := ed_boxed wr ⟨a, x⟩
      have c0 : W.cell? ⟨wr.heap.size, 0, none⟩ = some (.int .i64 a) := HW.out.1.c0
      have HN := Lib.hid (And.intro (H.out.1.below HW.out.2) (below_more H.out.2 HW.out.2))
      have i0 : (0 : Int) ≤ (k : Int) := by omega
      have i1 : (k : Int) < (es.length : Int) := by omega
      have i2 : ¬ (k : Int) < 0 := by omega
      have i3 : IntKind.i64.wrap ((k : Int) + 1) = ((k + 1 : Nat) : Int) := by rw [show (k : Int) + 1 = ((k + 1 : Nat) : Int) by omega]; exact i64_nat _ (by have := HL.out; omega)
      have HK := Lib.hid hlt
      clear hx hb hk hlt
      by_cases h1 : 0 ≤ a
      · have h2 : ¬ a < 0 := by omega
        go_wp2
        go_roundw
        case rel => exact ⟨k + 1, by have := HK.out; omega, by go_num, HN⟩
        case measure => have := HK.out; simp [intOf]; omega
      · go_wp2
        go_roundw
        case rel => exact ⟨k + 1, by have := HK.out; omega, by go_num, HN⟩
        case measure => have := HK.out; simp [intOf]; omega
    · obtain rfl : k = es.length := by omega
      go_wp2
      go_ret
      exact ⟨⟨_, rfl, H.out.1⟩, H.out.2⟩
theorem rapply_any (l : List Int) (es : List Ed) (v u : Value) (w : World) (hv : RU w v l) (hu : RA edE w u es) (hl : l.length ≤ 1000) (hel : es.length ≤ 4000) :
    Calls Try.prog 53 #[v, u] w fun e w' => (∃ x, e = .returned x ∧ OwnU w.heap.size w' x (appF l es)) ∧ Below w.heap.size w w' := by
  by_cases h0 : 0 < l.length
  · exact rapply_is l es v u w hv hu h0 hl hel
  · obtain rfl : l = [] := List.eq_nil_of_length_eq_zero (by omega)
    rw [appF_nil]
    exact rapply_nil es v u w hv hu hel
end Go.Proofs.Ytkpefnjohdjejaa
