/-
  The contract of package edge's Sort: a new slice, the same words in the order.
-/
import Derived.Test.YtcccfmclcpldlaaOf
import Derived.Test.YtcccfmclcpldlaaShelf
import Derived.Laws.CopyOwn
namespace Go.Proofs.Ytcccfmclcpldlaa
open D Go.RowKit Go.Proofs Go.Sort Go.Shelf Go.Lib

def cf (x y : Nat) : Int := cmp3 (rk x) (rk y)
theorem cf_lt (x y : Nat) : ltOf cf x y = decide (rk x < rk y) := by unfold ltOf cf; exact cmp3_neg _ _
theorem cf_swo : SWO (ltOf cf) where
  irrefl x := by rw [cf_lt]; simp
  trans x y z h1 h2 := by rw [cf_lt] at *; simp at *; omega
  ntrans x y z h1 h2 := by rw [cf_lt] at *; simp at *; omega

theorem holds_fl {w : World} {g : Nat} {cur : List Value} {e : TypeId} {l : List Nat} (hb : w.heap[g]? = some (.cells cur.toArray e (0, 0))) (ht : cur.take l.length = l.map fl) : Holds fl w g 0 l.toArray := by
  intro j hj
  have hj' : j < l.length := by simpa using hj
  refine ⟨?_, by simp [World.frozen?, hb]⟩
  have h1 : (cur.take l.length)[j]? = (l.map fl)[j]? := by rw [ht]
  rw [List.getElem?_take_of_lt hj'] at h1
  simp only [World.cell?, hb, Nat.zero_add]
  simp only [Option.isSome_none, Bool.false_eq_true, if_false]
  rw [List.getElem?_toArray, h1]
  simp [hj']

theorem heap_fl {w : World} {g n : Nat} {os : Array Obj} {cur : Array Value} {e : TypeId} {fr : Nat × Nat} (d : Array Nat) (hb : w.heap[g]? = some (.cells cur e fr)) :
    (grow (putRow fl (Sort.ahead w n) g 0 d) os).heap[g]? = some (.cells (putCells fl 0 d cur) e fr) := by
  have hg : g < w.heap.size := (Array.getElem?_eq_some_iff.1 hb).1
  rw [heap_grow_old _ _ (by simpa using hg)]
  simp [putRow, mapBlock, Sort.ahead, Array.getElem?_modify, hb, onCells]
theorem grownBy_fl {w : World} {g n : Nat} {os : Array Obj} (d : Array Nat) : w.grownBy (grow (putRow fl (Sort.ahead w n) g 0 d) os) (some g) := by
  refine ⟨rfl, rfl, rfl, by simp, fun k hk hne => ?_⟩
  rw [heap_grow_old _ _ (by simpa using hk)]
  have : g ≠ k := fun e => hne (by rw [e])
  simp [putRow, mapBlock, Sort.ahead, Array.getElem?_modify, this]
theorem take_fl (cur : Array Value) (ts : List Nat) (h : ts.length ≤ cur.size) : (putCells fl 0 ts.toArray cur).toList.take ts.length = ts.map fl := by
  apply List.ext_getElem?
  intro j
  by_cases hj : j < ts.length
  · rw [List.getElem?_take_of_lt hj, Array.getElem?_toList]
    simp [putCells, hj, show j < cur.size by omega]
  · rw [List.getElem?_take_eq_none (by omega), List.getElem?_eq_none (by simp; omega)]

/-- ascending in the order -/
def Asc (l : List Nat) : Prop := ∀ i j, i < j → j < l.length → rk (l.getD i 0) ≤ rk (l.getD j 0)

set_option maxHeartbeats 1000000 in
/-- slices.SortFunc with Cmp over a block of a call's own -/
theorem sortFunc_own (l : List Nat) (g : Nat) (cur : List Value) (B : Nat) (w : World) (hg : w.heap[g]? = some (.cells cur.toArray 25 (0, 0))) (ht : cur = l.map fl) (hl : l.length ≤ 1000) (hB : B ≤ g) :
    Calls Try.prog 40 #[.slice (some ⟨g, 0, none⟩) l.length l.length, .func (.func 19) #[] #[]] w fun e w' =>
      e = .returned (.tuple #[]) ∧ ∃ d : List Nat, l.Perm d ∧ Asc d ∧ Own B w' (.slice (some ⟨g, 0, none⟩) l.length l.length) d ∧ w.grownBy w' (some g) := by
  have eg : ∀ args w, (callFunc 19 args).run Try.prog w = .ok (.enter 19 args) w := enters_of Try.func19 (by kernel_rfl) rfl
  have hcmp : CmpReads Try.prog 19 #[] fl cf g 0 l.toArray.size w := fun _ _ _ _ x y => (cmp_all x y _).mono fun e w' ⟨h1, h2⟩ => ⟨h1, 0, h2.symm⟩
  have hlen : cur.length = l.length := by rw [ht]; simp
  have hcon := Any.slices_SortFunc Try.sortFlts fl (fun _ => rfl) cf cf_swo 19 #[] g 0 l.length l.toArray w eg hcmp.lays (holds_fl hg (by rw [ht, List.take_of_length_le (by simp)])) (Array.getElem?_eq_some_iff.1 hg).1 (by rw [List.size_toArray]; omega)
  have hs : l.toArray.size = l.length := by simp
  rw [hs] at hcon
  refine hcon.mono fun e w' ⟨he, d, n, os, hp, hsd, hw⟩ => ⟨he, d.toList, ?_, ?_, ?_, ?_⟩
  · obtain ⟨h1, _, h3⟩ := hp
    have e1 : (d.extract 0 l.length).toList = d.toList := by
      have : d.size = l.length := by simpa using h1
      rw [← this]; simp
    rw [e1] at h3
    simpa using h3.symm
  · intro i j hij hj
    have hj' : j < l.length := by have := hp.1; simp at this hj; omega
    have := hsd i j (Nat.zero_le _) hij hj'
    rw [cf_lt] at this
    simp only [decide_eq_false_iff_not] at this
    have hdi : i < d.size := by have := hp.1; simp at this hj; omega
    have hdj : j < d.size := by simpa using hj
    simp only [getElem!_pos d i hdi, getElem!_pos d j hdj] at this
    simp [hdi, hdj]; omega
  · have hdl : d.toList.length = l.length := by have := hp.1; simpa using this
    rw [hw]
    refine ⟨by simp, .inr ⟨g, l.length, putCells fl 0 d cur.toArray, by rw [hdl], hB, heap_fl d hg, by omega, by unfold maxLen; omega, by simp [putCells, hlen], ?_⟩⟩
    have := take_fl cur.toArray d.toList (by rw [hdl, List.size_toArray, hlen]; exact Nat.le_refl _)
    simpa using this
  · rw [hw]; exact grownBy_fl d

theorem size_f64 : (Try.prog.info? 25).map (·.size) = some 1 := by kernel_rfl

theorem cells_of_own {B n : Nat} {w : World} {xs : List Value} {g c : Nat} (h : w.ownsRow B 25 1 (.slice (some ⟨g, 0, none⟩) n c) n xs) (hc : c = n) : ∃ cur : List Value, w.heap[g]? = some (.cells cur.toArray 25 (0, 0)) ∧ cur.length = n ∧ B ≤ g := by
  obtain ⟨_, ⟨h1, _⟩ | ⟨g', cap, cur, h1, hb, hg, _, _, hs, _⟩⟩ := h
  · cases h1
  · injection h1 with h2 _ h3
    injection h2 with h2
    injection h2 with h2
    subst h2
    refine ⟨cur.toList, hg, ?_, hb⟩
    have : cur.size = cap * 1 := hs
    simp; omega

theorem reads_cells {w : World} {v : Value} {l : List Nat} (h : Reads w v l) : ∃ p cap, v = .slice p l.length cap ∧ (0 < l.length → ∃ ad, p = some ad ∧ ∀ j u, (l.map fl)[j]? = some u → w.cell? (ad.add j) = some u) := by
  obtain ⟨p, cap, rfl, h | ⟨b, off, rfl, hw⟩⟩ := h
  · exact ⟨p, cap, rfl, fun h0 => by rw [h] at h0; exact absurd h0 (by simp)⟩
  · refine ⟨_, cap, rfl, fun _ => ⟨_, rfl, fun j u hj => ?_⟩⟩
    have hjl : j < l.length := by
      have := (List.getElem?_eq_some_iff.1 hj).1; simpa using this
    have e : (⟨b, off, none⟩ : Addr).add j = ⟨b, off + j, none⟩ := Go.WideShapes.add_plain ..
    rw [e, hw j hjl]
    simp [hjl] at hj
    simp [hjl, ← hj, fl]

set_option maxHeartbeats 1000000 in
theorem sort_any (v : Value) (l : List Nat) (w : World) (h : Reads w v l) (hl : l.length ≤ 1000) :
    Calls Try.prog 23 #[v] w fun e w' => ∃ v' d, e = .returned v' ∧ l.Perm d ∧ Asc d ∧ Own w.heap.size w' v' d ∧ Below w.heap.size w w' := by
  obtain ⟨i0, hi, hz0, hz1, hz2⟩ := info_parts info_f64
  obtain ⟨p, cap, rfl, hcells⟩ := reads_cells h
  obtain ⟨B, hB⟩ : ∃ B, B = w.heap.size := ⟨_, rfl⟩
  have HC := Lib.hid hcells
  have HB := Lib.hid hB
  rw [← hB]
  obtain ⟨n, hn⟩ : ∃ n, n = l.length := ⟨_, rfl⟩
  have HN := Lib.hid hn
  have hn1000 : n ≤ 1000 := by omega
  rw [← hn]
  clear h hcells hB hn hl
  go_enter Try.func23, Try.ntmps23
  go_wp2_with ((refine wpList_make_full _ rfl _ _ 27 rfl B 25 i0 (.float .f64 0) 1 Try.underlying27 hi hz0 hz1 _ _ _ _ n rfl rfl rfl rfl ?c1 ?c2 ?c3 ?_))
  case c1 => rw [hz2]; omega
  case c2 => unfold maxLen; omega
  case c3 => have := HB.out; omega
  intro w1 hown hgr
  obtain ⟨cur, hg1, hcl, hBg⟩ := cells_of_own hown rfl
  have hb1 : Below B w w1 := (Below.refl _ _).grown hgr (by rw [HB.out]; exact Nat.le_refl _) (fun k hk => by cases hk)
  have G1 := Lib.hid hg1
  have B1 := Lib.hid hb1
  have CL := Lib.hid hcl
  clear hown hgr hg1 hb1 hcl
  go_wp2_with (with_reducible refine wpList_copy_splice rfl _ _ 27 27 rfl 25 Try.underlying27 size_f64 _ _ _ _ _ _ rfl rfl w.heap.size 0 cur 25 G1.out (l.map fl) ?d1 ?d2 ?d3 ?d4 B w B1.out hBg ?_)
  case d1 => rw [List.length_map, ← HN.out]; exact (Nat.min_self n).symm
  case d2 =>
    intro h0
    obtain ⟨ad, hp, hc⟩ := HC.out h0
    refine ⟨ad, hp, fun j a hj => ?_⟩
    have := hc j (fl a) (by simp [hj])
    rw [B1.out.cell (by rw [HB.out]; exact World.block_lt_of_cell? w _ this)]; exact this
  case d3 => rw [List.length_map, CL.out, HN.out]; omega
  case d4 => intro u hu; obtain ⟨x, _, rfl⟩ := List.mem_map.1 hu; rfl
  intro w2 hcur hb2
  have hs : splice cur 0 (l.map fl) = l.map fl := by
    unfold splice
    rw [List.take_zero, List.nil_append, Nat.zero_add, List.length_map, List.drop_of_length_le (by rw [CL.out, HN.out]; exact Nat.le_refl _), List.append_nil]
  have S : RowKit.Hid (Calls Try.prog 40 #[.slice (some ⟨w.heap.size, 0, none⟩) n n, .func (.func 19) #[] #[]] w2 fun e w' =>
      e = .returned (.tuple #[]) ∧ ∃ d : List Nat, l.Perm d ∧ Asc d ∧ Own B w' (.slice (some ⟨w.heap.size, 0, none⟩) n n) d ∧ w2.grownBy w' (some w.heap.size)) := Lib.hid (by
    have h := hcur.out
    rw [hs] at h
    rw [HN.out]
    exact sortFunc_own l w.heap.size _ B w2 h rfl (by rw [← HN.out]; exact hn1000) hBg)
  have B2 := Lib.hid hb2
  clear hcur hb2 hs G1 B1 CL
  go_wp2_with fail
  refine S.out.mono ?_; rintro e w3 ⟨rfl, d, hp, ha, ho, hg⟩
  have P := Lib.hid hp; have A := Lib.hid ha; have O := Lib.hid ho
  have B3 := Lib.hid (show Below B w w3 from B2.out.grown hg (Nat.le_trans (by rw [HB.out]; exact Nat.le_refl _) B2.out.size) (fun k hk => by injection hk with hk; rw [← hk]; exact hBg))
  clear hp ha ho hg
  go_wp2_with fail
  go_ret
  exact ⟨_, d, rfl, P.out, A.out, O.out, B3.out⟩
end Go.Proofs.Ytcccfmclcpldlaa
