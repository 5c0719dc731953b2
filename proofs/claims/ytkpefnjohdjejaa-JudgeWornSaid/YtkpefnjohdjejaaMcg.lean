/-
  slices.Concat and slices.Grow of extents; slices.IndexFunc at a function of a model's own: the first extent that it says yes to.
-/
import Derived.Test.YtkpefnjohdjejaaMex
import Derived.Lib.AppendZeros
import Derived.Shelf.Abstract
namespace Go.Proofs.Ytkpefnjohdjejaa
set_option maxRecDepth 100000
open Go.RowKit

section
variable {ops : Array Oper} {rest : List Oper} {o : Oper} {a : Act} {w : World} {Q : Exit → Act → World → Prop} {K : Act → World → Prop}
theorem app_ex (hgd : o.guard = none) (s x : Operand) (ho : o.op = .call { callee := .builtin .append, args := #[s, x], argTypes := #[75, 75] }) (B : Nat) (v : Value) (l : List Ex) (hs : a.eval s = v) (hown : OwnA exE B w v l)
    (u : Value) (r : List Ex) (hx : a.eval x = u) (hr : RA exE w u r) (hlen : Hid (l.length + r.length ≤ 2000)) (hB : B ≤ w.heap.size)
    (h : ∀ v' w', OwnA exE B w' v' (l ++ r) → w.grownBy w' v.ownBlock → (v'.ownBlock = v.ownBlock ∨ v'.ownBlock = some w.heap.size) → wpList Try.prog ops Q rest (a.put o.dst v') w') : wpList Try.prog ops Q (o :: rest) a w :=
  list_app exE hgd s x ho B v l hs hown u r hx hr (by have := hlen.out; show (l.length + r.length) * 48 ≤ _; omega) hB h
end
theorem xgrown_own (w : World) (n : Nat) (hn : n ≤ 2000) : OwnA exE w.heap.size (w.drew.alloc (.cells (Builtin.zeroCells exE.z.cells n ++ Builtin.zeroCells exE.z.cells (grownCap w n 0 84 - n)) 84)) (.slice (some ⟨w.heap.size, 0, none⟩) 0 (grownCap w n 0 84)) [] := by
  have h1 := grownCap_ge w n 0 84
  have h2 := grownCap_le_maxLen w n 0 84 (by unfold maxLen; omega)
  refine ⟨⟨rfl, .inr ⟨w.heap.size, _, _, rfl, Nat.le_refl _, heap_alloc_new _ _, Nat.zero_le _, h2, ?_, ?_⟩⟩, fun _ h => by cases h⟩
  · rw [Array.size_append, size_zeroCells, size_zeroCells, exE.hzs, ← Nat.add_mul]
    congr 1
    omega
  · simp
set_option maxHeartbeats 1000000 in
theorem xgrow_is (n : Nat) (w : World) (hn : n ≤ 2000) : Calls Try.prog 93 #[.slice none 0 0, .int .i64 n] w fun e w' => (∃ v, e = .returned v ∧ OwnA exE w.heap.size w' v []) ∧ Below w.heap.size w w' := by
  have h1 : ¬ ((n : Int) < 0) := by omega
  have h3 : IntKind.i64.wrap (n : Int) = n := i64_nat _ (by omega)
  by_cases h0 : 0 < n
  · have h4 : (n : Int) > 0 := by omega
    have hO := xgrown_own w n hn
    have hB : Below w.heap.size w (w.drew.alloc (.cells (Builtin.zeroCells exE.z.cells n ++ Builtin.zeroCells exE.z.cells (grownCap w n 0 84 - n)) 84)) := bal ((Below.refl _ _).drew)
    obtain ⟨i0, hi, hz0, hz1, hz2⟩ := info_parts exE.hi
    have hrz : ∀ ty, (Builtin.append_ #[75, 3] ty #[.slice none 0 0, .int .i64 (n : Int)]).run Try.prog w = _ := fun ty =>
      Lib.run_append_nil_zeros (P := Try.prog) w 75 3 ty 84 i0 exE.z .i64 .i64 Try.underlying75 Try.underlying3 hi hz0 n h0 (by rw [hz1]; decide) (by omega) (by rw [hz2]; show n * 48 ≤ _; omega)
    have hG := grownCap_ge w n 0 84
    have hG2 := grownCap_le_maxLen w n 0 84 (by unfold maxLen; omega)
    obtain ⟨W, hW⟩ : ∃ W, w.drew.alloc (.cells (Builtin.zeroCells exE.z.cells n ++ Builtin.zeroCells exE.z.cells (grownCap w n 0 84 - n)) 84) = W := ⟨_, rfl⟩
    rw [hW] at hO hB
    simp only [hW] at hrz
    generalize grownCap w n 0 84 = G at *
    have g1 : ¬ (G = 0) := by omega
    have g2 : (0 : Int) ≤ (G : Int) := by omega
    have HO := Lib.hid hO
    have HB := Lib.hid hB
    clear hO hB hW hi hz0 hz1 hz2
    go_enter Try.func93, Try.ntmps93
    go_wp2_with (at_builtin; refine Lib.wpList_append_run _ rfl _ _ _ _ rfl _ _ rfl rfl _ _ (hrz _) ?_)
    go_wp2
    go_ret
    exact ⟨⟨_, rfl, HO.out⟩, HB.out⟩
  · obtain rfl : n = 0 := by omega
    clear h3
    go_enter Try.func93, Try.ntmps93
    go_wp2
    go_ret
    exact ⟨⟨_, rfl, own_nil_a _ _ _⟩, Below.refl _ _⟩

/-- how many there are in all -/
def xlens (ls : List (List Ex)) : Nat := (ls.map List.length).sum
theorem xlens_drop {ls : List (List Ex)} {k : Nat} (h : k < ls.length) : xlens (ls.drop k) = (ls.getD k []).length + xlens (ls.drop (k + 1)) := by
  unfold xlens
  rw [List.drop_eq_getElem_cons h, List.getD_eq_getElem?_getD, List.getElem?_eq_getElem h, List.map_cons, List.sum_cons]
  rfl
theorem xlens_flat (ls : List (List Ex)) : ls.flatten.length = xlens ls := by simp [xlens, List.length_flatten]
theorem xflat_take {ls : List (List Ex)} {k : Nat} (h : k < ls.length) : (ls.take (k + 1)).flatten = (ls.take k).flatten ++ ls.getD k [] := by
  rw [List.take_add_one, List.getElem?_eq_getElem h, List.getD_eq_getElem?_getD, List.getElem?_eq_getElem h]
  simp only [Option.toList_some, List.flatten_append, List.flatten_cons, List.flatten_nil, List.append_nil, Option.getD_some]
theorem xflat_split {ls : List (List Ex)} {k : Nat} (h : k < ls.length) : ((ls.take k).flatten).length + (ls.getD k []).length ≤ xlens ls := by
  have := congrArg List.length (xflat_take h)
  rw [List.length_append] at this
  rw [← this, ← xlens_flat]
  conv => rhs; rw [← List.take_append_drop (k + 1) ls]
  rw [List.flatten_append, List.length_append]
  omega

set_option maxHeartbeats 1000000 in
theorem xconcat_is (ls : List (List Ex)) (v : Value) (w : World) (hv : RAs exE xrowE w v ls) (hl : ls.length ≤ 1000) (hs : xlens ls ≤ 2000) : Calls Try.prog 85 #[v] w fun e w' => (∃ u, e = .returned u ∧ OwnA exE w.heap.size w' u ls.flatten) ∧ Below w.heap.size w w' := by
  obtain ⟨p, cap, rfl, _, _⟩ := ras_shape hv
  have HX : Hid (∀ wr, Below w.heap.size w wr → ∀ k, k < ls.length → ∃ b off q c, p = some ⟨b, off, none⟩ ∧ wr.cell? ⟨b, off + k, none⟩ = some (.slice q (ls.getD k []).length c) ∧ RA exE wr (.slice q (ls.getD k []).length c) (ls.getD k [])) := Lib.hid fun wr hb k hk => by
    obtain ⟨b, off, e, _, hx⟩ := ras_at rfl rfl (ras_below hv hb) (by omega)
    obtain ⟨u, hc, hr⟩ := hx k hk
    obtain ⟨q, c, rfl, _⟩ := ra_shape hr
    exact ⟨b, off, q, c, e, hc, hr⟩
  have HL := Lib.hid hl
  have HS := Lib.hid hs
  clear hv hl hs
  go_enter Try.func85, Try.ntmps85
  go_wp2
  go_loopw [3, 5, 11] (fun z s i wr => ∃ k z' : Nat, k ≤ ls.length ∧ i = .int .i64 k ∧ z = .int .i64 z' ∧ wr = w ∧ Hid (z' + xlens (ls.drop k) = xlens ls)) (fun _ _ i _ => ls.length - (intOf i).toNat)
  case atStart => exact ⟨0, 0, Nat.zero_le _, rfl, rfl, rfl, Lib.hid (by simp)⟩
  case round =>
    obtain ⟨k, z, hk, rfl, rfl, rfl, H⟩ := hrel
    by_cases hlt : k < ls.length
    · obtain ⟨b, off, q, c, rfl, hc, _⟩ := HX.out wr (Below.refl _ _) k hlt
      have hF := H.out
      rw [xlens_drop hlt] at hF
      have i0 : (0 : Int) ≤ (k : Int) := by omega
      have i1 : (k : Int) < (ls.length : Int) := by omega
      have i2 : ¬ (k : Int) < 0 := by omega
      have i3 : IntKind.i64.wrap ((k : Int) + 1) = ((k + 1 : Nat) : Int) := by rw [show (k : Int) + 1 = ((k + 1 : Nat) : Int) by omega]; exact i64_nat _ (by have := HL.out; omega)
      generalize (ls.getD k []).length = Y at *
      have i4 : IntKind.i64.wrap ((z : Int) + (Y : Int)) = ((z + Y : Nat) : Int) := by rw [show (z : Int) + (Y : Int) = ((z + Y : Nat) : Int) by omega]; exact i64_nat _ (by have := HS.out; omega)
      have i5 : ¬ ((z + Y : Nat) : Int) < 0 := by omega
      have HF := Lib.hid hF
      have HK := Lib.hid hlt
      obtain ⟨Z, hZ⟩ : ∃ Z, z + Y = Z := ⟨_, rfl⟩
      rw [hZ] at i4 i5
      have HZ := Lib.hid hZ
      clear hF hlt hk hZ
      go_wp2
      go_roundw
      case rel => exact ⟨k + 1, Z, by have := HK.out; omega, by go_num, rfl, trivial, Lib.hid (by have := HF.out; have := HZ.out; omega)⟩
      case measure => have := HK.out; simp [intOf]; omega
    · obtain rfl : k = ls.length := by omega
      have hF := H.out
      rw [List.drop_length] at hF
      obtain rfl : z = xlens ls := hF
      clear H hlt hk
      have C := Lib.hid (xgrow_is (xlens ls) wr HS.out)
      go_wp2_with fail
      refine (C.out).mono ?_; rintro e w1 ⟨⟨u1, rfl, o1⟩, b1⟩
      have O1 := Lib.hid o1
      have B1 := Lib.hid b1
      clear o1 b1
      go_wp2
      go_loopw [6, 8, 27] (fun u s i w2 => ∃ k : Nat, k ≤ ls.length ∧ i = .int .i64 k ∧ Hid (OwnA exE wr.heap.size w2 u (ls.take k).flatten ∧ Below wr.heap.size wr w2)) (fun _ _ i _ => ls.length - (intOf i).toNat)
      case atStart => exact ⟨0, Nat.zero_le _, rfl, Lib.hid ⟨O1.out, B1.out⟩⟩
      case round =>
        obtain ⟨k, hk, rfl, H⟩ := hrel
        by_cases hlt : k < ls.length
        · obtain ⟨b, off, q, c, rfl, hc, hr⟩ := HX.out wr (H.out.2) k hlt
          have hlen : Hid (((ls.take k).flatten).length + (ls.getD k []).length ≤ 2000) := Lib.hid (by have := xflat_split hlt; have := HS.out; omega)
          have i0 : (0 : Int) ≤ (k : Int) := by omega
          have i1 : (k : Int) < (ls.length : Int) := by omega
          have i2 : ¬ (k : Int) < 0 := by omega
          have i3 : IntKind.i64.wrap ((k : Int) + 1) = ((k + 1 : Nat) : Int) := by rw [show (k : Int) + 1 = ((k + 1 : Nat) : Int) by omega]; exact i64_nat _ (by have := HL.out; omega)
          have HT := Lib.hid (xflat_take hlt)
          obtain ⟨Y, hY⟩ : ∃ Y, (ls.getD k []).length = Y := ⟨_, rfl⟩
          rw [hY] at hc hr
          have HR := Lib.hid hr
          have HK := Lib.hid hlt
          clear hr hk hlt hY
          go_wp2_with (at_builtin; refine app_ex rfl _ _ rfl _ _ _ rfl H.out.1 _ _ rfl HR.out hlen (H.out.2.size) ?_)
          intro v' w' ho hg hx
          have HN := Lib.hid (show OwnA exE _ w' v' (ls.take (k + 1)).flatten ∧ Below _ _ w' from ⟨by rw [HT.out]; exact ho, below_app H.out.2 H.out.2.size H.out.1 hg⟩)
          clear ho hg hx
          go_wp2
          go_roundw
          case rel => exact ⟨k + 1, by have := HK.out; omega, by go_num, HN⟩
          case measure => have := HK.out; simp [intOf]; omega
        · obtain rfl : k = ls.length := by omega
          have hF := H.out
          rw [List.take_length] at hF
          have HF := Lib.hid hF
          clear hF
          go_wp2
          go_ret
          exact ⟨⟨_, rfl, HF.out.1⟩, HF.out.2⟩

/-- one boxed -/
theorem ex_box (w : World) (x : Ex) : ∃ W, w.alloc (.cells (xc x) 84) = W ∧ Hid (Xv W w.heap.size x ∧ Below w.heap.size w W) := ⟨_, rfl, Lib.hid ⟨Xv.new w x, bal (Below.refl _ _)⟩⟩
/-- the function that begins hands on -/
theorem hbeg_is {B : Nat} {o : Int} {x : Ex} {W : World} (hc : W.cell? ⟨B, 0, none⟩ = some (.int .i64 o)) :
    Calls Try.prog 94 #[.agg (xc x), .pointer (some ⟨B, 0, none⟩)] W fun e w' => e = .returned (.bool (atO o x.b)) ∧ Below W.heap.size W w' := by
  obtain ⟨W2, hW, H⟩ := ex_box W x
  have hB := World.block_lt_of_cell? _ _ hc
  have c1 : ∀ w', Below W2.heap.size W2 w' → w'.cell? ⟨B, 0, none⟩ = some (.int .i64 o) := fun w' hb => ((below_more H.out.2 hb).cell (p := ⟨B, 0, none⟩) hB).trans hc
  have c2 : ∀ w', Below W2.heap.size W2 w' → (blkLoad (.pointer (some ⟨W.heap.size, 0, none⟩))).run Try.prog w' = .ok (.agg (bc x.b)) w' := fun w' hb => (H.out.1.below hb).block
  obtain ⟨y, hy⟩ : ∃ y, offB x.b.a = y := ⟨_, rfl⟩
  have C := Lib.hid (fun w => off_is x.b y hy w)
  obtain ⟨r, hr⟩ : ∃ r, atO o x.b = r := ⟨_, rfl⟩
  have e1 : (y == o) = r := by
    rw [← hr, atO, hy]
    by_cases h : y = o
    · simp [h]
    · simp [h]
  rw [hr]
  have HB := Lib.hid H.out.2
  clear hr hy hc H hB
  generalize x.b = b at *
  go_enter Try.func94, Try.ntmps94
  go_wp2_with fail
  go_region_held3 (fun w' => Below W2.heap.size W2 w')
    (first | assumption | exact (Below.refl _ _).drew | exact below_more ‹Below W2.heap.size W2 _› hbq)
    (first
      | (go_at_call 49; refine (C.out _).mono ?_; rintro e wq ⟨rfl, hbq⟩))
  go_wp2
  go_ret
  exact ⟨rfl, below_more HB.out (by assumption)⟩
/-- are so many bytes behind its header, and not beyond its end -/
theorem xhas_is {o n : Int} {x : Ex} {p : Option Addr} {L c : Nat} {W : World} (hx : x.v = .slice p L c) (hb : 0 ≤ x.b.a ∧ x.b.a + x.b.s ≤ 512) (hL : (L : Int) = x.b.s - 1) (hn : 0 ≤ n ∧ n ≤ 448) :
    Calls Try.prog 73 #[.agg (xc x), .int .i64 o, .int .i64 n] W fun e w' => e = .returned (.bool (inO o n x.b)) ∧ Below W.heap.size W w' := by
  obtain ⟨W2, hW, H⟩ := ex_box W x
  have c1 : ∀ w', Below W2.heap.size W2 w' → w'.cell? ⟨W.heap.size, 3, none⟩ = some (.slice p L c) := fun w' hb => ((H.out.1.below hb).c3).trans (by rw [hx])
  have c2 : ∀ w', Below W2.heap.size W2 w' → (blkLoad (.pointer (some ⟨W.heap.size, 0, none⟩))).run Try.prog w' = .ok (.agg (bc x.b)) w' := fun w' hb => (H.out.1.below hb).block
  have hoff : offB x.b.a = (x.b.a + 1) * 8 := offB_at hb.1 (by omega)
  obtain ⟨y, hy⟩ : ∃ y, offB x.b.a = y := ⟨_, rfl⟩
  have C := Lib.hid (fun w => off_is x.b y hy w)
  obtain ⟨M, hM⟩ : ∃ M, IntKind.i64.wrap (8 * (L : Int)) = M := ⟨_, rfl⟩
  have hM2 : M = 8 * (L : Int) := by rw [← hM]; exact IntWalk.i64_in _ (by omega)
  obtain ⟨E, hE⟩ : ∃ E, IntKind.i64.wrap (y + M) = E := ⟨_, rfl⟩
  have hE2 : E = (x.b.a + x.b.s) * 8 := by rw [← hE, IntWalk.i64_in _ (by omega)]; omega
  obtain ⟨Z, hZ⟩ : ∃ Z, IntKind.i64.wrap (E - n) = Z := ⟨_, rfl⟩
  have hZ2 : Z = (x.b.a + x.b.s) * 8 - n := by rw [← hZ, IntWalk.i64_in _ (by omega)]; omega
  rw [inO, hy, ← hZ2]
  have HB := Lib.hid H.out.2
  clear hy hL hn hb hoff hM2 hE2 hZ2 H hx
  generalize x.b = b at *
  by_cases h2 : o ≥ y
  · by_cases h3 : o ≤ Z
    · rw [decide_eq_true ⟨h2, h3⟩]
      go_enter Try.func73, Try.ntmps73
      go_wp2_with fail
      go_region_held3 (fun w' => Below W2.heap.size W2 w')
        (first | assumption | exact (Below.refl _ _).drew | exact below_more ‹Below W2.heap.size W2 _› hbq)
        (first
          | (go_at_call 49; refine (C.out _).mono ?_; rintro e wq ⟨rfl, hbq⟩))
      have G := Lib.hid ‹Below W2.heap.size W2 _›
      have d2 := c2 _ G.out
      go_wp2_with fail
      refine (C.out _).mono ?_; rintro e wr ⟨rfl, hbr⟩
      have G2 := Lib.hid (below_more HB.out (below_more G.out hbr))
      go_wp2_with fail
      go_ret
      exact ⟨rfl, G2.out⟩
    · rw [decide_eq_false (fun h => h3 h.2)]
      have t3 : decide (o ≤ Z) = false := decide_eq_false h3
      go_enter Try.func73, Try.ntmps73
      go_wp2_with fail
      go_region_held3 (fun w' => Below W2.heap.size W2 w')
        (first | assumption | exact (Below.refl _ _).drew | exact below_more ‹Below W2.heap.size W2 _› hbq)
        (first
          | (go_at_call 49; refine (C.out _).mono ?_; rintro e wq ⟨rfl, hbq⟩))
      have G := Lib.hid ‹Below W2.heap.size W2 _›
      have d2 := c2 _ G.out
      go_wp2_with fail
      refine (C.out _).mono ?_; rintro e wr ⟨rfl, hbr⟩
      have G2 := Lib.hid (below_more HB.out (below_more G.out hbr))
      go_wp2_with fail
      go_ret
      exact ⟨rfl, G2.out⟩
  · rw [decide_eq_false (fun h => h2 h.1)]
    have t2 : decide (o ≥ y) = false := decide_eq_false h2
    go_enter Try.func73, Try.ntmps73
    go_wp2_with fail
    go_region_held3 (fun w' => Below W2.heap.size W2 w')
      (first | assumption | exact (Below.refl _ _).drew | exact below_more ‹Below W2.heap.size W2 _› hbq)
      (first
        | (go_at_call 49; refine (C.out _).mono ?_; rintro e wq ⟨rfl, hbq⟩))
    have G := Lib.hid ‹Below W2.heap.size W2 _›
    have d2 := c2 _ G.out
    go_wp2_with fail
    refine (C.out _).mono ?_; rintro e wr ⟨rfl, hbr⟩
    have G2 := Lib.hid (below_more HB.out (below_more G.out hbr))
    go_wp2_with fail
    go_ret
    exact ⟨rfl, G2.out⟩

set_option maxHeartbeats 1000000 in
theorem xbegi_is {B n cap : Nat} {p : Option Addr} {l : List Ex} {w : World} (P : Bk → Bool) (hv : RA exE w (.slice p n cap) l) (hP : ∀ x ∈ l, ∀ W, Below w.heap.size w W → Calls Try.prog 94 #[.agg (xc x), .pointer (some ⟨B, 0, none⟩)] W fun e w' => e = .returned (.bool (P x.b)) ∧ Below W.heap.size W w') :
    Calls Try.prog 71 #[.slice p n cap, .func (.func 94) #[] #[.pointer (some ⟨B, 0, none⟩)]] w fun e w' => e = .returned (.int .i64 (oi (ixF P 0 (l.map (·.b))))) ∧ Below w.heap.size w w' := by
  obtain ⟨p', cap', e0, hlc, hcm⟩ := ra_shape hv
  cases e0
  unfold maxLen at hcm
  have eg : ∀ args w, (callFunc 94 args).run Try.prog w = .ok (.enter 94 args) w := Go.Proofs.enters_of Try.func94 (by kernel_rfl) rfl
  have HV := Lib.hid hv
  have HP := Lib.hid hP
  have HM := Lib.hid (And.intro hlc hcm)
  obtain ⟨R, hR⟩ : ∃ R, ixF P 0 (l.map (·.b)) = R := ⟨_, rfl⟩
  rw [hR]
  have HR := Lib.hid hR
  clear hv hP hlc hcm hR
  go_enter Try.func71, Try.ntmps71
  go_wp2
  go_loopw [8] (fun i wr => ∃ k : Nat, k ≤ l.length ∧ i = .int .i64 k ∧ Hid (ixF P k ((l.drop k).map (·.b)) = R ∧ Below w.heap.size w wr)) (fun i _ => l.length - (intOf i).toNat)
  case atStart => exact ⟨0, Nat.zero_le _, rfl, Lib.hid ⟨by rw [List.drop_zero]; exact HR.out, Below.refl _ _⟩⟩
  case round =>
    obtain ⟨k, hk, rfl, H⟩ := hrel
    by_cases hlt : k < l.length
    · obtain ⟨b, off, e, _, hx⟩ := ex_at (ra_below HV.out H.out.2) (by omega)
      subst e
      obtain ⟨hl, _, _⟩ := hx k hlt
      obtain ⟨X, hX⟩ : ∃ X, l.getD k default = X := ⟨_, rfl⟩
      rw [hX] at hl
      have i0 : (0 : Int) ≤ (k : Int) := by omega
      have i3 : (k : Int) < (l.length : Int) := by omega
      have i4 : ¬ (k : Int) < 0 := by omega
      have j0 : IntKind.i64.wrap ((k : Int) + 1) = ((k + 1 : Nat) : Int) := by rw [show (k : Int) + 1 = ((k + 1 : Nat) : Int) by omega]; exact i64_nat _ (by have := HM.out; omega)
      have HK := Lib.hid hlt
      have hmem : X ∈ l := by rw [← hX, List.getD_eq_getElem?_getD, List.getElem?_eq_getElem hlt]; exact List.getElem_mem hlt
      have hdr : l.drop k = X :: l.drop (k + 1) := by rw [← hX, List.getD_eq_getElem?_getD, List.getElem?_eq_getElem hlt]; exact List.drop_eq_getElem_cons hlt
      have hF := H.out.1
      rw [hdr, List.map_cons, ixF] at hF
      have KS := Lib.hid (HP.out X hmem wr H.out.2)
      clear hx hX hlt hk hmem hdr
      obtain ⟨q, hq⟩ : ∃ q, P X.b = q := ⟨_, rfl⟩
      rw [hq] at KS hF
      clear hq
      cases q
      · rw [if_neg Bool.false_ne_true] at hF
        have HF := Lib.hid hF
        clear hF
        go_wp2_with fail
        refine KS.out.mono ?_; rintro e w' ⟨rfl, hb'⟩
        go_wp2
        have HB := Lib.hid (below_more H.out.2 hb')
        clear hb'
        go_roundw
        case rel => exact ⟨k + 1, by have := HK.out; omega, by go_num, Lib.hid ⟨HF.out, HB.out⟩⟩
        case measure => have := HK.out; simp [intOf]; omega
      · rw [if_pos rfl] at hF
        subst hF
        go_wp2_with fail
        refine KS.out.mono ?_; rintro e w' ⟨rfl, hb'⟩
        go_wp2
        go_ret
        exact ⟨rfl, below_more H.out.2 hb'⟩
    · obtain rfl : k = l.length := by omega
      have hF := H.out.1
      rw [List.drop_length] at hF
      subst hF
      go_wp2
      go_ret
      exact ⟨rfl, H.out.2⟩

set_option maxHeartbeats 1000000 in
theorem xholi_is {B C n cap : Nat} {p : Option Addr} {l : List Ex} {w : World} (P : Bk → Bool) (hv : RA exE w (.slice p n cap) l) (hP : ∀ x ∈ l, ∀ W, Below w.heap.size w W → Calls Try.prog 72 #[.agg (xc x), .pointer (some ⟨B, 0, none⟩), .pointer (some ⟨C, 0, none⟩)] W fun e w' => e = .returned (.bool (P x.b)) ∧ Below W.heap.size W w') :
    Calls Try.prog 71 #[.slice p n cap, .func (.func 72) #[] #[.pointer (some ⟨B, 0, none⟩), .pointer (some ⟨C, 0, none⟩)]] w fun e w' => e = .returned (.int .i64 (oi (ixF P 0 (l.map (·.b))))) ∧ Below w.heap.size w w' := by
  obtain ⟨p', cap', e0, hlc, hcm⟩ := ra_shape hv
  cases e0
  unfold maxLen at hcm
  have eg : ∀ args w, (callFunc 72 args).run Try.prog w = .ok (.enter 72 args) w := Go.Proofs.enters_of Try.func72 (by kernel_rfl) rfl
  have HV := Lib.hid hv
  have HP := Lib.hid hP
  have HM := Lib.hid (And.intro hlc hcm)
  obtain ⟨R, hR⟩ : ∃ R, ixF P 0 (l.map (·.b)) = R := ⟨_, rfl⟩
  rw [hR]
  have HR := Lib.hid hR
  clear hv hP hlc hcm hR
  go_enter Try.func71, Try.ntmps71
  go_wp2
  go_loopw [8] (fun i wr => ∃ k : Nat, k ≤ l.length ∧ i = .int .i64 k ∧ Hid (ixF P k ((l.drop k).map (·.b)) = R ∧ Below w.heap.size w wr)) (fun i _ => l.length - (intOf i).toNat)
  case atStart => exact ⟨0, Nat.zero_le _, rfl, Lib.hid ⟨by rw [List.drop_zero]; exact HR.out, Below.refl _ _⟩⟩
  case round =>
    obtain ⟨k, hk, rfl, H⟩ := hrel
    by_cases hlt : k < l.length
    · obtain ⟨b, off, e, _, hx⟩ := ex_at (ra_below HV.out H.out.2) (by omega)
      subst e
      obtain ⟨hl, _, _⟩ := hx k hlt
      obtain ⟨X, hX⟩ : ∃ X, l.getD k default = X := ⟨_, rfl⟩
      rw [hX] at hl
      have i0 : (0 : Int) ≤ (k : Int) := by omega
      have i3 : (k : Int) < (l.length : Int) := by omega
      have i4 : ¬ (k : Int) < 0 := by omega
      have j0 : IntKind.i64.wrap ((k : Int) + 1) = ((k + 1 : Nat) : Int) := by rw [show (k : Int) + 1 = ((k + 1 : Nat) : Int) by omega]; exact i64_nat _ (by have := HM.out; omega)
      have HK := Lib.hid hlt
      have hmem : X ∈ l := by rw [← hX, List.getD_eq_getElem?_getD, List.getElem?_eq_getElem hlt]; exact List.getElem_mem hlt
      have hdr : l.drop k = X :: l.drop (k + 1) := by rw [← hX, List.getD_eq_getElem?_getD, List.getElem?_eq_getElem hlt]; exact List.drop_eq_getElem_cons hlt
      have hF := H.out.1
      rw [hdr, List.map_cons, ixF] at hF
      have KS := Lib.hid (HP.out X hmem wr H.out.2)
      clear hx hX hlt hk hmem hdr
      obtain ⟨q, hq⟩ : ∃ q, P X.b = q := ⟨_, rfl⟩
      rw [hq] at KS hF
      clear hq
      cases q
      · rw [if_neg Bool.false_ne_true] at hF
        have HF := Lib.hid hF
        clear hF
        go_wp2_with fail
        refine KS.out.mono ?_; rintro e w' ⟨rfl, hb'⟩
        go_wp2
        have HB := Lib.hid (below_more H.out.2 hb')
        clear hb'
        go_roundw
        case rel => exact ⟨k + 1, by have := HK.out; omega, by go_num, Lib.hid ⟨HF.out, HB.out⟩⟩
        case measure => have := HK.out; simp [intOf]; omega
      · rw [if_pos rfl] at hF
        subst hF
        go_wp2_with fail
        refine KS.out.mono ?_; rintro e w' ⟨rfl, hb'⟩
        go_wp2
        go_ret
        exact ⟨rfl, below_more H.out.2 hb'⟩
    · obtain rfl : k = l.length := by omega
      have hF := H.out.1
      rw [List.drop_length] at hF
      subst hF
      go_wp2
      go_ret
      exact ⟨rfl, H.out.2⟩
end Go.Proofs.Ytkpefnjohdjejaa
