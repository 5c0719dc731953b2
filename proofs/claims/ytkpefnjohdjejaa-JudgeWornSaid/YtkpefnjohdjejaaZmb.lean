/- texts written together: Mgj Mgo Mgm Mge Ftd Fte Byp Bye Spa Pce Spn Spr Spe Spf -/
import Derived.Test.YtkpefnjohdjejaaZma
import Derived.Deep.RegionHeld3
import Derived.Laws.BitsAllLaws
import Derived.Laws.BytesArg
import Derived.Lib.Tables
import Derived.BigQuiet
import Derived.Deep.WholeRow
import Derived.Lib.Hide

/-
  Contract of package merge: the places of what becomes one free block.
-/
namespace Go.Proofs.Ytkpefnjohdjejaa
set_option maxRecDepth 100000
open Go.RowKit


/-- the numbers that are met where it is looked for what is free beside it -/
theorem ahead_of (l : List Bk) (k : Nat) (hk : k < l.length) (hl : l.length ≤ 1000) : ∃ K0 F : Nat, frm l k = F ∧
    ((¬ (k : Int) > 0 ∧ F = k) ∨ ((k : Int) > 0 ∧ IntKind.i64.wrap ((k : Int) - 1) = (K0 : Int) ∧ K0 < l.length ∧ ((l.getD K0 default).u = true ∧ F = k ∨ (l.getD K0 default).u = false ∧ F = K0))) := by
  refine ⟨k - 1, frm l k, rfl, ?_⟩
  by_cases h : k = 0
  · refine .inl ⟨by omega, ?_⟩
    rcases frm_or l k with ⟨e, _⟩ | ⟨e, _⟩ <;> omega
  · refine .inr ⟨by omega, ?_, by omega, ?_⟩
    · rw [show (k : Int) - 1 = ((k - 1 : Nat) : Int) by omega]; exact i64_nat _ (by omega)
    · rcases frm_or l k with ⟨e, c⟩ | ⟨_, e, c⟩
      · exact .inl ⟨c.resolve_left h, e⟩
      · exact .inr ⟨c, e⟩
theorem behind_of (l : List Bk) (k : Nat) (hk : k < l.length) (hl : l.length ≤ 1000) : ∃ K1 K2 T : Nat, too l k = T ∧ k + 1 = K1 ∧ IntKind.i64.wrap ((k : Int) + 1) = (K1 : Int) ∧ IntKind.i64.wrap ((K1 : Int) + 1) = (K2 : Int) ∧
    ((¬ (K1 : Int) < (l.length : Int) ∧ T = K1) ∨ ((K1 : Int) < (l.length : Int) ∧ K1 < l.length ∧ ((l.getD K1 default).u = true ∧ T = K1 ∨ (l.getD K1 default).u = false ∧ T = K2))) := by
  refine ⟨k + 1, k + 2, too l k, rfl, rfl, by rw [show (k : Int) + 1 = ((k + 1 : Nat) : Int) by omega]; exact i64_nat _ (by omega), by rw [show ((k + 1 : Nat) : Int) + 1 = ((k + 2 : Nat) : Int) by omega]; exact i64_nat _ (by omega), ?_⟩
  rcases too_or l k with ⟨e, c⟩ | ⟨c, e, d⟩
  · by_cases h : l.length ≤ k + 1
    · exact .inl ⟨by omega, e⟩
    · exact .inr ⟨by omega, by omega, .inl ⟨c.resolve_left h, e⟩⟩
  · exact .inr ⟨by omega, c, .inr ⟨d, e⟩⟩

end Go.Proofs.Ytkpefnjohdjejaa

/-
  Contract of package merge: the one block of the words of some that are side by side.
-/
namespace Go.Proofs.Ytkpefnjohdjejaa
set_option maxRecDepth 100000
open Go.ChangeShapes Go.WideShapes Go.ChangeAt Go.RowKit

theorem Bv.store {w : World} {g : Nat} {b : Bk} (h : Bv w g b) (c : Bk) : (blkStore (.pointer (some ⟨g, 0, none⟩)) (.agg (bc c))).run Try.prog w = .ok () (w.setRow g (bc c)) := by
  simp only [blkStore, Instr.storeAt, Instr.sureAddr, Sem.run_bind, Sem.run_pure, Result.andThen]
  exact run_storeVar_row w g 72 72 (bc b) (bc c) h (by rw [info_block, bc_size]) (by rw [bc_size, bc_size]) (bc_one c)
theorem Bv.put {w : World} {g : Nat} {b : Bk} (h : Bv w g b) (c : Bk) : Bv (w.setRow g (bc c)) g c := by
  have e : w.heap[g]? = some (.cells (bc b) 72 (0, 0)) := h
  unfold Bv Whole
  simp [World.setRow, Array.getElem?_modify, e]
theorem Ev.store {w : World} {g : Nat} {b : Ed} (h : Ev w g b) (c : Ed) : (edStore (.pointer (some ⟨g, 0, none⟩)) (.agg (ec c))).run Try.prog w = .ok () (w.setRow g (ec c)) := by
  simp only [edStore, Instr.storeAt, Instr.sureAddr, Sem.run_bind, Sem.run_pure, Result.andThen]
  exact run_storeVar_row w g 114 114 (ec b) (ec c) h (by rw [info_edit, ec_size]) (by rw [ec_size, ec_size]) (ec_one c)
theorem Ev.put {w : World} {g : Nat} {b : Ed} (h : Ev w g b) (c : Ed) : Ev (w.setRow g (ec c)) g c := by
  have e : w.heap[g]? = some (.cells (ec b) 114 (0, 0)) := h
  unfold Ev Whole
  simp [World.setRow, Array.getElem?_modify, e]
theorem Ev.load {w : World} {g : Nat} {b : Ed} (h : Ev w g b) : (edLoad (.pointer (some ⟨g, 0, none⟩))).run Try.prog w = .ok (.agg (ec b)) w :=
  run_edLoad fun j u hj => by rw [Whole.at_ h, Nat.zero_add, ← hj]; simp [ec]
theorem blk_box0 (w : World) : ∃ W, w.alloc (.cells #[.int .i64 0, .int .i64 0, .bool false] 72) = W ∧ Hid (Bv W w.heap.size ⟨0, 0, false⟩ ∧ Below w.heap.size w W) := blk_boxed w ⟨0, 0, false⟩
theorem ed_box0 (w : World) : ∃ W, w.alloc (.cells #[.int .i64 0, .int .u64 0] 114) = W ∧ Hid (Ev W w.heap.size ⟨0, 0⟩ ∧ Below w.heap.size w W) := ed_boxed w ⟨0, 0⟩

end Go.Proofs.Ytkpefnjohdjejaa

/-
  Contracts of package merge: the blocks behind the giving back, the word that is written.
-/
namespace Go.Proofs.Ytkpefnjohdjejaa
set_option maxRecDepth 100000
open Go.ChangeShapes Go.WideShapes Go.ChangeAt Go.RowKit

theorem mid_length {l : List Bk} {k : Nat} (h : k < l.length) : (midB l k).length = too l k - frm l k := by
  have := frm_too h
  rw [midB, List.length_drop, List.length_take]
  omega
theorem mid_sum {l : List Bk} {k : Nat} (h : canM l k = true) : szW (midB l k) = (oneB l k).s ∧ ((midB l k).getD 0 default).a = (oneB l k).a := by
  obtain ⟨hm, hk, _⟩ := canM_nat h
  have ha := mayS_all hm
  refine ⟨?_, ?_⟩
  · rw [szW, if_pos]
    · rfl
    · exact List.all_eq_true.2 fun b hb => List.all_eq_true.1 ha b (mid_in hk b hb)
  · obtain ⟨r, hr⟩ := mid_cons hk
    rw [hr]; rfl
/-- the slice of what becomes one -/
theorem ra_mid {l : List Bk} {k b off c : Nat} {w : World} (h : k < l.length) (hv : RA blkE w (.slice (some ⟨b, off, none⟩) l.length c) l) : RA blkE w (.slice (some ⟨b, off + frm l k * 3, none⟩) (too l k - frm l k) (c - frm l k)) (midB l k) := by
  have hf := frm_too h
  have := ra_take hv (too l k)
  rw [Nat.min_eq_left (by omega)] at this
  exact ra_drop this (by rw [List.length_take]; omega)
/-- what is given back may be written -/
theorem one_wf {l : List Bk} {k : Nat} (h : canM l k = true) : (oneB l k).Wf ∧ MayB (oneB l k).s ∧ 0 ≤ (oneB l k).a ∧ (oneB l k).a ≤ 512 := by
  obtain ⟨hm, _⟩ := canM_nat h
  obtain ⟨h1, h2, h3⟩ := one_in hm h
  obtain ⟨⟨_, h5, _⟩, _⟩ := mayL_yes.1 hm
  obtain ⟨h6, h7⟩ := id h1
  exact ⟨Bk.wf_of (by omega) (by omega) (by omega) (by omega), h1, h2, by omega⟩

end Go.Proofs.Ytkpefnjohdjejaa

/-
  Contract of package merge: the word that is written where a block is given back.
-/
namespace Go.Proofs.Ytkpefnjohdjejaa
set_option maxRecDepth 100000
open Go.ChangeShapes Go.WideShapes Go.ChangeAt Go.RowKit

theorem results_row_tmp {P : Program} {fn : Func} {p q : Tmp} {ty : TypeId} (h : fn.results = #[.cell p ty, .tmp q]) (tmps : Array Value) (w : World) (v : Value) (g : Nat) (t : TypeId) (cs : Array Value) (fr : Nat × Nat) (d : TypeDesc)
    (hp : tmps.getD p undef = .pointer (some ⟨g, 0, none⟩)) (hq : tmps.getD q undef = v) (hg : w.heap[g]? = some (.cells cs t fr))
    (hu : P.underlying ty = some d) (hd : (match d with | .struct _ | .array _ _ => true | _ => false) = true) (hi : (P.info? ty).map (·.size) = some cs.size) :
    (results fn tmps).run P w = .ok (.tuple #[.agg cs, v]) w := by
  have hp' : tmps[p]?.getD undef = .pointer (some ⟨g, 0, none⟩) := by simpa using hp
  have hq' : tmps[q]?.getD undef = v := by simpa using hq
  simp [results, h, hp', hq', asAddr, run_loadVar_row w g t ty cs fr d hg hu hd hi]
theorem built_ed0 : Try.prog.built 114 [] = some (ec ⟨0, 0⟩) := by kernel_rfl
@[go_sem] theorem run_edBuild0 (w : World) : (edBuild #[]).run Try.prog w = .ok (.agg (ec ⟨0, 0⟩)) w := run_build w _ _ _ built_ed0

end Go.Proofs.Ytkpefnjohdjejaa

/-
  Contracts of package fit: the lowest size, the places of those that fit.
-/
namespace Go.Proofs.Ytkpefnjohdjejaa
set_option maxRecDepth 100000
open Go.RowKit

theorem tgS_no {n m : Int} {b : Bk} {r : List Bk} (h : fitB n b = false) : tgS n m (b :: r) = tgS n m r := by rw [tgS, if_neg (by rw [h]; simp)]
theorem tgS_take {n m : Int} {b : Bk} {r : List Bk} (h : fitB n b = true) (h2 : m = 0 ∨ b.s < m) : tgS n m (b :: r) = tgS n b.s r := by rw [tgS, if_pos ⟨h, h2⟩]
theorem tgS_keep {n m : Int} {b : Bk} {r : List Bk} (h : ¬ (m = 0 ∨ b.s < m)) : tgS n m (b :: r) = tgS n m r := by rw [tgS, if_neg (fun g => h g.2)]

set_option maxHeartbeats 1000000 in
theorem tight_is (n : Int) (l : List Bk) (v : Value) (r : Int) (w : World) (hv : RA blkE w v l) (hr : tgS n 0 l = r) :
    Calls Try.prog 92 #[v, .int .i64 n] w fun e w' => e = .returned (.int .i64 r) ∧ Below w.heap.size w w' := by
  obtain ⟨p, cap, rfl, hlc, hcm⟩ := ra_shape hv
  unfold maxLen at hcm
  have HL : Hid (l.length ≤ 9223372036854775807) := Lib.hid (by omega)
  have HV := Lib.hid hv
  have HR := Lib.hid hr
  clear hr hcm hlc hv
  go_enter Try.func92, Try.ntmps92
  go_wp2
  go_loopw [5, 10] (fun z i wr => ∃ (k : Nat) (m : Int), k ≤ l.length ∧ i = .int .i64 k ∧ z = .int .i64 m ∧ Hid (tgS n m (l.drop k) = r ∧ Below w.heap.size w wr)) (fun _ i _ => l.length - (intOf i).toNat)
  case atStart => exact ⟨0, 0, Nat.zero_le _, rfl, rfl, Lib.hid ⟨HR.out, Below.refl _ _⟩⟩
  case round =>
    obtain ⟨k, m, hk, rfl, rfl, H⟩ := hrel
    by_cases hlt : k < l.length
    · obtain ⟨b, off, rfl, hb, hx⟩ := blk_at (ra_below HV.out H.out.2) (by omega)
      obtain ⟨hld, _, _, _, hwf⟩ := hx k hlt
      have hF := H.out.1
      rw [getD_cut hlt] at hF
      generalize l.getD k default = y at *
      obtain ⟨a, s, u⟩ := y
      obtain ⟨W, hW, HW⟩ := blk_boxed wr ⟨a, s, u⟩
      have c1 : W.cell? ⟨wr.heap.size, 1, none⟩ = some (.int .i64 s) := HW.out.1.c1
      have c2 : W.cell? ⟨wr.heap.size, 2, none⟩ = some (.bool u) := HW.out.1.c2
      have HB := Lib.hid (below_more H.out.2 HW.out.2)
      have i0 : (0 : Int) ≤ (k : Int) := by omega
      have i1 : (k : Int) < (l.length : Int) := by omega
      have i2 : ¬ (k : Int) < 0 := by omega
      have i3 : IntKind.i64.wrap ((k : Int) + 1) = ((k + 1 : Nat) : Int) := by rw [show (k : Int) + 1 = ((k + 1 : Nat) : Int) by omega]; exact i64_nat _ (by have := HL.out; omega)
      have HK := Lib.hid hlt
      have hws : (Lit.int .i64 s).wf = true := hwf.ws
      obtain ⟨t, ht⟩ : ∃ t, takN s n = t := ⟨_, rfl⟩
      have C := Lib.hid (takes_is s n t hws ht W)
      clear hx hk hb hwf hws
      cases u
      · cases hf : fitB n ⟨a, s, false⟩
        · rw [tgS_no hf] at hF
          have t0 : (t == 0) = true := by
            have : ¬ (2 ≤ n ∧ n ≤ s) := fun h => by rw [fitB_iff.2 ⟨rfl, h.1, h.2⟩] at hf; cases hf
            rw [← ht, takN_zero.2 this]; rfl
          have HF := Lib.hid hF
          clear hF hf ht
          go_wp2_with fail
          refine (C.out).mono ?_; rintro e w' ⟨rfl, rfl⟩
          go_wp2
          go_roundw
          case rel => exact ⟨k + 1, m, by have := HK.out; omega, by go_num, rfl, Lib.hid ⟨HF.out, HB.out⟩⟩
          case measure => have := HK.out; simp [intOf]; omega
        · have t0 : (t == 0) = false := by
            obtain ⟨_, h1, h2⟩ := fitB_iff.1 hf
            rw [beq_eq_false_iff_ne, ← ht, Ne, takN_zero]
            exact fun h => h ⟨h1, h2⟩
          by_cases hm0 : m = 0
          · rw [tgS_take hf (.inl hm0)] at hF
            have m0 : (m == 0) = true := by rw [hm0]; rfl
            have HF := Lib.hid hF
            clear hF hf ht hm0
            go_wp2_with fail
            refine (C.out).mono ?_; rintro e w' ⟨rfl, rfl⟩
            go_wp2
            go_roundw
            case rel => exact ⟨k + 1, s, by have := HK.out; omega, by go_num, rfl, Lib.hid ⟨HF.out, HB.out⟩⟩
            case measure => have := HK.out; simp [intOf]; omega
          · have m0 : (m == 0) = false := beq_eq_false_iff_ne.2 hm0
            by_cases hms : s < m
            · rw [tgS_take hf (.inr hms)] at hF
              have HF := Lib.hid hF
              clear hF hf ht hm0
              go_wp2_with fail
              refine (C.out).mono ?_; rintro e w' ⟨rfl, rfl⟩
              go_wp2
              go_roundw
              case rel => exact ⟨k + 1, s, by have := HK.out; omega, by go_num, rfl, Lib.hid ⟨HF.out, HB.out⟩⟩
              case measure => have := HK.out; simp [intOf]; omega
            · rw [tgS_keep (fun h => h.elim hm0 hms)] at hF
              have HF := Lib.hid hF
              clear hF hf ht hm0
              go_wp2_with fail
              refine (C.out).mono ?_; rintro e w' ⟨rfl, rfl⟩
              go_wp2
              go_roundw
              case rel => exact ⟨k + 1, m, by have := HK.out; omega, by go_num, rfl, Lib.hid ⟨HF.out, HB.out⟩⟩
              case measure => have := HK.out; simp [intOf]; omega
      · rw [tgS_no (by simp [fitB])] at hF
        have HF := Lib.hid hF
        clear hF ht C
        go_wp2
        go_roundw
        case rel => exact ⟨k + 1, m, by have := HK.out; omega, by go_num, rfl, Lib.hid ⟨HF.out, HB.out⟩⟩
        case measure => have := HK.out; simp [intOf]; omega
    · obtain rfl : k = l.length := by omega
      have hF := H.out.1
      rw [List.drop_length, tgS] at hF
      subst hF
      go_wp2
      go_ret
      exact ⟨rfl, H.out.2⟩

/-- places being gathered -/
structure Gth (z : Int) (l : List Bk) (w0 wr : World) (lv : Value) (k : Nat) : Prop where
  ex : ∃ pre : List Nat, OwnI w0.heap.size wr lv (ins pre) ∧ pre ++ plS z k (l.drop k) = plS z 0 l ∧ pre.length ≤ k
  up : Below w0.heap.size w0 wr
theorem ownI_nil' (B : Nat) (w : World) : OwnI B w (.slice none 0 0) [] := World.ownsRow_nil _ _ _ _
theorem own_below_i' {B : Nat} {w w' : World} {v : Value} {l : List Int} (h : OwnI B w v l) (hb : Below w.heap.size w w') : OwnI B w' v l := by
  refine ⟨h.1, h.2.imp id ?_⟩
  rintro ⟨g, cap, cur, hv, h1, hg, r⟩
  exact ⟨g, cap, cur, hv, h1, (hb.block g (Array.getElem?_eq_some_iff.1 hg).1).trans hg, r⟩
theorem ins_app (f : List Nat) (i : Nat) : ins (f ++ [i]) = ins f ++ [(i : Int)] := by simp [ins]
theorem ins_length (f : List Nat) : (ins f).length = f.length := by simp [ins]
theorem Gth.start {z : Int} {l : List Bk} {w : World} : Gth z l w w (.slice none 0 0) 0 := ⟨⟨[], ownI_nil' _ _, rfl, Nat.le_refl _⟩, Below.refl _ _⟩
theorem Gth.skip {z : Int} {l : List Bk} {w0 wr w' : World} {lv : Value} {k : Nat} (h : Gth z l w0 wr lv k) (hk : k < l.length) (hn : hasS z (l.getD k default) = false) (hb : Below wr.heap.size wr w') : Gth z l w0 w' lv (k + 1) := by
  obtain ⟨pre, h1, h2, h3⟩ := h.ex
  refine ⟨⟨pre, own_below_i' h1 hb, ?_, by omega⟩, below_more h.up hb⟩
  rw [← h2, getD_cut hk, plS, hn, if_neg Bool.false_ne_true]
theorem Gth.more {z : Int} {l : List Bk} {w0 wr W : World} {lv : Value} {k : Nat} (h : Gth z l w0 wr lv k) (hk : k < l.length) (hy : hasS z (l.getD k default) = true) (hb : Below wr.heap.size wr W) (hl : l.length ≤ 1000) :
    ∃ pre, OwnI w0.heap.size (W.alloc (.cells #[.int .i64 (k : Int)] 3)) lv (ins pre) ∧ Hid ((ins pre).length + 1 ≤ 1000000) ∧ w0.heap.size ≤ (W.alloc (.cells #[.int .i64 (k : Int)] 3)).heap.size ∧
      ∀ v' w', OwnI w0.heap.size w' v' (ins pre ++ [(k : Int)]) → (W.alloc (.cells #[.int .i64 (k : Int)] 3)).grownBy w' lv.ownBlock → Gth z l w0 w' v' (k + 1) := by
  obtain ⟨pre, h1, h2, h3⟩ := h.ex
  have hB := below_more h.up hb
  have h1' := own_below_i' h1 hb
  refine ⟨pre, World.ownsRow.alloc h1' _, Lib.hid (by rw [ins_length]; omega), by rw [size_alloc]; exact Nat.le_succ_of_le hB.size, fun v' w' ho hg => ⟨⟨pre ++ [k], by rw [ins_app]; exact ho, ?_, by simp; omega⟩, Below.grown (bal hB) hg (by rw [size_alloc]; exact Nat.le_succ_of_le hB.size) (fun q hq => (World.ownsRow.lt h1 q hq).1)⟩⟩
  rw [← h2, getD_cut hk, plS, hy, if_pos rfl]
  simp

set_option maxHeartbeats 1000000 in
theorem fits_is (n : Int) (l : List Bk) (v : Value) (w : World) (hv : RA blkE w v l) (hl : l.length ≤ 1000) :
    Calls Try.prog 84 #[v, .int .i64 n] w fun e w' => (∃ u, e = .returned u ∧ OwnI w.heap.size w' u (ins (fitN n l))) ∧ Below w.heap.size w w' := by
  obtain ⟨z, hz⟩ : ∃ z, tgS n 0 l = z := ⟨_, rfl⟩
  have T := Lib.hid (tight_is n l v z w hv hz)
  rw [fitN, hz]
  obtain ⟨p, cap, rfl, hlc, hcm⟩ := ra_shape hv
  have HL := Lib.hid hl
  have HV := Lib.hid hv
  clear hcm hlc hv hl hz
  by_cases h0 : z = 0
  · rw [if_pos h0]
    have z0 : (z == 0) = true := by rw [h0]; rfl
    clear h0
    generalize l.length = L at *
    go_enter Try.func84, Try.ntmps84
    go_wp2_with fail
    refine (T.out).mono ?_; rintro e w1 ⟨rfl, b1⟩
    go_wp2
    go_ret
    exact ⟨⟨_, rfl, ownI_nil' _ _⟩, b1⟩
  · rw [if_neg h0]
    have z0 : (z == 0) = false := beq_eq_false_iff_ne.2 h0
    clear h0
    go_enter Try.func84, Try.ntmps84
    go_wp2_with fail
    refine (T.out).mono ?_; rintro e w1 ⟨rfl, b1⟩
    have D1 := Lib.hid b1
    have HS : Hid (w.heap.size ≤ w1.heap.size) := Lib.hid b1.size
    have HV1 := Lib.hid (ra_below HV.out b1)
    clear b1 T
    go_wp2
    go_loopw [6, 16] (fun y i wr => ∃ (k : Nat) (lv : Value), k ≤ l.length ∧ i = .int .i64 k ∧ y = lv ∧ Hid (Gth z l w1 wr lv k)) (fun _ i _ => l.length - (intOf i).toNat)
    case atStart => exact ⟨0, _, Nat.zero_le _, rfl, rfl, Lib.hid Gth.start⟩
    case round =>
      obtain ⟨k, lv, hk, rfl, rfl, H⟩ := hrel
      by_cases hlt : k < l.length
      · obtain ⟨b, off, rfl, hb, hx⟩ := blk_at (ra_below HV1.out H.out.up) (by omega)
        obtain ⟨hld, _, _, _, hwf⟩ := hx k hlt
        have i0 : (0 : Int) ≤ (k : Int) := by omega
        have i1 : (k : Int) < (l.length : Int) := by omega
        have i2 : ¬ (k : Int) < 0 := by omega
        have i3 : IntKind.i64.wrap ((k : Int) + 1) = ((k + 1 : Nat) : Int) := by rw [show (k : Int) + 1 = ((k + 1 : Nat) : Int) by omega]; exact i64_nat _ (by have := HL.out; omega)
        have HK := Lib.hid hlt
        have HSK := Lib.hid (fun hn W (hb : Below wr.heap.size wr W) => H.out.skip hlt hn hb)
        have HMO := Lib.hid (fun hy W (hb : Below wr.heap.size wr W) => H.out.more hlt hy hb HL.out)
        generalize l.getD k default = y at *
        obtain ⟨a, s, u⟩ := y
        obtain ⟨W, hW, HW⟩ := blk_boxed wr ⟨a, s, u⟩
        have c1 : W.cell? ⟨wr.heap.size, 1, none⟩ = some (.int .i64 s) := HW.out.1.c1
        have c2 : W.cell? ⟨wr.heap.size, 2, none⟩ = some (.bool u) := HW.out.1.c2
        have HB := Lib.hid HW.out.2
        clear hx hk hb hwf
        cases u
        · by_cases hs : s = z
          · have s0 : (s == z) = true := by rw [hs]; simp
            obtain ⟨pre, o1, hlen, hB, hmore⟩ := HMO.out (hasS_iff.2 ⟨rfl, hs⟩) W HB.out
            have O1 := Lib.hid o1
            have HB1 := Lib.hid hB
            have HM := Lib.hid hmore
            clear hs o1 hB hmore HSK HMO
            go_wp2_with (at_builtin; refine list_app_int (o := ⟨some 33, _, _, _, _, _⟩) rfl (.tmp 30) (.tmp 32) rfl w1.heap.size _ (ins pre) rfl O1.out _ [(k : Int)] rfl (ri_one _ _) hlen.out HB1.out ?_; intro v1 w2 hown hg _)
            have HN := Lib.hid (HM.out _ _ hown hg)
            clear hown hg
            go_wp2
            go_roundw
            case rel => exact ⟨k + 1, _, by have := HK.out; omega, by go_num, rfl, HN⟩
            case measure => have := HK.out; simp [intOf]; omega
          · have s0 : (s == z) = false := beq_eq_false_iff_ne.2 hs
            have HN := Lib.hid (HSK.out (by rw [Bool.eq_false_iff, Ne, hasS_iff]; exact fun h => hs h.2) W HB.out)
            clear hs HSK HMO
            go_wp2
            go_roundw
            case rel => exact ⟨k + 1, _, by have := HK.out; omega, by go_num, rfl, HN⟩
            case measure => have := HK.out; simp [intOf]; omega
        · have HN := Lib.hid (HSK.out (by simp [hasS]) W HB.out)
          clear HSK HMO
          go_wp2
          go_roundw
          case rel => exact ⟨k + 1, _, by have := HK.out; omega, by go_num, rfl, HN⟩
          case measure => have := HK.out; simp [intOf]; omega
      · obtain rfl : k = l.length := by omega
        obtain ⟨pre, h1, h2, _⟩ := H.out.ex
        rw [List.drop_length, plS, List.append_nil] at h2
        rw [h2] at h1
        have HO := Lib.hid (h1.mono HS.out)
        have HB := Lib.hid (below_more D1.out H.out.up)
        clear h1 h2
        go_wp2
        go_ret
        exact ⟨⟨_, rfl, HO.out⟩, HB.out⟩
end Go.Proofs.Ytkpefnjohdjejaa

/-
  Contract of package fit: which block is chosen.
-/
namespace Go.Proofs.Ytkpefnjohdjejaa
set_option maxRecDepth 100000
open Go.RowKit

theorem ins_getD {f : List Nat} {k : Nat} (h : k < f.length) : (ins f).getD k 0 = ((f.getD k 0 : Nat) : Int) := by
  simp [ins, h]
theorem getD_cut_n {f : List Nat} {k : Nat} (hk : k < f.length) : f.drop k = f.getD k 0 :: f.drop (k + 1) := by
  rw [List.getD_eq_getElem?_getD, List.getElem?_eq_getElem hk]; exact List.drop_eq_getElem_cons hk
theorem getD_mem_n {f : List Nat} {k : Nat} (hk : k < f.length) : f.getD k 0 ∈ f := by
  rw [List.getD_eq_getElem?_getD, List.getElem?_eq_getElem hk]; exact List.getElem_mem hk
/-- the rest to be chosen of -/
def Chs (cs : List Int) (l : List Bk) (f : List Nat) (R : Option Nat) (k : Nat) (o : Option Nat) : Prop := chO cs l o (f.drop k) = R ∧ ∀ d, o = some d → d < l.length
theorem Chs.first {cs : List Int} {l : List Bk} {f : List Nat} {R : Option Nat} {k : Nat} (h : Chs cs l f R k none) (hk : k < f.length) (hf : ∀ i ∈ f, i < l.length) : Chs cs l f R (k + 1) (some (f.getD k 0)) := by
  obtain ⟨h1, _⟩ := h
  rw [getD_cut_n hk, chO] at h1
  exact ⟨h1, fun d e => by cases e; exact hf _ (getD_mem_n hk)⟩
theorem Chs.turn {cs : List Int} {l : List Bk} {f : List Nat} {R : Option Nat} {k c : Nat} (h : Chs cs l f R k (some c)) (hk : k < f.length) (hf : ∀ i ∈ f, i < l.length) (ha : ahd cs (atL l (f.getD k 0)) (atL l c) = true) : Chs cs l f R (k + 1) (some (f.getD k 0)) := by
  obtain ⟨h1, _⟩ := h
  rw [getD_cut_n hk, chO, if_pos ha] at h1
  exact ⟨h1, fun d e => by cases e; exact hf _ (getD_mem_n hk)⟩
theorem Chs.stay {cs : List Int} {l : List Bk} {f : List Nat} {R : Option Nat} {k c : Nat} (h : Chs cs l f R k (some c)) (hk : k < f.length) (ha : ahd cs (atL l (f.getD k 0)) (atL l c) = false) : Chs cs l f R (k + 1) (some c) := by
  obtain ⟨h1, h2⟩ := h
  rw [getD_cut_n hk, chO, ha, if_neg Bool.false_ne_true] at h1
  exact ⟨h1, h2⟩

end Go.Proofs.Ytkpefnjohdjejaa

/-
  Bytes of words, plainly: a byte of a word, a word with a byte set; bytes that are read; parts of words; which edits write bytes, what the words are behind them.
-/
namespace Go.Proofs.Ytkpefnjohdjejaa
set_option maxRecDepth 100000

/-- byte k of a word -/
def bt (x : Int) (k : Nat) : Int := x / 256 ^ k % 256
/-- a word with byte k set -/
def sb (x : Int) (k : Nat) (c : Int) : Int := x + (c - bt x k) * 256 ^ k
/-- a word's number -/
def Wd (x : Int) : Prop := 0 ≤ x ∧ x < 18446744073709551616
def By (x : Int) : Prop := 0 ≤ x ∧ x < 256
theorem bt_by (x : Int) (k : Nat) : By (bt x k) := by unfold By bt; omega
theorem pw_pos (k : Nat) : (0 : Int) < 256 ^ k := Int.pow_pos (by decide)
theorem bt_sb {x c : Int} {k : Nat} (hc : By c) (j : Nat) : bt (sb x k c) j = if j = k then c else bt x j := by
  have hp := pw_pos k
  obtain ⟨c0, c1⟩ := hc
  have hq : sb x k c / 256 ^ k = x / 256 ^ k + (c - bt x k) := by unfold sb; exact Int.add_mul_ediv_right _ _ (by omega)
  split
  · rename_i e
    subst e
    rw [bt, hq, bt]; omega
  · rename_i hne
    rcases Nat.lt_or_gt_of_ne hne with h | h
    · obtain ⟨d, rfl⟩ : ∃ d, k = j + 1 + d := ⟨k - j - 1, by omega⟩
      have hj := pw_pos j
      unfold sb
      generalize c - bt x (j + 1 + d) = M
      have e : M * (256 : Int) ^ (j + 1 + d) = (M * 256 ^ d * 256) * 256 ^ j := by
        rw [Int.pow_add, Int.pow_succ]
        ac_rfl
      rw [e, bt, Int.add_mul_ediv_right _ _ (by omega), bt]
      generalize M * 256 ^ d = K
      omega
    · obtain ⟨d, rfl⟩ : ∃ d, j = k + 1 + d := ⟨j - k - 1, by omega⟩
      have e : ∀ y : Int, y / 256 ^ (k + 1 + d) = y / 256 ^ k / 256 / 256 ^ d := fun y => by
        rw [Int.pow_add, Int.pow_succ, ← Int.ediv_ediv_of_nonneg (by omega), ← Int.ediv_ediv_of_nonneg (by omega)]
      rw [bt, bt, e, e, hq]
      have : (x / 256 ^ k + (c - bt x k)) / 256 = x / 256 ^ k / 256 := by unfold bt; omega
      rw [this]
theorem bt_same {x c : Int} {k : Nat} (hc : By c) : bt (sb x k c) k = c := by rw [bt_sb hc, if_pos rfl]
theorem pw8 : (256 : Int) ^ 8 = 18446744073709551616 := by decide
theorem sb_wd {x c : Int} {k : Nat} (hx : Wd x) (hc : By c) (hk : k < 8) : Wd (sb x k c) := by
  obtain ⟨c0, c1⟩ := hc
  obtain ⟨x0, x1⟩ := hx
  rcases (by omega : k = 0 ∨ k = 1 ∨ k = 2 ∨ k = 3 ∨ k = 4 ∨ k = 5 ∨ k = 6 ∨ k = 7) with rfl | rfl | rfl | rfl | rfl | rfl | rfl | rfl
  all_goals
    simp only [sb, bt, Wd, Int.reducePow]
    omega
/-- words that have the same bytes are one -/
theorem bt_mod : ∀ (k : Nat) {x y : Int}, (∀ j, j < k → bt x j = bt y j) → x % 256 ^ k = y % 256 ^ k
  | 0, x, y, _ => by simp [Int.emod_one]
  | k + 1, x, y, h => by
    have ih := bt_mod k (fun j hj => h j (by omega))
    have e : ∀ z : Int, z % 256 ^ (k + 1) = 256 ^ k * bt z k + z % 256 ^ k := fun z => by
      have hp := pw_pos k
      have a := Int.mul_ediv_add_emod z (256 ^ k)
      have b := Int.mul_ediv_add_emod (z / 256 ^ k) 256
      have r0 := Int.emod_nonneg z (show (256 : Int) ^ k ≠ 0 by omega)
      have r1 := Int.emod_lt_of_pos z hp
      have s0 : 0 ≤ bt z k := (bt_by z k).1
      have s1 : bt z k ≤ 255 := by have := (bt_by z k).2; omega
      have m0 := Int.mul_nonneg (Int.le_of_lt hp) s0
      have m1 : (256 : Int) ^ k * bt z k ≤ 256 ^ k * 255 := Int.mul_le_mul_of_nonneg_left s1 (Int.le_of_lt hp)
      have ez : z = (256 ^ k * bt z k + z % 256 ^ k) + 256 ^ (k + 1) * (z / 256 ^ k / 256) := by
        rw [Int.pow_succ, Int.mul_assoc]
        unfold bt
        rw [Int.add_right_comm, ← Int.mul_add, Int.add_comm (z / 256 ^ k % 256), b, a]
      have := Int.add_mul_emod_self_left (256 ^ k * bt z k + z % 256 ^ k) (256 ^ (k + 1)) (z / 256 ^ k / 256)
      rw [← ez] at this
      rw [this]
      refine Int.emod_eq_of_lt (by omega) ?_
      rw [Int.pow_succ]; omega
    rw [e, e, ih, h k (by omega)]
theorem wd_ext {x y : Int} (hx : Wd x) (hy : Wd y) (h : ∀ k, k < 8 → bt x k = bt y k) : x = y := by
  have := bt_mod 8 h
  rw [pw8, Int.emod_eq_of_lt hx.1 hx.2, Int.emod_eq_of_lt hy.1 hy.2] at this
  exact this

/-- byte p of words -/
def bAt_ (w : List Int) (p : Nat) : Int := bt (w.getD (p / 8) 0) (p % 8)
/-- so many bytes of words -/
def rdB (w : List Int) : Nat → Nat → List Int
  | _, 0 => []
  | o, n + 1 => bAt_ w o :: rdB w (o + 1) n
theorem rdB_length (w : List Int) : ∀ (n o : Nat), (rdB w o n).length = n
  | 0, _ => rfl
  | n + 1, o => by rw [rdB, List.length_cons, rdB_length w n]
theorem rdB_app (w : List Int) : ∀ (n m o : Nat), rdB w o (n + m) = rdB w o n ++ rdB w (o + n) m
  | 0, m, o => by simp [rdB]
  | n + 1, m, o => by rw [Nat.add_right_comm, rdB, rdB, rdB_app w n m, List.cons_append, show o + 1 + n = o + (n + 1) by omega]
theorem rdB_snoc (w : List Int) (n o : Nat) : rdB w o (n + 1) = rdB w o n ++ [bAt_ w (o + n)] := by rw [rdB_app]; rfl
theorem rdB_by (w : List Int) : ∀ (n o : Nat), ∀ x ∈ rdB w o n, By x
  | 0, _, x, h => by cases h
  | n + 1, o, x, h => by
    rcases List.mem_cons.1 h with rfl | h
    · exact bt_by _ _
    · exact rdB_by w n _ x h
theorem rdB_getD (w : List Int) : ∀ (n o k : Nat), k < n → (rdB w o n).getD k 0 = bAt_ w (o + k)
  | n + 1, o, 0, _ => rfl
  | n + 1, o, k + 1, h => by rw [rdB, List.getD_cons_succ, rdB_getD w n (o + 1) k (by omega), show o + 1 + k = o + (k + 1) by omega]
theorem rdB_is {w : List Int} {l : List Int} {o : Nat} (h : ∀ k, k < l.length → bAt_ w (o + k) = l.getD k 0) : rdB w o l.length = l := by
  refine List.ext_getElem (rdB_length ..) fun i h1 h2 => ?_
  have a := rdB_getD w l.length o i h2
  rw [h i h2] at a
  simpa [List.getD_eq_getElem?_getD, h1, h2] using a

/-- a part of a word -/
structure Pc where
  w : Nat
  f : Nat
  n : Nat
instance : Inhabited Pc := ⟨⟨0, 0, 0⟩⟩
/-- how many of n bytes from o on lie in the first one's word -/
def pcK (o n : Nat) : Nat := min (8 - o % 8) n
/-- the parts of words that bytes are -/
def pcs (o n : Nat) : List Pc := if n = 0 then [] else ⟨o / 8, o % 8, pcK o n⟩ :: pcs (o + pcK o n) (n - pcK o n)
termination_by n
decreasing_by unfold pcK; omega
theorem pcs_zero (o : Nat) : pcs o 0 = [] := by rw [pcs, if_pos rfl]
theorem pcs_more {o n : Nat} (h : n ≠ 0) : pcs o n = ⟨o / 8, o % 8, pcK o n⟩ :: pcs (o + pcK o n) (n - pcK o n) := by rw [pcs, if_neg h]
/-- how many words have one of n bytes from o on -/
def cnt (o n : Nat) : Nat := if n = 0 then 0 else (o + n - 1) / 8 - o / 8 + 1
theorem pcs_length : ∀ (n o : Nat), (pcs o n).length = cnt o n := by
  intro n
  induction n using Nat.strongRecOn with
  | ind n ih =>
    intro o
    by_cases h : n = 0
    · subst h; rw [pcs_zero, cnt, if_pos rfl]; rfl
    · have hk : pcK o n = min (8 - o % 8) n := rfl
      rw [pcs_more h, List.length_cons, ih _ (by omega)]
      unfold cnt
      by_cases h1 : n - pcK o n = 0
      · rw [if_pos h1, if_neg h]; omega
      · rw [if_neg h1, if_neg h]; omega
/-- what is left of parts behind some -/
theorem pcs_step {o n k a m : Nat} (h : (pcs o n).drop k = pcs a m) (hk : k < (pcs o n).length) : m ≠ 0 ∧ (pcs o n).getD k default = ⟨a / 8, a % 8, pcK a m⟩ ∧ (pcs o n).drop (k + 1) = pcs (a + pcK a m) (m - pcK a m) := by
  have hm : m ≠ 0 := by
    rintro rfl
    rw [pcs_zero] at h
    have := congrArg List.length h
    rw [List.length_drop] at this
    simp at this; omega
  rw [pcs_more hm] at h
  refine ⟨hm, ?_, ?_⟩
  · have := congrArg (·.getD 0 default) h
    simpa [List.getD_eq_getElem?_getD] using this
  · have := congrArg (·.drop 1) h
    simpa [List.drop_drop] using this
theorem pcK_le {a m : Nat} (h : m ≠ 0) : 1 ≤ pcK a m ∧ pcK a m ≤ m ∧ a % 8 + pcK a m ≤ 8 ∧ (pcK a m = m ∨ (a + pcK a m) % 8 = 0) := by unfold pcK; omega

/-- the byte at p when n bytes, c, are written at o -/
def tgt (w : List Int) (o n : Nat) (c : Nat → Int) (p : Nat) : Int := if o ≤ p ∧ p < o + n then c (p - o) else bAt_ w p
/-- these are the edits that write n bytes, c, at o -/
structure IsE (w : List Int) (o n : Nat) (c : Nat → Int) (L : List Ed) : Prop where
  len : L.length = cnt o n
  at_ : ∀ j, j < L.length → (L.getD j default).w = ((o / 8 + j : Nat) : Int) ∧ Wd (L.getD j default).v ∧ ∀ k, k < 8 → bt (L.getD j default).v k = tgt w o n c (8 * (o / 8 + j) + k)
theorem IsE.one {w : List Int} {o n : Nat} {c c' : Nat → Int} {L L' : List Ed} (h : IsE w o n c L) (h' : IsE w o n c' L') (hc : ∀ k, k < n → c k = c' k) : L = L' := by
  refine List.ext_getElem (h.len.trans h'.len.symm) fun j h1 h2 => ?_
  obtain ⟨a1, a2, a3⟩ := h.at_ j h1
  obtain ⟨b1, b2, b3⟩ := h'.at_ j h2
  have e1 : L.getD j default = L[j] := by simp [h1]
  have e2 : L'.getD j default = L'[j] := by simp [h2]
  rw [e1] at a1 a2 a3
  rw [e2] at b1 b2 b3
  have hw : L[j].w = L'[j].w := a1.trans b1.symm
  have hv : L[j].v = L'[j].v := wd_ext a2 b2 fun k hk => by
    rw [a3 k hk, b3 k hk]
    unfold tgt
    split
    · exact hc _ (by omega)
    · rfl
  cases hx : L[j]; cases hy : L'[j]
  rw [hx, hy] at hw hv
  simp only at hw hv
  rw [hw, hv]
theorem IsE.none (w : List Int) (o : Nat) (c : Nat → Int) : IsE w o 0 c [] := ⟨by simp [cnt], fun j h => by simp at h⟩
theorem getD_snoc {L : List Ed} {e : Ed} (j : Nat) : (L ++ [e]).getD j default = if j = L.length then e else L.getD j default := by
  rw [List.getD_eq_getElem?_getD, List.getD_eq_getElem?_getD, List.getElem?_append]
  split
  · rw [if_neg (by omega)]
  · split
    · rename_i h; subst h; simp
    · rw [List.getElem?_eq_none (l := [e]) (by simp; omega), List.getElem?_eq_none (l := L) (by omega)]
/-- a word more: its bytes are those of the words, but k of them -/
theorem IsE.more {w : List Int} {o n k : Nat} {c : Nat → Int} {L : List Ed} {v : Int} (h : IsE w o n c L) (h0 : n = 0 ∨ (o + n) % 8 = 0) (h1 : 1 ≤ k) (h2 : (o + n) % 8 + k ≤ 8) (hv : Wd v)
    (hb : ∀ j, j < 8 → bt v j = if (o + n) % 8 ≤ j ∧ j < (o + n) % 8 + k then c (n + j - (o + n) % 8) else bt (w.getD ((o + n) / 8) 0) j) : IsE w o (n + k) c (L ++ [⟨(((o + n) / 8 : Nat) : Int), v⟩]) := by
  have hl := h.len
  have hq : o / 8 + L.length = (o + n) / 8 := by rw [hl]; unfold cnt; split <;> omega
  refine ⟨by rw [List.length_append, List.length_singleton, hl]; unfold cnt; rw [if_neg (show n + k ≠ 0 by omega)]; split <;> omega, fun j hj => ?_⟩
  rw [List.length_append, List.length_singleton] at hj
  rw [getD_snoc]
  by_cases hjl : j = L.length
  · rw [if_pos hjl]
    subst hjl
    rw [hq]
    refine ⟨rfl, hv, fun i hi => ?_⟩
    rw [hb i hi]
    unfold tgt bAt_
    have e1 : (8 * ((o + n) / 8) + i) / 8 = (o + n) / 8 := by omega
    have e2 : (8 * ((o + n) / 8) + i) % 8 = i := by omega
    rw [e1, e2]
    by_cases hin : (o + n) % 8 ≤ i ∧ i < (o + n) % 8 + k
    · rw [if_pos hin, if_pos (by omega)]
      congr 1; omega
    · rw [if_neg hin, if_neg (by omega)]
  · rw [if_neg hjl]
    obtain ⟨a1, a2, a3⟩ := h.at_ j (by omega)
    refine ⟨a1, a2, fun i hi => ?_⟩
    rw [a3 i hi]
    unfold tgt
    have : o / 8 + j < (o + n) / 8 := by omega
    by_cases hin : o ≤ 8 * (o / 8 + j) + i ∧ 8 * (o / 8 + j) + i < o + n
    · rw [if_pos hin, if_pos (by omega)]
    · rw [if_neg hin, if_neg (by omega)]
/-- a byte more in the last word -/
theorem IsE.last {w : List Int} {o n : Nat} {c : Nat → Int} {L : List Ed} (h : IsE w o n c L) (hn : n ≠ 0) : 0 < L.length ∧ (L.getD (L.length - 1) default).w = (((o + n - 1) / 8 : Nat) : Int) ∧ Wd (L.getD (L.length - 1) default).v := by
  have hl := h.len
  unfold cnt at hl
  rw [if_neg hn] at hl
  obtain ⟨a1, a2, _⟩ := h.at_ (L.length - 1) (by omega)
  refine ⟨by omega, ?_, a2⟩
  rw [a1]; congr 1; omega
theorem IsE.byte {w : List Int} {o n : Nat} {c : Nat → Int} {L : List Ed} (h : IsE w o n c L) (hn : n ≠ 0) (hm : (o + n) % 8 ≠ 0) (hc : By (c n)) :
    IsE w o (n + 1) c (L.set (L.length - 1) ⟨(L.getD (L.length - 1) default).w, sb (L.getD (L.length - 1) default).v ((o + n) % 8) (c n)⟩) := by
  have hl := h.len
  unfold cnt at hl
  rw [if_neg hn] at hl
  refine ⟨by rw [List.length_set, hl]; unfold cnt; rw [if_neg (by omega)]; omega, fun j hj => ?_⟩
  rw [List.length_set] at hj
  obtain ⟨a1, a2, a3⟩ := h.at_ j hj
  have eg : ∀ x : Ed, (L.set (L.length - 1) x).getD j default = if j = L.length - 1 then x else L.getD j default := fun x => by
    rw [List.getD_eq_getElem?_getD, List.getElem?_set, List.getD_eq_getElem?_getD]
    by_cases e : L.length - 1 = j
    · rw [if_pos e, if_pos e.symm, if_pos (by omega)]; rfl
    · rw [if_neg e, if_neg (fun q => e q.symm)]
  rw [eg]
  by_cases e : j = L.length - 1
  · rw [if_pos e, ← e]
    refine ⟨a1, sb_wd a2 hc (by omega), fun i hi => ?_⟩
    show bt (sb _ _ _) i = _
    rw [bt_sb hc, a3 i hi]
    have hq : o / 8 + j = (o + n) / 8 := by omega
    unfold tgt
    rw [hq]
    by_cases hi2 : i = (o + n) % 8
    · rw [if_pos hi2, if_pos (by omega)]
      congr 1; omega
    · rw [if_neg hi2]
      by_cases hin : o ≤ 8 * ((o + n) / 8) + i ∧ 8 * ((o + n) / 8) + i < o + n
      · rw [if_pos hin, if_pos (by omega)]
      · rw [if_neg hin, if_neg (by omega)]
  · rw [if_neg e]
    refine ⟨a1, a2, fun i hi => ?_⟩
    rw [a3 i hi]
    unfold tgt
    by_cases hin : o ≤ 8 * (o / 8 + j) + i ∧ 8 * (o / 8 + j) + i < o + n
    · rw [if_pos hin, if_pos (by omega)]
    · rw [if_neg hin, if_neg (by omega)]

/-- many bytes set in a word -/
def puB : Int → Nat → List Int → Int
  | x, _, [] => x
  | x, f, c :: r => puB (sb x f c) (f + 1) r
theorem puB_snoc : ∀ (l : List Int) (x c : Int) (f : Nat), puB x f (l ++ [c]) = sb (puB x f l) (f + l.length) c
  | [], _, _, _ => rfl
  | a :: l, x, c, f => by rw [List.cons_append, puB, puB_snoc l, puB, List.length_cons, show f + 1 + l.length = f + (l.length + 1) by omega]
theorem puB_wd : ∀ (l : List Int) (x : Int) (f : Nat), Wd x → (∀ c ∈ l, By c) → f + l.length ≤ 8 → Wd (puB x f l)
  | [], _, _, h, _, _ => h
  | a :: l, x, f, h, hl, hf => by
    rw [List.length_cons] at hf
    exact puB_wd l _ _ (sb_wd h (hl a (List.mem_cons_self ..)) (by omega)) (fun c hc => hl c (List.mem_cons_of_mem _ hc)) (by omega)
theorem bt_puB : ∀ (l : List Int) (x : Int) (f j : Nat), (∀ c ∈ l, By c) → bt (puB x f l) j = if f ≤ j ∧ j < f + l.length then l.getD (j - f) 0 else bt x j
  | [], x, f, j, _ => by rw [puB, if_neg]; simp only [List.length_nil]; omega
  | a :: l, x, f, j, hl => by
    rw [puB, bt_puB l _ _ _ (fun c hc => hl c (List.mem_cons_of_mem _ hc)), List.length_cons, bt_sb (hl a (List.mem_cons_self ..))]
    by_cases h1 : j = f
    · subst h1
      rw [if_neg (by omega), if_pos rfl, if_pos (by omega), Nat.sub_self]; rfl
    · rw [if_neg h1]
      by_cases h2 : f + 1 ≤ j ∧ j < f + 1 + l.length
      · rw [if_pos h2, if_pos (by omega), show j - f = (j - (f + 1)) + 1 by omega, List.getD_cons_succ]
      · rw [if_neg h2, if_neg (by omega)]

/-- words behind the edits that write bytes -/
theorem appF_isE {w : List Int} {o n : Nat} {c : Nat → Int} {L : List Ed} (h : IsE w o n c L) (hw : ∀ x ∈ w, Wd x) (hn : o + n ≤ 8 * w.length) : (∀ x ∈ appF w L, Wd x) ∧ ∀ p, p < 8 * w.length → bAt_ (appF w L) p = tgt w o n c p := by
  have key : ∀ (k : Nat), k ≤ L.length → ∀ q, q < w.length → (appF w (L.take k)).getD q 0 = if o / 8 ≤ q ∧ q < o / 8 + k then (L.getD (q - o / 8) default).v else w.getD q 0 := by
    intro k
    induction k with
    | zero =>
      intro _ q _
      rw [List.take_zero, appF, if_neg (by omega)]
    | succ k ih =>
      intro hk q hq
      have ih := ih (by omega)
      obtain ⟨a1, _, _⟩ := h.at_ k (by omega)
      have hl := h.len
      have hin : o / 8 + k < w.length := by
        unfold cnt at hl
        split at hl <;> omega
      have e1 : L.getD k default = L[k] := by rw [List.getD_eq_getElem?_getD, List.getElem?_eq_getElem (show k < L.length by omega)]; rfl
      rw [List.take_add_one, appF_app, List.getElem?_eq_getElem (show k < L.length by omega)]
      show (appF (appF w (L.take k)) [L[k]]).getD q 0 = _
      rw [appF, appF, appF_length, ← e1, a1, if_pos (by omega), Int.toNat_natCast]
      rw [List.getD_eq_getElem?_getD, List.getElem?_set, appF_length]
      by_cases he : o / 8 + k = q
      · rw [if_pos he, if_pos (by omega), if_pos (by omega), show q - o / 8 = k by omega]; rfl
      · rw [if_neg he, ← List.getD_eq_getElem?_getD, ih q hq]
        by_cases h2 : o / 8 ≤ q ∧ q < o / 8 + k
        · rw [if_pos h2, if_pos (by omega)]
        · rw [if_neg h2, if_neg (by omega)]
  have key' := key L.length (Nat.le_refl _)
  rw [List.take_length] at key'
  have hwq : ∀ q, q < w.length → Wd (w.getD q 0) := fun q hq => by
    rw [List.getD_eq_getElem?_getD, List.getElem?_eq_getElem hq]; exact hw _ (List.getElem_mem hq)
  refine ⟨fun x hx => ?_, fun p hp => ?_⟩
  · obtain ⟨q, hq, rfl⟩ := List.getElem_of_mem hx
    have hq' : q < w.length := by rw [appF_length] at hq; exact hq
    have e : (appF w L)[q] = (appF w L).getD q 0 := by rw [List.getD_eq_getElem?_getD, List.getElem?_eq_getElem hq]; rfl
    rw [e, key' q hq']
    split
    · exact (h.at_ _ (by omega)).2.1
    · exact hwq q hq'
  · unfold bAt_
    rw [key' (p / 8) (by omega)]
    by_cases hin : o / 8 ≤ p / 8 ∧ p / 8 < o / 8 + L.length
    · rw [if_pos hin, (h.at_ _ (by omega)).2.2 _ (Nat.mod_lt _ (by decide))]
      congr 1; omega
    · rw [if_neg hin]
      have hl := h.len
      unfold tgt
      rw [if_neg]
      · rfl
      · unfold cnt at hl
        split at hl <;> omega
/-- words that have the same bytes are the same -/
theorem words_ext {w v : List Int} (hl : w.length = v.length) (hw : ∀ x ∈ w, Wd x) (hv : ∀ x ∈ v, Wd x) (h : ∀ p, p < 8 * w.length → bAt_ w p = bAt_ v p) : w = v := by
  refine List.ext_getElem hl fun i h1 h2 => wd_ext (hw _ (List.getElem_mem h1)) (hv _ (List.getElem_mem h2)) fun k hk => ?_
  have a := h (8 * i + k) (by omega)
  unfold bAt_ at a
  rw [show (8 * i + k) / 8 = i by omega, show (8 * i + k) % 8 = k by omega] at a
  simpa [List.getD_eq_getElem?_getD, h1, h2] using a
end Go.Proofs.Ytkpefnjohdjejaa

/-
  Bytes as elements of slices, and what a conversion to a string makes of them.
-/
namespace Go.Proofs.Ytkpefnjohdjejaa
set_option maxRecDepth 100000
open Go.ChangeShapes Go.WideShapes Go.ChangeAt Go.RowKit

/-- slices of bytes -/
def byE : Elm Try.prog Int where
  t := 31
  e := 5
  size := 1
  bytes := 1
  z := .int .u8 0
  enc := fun x => [.int .u8 x]
  ok := By
  ht := Try.underlying31
  hi := by kernel_rfl
  hzs := rfl
  pos := by decide
  bpos := by decide
  len := fun _ _ => rfl
  one := fun a _ u hu => by rw [List.mem_singleton.1 hu]; rfl
theorem cells_u8 : Try.prog.cellsOf 5 = 1 := by kernel_rfl
theorem bytes_in {H : Type} {enc : TypeId × Value → H} {W : World} {base : Nat} {v : Value} {d : DataW H} {p : List MemPlace}
    (hval : Value.okWide Try.prog W .any base 31 v) (h : DataW.Trod enc Try.prog W 0 (fun _ => true) true 31 v d p) : ∃ l : List Int, RA byE W v l := by
  obtain ⟨va, vl, vc, rfl⟩ := okWide_slice Try.underlying31 hval
  obtain ⟨fuel, hf⟩ := h
  obtain ⟨u, l, e, hr⟩ := elems_in byE hf (fun n c y hy hl => by
    obtain ⟨i, e0, _, w0⟩ := DataW.trod_int Try.underlying5 hy
    refine ⟨i, e0, ?_⟩
    have : 0 ≤ i ∧ i ≤ 255 := by simpa [Lit.wf, IntKind.min, IntKind.max, IntKind.signed, IntKind.bits] using w0
    show By i
    unfold By; omega)
  have e' : Value.slice va vl vc = u := by simpa [Value.cells] using e
  exact ⟨l, by rw [e']; exact hr⟩
/-- its k-th -/
theorem byte_at {w : World} {p : Option Addr} {n cap : Nat} {l : List Int} (h : RA byE w (.slice p n cap) l) (h0 : 0 < l.length) :
    ∃ b off, p = some ⟨b, off, none⟩ ∧ b < w.heap.size ∧ ∀ k, k < l.length → w.cell? ⟨b, off + k, none⟩ = some (.int .u8 (l.getD k 0)) ∧ By (l.getD k 0) := by
  obtain ⟨b, off, e, hb, hr⟩ := ra_at h h0
  refine ⟨b, off, e, hb, fun k hk => ?_⟩
  have := hr k hk 0 _ rfl
  exact ⟨by simpa [byE] using this, (ra_ok h).at_ hk⟩
/-- made into a string -/
def strConv (v : Value) : Sem Value := convert 31 9 v
@[go_sem ↓] theorem convert_str (v : Value) : convert 31 9 v = strConv v := rfl
theorem run_strConv {w : World} {v : Value} {l : List Int} (h : RA byE w v l) : (strConv v).run Try.prog w = .ok (.string (strOfNums l)) w := by
  obtain ⟨p, cap, rfl, h1, h2, hok, rfl | ⟨b, off, rfl, hb, hr⟩⟩ := h
  · cases p with
    | none =>
      have := run_convert_bytes_nil (P := Try.prog) w 31 5 Try.underlying31 Try.underlying5 0 cap 9 Try.underlying9
      unfold strConv
      rw [List.length_nil, this]; rfl
    | some a =>
      obtain ⟨b, off, s⟩ := a
      unfold strConv
      rw [run_convert_bytes_string w 31 9 5 _ _ cap Try.underlying31 Try.underlying5 Try.underlying9, List.length_nil, run_bytesToString w _ 0 cap [] (by simpa using run_loadCells_list (P := Try.prog) w ⟨b, off, s⟩ [] (fun j v hj => by simp at hj))]
      rfl
  · unfold strConv
    refine run_convert_bytes_arg (P := Try.prog) w 31 5 Try.underlying31 Try.underlying5 b off l.length cap l rfl (fun i hi => ?_) 9 Try.underlying9
    have h' : RA byE w (.slice (some ⟨b, off, none⟩) l.length cap) l := ⟨_, cap, rfl, h1, h2, hok, .inr ⟨b, off, rfl, hb, hr⟩⟩
    obtain ⟨_, _, e, _, hx⟩ := byte_at h' (by omega)
    cases e
    exact (hx i hi).1
theorem built_by1 (w : World) (c : Int) : (Instr.buildSlice 31 1 #[(0, .int .u8 c)]).run Try.prog w = .ok (.slice (some ⟨w.heap.size, 0, none⟩) 1 1) (w.alloc (.cells #[.int .u8 c] 5)) := by
  simp [Instr.buildSlice, run_underlying Try.underlying31, Instr.fill, go_sem]
theorem built_by0 (w : World) : (Instr.buildSlice 31 0 #[]).run Try.prog w = .ok (.slice (some ⟨w.heap.size, 0, none⟩) 0 0) (w.alloc (.cells #[] 5)) := by
  simp [Instr.buildSlice, run_underlying Try.underlying31, Instr.fill, go_sem]
theorem built_by4 (w : World) (a b c d : Int) : (Instr.buildSlice 31 4 #[(0, .int .u8 a), (1, .int .u8 b), (2, .int .u8 c), (3, .int .u8 d)]).run Try.prog w = .ok (.slice (some ⟨w.heap.size, 0, none⟩) 4 4) (w.alloc (.cells #[.int .u8 a, .int .u8 b, .int .u8 c, .int .u8 d] 5)) := by
  simp [Instr.buildSlice, run_underlying Try.underlying31, Instr.fill, go_sem]
theorem built_by15 (w : World) (a b c d e f g h i j k l m n o : Int) : (Instr.buildSlice 31 15 #[(0, .int .u8 a), (1, .int .u8 b), (2, .int .u8 c), (3, .int .u8 d), (4, .int .u8 e), (5, .int .u8 f), (6, .int .u8 g), (7, .int .u8 h), (8, .int .u8 i), (9, .int .u8 j), (10, .int .u8 k), (11, .int .u8 l), (12, .int .u8 m), (13, .int .u8 n), (14, .int .u8 o)]).run Try.prog w = .ok (.slice (some ⟨w.heap.size, 0, none⟩) 15 15) (w.alloc (.cells #[.int .u8 a, .int .u8 b, .int .u8 c, .int .u8 d, .int .u8 e, .int .u8 f, .int .u8 g, .int .u8 h, .int .u8 i, .int .u8 j, .int .u8 k, .int .u8 l, .int .u8 m, .int .u8 n, .int .u8 o] 5)) := by
  simp [Instr.buildSlice, run_underlying Try.underlying31, Instr.fill, go_sem]
def bySlice (n : Nat) (ps : Array (Nat × Value)) : Sem Value := Instr.buildSlice 31 n ps
@[go_sem ↓] theorem slice_by (n : Nat) (ps : Array (Nat × Value)) : Instr.buildSlice 31 n ps = bySlice n ps := rfl
@[go_sem] theorem run_bySlice1 (w : World) (c : Int) : (bySlice 1 #[(0, .int .u8 c)]).run Try.prog w = .ok (.slice (some ⟨w.heap.size, 0, none⟩) 1 1) (w.alloc (.cells #[.int .u8 c] 5)) := built_by1 w c
theorem by_one (w : World) {c : Int} (h : By c) : OwnA byE w.heap.size (w.alloc (.cells #[.int .u8 c] 5)) (.slice (some ⟨w.heap.size, 0, none⟩) 1 1) [c] := by
  have := own_lit_a byE w (l := [c]) (fun x hx => by rw [List.mem_singleton.1 hx]; exact h) (by unfold maxLen; simp)
  simpa [byE] using this
section
variable {ops : Array Oper} {rest : List Oper} {o : Oper} {a : Act} {w : World} {Q : Exit → Act → World → Prop} {K : Act → World → Prop}
theorem app_by (hgd : o.guard = none) (s x : Operand) (ho : o.op = .call { callee := .builtin .append, args := #[s, x], argTypes := #[31, 31] }) (B : Nat) (v : Value) (l : List Int) (hs : a.eval s = v) (hown : OwnA byE B w v l)
    (u : Value) (r : List Int) (hx : a.eval x = u) (hr : RA byE w u r) (hlen : Hid (l.length + r.length ≤ 4000)) (hB : B ≤ w.heap.size)
    (h : ∀ v' w', OwnA byE B w' v' (l ++ r) → w.grownBy w' v.ownBlock → (v'.ownBlock = v.ownBlock ∨ v'.ownBlock = some w.heap.size) → wpList Try.prog ops Q rest (a.put o.dst v') w') : wpList Try.prog ops Q (o :: rest) a w :=
  list_app byE hgd s x ho B v l hs hown u r hx hr (by have := hlen.out; show _ * 1 ≤ _; omega) hB h
end
/-- strings of bytes that are alike -/
theorem ofNat_inj {x y : Int} (hx : By x) (hy : By y) (h : UInt8.ofNat x.toNat = UInt8.ofNat y.toNat) : x = y := by
  obtain ⟨x0, x1⟩ := hx
  obtain ⟨y0, y1⟩ := hy
  have := congrArg UInt8.toNat h
  rw [UInt8.toNat_ofNat', UInt8.toNat_ofNat'] at this
  omega
theorem map_inj_by : ∀ {l m : List Int}, (∀ x ∈ l, By x) → (∀ x ∈ m, By x) → (l.map fun n => UInt8.ofNat n.toNat) = (m.map fun n => UInt8.ofNat n.toNat) → l = m
  | [], [], _, _, _ => rfl
  | [], _ :: _, _, _, h => by simp at h
  | _ :: _, [], _, _, h => by simp at h
  | x :: l, y :: m, hl, hm, h => by
    rw [List.map_cons, List.map_cons, List.cons.injEq] at h
    rw [ofNat_inj (hl x (List.mem_cons_self ..)) (hm y (List.mem_cons_self ..)) h.1, map_inj_by (fun z hz => hl z (List.mem_cons_of_mem _ hz)) (fun z hz => hm z (List.mem_cons_of_mem _ hz)) h.2]
theorem strOf_inj {l m : List Int} (hl : ∀ x ∈ l, By x) (hm : ∀ x ∈ m, By x) (h : (strOfNums l).toList = (strOfNums m).toList) : l = m := by
  unfold strOfNums at h
  rw [ByteArray.toList_mk, ByteArray.toList_mk] at h
  exact map_inj_by hl hm h
end Go.Proofs.Ytkpefnjohdjejaa

/-
  Contracts of package span's small functions: what may be asked, a byte of a word, bytes put into a word.
-/
namespace Go.Proofs.Ytkpefnjohdjejaa
set_option maxRecDepth 100000
open Go.RowKit

theorem pow_256 (k : Nat) : (256 : Int) ^ k = 2 ^ (8 * k) := by
  rw [show (256 : Int) = 2 ^ 8 by decide, ← Int.pow_mul]
theorem and_bt {x : Int} {k : Nat} (hx : Wd x) : bits .and .u64 (x / 2 ^ (8 * k)) 255 = bt x k := by
  obtain ⟨h0, h1⟩ := hx
  have hp : (0 : Int) < 2 ^ (8 * k) := Int.pow_pos (by decide)
  have a0 : 0 ≤ x / 2 ^ (8 * k) := Int.ediv_nonneg h0 (by omega)
  have a1 : x / 2 ^ (8 * k) ≤ x := Int.ediv_le_self _ h0
  rw [u64_and _ _ a0 (by omega) (by omega) (by omega)]
  have e : (x / 2 ^ (8 * k)).toNat &&& (255 : Int).toNat = (x / 2 ^ (8 * k)).toNat % 256 := Nat.and_two_pow_sub_one_eq_mod _ 8
  rw [e, bt, pow_256]
  omega
theorem sget_is (x : Int) (k : Nat) (hx : Wd x) (hk : k < 8) (w : World) : Calls Try.prog 76 #[.int .u64 x, .int .i64 k] w fun e w' => e = .returned (.int .u8 (bt x k)) ∧ w = w' := by
  obtain ⟨d, hd⟩ : ∃ d : Nat, 8 * k = d := ⟨_, rfl⟩
  have e1 : IntKind.i64.wrap (8 * (k : Int)) = (d : Int) := by rw [← hd, show 8 * (k : Int) = ((8 * k : Nat) : Int) by omega]; exact i64_nat _ (by omega)
  have e2 : min d 64 = d := by omega
  have e3 := and_bt (k := k) hx
  rw [hd] at e3
  have e4 : IntKind.u8.wrap (bt x k) = bt x k := by have := bt_by x k; unfold By at this; rw [IntKind.wrap_u8']; omega
  clear hd hx hk
  generalize bt x k = y at *
  go_enter Try.func76, Try.ntmps76
  go_wp2_with fail
  go_ret
  exact ⟨rfl, rfl⟩

theorem nat_put (X c k : Nat) (hX : X < 2 ^ 64) (hc : c < 2 ^ 8) (hk : k < 8) : (X &&& (2 ^ 64 - (255 * 2 ^ (8 * k) + 1))) ||| (c * 2 ^ (8 * k)) = 2 ^ (8 * k) * (2 ^ 8 * (X / 2 ^ (8 * k) / 2 ^ 8) + c) + X % 2 ^ (8 * k) := by
  have hM : 255 * 2 ^ (8 * k) < 2 ^ 64 := by
    have : 2 ^ (8 * k) ≤ 2 ^ 56 := Nat.pow_le_pow_right (by decide) (by omega)
    omega
  have hp : 0 < 2 ^ (8 * k) := Nat.two_pow_pos _
  refine Nat.eq_of_testBit_eq fun i => ?_
  rw [Nat.testBit_or, Nat.testBit_and, Nat.testBit_two_pow_sub_succ hM, Nat.testBit_mul_two_pow, Nat.testBit_mul_two_pow, Nat.testBit_two_pow_mul_add _ (Nat.mod_lt _ hp), Nat.testBit_two_pow_mul_add _ hc,
    Nat.testBit_div_two_pow, Nat.testBit_div_two_pow, Nat.testBit_mod_two_pow, show (255 : Nat) = 2 ^ 8 - 1 by decide, Nat.testBit_two_pow_sub_one]
  by_cases h1 : i < 8 * k
  · rw [if_pos h1]
    simp [h1, show ¬ 8 * k ≤ i by omega, show i < 64 by omega]
  · rw [if_neg h1]
    by_cases h2 : i - 8 * k < 8
    · rw [if_pos h2]
      simp [show 8 * k ≤ i by omega, h2]
    · rw [if_neg h2]
      have e : i - 8 * k - 8 + 8 + 8 * k = i := by omega
      have hcc : c.testBit (i - 8 * k) = false := Nat.testBit_lt_two_pow (Nat.lt_of_lt_of_le hc (Nat.pow_le_pow_right (by decide) (by omega)))
      rw [e, hcc]
      by_cases h3 : i < 64
      · simp [show 8 * k ≤ i by omega, h2, h3]
      · have hx : X.testBit i = false := Nat.testBit_lt_two_pow (Nat.lt_of_lt_of_le hX (Nat.pow_le_pow_right (by decide) (by omega)))
        simp [hx]
theorem sb_nat (X c k : Nat) : sb X k c = ((2 ^ (8 * k) * (2 ^ 8 * (X / 2 ^ (8 * k) / 2 ^ 8) + c) + X % 2 ^ (8 * k) : Nat) : Int) := by
  unfold sb bt
  have e : (256 : Int) ^ k = ((2 ^ (8 * k) : Nat) : Int) := by rw [pow_256]; simp
  rw [e]
  generalize 2 ^ (8 * k) = P
  have a := Nat.div_add_mod X P
  have b := Nat.div_add_mod (X / P) 256
  have e1 : ((X : Int) / (P : Int)) % 256 = ((X / P % 256 : Nat) : Int) := by simp
  rw [e1]
  have e2 : (X : Int) = (P : Int) * ((256 : Int) * ((X / P / 256 : Nat) : Int) + ((X / P % 256 : Nat) : Int)) + ((X % P : Nat) : Int) := by
    have : X = P * (256 * (X / P / 256) + X / P % 256) + X % P := by rw [b, a]
    have h := congrArg (fun n : Nat => (n : Int)) this
    simpa using h
  generalize X / P / 256 = H at *
  generalize X / P % 256 = R at *
  generalize X % P = Q at *
  rw [e2]
  push_cast
  rw [Int.mul_comm ((c : Int) - R), Int.mul_sub, Int.mul_add, Int.mul_add]
  omega
/-- the numbers that putting a byte meets -/
theorem put_nums {x c : Int} {k d : Nat} (hx : Wd x) (hc : By c) (hk : k < 8) (hd : 8 * k = d) :
    ∃ M C z, IntKind.u64.wrap c = c ∧ IntKind.u64.wrap (255 * 2 ^ d) = M ∧ IntKind.u64.wrap (c * 2 ^ d) = C ∧ bits .andNot .u64 x M = z ∧ bits .or .u64 z C = sb x k c := by
  subst hd
  obtain ⟨X, rfl⟩ : ∃ X : Nat, x = X := ⟨x.toNat, by have := hx.1; omega⟩
  obtain ⟨c', rfl⟩ : ∃ c' : Nat, c = c' := ⟨c.toNat, by have := hc.1; omega⟩
  have hX : X < 2 ^ 64 := by have := hx.2; omega
  have hC : c' < 2 ^ 8 := by have := hc.2; omega
  have h56 : 2 ^ (8 * k) ≤ 2 ^ 56 := Nat.pow_le_pow_right (by decide) (by omega)
  have hcp : c' * 2 ^ (8 * k) ≤ 255 * 2 ^ (8 * k) := Nat.mul_le_mul_right _ (by omega)
  have e2 : ((2 : Int) ^ (8 * k)) = ((2 ^ (8 * k) : Nat) : Int) := by simp
  have hput := nat_put X c' k hX hC hk
  have hs := sb_nat X c' k
  refine ⟨((255 * 2 ^ (8 * k) : Nat) : Int), ((c' * 2 ^ (8 * k) : Nat) : Int), ((X &&& (2 ^ 64 - (255 * 2 ^ (8 * k) + 1)) : Nat) : Int), ?_, ?_, ?_, ?_, ?_⟩
  · rw [IntKind.wrap_u64]; omega
  · rw [e2, IntKind.wrap_u64]; omega
  · rw [e2, IntKind.wrap_u64, ← Int.natCast_mul]; omega
  · rw [u64_andNot_nat _ _ (by omega) (by omega)]
    congr 2
    omega
  · have hz : X &&& (2 ^ 64 - (255 * 2 ^ (8 * k) + 1)) < 18446744073709551616 := Nat.lt_of_le_of_lt Nat.and_le_left (by omega)
    rw [u64_or_nat _ _ hz (by omega), hput, hs]
set_option maxHeartbeats 1000000 in
theorem sput_is {v : Value} {l : List Int} {w : World} (x : Int) (f : Nat) (hx : Wd x) (hv : RA byE w v l) (hf : f + l.length ≤ 8) : Calls Try.prog 95 #[.int .u64 x, .int .i64 f, v] w fun e w' => e = .returned (.int .u64 (puB x f l)) ∧ ∃ n, w' = w.drewN n := by
  obtain ⟨p, c, rfl, hlc, hcm⟩ := ra_shape hv
  have HS : Hid (∀ wr, (∃ n, wr = w.drewN n) → ∀ j, j < l.length → ∃ b off, p = some ⟨b, off, none⟩ ∧ By (l.getD j 0) ∧ wr.cell? ⟨b, off + j, none⟩ = some (.int .u8 (l.getD j 0))) := Lib.hid fun wr hwr j hj => by
    obtain ⟨n, rfl⟩ := hwr
    obtain ⟨b, off, rfl, _, hq⟩ := byte_at hv (by omega)
    exact ⟨b, off, rfl, (hq j hj).2, (hq j hj).1⟩
  have HL := Lib.hid hf
  have HO := Lib.hid (ra_ok hv)
  have HX := Lib.hid hx
  clear hv hlc hcm hf hx
  go_enter Try.func95, Try.ntmps95
  go_wp2
  go_loopw [0, 12] (fun y i wr => ∃ k : Nat, k ≤ l.length ∧ i = .int .i64 k ∧ y = .int .u64 (puB x f (l.take k)) ∧ Hid (∃ n, wr = w.drewN n)) (fun _ i _ => l.length - (intOf i).toNat)
  case atStart => exact ⟨0, Nat.zero_le _, rfl, rfl, Lib.hid ⟨0, rfl⟩⟩
  case round =>
    obtain ⟨k, hk, rfl, rfl, HD⟩ := hrel
    by_cases hlt : k < l.length
    · obtain ⟨b, off, rfl, hby, hc⟩ := HS.out wr HD.out k hlt
      have hL := HL.out
      have j0 : IntKind.i64.wrap ((k : Int) + 1) = ((k + 1 : Nat) : Int) := by rw [show (k : Int) + 1 = ((k + 1 : Nat) : Int) by omega]; exact i64_nat _ (by omega)
      have i0 : (0 : Int) ≤ (k : Int) := by omega
      have i1 : (k : Int) < (l.length : Int) := by omega
      have i2 : ¬ (k : Int) < 0 := by omega
      have hw : Wd (puB x f (l.take k)) := puB_wd _ _ _ HX.out (fun c hc => HO.out c (List.mem_of_mem_take hc)) (by rw [List.length_take]; omega)
      have hn : puB x f (l.take (k + 1)) = sb (puB x f (l.take k)) (f + k) (l.getD k 0) := by
        have e1 : l.getD k 0 = l[k] := by simp [hlt]
        rw [e1, ← List.take_append_getElem hlt, puB_snoc, List.length_take, Nat.min_eq_left hk]
      have HN := Lib.hid hn
      obtain ⟨d, hd⟩ : ∃ d : Nat, 8 * (f + k) = d := ⟨_, rfl⟩
      obtain ⟨M, C, z, n1, n2, n3, n4, n5⟩ := put_nums (k := f + k) hw hby (by omega) hd
      have a1 : IntKind.i64.wrap ((f : Int) + (k : Int)) = ((f + k : Nat) : Int) := by rw [← Int.natCast_add]; exact i64_nat _ (by omega)
      have a2 : IntKind.i64.wrap (8 * ((f + k : Nat) : Int)) = (d : Int) := by rw [← hd, show 8 * ((f + k : Nat) : Int) = ((8 * (f + k) : Nat) : Int) by omega]; exact i64_nat _ (by omega)
      have a3 : min d 64 = d := by omega
      have hk' := Lib.hid hlt
      obtain ⟨fk, hfk⟩ : ∃ fk, f + k = fk := ⟨_, rfl⟩
      rw [hfk] at a1 a2 n5 hn
      rw [← hn] at n5
      clear HS hw hd hn hL
      generalize l.getD k 0 = y at *
      generalize puB x f (l.take k) = X at *
      obtain ⟨X', hX'⟩ : ∃ X', puB x f (l.take (k + 1)) = X' := ⟨_, rfl⟩
      rw [hX'] at n5
      go_wp2_with fail
      go_quiet (fail)
      go_wp2
      exact ⟨⟨k + 1, by have := hk'.out; omega, by go_num, by rw [hX'], Lib.hid (by obtain ⟨n, e⟩ := HD.out; subst e; exact ⟨_, World.drewN_drewN ..⟩)⟩, by have := hk'.out; simp [intOf]; omega⟩
    · obtain rfl : k = l.length := by omega
      rw [List.take_length]
      go_wp2
      go_ret
      exact ⟨rfl, HD.out⟩
end Go.Proofs.Ytkpefnjohdjejaa

/-
  Parts of words as elements of slices: how they read, how they are built, whether two are the same.
-/
namespace Go.Proofs.Ytkpefnjohdjejaa
set_option maxRecDepth 100000
open Go.ChangeShapes Go.WideShapes Go.ChangeAt Go.RowKit

def Pc.cells (b : Pc) : List Value := [.int .i64 b.w, .int .i64 b.f, .int .i64 b.n]
def pc (b : Pc) : Array Value := b.cells.toArray
theorem info_pc : (Try.prog.info? 111).map (·.size) = some 3 := by kernel_rfl
/-- slices of them -/
def pcE : Elm Try.prog Pc where
  t := 108
  e := 111
  size := 3
  bytes := 24
  z := .agg #[.int .i64 0, .int .i64 0, .int .i64 0]
  enc := Pc.cells
  ok := fun _ => True
  ht := Try.underlying108
  hi := by kernel_rfl
  hzs := rfl
  pos := by decide
  bpos := by decide
  len := fun _ _ => rfl
  one := fun a _ u hu => by
    simp only [Pc.cells, List.mem_cons, List.not_mem_nil, or_false] at hu
    rcases hu with rfl | rfl | rfl <;> rfl
@[go_sem] theorem pc_ne (b : Pc) : (pc b = #[]) = False := by simp [pc, Pc.cells]
theorem pc_one (b : Pc) : (pc b).all (·.oneCell') = true := by simp [pc, Pc.cells, Value.oneCell']
theorem pc_size (b : Pc) : (pc b).size = 3 := rfl
/-- block g holds it -/
def Pv (w : World) (g : Nat) (b : Pc) : Prop := Whole w g 111 (pc b)
section
variable {w w' : World} {g : Nat} {b : Pc}
theorem Pv.lt (h : Pv w g b) : g < w.heap.size := Whole.lt h
theorem Pv.below (h : Pv w g b) (hb : Below w.heap.size w w') : Pv w' g b := (hb.block g (Whole.lt h)).trans h
theorem Pv.new (w : World) (b : Pc) : Pv (w.alloc (.cells (pc b) 111)) w.heap.size b := heap_alloc_new w _
theorem Pv.c0 (h : Pv w g b) : w.cell? ⟨g, 0, none⟩ = some (.int .i64 b.w) := Whole.at_ h 0
theorem Pv.c1 (h : Pv w g b) : w.cell? ⟨g, 1, none⟩ = some (.int .i64 b.f) := Whole.at_ h 1
theorem Pv.c2 (h : Pv w g b) : w.cell? ⟨g, 2, none⟩ = some (.int .i64 b.n) := Whole.at_ h 2
end
def pcLoad (p : Value) : Sem Value := Instr.loadAt 111 p
def pcStore (p v : Value) : Sem Unit := Instr.storeAt 111 p v
@[go_sem ↓] theorem loadAt_pc (p : Value) : Instr.loadAt 111 p = pcLoad p := rfl
@[go_sem ↓] theorem storeAt_pc (p v : Value) : Instr.storeAt 111 p v = pcStore p v := rfl
theorem run_pcLoad {w : World} {b o : Nat} {c : Pc} (h : w.rangeAt b o c.cells) : (pcLoad (.pointer (some ⟨b, o, none⟩))).run Try.prog w = .ok (.agg (pc c)) w :=
  run_loadAt_mid (P := Try.prog) w b o 111 c.cells _ h Try.underlying111 rfl info_pc
theorem run_pcStore (w : World) {z : Array Value} (hz : z.size = 3) (c : Pc) :
    (pcStore (.pointer (some ⟨w.heap.size, 0, none⟩)) (.agg (pc c))).run Try.prog (w.alloc (.cells z 111)) = .ok () (w.alloc (.cells (pc c) 111)) := by
  unfold pcStore
  simp only [Instr.storeAt, Instr.sureAddr, Sem.run_bind, Sem.run_pure, Result.andThen]
  rw [run_storeVar_row _ _ 111 111 z (pc c) (heap_alloc_new w _) (by rw [info_pc, pc_size]) (by rw [hz, pc_size]) (pc_one c), World.setRow_alloc_new]
@[go_sem] theorem pc_store_new (w : World) (c : Pc) :
    (pcStore (.pointer (some ⟨w.heap.size, 0, none⟩)) (.agg (pc c))).run Try.prog (w.alloc (.cells #[.int .i64 0, .int .i64 0, .int .i64 0] 111)) = .ok () (w.alloc (.cells (pc c) 111)) :=
  run_pcStore w rfl c
theorem pc_at {w : World} {p : Option Addr} {n cap : Nat} {l : List Pc} (h : RA pcE w (.slice p n cap) l) (h0 : 0 < l.length) :
    ∃ b off, p = some ⟨b, off, none⟩ ∧ b < w.heap.size ∧ ∀ k, k < l.length → (pcLoad (.pointer (some ⟨b, off + k * 3, none⟩))).run Try.prog w = .ok (.agg (pc (l.getD k default))) w ∧
      w.cell? ⟨b, off + k * 3, none⟩ = some (.int .i64 (l.getD k default).w) ∧ w.cell? ⟨b, off + k * 3 + 1, none⟩ = some (.int .i64 (l.getD k default).f) ∧ w.cell? ⟨b, off + k * 3 + 2, none⟩ = some (.int .i64 (l.getD k default).n) := by
  obtain ⟨b, off, e, hb, hr⟩ := ra_at h h0
  refine ⟨b, off, e, hb, fun k hk => ?_⟩
  have hk2 := hr k hk
  exact ⟨run_pcLoad hk2, hk2 0 _ rfl, hk2 1 _ rfl, hk2 2 _ rfl⟩
theorem pc_boxed (w : World) (c : Pc) : ∃ W, w.alloc (.cells (pc c) 111) = W ∧ Hid (Pv W w.heap.size c ∧ Below w.heap.size w W) :=
  ⟨_, rfl, Lib.hid ⟨Pv.new w c, bal (Below.refl _ _)⟩⟩
theorem built_pc3 (a b c : Int) : Try.prog.built 111 [(0, .int .i64 a), (1, .int .i64 b), (2, .int .i64 c)] = some #[.int .i64 a, .int .i64 b, .int .i64 c] := by kernel_rfl
theorem built_pc12 (b c : Int) : Try.prog.built 111 [(1, .int .i64 b), (2, .int .i64 c)] = some #[.int .i64 0, .int .i64 b, .int .i64 c] := by kernel_rfl
theorem built_pc02 (a c : Int) : Try.prog.built 111 [(0, .int .i64 a), (2, .int .i64 c)] = some #[.int .i64 a, .int .i64 0, .int .i64 c] := by kernel_rfl
def pcBuild (ps : Array (Nat × Value)) : Sem Value := Instr.build 111 ps
@[go_sem ↓] theorem build_pc (ps : Array (Nat × Value)) : Instr.build 111 ps = pcBuild ps := rfl
@[go_sem] theorem run_pcBuild3 (w : World) (a b c : Nat) : (pcBuild #[(0, .int .i64 a), (1, .int .i64 b), (2, .int .i64 c)]).run Try.prog w = .ok (.agg (pc ⟨a, b, c⟩)) w := run_build w _ _ _ (built_pc3 a b c)
@[go_sem] theorem run_pcBuild12 (w : World) : (pcBuild #[(1, .int .i64 6), (2, .int .i64 2)]).run Try.prog w = .ok (.agg (pc ⟨0, 6, 2⟩)) w := run_build w _ _ _ (built_pc12 6 2)
@[go_sem] theorem run_pcBuild02 (w : World) : (pcBuild #[(0, .int .i64 1), (2, .int .i64 2)]).run Try.prog w = .ok (.agg (pc ⟨1, 0, 2⟩)) w := run_build w _ _ _ (built_pc02 1 2)
theorem built_pcs1 (w : World) (a b c : Int) : (Instr.buildSlice 108 1 #[(0, .agg #[.int .i64 a, .int .i64 b, .int .i64 c])]).run Try.prog w = .ok (.slice (some ⟨w.heap.size, 0, none⟩) 1 1) (w.alloc (.cells #[.int .i64 a, .int .i64 b, .int .i64 c] 111)) := by
  simp [Instr.buildSlice, run_underlying Try.underlying108, Instr.fill, go_sem]
def pcSlice (n : Nat) (ps : Array (Nat × Value)) : Sem Value := Instr.buildSlice 108 n ps
@[go_sem ↓] theorem slice_pc (n : Nat) (ps : Array (Nat × Value)) : Instr.buildSlice 108 n ps = pcSlice n ps := rfl
@[go_sem] theorem run_pcSlice1 (w : World) (c : Pc) : (pcSlice 1 #[(0, .agg (pc c))]).run Try.prog w = .ok (.slice (some ⟨w.heap.size, 0, none⟩) 1 1) (w.alloc (.cells (pc c) 111)) := built_pcs1 w c.w c.f c.n
theorem pc_oneA (w : World) (c : Pc) : OwnA pcE w.heap.size (w.alloc (.cells (pc c) 111)) (.slice (some ⟨w.heap.size, 0, none⟩) 1 1) [c] := by
  have := own_lit_a pcE w (l := [c]) (fun x _ => trivial) (by unfold maxLen; simp)
  simpa [pcE, pc] using this
/-- whether two are the same -/
def eqP (x y : Pc) : Bool := ((x.w : Int) == y.w && (x.f : Int) == y.f) && (x.n : Int) == y.n
theorem eqP_self (x : Pc) : eqP x x = true := by simp [eqP]
theorem fields_pc : Try.prog.underlying 111 = some (.struct (Try.prog.fieldsOf 111)) := by kernel_rfl
theorem stood_pc : Try.prog.stoodInHeld 111 = false := by kernel_rfl
theorem part_p (w : World) (b : Pc) : (part 3 (pc b) 0).run Try.prog w = .ok (.int .i64 b.w) w ∧ (part 3 (pc b) 1).run Try.prog w = .ok (.int .i64 b.f) w ∧ (part 3 (pc b) 2).run Try.prog w = .ok (.int .i64 b.n) w := by
  refine ⟨?_, ?_, ?_⟩ <;> simp [part, isAgg, run_underlying Try.underlying3, pc, Pc.cells]
@[go_sem high] theorem run_eqP (w : World) (x y : Pc) : (Op.equalIn 10000 111 (.agg (pc x)) (.agg (pc y))).run Try.prog w = .ok (eqP x y) w := by
  obtain ⟨p0, p1, p2⟩ := part_p w x
  obtain ⟨q0, q1, q2⟩ := part_p w y
  have a0 := run_equalIn_int (P := Try.prog) w 9998 3 .i64 .i64 x.w y.w Try.underlying3
  have a1 := run_equalIn_int (P := Try.prog) w 9998 3 .i64 .i64 x.f y.f Try.underlying3
  have a2 := run_equalIn_int (P := Try.prog) w 9998 3 .i64 .i64 x.n y.n Try.underlying3
  rw [run_equalIn_struct w 9999 111 (pc x) (pc y) fields_pc stood_pc, Program.fieldsOf, Try.underlying111]
  simp only [Op.eqFields, Sem.run_bind, Sem.run_ite, p0, p1, p2, q0, q1, q2, a0, a1, a2, Result.andThen_ok, Sem.run_pure]
  unfold eqP
  cases ((x.w : Int) == y.w) <;> cases ((x.f : Int) == y.f) <;> cases ((x.n : Int) == y.n) <;> simp
section
variable {ops : Array Oper} {rest : List Oper} {o : Oper} {a : Act} {w : World} {Q : Exit → Act → World → Prop} {K : Act → World → Prop}
theorem app_pc (hgd : o.guard = none) (s x : Operand) (ho : o.op = .call { callee := .builtin .append, args := #[s, x], argTypes := #[108, 108] }) (B : Nat) (v : Value) (l : List Pc) (hs : a.eval s = v) (hown : OwnA pcE B w v l)
    (u : Value) (r : List Pc) (hx : a.eval x = u) (hr : RA pcE w u r) (hlen : Hid (l.length + r.length ≤ 4000)) (hB : B ≤ w.heap.size)
    (h : ∀ v' w', OwnA pcE B w' v' (l ++ r) → w.grownBy w' v.ownBlock → (v'.ownBlock = v.ownBlock ∨ v'.ownBlock = some w.heap.size) → wpList Try.prog ops Q rest (a.put o.dst v') w') : wpList Try.prog ops Q (o :: rest) a w :=
  list_app pcE hgd s x ho B v l hs hown u r hx hr (by have := hlen.out; show _ * 24 ≤ _; omega) hB h
end
end Go.Proofs.Ytkpefnjohdjejaa

/-
  Contracts: whether bytes are there; the parts of words that bytes are (package span and the reference).
-/
namespace Go.Proofs.Ytkpefnjohdjejaa
set_option maxRecDepth 100000
open Go.RowKit

/-- n bytes from o on are those of L words, and one call's -/
def InB (L : Nat) (o n : Int) : Prop := 0 ≤ o ∧ 0 ≤ n ∧ n ≤ 448 ∧ o + n ≤ 8 * L
instance (L : Nat) (o n : Int) : Decidable (InB L o n) := inferInstanceAs (Decidable (_ ∧ _))
theorem InB.nat {L : Nat} {o n : Int} (h : InB L o n) : ∃ a b : Nat, o = a ∧ n = b ∧ b ≤ 448 ∧ a + b ≤ 8 * L := by
  obtain ⟨h1, h2, h3, h4⟩ := h
  exact ⟨o.toNat, n.toNat, by omega, by omega, by omega, by omega⟩
theorem mayn_yes (n : Int) (h : 0 ≤ n ∧ n ≤ 448) (w : World) : Calls Try.prog 89 #[.int .i64 n] w fun e w' => e = .returned (.bool true) ∧ w = w' := by
  obtain ⟨h1, h2⟩ := h
  have h3 : n ≥ 0 := h1
  go_enter Try.func89, Try.ntmps89
  go_wp2_with fail
  go_ret
  exact ⟨rfl, rfl⟩
theorem mayn_no (n : Int) (h : ¬ (0 ≤ n ∧ n ≤ 448)) (w : World) : Calls Try.prog 89 #[.int .i64 n] w fun e w' => e = .returned (.bool false) ∧ w = w' := by
  by_cases h1 : n ≥ 0
  · have h2 : ¬ n ≤ 448 := fun k => h ⟨h1, k⟩
    clear h
    go_enter Try.func89, Try.ntmps89
    go_wp2_with fail
    go_ret
    exact ⟨rfl, rfl⟩
  · clear h
    go_enter Try.func89, Try.ntmps89
    go_wp2_with fail
    go_ret
    exact ⟨rfl, rfl⟩
theorem withinb_yes (o n L c : Nat) (p : Option Addr) (h1 : n ≤ 448) (h2 : o + n ≤ 8 * L) (hL : L ≤ 1000) (w : World) : Calls Try.prog 74 #[.slice p L c, .int .i64 o, .int .i64 n] w fun e w' => e = .returned (.bool true) ∧ w = w' := by
  have C := Lib.hid (mayn_yes n (by omega) w)
  have e1 : IntKind.i64.wrap (8 * (L : Int)) = ((8 * L : Nat) : Int) := by rw [show 8 * (L : Int) = ((8 * L : Nat) : Int) by omega]; exact i64_nat _ (by omega)
  have e2 : IntKind.i64.wrap (((8 * L : Nat) : Int) - (n : Int)) = ((8 * L - n : Nat) : Int) := by rw [show ((8 * L : Nat) : Int) - (n : Int) = ((8 * L - n : Nat) : Int) by omega]; exact i64_nat _ (by omega)
  have q1 : (n : Int) ≤ ((8 * L : Nat) : Int) := by omega
  have q2 : (o : Int) ≥ 0 := by omega
  have q3 : (o : Int) ≤ ((8 * L - n : Nat) : Int) := by omega
  clear h1 h2 hL
  generalize 8 * L - n = M at *
  generalize 8 * L = N at *
  have r1 : n ≤ N := by omega
  have r3 : o ≤ M := by omega
  go_enter Try.func74, Try.ntmps74
  go_wp2_with fail
  refine (C.out).mono ?_; rintro e w' ⟨rfl, rfl⟩
  go_wp2_with fail
  go_ret
  exact ⟨rfl, rfl⟩
theorem withinb_no (o n : Int) (L c : Nat) (p : Option Addr) (hn : -9223372036854775808 ≤ n ∧ n ≤ 9223372036854775807) (h : ¬ InB L o n) (hL : L ≤ 1000) (w : World) : Calls Try.prog 74 #[.slice p L c, .int .i64 o, .int .i64 n] w fun e w' => e = .returned (.bool false) ∧ w = w' := by
  obtain ⟨K, hK⟩ : ∃ K, 8 * (L : Int) = K := ⟨_, rfl⟩
  have e1 : IntKind.i64.wrap (8 * (L : Int)) = K := by rw [← hK]; exact IntWalk.i64_in _ (by omega)
  obtain ⟨J, hJ⟩ : ∃ J, K - n = J := ⟨_, rfl⟩
  by_cases h0 : 0 ≤ n ∧ n ≤ 448
  · have C := Lib.hid (mayn_yes n h0 w)
    have e2 : IntKind.i64.wrap (K - n) = J := by rw [← hJ]; exact IntWalk.i64_in _ (by omega)
    by_cases h1 : n ≤ K
    · by_cases h2 : o ≥ 0
      · have h3 : ¬ o ≤ J := fun k => h ⟨h2, h0.1, h0.2, by omega⟩
        clear h h0 hn hL hK hJ
        go_enter Try.func74, Try.ntmps74
        go_wp2_with fail
        refine (C.out).mono ?_; rintro e w' ⟨rfl, rfl⟩
        go_wp2_with fail
        go_ret
        exact ⟨by simp [h3], rfl⟩
      · clear h h0 hn hL e2 hK hJ
        go_enter Try.func74, Try.ntmps74
        go_wp2_with fail
        refine (C.out).mono ?_; rintro e w' ⟨rfl, rfl⟩
        go_wp2_with fail
        go_ret
        exact ⟨rfl, rfl⟩
    · clear h h0 hn hL e2 hK hJ
      go_enter Try.func74, Try.ntmps74
      go_wp2_with fail
      refine (C.out).mono ?_; rintro e w' ⟨rfl, rfl⟩
      go_wp2_with fail
      go_ret
      exact ⟨rfl, rfl⟩
  · have C := Lib.hid (mayn_no n h0 w)
    clear h h0 hn hL hK hJ
    go_enter Try.func74, Try.ntmps74
    go_wp2_with fail
    refine (C.out).mono ?_; rintro e w' ⟨rfl, rfl⟩
    go_wp2_with fail
    go_ret
    exact ⟨rfl, rfl⟩
theorem spin_is (o n : Int) (L c : Nat) (p : Option Addr) (hn : -9223372036854775808 ≤ n ∧ n ≤ 9223372036854775807) (hL : L ≤ 1000) (w : World) : Calls Try.prog 74 #[.slice p L c, .int .i64 o, .int .i64 n] w fun e w' => e = .returned (.bool (decide (InB L o n))) ∧ w = w' := by
  by_cases h : InB L o n
  · rw [decide_eq_true h]
    obtain ⟨a, b, rfl, rfl, h1, h2⟩ := h.nat
    exact withinb_yes a b L c p h1 h2 hL w
  · rw [decide_eq_false h]
    exact withinb_no o n L c p hn h hL w
theorem inside_is (o n : Int) (L : Nat) (ho : -9223372036854775808 ≤ o ∧ o ≤ 9223372036854775807) (hn : -9223372036854775808 ≤ n ∧ n ≤ 9223372036854775807) (hL : L ≤ 1000) (w : World) : Calls Try.prog 91 #[.int .i64 L, .int .i64 o, .int .i64 n] w fun e w' => e = .returned (.bool (decide (InB L o n))) ∧ w = w' := by
  obtain ⟨K, hK⟩ : ∃ K, 8 * (L : Int) = K := ⟨_, rfl⟩
  have e1 : IntKind.i64.wrap (8 * (L : Int)) = K := by rw [← hK]; exact IntWalk.i64_in _ (by omega)
  by_cases h1 : o ≥ 0
  · by_cases h2 : n ≥ 0
    · by_cases h3 : n ≤ 448
      · by_cases h4 : o ≤ K
        · obtain ⟨J, hJ⟩ : ∃ J, K - o = J := ⟨_, rfl⟩
          have e2 : IntKind.i64.wrap (K - o) = J := by rw [← hJ]; exact IntWalk.i64_in _ (by omega)
          by_cases h5 : n ≤ J
          · rw [decide_eq_true (show InB L o n from ⟨h1, h2, h3, by omega⟩)]
            clear hK hJ ho hn hL
            go_enter Try.func91, Try.ntmps91
            go_wp2_with fail
            go_ret
            exact ⟨rfl, rfl⟩
          · rw [decide_eq_false (show ¬ InB L o n from fun k => by have := k.2.2.2; omega)]
            clear hK hJ ho hn hL
            go_enter Try.func91, Try.ntmps91
            go_wp2_with fail
            go_ret
            exact ⟨rfl, rfl⟩
        · rw [decide_eq_false (show ¬ InB L o n from fun k => by have := k.2.2.2; omega)]
          clear hK ho hn hL
          go_enter Try.func91, Try.ntmps91
          go_wp2_with fail
          go_ret
          exact ⟨rfl, rfl⟩
      · rw [decide_eq_false (show ¬ InB L o n from fun k => h3 k.2.2.1)]
        clear hK e1 ho hn hL
        go_enter Try.func91, Try.ntmps91
        go_wp2_with fail
        go_ret
        exact ⟨rfl, rfl⟩
    · rw [decide_eq_false (show ¬ InB L o n from fun k => h2 k.2.1)]
      clear hK e1 ho hn hL
      go_enter Try.func91, Try.ntmps91
      go_wp2_with fail
      go_ret
      exact ⟨rfl, rfl⟩
  · rw [decide_eq_false (show ¬ InB L o n from fun k => h1 k.1)]
    clear hK e1 ho hn hL
    go_enter Try.func91, Try.ntmps91
    go_wp2_with fail
    go_ret
    exact ⟨rfl, rfl⟩

/-- parts under way -/
structure Pt (o n : Nat) (w wr : World) (lv : Value) (a m : Nat) : Prop where
  sum : a + m = o + n
  ex : ∃ P, OwnA pcE w.heap.size wr lv P ∧ P.length + m ≤ n ∧ pcs o n = P ++ pcs a m
  below : Below w.heap.size w wr
theorem Pt.step {o n : Nat} {w wr w' : World} {P : List Pc} {lv v' : Value} {a m : Nat} (hP : Pt o n w wr lv a m) (h : OwnA pcE w.heap.size w' v' (P ++ [⟨a / 8, a % 8, pcK a m⟩])) (hl : P.length + m ≤ n) (he : pcs o n = P ++ pcs a m) (hm : m ≠ 0) (hb : Below w.heap.size w w') : Pt o n w w' v' (a + pcK a m) (m - pcK a m) := by
  have hk := pcK_le (a := a) hm
  refine ⟨by have := hP.sum; omega, ⟨_, h, by rw [List.length_append, List.length_singleton]; omega, ?_⟩, hb⟩
  rw [he, pcs_more hm, List.append_assoc]; rfl
set_option maxHeartbeats 1000000 in
theorem parts_is (o n : Nat) (ho : o ≤ 10000000) (hn : n ≤ 448) (w : World) : Calls Try.prog 75 #[.int .i64 o, .int .i64 n] w fun e w' => (∃ v, e = .returned v ∧ OwnA pcE w.heap.size w' v (pcs o n)) ∧ Below w.heap.size w w' := by
  have HL := Lib.hid (And.intro ho hn)
  clear ho hn
  go_enter Try.func75, Try.ntmps75
  go_wp2
  go_loopw [0, 1, 5] (fun x y z wr => ∃ (a m : Nat) (lv : Value), x = .int .i64 a ∧ y = .int .i64 m ∧ z = lv ∧ Hid (Pt o n w wr lv a m)) (fun _ y _ _ => (intOf y).toNat)
  case atStart => exact ⟨o, n, _, rfl, rfl, rfl, Lib.hid ⟨rfl, ⟨[], own_nil_a _ _ _, by simp, rfl⟩, Below.refl _ _⟩⟩
  case round =>
    obtain ⟨a, m, lv, rfl, rfl, rfl, HP⟩ := hrel
    by_cases hm : 0 < m
    · obtain ⟨P, O1, l1, q1⟩ := HP.out.ex
      have hs := HP.out.sum
      obtain ⟨b1, b2⟩ := HL.out
      obtain ⟨k1, k2, k3, k4⟩ := pcK_le (a := a) (m := m) (by omega)
      have hK : pcK a m = min (8 - a % 8) m := rfl
      obtain ⟨Q, hQ⟩ : ∃ Q, a / 8 = Q := ⟨_, rfl⟩
      obtain ⟨F, hF⟩ : ∃ F, a % 8 = F := ⟨_, rfl⟩
      obtain ⟨G, hG⟩ : ∃ G, 8 - F = G := ⟨_, rfl⟩
      obtain ⟨N, hN⟩ : ∃ N, pcK a m = N := ⟨_, rfl⟩
      obtain ⟨A, hA⟩ : ∃ A, a + N = A := ⟨_, rfl⟩
      obtain ⟨M, hM⟩ : ∃ M, m - N = M := ⟨_, rfl⟩
      have m0 : (m : Int) > 0 := by omega
      have m1 : (a : Int) % 8 = (F : Int) := by omega
      have m2 : IntKind.i64.wrap ((a : Int) / 8) = (Q : Int) := by rw [show (a : Int) / 8 = (Q : Int) by omega]; exact i64_nat _ (by omega)
      have m3 : IntKind.i64.wrap (8 - (F : Int)) = (G : Int) := by rw [show 8 - (F : Int) = (G : Int) by omega]; exact i64_nat _ (by omega)
      have m4 : IntKind.i64.wrap ((a : Int) + (N : Int)) = (A : Int) := by rw [show (a : Int) + (N : Int) = (A : Int) by omega]; exact i64_nat _ (by omega)
      have m5 : IntKind.i64.wrap ((m : Int) - (N : Int)) = (M : Int) := by rw [show (m : Int) - (N : Int) = (M : Int) by omega]; exact i64_nat _ (by omega)
      have hm' := Lib.hid (And.intro hm (And.intro k1 k2))
      have KK := Lib.hid (And.intro l1 q1)
      have KE := Lib.hid (And.intro hQ (And.intro hF (And.intro hN (And.intro hA hM))))
      have HO1 := Lib.hid O1
      have B1 : Hid (Below w.heap.size w wr) := Lib.hid HP.out.below
      have HH := HP
      by_cases hc : m < G
      · have eN : N = m := by omega
        have hM0 : Hid (M = 0) := Lib.hid (by omega)
        have c1 : (m : Int) < (G : Int) := by omega
        clear hs b1 b2 k1 k2 k3 k4 hK O1 l1 q1 hQ hF hG hA hM hm HP hN
        subst eN
        obtain ⟨W2, hW2, HW2⟩ := pc_boxed wr ⟨Q, F, N⟩
        have hB2 := Lib.hid (below_more B1.out HW2.out.2)
        have O2 := Lib.hid (HO1.out.below HW2.out.2)
        have R2 : Hid (RA pcE W2 (.slice (some ⟨wr.heap.size, 0, none⟩) 1 1) [⟨Q, F, N⟩]) := Lib.hid (by rw [← hW2]; exact (pc_oneA wr ⟨Q, F, N⟩).ra)
        have hlen : Hid (P.length + [(⟨Q, F, N⟩ : Pc)].length ≤ 4000) := Lib.hid (by have := KK.out.1; have := HL.out; simp only [List.length_singleton]; omega)
        go_wp2_with (at_builtin; refine app_pc rfl _ _ rfl _ _ _ rfl O2.out _ [⟨Q, F, N⟩] rfl R2.out hlen hB2.out.size ?_)
        intro v' w' ho hg hx
        have HN := Lib.hid (Pt.step HH.out (by obtain ⟨x1, x2, x3, x4, x5⟩ := KE.out; rw [x1, x2, x3]; exact ho) KK.out.1 KK.out.2 (by have := hm'.out; omega) (below_app hB2.out hB2.out.size O2.out hg))
        rw [KE.out.2.2.1, KE.out.2.2.2.1, KE.out.2.2.2.2] at HN
        clear ho hg hx
        go_wp2
        go_roundw
        case rel => exact ⟨A, M, _, by go_num, by first | go_num | (have := hM0.out; go_num), rfl, HN⟩
        case measure => have := hm'.out; have := KE.out; simp [intOf]; omega
      · have eN : N = G := by omega
        have c1 : ¬ (m : Int) < (G : Int) := by omega
        clear hs b1 b2 k1 k2 k3 k4 hK O1 l1 q1 hQ hF hG hA hM hm HP hN
        subst eN
        obtain ⟨W2, hW2, HW2⟩ := pc_boxed wr ⟨Q, F, N⟩
        have hB2 := Lib.hid (below_more B1.out HW2.out.2)
        have O2 := Lib.hid (HO1.out.below HW2.out.2)
        have R2 : Hid (RA pcE W2 (.slice (some ⟨wr.heap.size, 0, none⟩) 1 1) [⟨Q, F, N⟩]) := Lib.hid (by rw [← hW2]; exact (pc_oneA wr ⟨Q, F, N⟩).ra)
        have hlen : Hid (P.length + [(⟨Q, F, N⟩ : Pc)].length ≤ 4000) := Lib.hid (by have := KK.out.1; have := HL.out; simp only [List.length_singleton]; omega)
        go_wp2_with (at_builtin; refine app_pc rfl _ _ rfl _ _ _ rfl O2.out _ [⟨Q, F, N⟩] rfl R2.out hlen hB2.out.size ?_)
        intro v' w' ho hg hx
        have HN := Lib.hid (Pt.step HH.out (by obtain ⟨x1, x2, x3, x4, x5⟩ := KE.out; rw [x1, x2, x3]; exact ho) KK.out.1 KK.out.2 (by have := hm'.out; omega) (below_app hB2.out hB2.out.size O2.out hg))
        rw [KE.out.2.2.1, KE.out.2.2.2.1, KE.out.2.2.2.2] at HN
        clear ho hg hx
        go_wp2
        go_roundw
        case rel => exact ⟨A, M, _, by go_num, by first | go_num | (have := hM0.out; go_num), rfl, HN⟩
        case measure => have := hm'.out; have := KE.out; simp [intOf]; omega
    · obtain rfl : m = 0 := by omega
      obtain ⟨P, O1, l1, q1⟩ := HP.out.ex
      rw [pcs_zero, List.append_nil] at q1
      subst q1
      have HO1 := Lib.hid O1
      have B1 := Lib.hid HP.out.below
      clear O1
      go_wp2
      go_ret
      exact ⟨⟨_, rfl, HO1.out⟩, B1.out⟩

/-- numbers that Pieces takes -/
def OkP (o n : Int) : Prop := 0 ≤ o ∧ o ≤ 1000000 ∧ 0 ≤ n ∧ n ≤ 448
instance (o n : Int) : Decidable (OkP o n) := inferInstanceAs (Decidable (_ ∧ _))
theorem OkP.nat {o n : Int} (h : OkP o n) : ∃ a b : Nat, o = a ∧ n = b ∧ a ≤ 1000000 ∧ b ≤ 448 := by
  obtain ⟨h1, h2, h3, h4⟩ := h
  exact ⟨o.toNat, n.toNat, by omega, by omega, by omega, by omega⟩
end Go.Proofs.Ytkpefnjohdjejaa

/-
  Contracts: bytes that are read (package span and the reference).
-/
namespace Go.Proofs.Ytkpefnjohdjejaa
set_option maxRecDepth 100000
open Go.RowKit

theorem wd_at {l : List Int} (h : ∀ x ∈ l, Wd x) {k : Nat} (hk : k < l.length) : Wd (l.getD k 0) := by
  rw [List.getD_eq_getElem?_getD, List.getElem?_eq_getElem hk]; exact h _ (List.getElem_mem hk)
/-- bytes being read, part by part -/
structure Rb (wl : List Int) (o n : Nat) (w1 wr : World) (lv : Value) (k a m : Nat) : Prop where
  sum : a + m = o + n
  ge : o ≤ a
  rest : (pcs o n).drop k = pcs a m
  own : OwnA byE w1.heap.size wr lv (rdB wl o (a - o))
  below : Below w1.heap.size w1 wr
set_option maxHeartbeats 2000000 in
theorem read_yes (wl : List Int) (v : Value) (o n : Nat) (w : World) (hv : RU w v wl) (hw : ∀ x ∈ wl, Wd x) (hL : wl.length ≤ 1000) (hn : n ≤ 448) (hon : o + n ≤ 8 * wl.length) :
    Calls Try.prog 48 #[v, .int .i64 o, .int .i64 n] w fun e w' => (∃ u, e = .returned (.tuple #[u, .bool true]) ∧ OwnA byE w.heap.size w' u (rdB wl o n)) ∧ Below w.heap.size w w' := by
  obtain ⟨p, cap, rfl, _, _, _⟩ := id hv
  have C := Lib.hid (withinb_yes o n wl.length cap p hn hon hL w)
  have D := Lib.hid (parts_is o n (by omega) hn w)
  have HV := Lib.hid (fun (w' : World) (hb : Below w.heap.size w w') => ru_below hv hb)
  have HW := Lib.hid hw
  have HL := Lib.hid (And.intro hL (And.intro hn hon))
  clear hv hw hL hn hon
  obtain ⟨Lw, hLw⟩ : ∃ Lw, wl.length = Lw := ⟨_, rfl⟩
  rw [hLw] at C HV ⊢
  have HLw := Lib.hid hLw
  clear hLw
  go_enter Try.func48, Try.ntmps48
  go_wp2_with fail
  refine (C.out).mono ?_; rintro e w' ⟨rfl, rfl⟩
  go_wp2_with fail
  refine (D.out).mono ?_; rintro e w1 ⟨⟨u1, rfl, o1⟩, b1⟩
  have D1 := Lib.hid b1
  have O1 := Lib.hid o1
  obtain ⟨g, d, rfl, _, _⟩ := o1.shape
  have hpl := pcs_length n o
  have HP : Hid ((pcs o n).length ≤ 1000) := Lib.hid (by rw [hpl]; have := HL.out; unfold cnt; split <;> omega)
  clear b1 D o1 hpl C
  obtain ⟨P, hP⟩ : ∃ P, pcs o n = P := ⟨_, rfl⟩
  rw [hP] at O1 HP ⊢
  have HPe := Lib.hid hP
  clear hP
  go_wp2
  go_loopw [8, 21] (fun y i wr => ∃ (k a m : Nat) (lv : Value), k ≤ P.length ∧ i = .int .i64 k ∧ lv = y ∧ Hid (Rb wl o n w1 wr lv k a m)) (fun _ i _ => P.length - (intOf i).toNat)
  case atStart => exact ⟨0, o, n, _, Nat.zero_le _, rfl, rfl, Lib.hid ⟨rfl, Nat.le_refl _, rfl, by rw [Nat.sub_self]; exact own_nil_a _ _ _, Below.refl _ _⟩⟩
  case round =>
    obtain ⟨k, a, m, lv, hk, rfl, rfl, H⟩ := hrel
    by_cases hlt : k < P.length
    · have hst := pcs_step H.out.rest (by rw [HPe.out]; exact hlt)
      rw [HPe.out] at hst
      obtain ⟨hm0, hg1, hdr⟩ := hst
      obtain ⟨k1, k2, k3, _⟩ := pcK_le (a := a) hm0
      obtain ⟨b, off, e, hb, hx⟩ := pc_at (ra_below O1.out.ra H.out.below) (by omega)
      cases e
      obtain ⟨hld, _, _, _⟩ := hx k hlt
      rw [hg1] at hld
      obtain ⟨Q, hQ⟩ : ∃ Q, a / 8 = Q := ⟨_, rfl⟩
      obtain ⟨F, hF⟩ : ∃ F, a % 8 = F := ⟨_, rfl⟩
      obtain ⟨N, hN⟩ : ∃ N, pcK a m = N := ⟨_, rfl⟩
      rw [hQ, hF, hN] at hld
      rw [hN] at k1 k2 k3 hdr
      rw [hF] at k3
      have hsum := H.out.sum
      have hge := H.out.ge
      obtain ⟨hL1, hL2, hL3⟩ := HL.out
      obtain ⟨wo, hwo⟩ : ∃ wo, wo = wr := ⟨_, rfl⟩
      subst hwo
      obtain ⟨W, hW, HWp⟩ := pc_boxed wo ⟨Q, F, N⟩
      have c1 : W.cell? ⟨wo.heap.size, 1, none⟩ = some (.int .i64 F) := HWp.out.1.c1
      have i0 : (0 : Int) ≤ (k : Int) := by omega
      have i1 : (k : Int) < (P.length : Int) := by omega
      have i2 : ¬ (k : Int) < 0 := by omega
      have i3 : IntKind.i64.wrap ((k : Int) + 1) = ((k + 1 : Nat) : Int) := by rw [show (k : Int) + 1 = ((k + 1 : Nat) : Int) by omega]; exact i64_nat _ (by have := HP.out; omega)
      obtain ⟨E, hE⟩ : ∃ E, F + N = E := ⟨_, rfl⟩
      have i4 : IntKind.i64.wrap ((F : Int) + (N : Int)) = (E : Int) := by rw [show (F : Int) + (N : Int) = (E : Int) by omega]; exact i64_nat _ (by omega)
      have HB := Lib.hid (below_more H.out.below HWp.out.2)
      have HO := Lib.hid (H.out.own.below HWp.out.2)
      have HPv := Lib.hid HWp.out.1
      have HNe : Hid (lv.ownBlock ≠ some wo.heap.size) := Lib.hid fun e => by have := H.out.own.lt _ e; omega
      have HQ : Hid (Q < Lw ∧ Q < wl.length ∧ F + N ≤ 8) := Lib.hid ⟨by have := HLw.out; omega, by omega, by omega⟩
      have HA := Lib.hid (And.intro hQ (And.intro hF (And.intro hge (And.intro hE (And.intro hsum (And.intro k1 k2))))))
      have HD := Lib.hid hdr
      have HK := Lib.hid hlt
      clear hx hb hQ hF hN hge hsum hL1 hL2 hL3 hlt hk hm0 hg1 hdr k1 k2 k3 hE HWp H
      go_wp2
      go_loopw [8, 11] (fun y x wr => ∃ (j : Nat) (lv : Value), j ≤ N ∧ x = .int .i64 ((F + j : Nat) : Int) ∧ lv = y ∧ Hid (OwnA byE w1.heap.size wr lv (rdB wl o (a - o + j)) ∧ Below w1.heap.size w1 wr ∧ Pv wr wo.heap.size ⟨Q, F, N⟩ ∧ lv.ownBlock ≠ some wo.heap.size)) (fun _ x _ => E - (intOf x).toNat)
      case atStart => exact ⟨0, _, Nat.zero_le _, by simp, rfl, Lib.hid ⟨HO.out, HB.out, HPv.out, HNe.out⟩⟩
      case round =>
        obtain ⟨j, lz, hj, rfl, rfl, H⟩ := hrel
        have V := H.out.2.2.1
        have d0 : wr.cell? ⟨wo.heap.size, 0, none⟩ = some (.int .i64 Q) := V.c0
        have d1 : wr.cell? ⟨wo.heap.size, 1, none⟩ = some (.int .i64 F) := V.c1
        have d2 : wr.cell? ⟨wo.heap.size, 2, none⟩ = some (.int .i64 N) := V.c2
        obtain ⟨x, hx⟩ : ∃ x, F + j = x := ⟨_, rfl⟩
        by_cases hlt : j < N
        · have hE := HA.out.2.2.2.1
          have hq := HQ.out
          have j1 : ((x : Nat) : Int) < (E : Int) := by omega
          have j2 : x < E := by omega
          have j3 : IntKind.i64.wrap ((x : Int) + 1) = ((x + 1 : Nat) : Int) := by rw [show (x : Int) + 1 = ((x + 1 : Nat) : Int) by omega]; exact i64_nat _ (by omega)
          obtain ⟨bb, of, e, _, hc⟩ := ru_some (HV.out wr (below_more D1.out H.out.2.1)) (by rw [HLw.out]; omega)
          cases e
          have hcell := hc Q (by rw [HLw.out]; omega)
          have q0 : (0 : Int) ≤ (Q : Int) := by omega
          have q1 : (Q : Int) < (Lw : Int) := by omega
          have q2 : ¬ (Q : Int) < 0 := by omega
          have G := Lib.hid (sget_is (wl.getD Q 0) x (wd_at HW.out hq.2.1) (by omega) wr)
          have hby : By (bt (wl.getD Q 0) x) := bt_by _ _
          have hsn : rdB wl o (a - o + (j + 1)) = rdB wl o (a - o + j) ++ [bt (wl.getD Q 0) x] := by
            rw [← Nat.add_assoc, rdB_snoc, bAt_]
            have e1 : (o + (a - o + j)) / 8 = Q := by have := HA.out; omega
            have e2 : (o + (a - o + j)) % 8 = x := by have := HA.out; omega
            rw [e1, e2]
          have hlen : Hid ((rdB wl o (a - o + j)).length + [bt (wl.getD Q 0) x].length ≤ 4000) := Lib.hid (by rw [rdB_length]; have := HA.out; have := HL.out; simp only [List.length_singleton]; omega)
          have HS := Lib.hid hsn
          have HK2 := Lib.hid (And.intro hlt hx)
          generalize bt (wl.getD Q 0) x = y at *
          generalize wl.getD Q 0 = z at *
          have R2 : Hid (RA byE (wr.alloc (.cells #[.int .u8 y] 5)) (.slice (some ⟨wr.heap.size, 0, none⟩) 1 1) [y]) := Lib.hid (by_one wr hby).ra
          have O2 : Hid (OwnA byE w1.heap.size (wr.alloc (.cells #[.int .u8 y] 5)) lz (rdB wl o (a - o + j))) := Lib.hid (H.out.1.below (bal (Below.refl _ _)))
          have B2 : Hid (Below w1.heap.size w1 (wr.alloc (.cells #[.int .u8 y] 5))) := Lib.hid (bal H.out.2.1)
          have V2 : Hid (Pv (wr.alloc (.cells #[.int .u8 y] 5)) wo.heap.size ⟨Q, F, N⟩) := Lib.hid (V.below (bal (Below.refl _ _)))
          clear hc hsn hlt hE hq hj hby
          rw [hx]
          clear hx
          go_wp2_with fail
          refine (G.out).mono ?_; rintro e w' ⟨rfl, rfl⟩
          go_wp2_with (at_builtin; refine app_by rfl _ _ rfl _ _ _ rfl O2.out _ [y] rfl R2.out hlen B2.out.size ?_)
          intro v' w' ho hg hx
          have HN := Lib.hid (show OwnA byE w1.heap.size w' v' (rdB wl o (a - o + (j + 1))) ∧ Below w1.heap.size w1 w' ∧ Pv w' wo.heap.size ⟨Q, F, N⟩ ∧ v'.ownBlock ≠ some wo.heap.size from ⟨by rw [HS.out]; exact ho, below_app B2.out B2.out.size O2.out hg, (hg.block _ V2.out.lt (fun e => H.out.2.2.2 e.symm)).trans V2.out, fun e => by
            rcases hx with hx | hx
            · exact H.out.2.2.2 (hx.symm.trans e)
            · have := Option.some.inj (hx.symm.trans e)
              have := V.lt
              omega⟩)
          clear ho hg hx
          go_wp2
          go_roundw
          case rel => exact ⟨j + 1, _, by have := HK2.out; omega, by have := HK2.out; go_num, rfl, HN⟩
          case measure => have := HK2.out; have := HA.out; simp [intOf]; omega
        · have hjN : j = N := by omega
          have hE := HA.out.2.2.2.1
          have j1 : ¬ ((x : Nat) : Int) < (E : Int) := by omega
          have j2 : ¬ x < E := by omega
          rw [hx]
          clear hlt
          subst hjN
          have HN : Hid (Rb wl o n w1 wr lz (k + 1) (a + j) (m - j)) := Lib.hid ⟨by have := HA.out; omega, by have := HA.out; omega, by rw [HPe.out]; exact HD.out, by rw [show a + j - o = a - o + j by have := HA.out; omega]; exact H.out.1, H.out.2.1⟩
          go_wp2
          exact ⟨⟨k + 1, _, _, _, by have := HK.out; omega, by go_num, rfl, HN⟩, by have := HK.out; simp [intOf]; omega⟩
    · obtain rfl : k = P.length := by omega
      have h0 := H.out.rest
      have hm : m = 0 := by
        rw [HPe.out, List.drop_length] at h0
        rcases Nat.eq_zero_or_pos m with h | h
        · exact h
        · rw [pcs_more (by omega)] at h0; cases h0
      subst hm
      have ha : a - o = n := by have := H.out.sum; omega
      have HR := Lib.hid (And.intro H.out.own H.out.below)
      rw [ha] at HR
      clear h0 ha H
      go_wp2
      go_ret2
      exact ⟨⟨_, rfl, HR.out.1.mono D1.out.size⟩, below_more D1.out HR.out.2⟩

theorem read_no (o n : Int) (L c : Nat) (p : Option Addr) (hn : -9223372036854775808 ≤ n ∧ n ≤ 9223372036854775807) (h : ¬ InB L o n) (hL : L ≤ 1000) (w : World) :
    Calls Try.prog 48 #[.slice p L c, .int .i64 o, .int .i64 n] w fun e w' => e = .returned (.tuple #[.slice none 0 0, .bool false]) ∧ w = w' := by
  have C := Lib.hid (withinb_no o n L c p hn h hL w)
  clear hn h hL
  go_enter Try.func48, Try.ntmps48
  go_wp2_with fail
  refine (C.out).mono ?_; rintro e w' ⟨rfl, rfl⟩
  go_wp2_with fail
  go_ret2
  exact ⟨rfl, rfl⟩
/-- what is read, and whether it is there -/
def rdL (wl : List Int) (o n : Int) : List Int := if InB wl.length o n then rdB wl o.toNat n.toNat else []
theorem read_is (wl : List Int) (v : Value) (o n : Int) (w : World) (hv : RU w v wl) (hw : ∀ x ∈ wl, Wd x) (hn : -9223372036854775808 ≤ n ∧ n ≤ 9223372036854775807) (hL : wl.length ≤ 1000) :
    Calls Try.prog 48 #[v, .int .i64 o, .int .i64 n] w fun e w' => (∃ u, e = .returned (.tuple #[u, .bool (decide (InB wl.length o n))]) ∧ OwnA byE w.heap.size w' u (rdL wl o n)) ∧ Below w.heap.size w w' := by
  unfold rdL
  by_cases h : InB wl.length o n
  · rw [decide_eq_true h, if_pos h]
    obtain ⟨a, b, rfl, rfl, h1, h2⟩ := h.nat
    exact read_yes wl v a b w hv hw hL h1 h2
  · rw [decide_eq_false h, if_neg h]
    obtain ⟨p, cap, rfl, _, _, _⟩ := id hv
    exact (read_no o n _ cap p hn h hL w).mono fun e w' ⟨h1, h2⟩ => ⟨⟨_, h1, own_nil_a _ _ _⟩, h2 ▸ Below.refl _ _⟩
set_option maxHeartbeats 2000000 in
theorem rread_yes (wl : List Int) (v : Value) (o n : Nat) (w : World) (hv : RU w v wl) (hw : ∀ x ∈ wl, Wd x) (hL : wl.length ≤ 1000) (hn : n ≤ 448) (hon : o + n ≤ 8 * wl.length) :
    Calls Try.prog 82 #[v, .int .i64 o, .int .i64 n] w fun e w' => (∃ u, e = .returned (.tuple #[u, .bool true]) ∧ OwnA byE w.heap.size w' u (rdB wl o n)) ∧ Below w.heap.size w w' := by
  obtain ⟨p, cap, rfl, _, _, _⟩ := id hv
  have C0 := inside_is o n wl.length (by omega) (by omega) hL w
  rw [decide_eq_true (show InB wl.length o n from ⟨by omega, by omega, by omega, by omega⟩)] at C0
  have C := Lib.hid C0
  have HV := Lib.hid (fun (w' : World) (hb : Below w.heap.size w w') => ru_below hv hb)
  have HW := Lib.hid hw
  have HL := Lib.hid (And.intro hL (And.intro hn hon))
  obtain ⟨E, hE⟩ : ∃ E, o + n = E := ⟨_, rfl⟩
  have e1 : IntKind.i64.wrap ((o : Int) + (n : Int)) = (E : Int) := by rw [show (o : Int) + (n : Int) = (E : Int) by omega]; exact i64_nat _ (by omega)
  have HE := Lib.hid hE
  clear hv hw hL hn hon C0 hE
  obtain ⟨Lw, hLw⟩ : ∃ Lw, wl.length = Lw := ⟨_, rfl⟩
  rw [hLw] at C HV ⊢
  have HLw := Lib.hid hLw
  clear hLw
  go_enter Try.func82, Try.ntmps82
  go_wp2_with fail
  refine (C.out).mono ?_; rintro e w' ⟨rfl, rfl⟩
  go_wp2
  go_loopw [8, 9] (fun y x wr => ∃ (j : Nat) (lv : Value), j ≤ n ∧ x = .int .i64 ((o + j : Nat) : Int) ∧ lv = y ∧ Hid (OwnA byE w.heap.size wr lv (rdB wl o j) ∧ Below w.heap.size w wr)) (fun _ x _ => E - (intOf x).toNat)
  case atStart => exact ⟨0, _, Nat.zero_le _, by simp, rfl, Lib.hid ⟨own_nil_a _ _ _, Below.refl _ _⟩⟩
  case round =>
    obtain ⟨j, lz, hj, rfl, rfl, H⟩ := hrel
    obtain ⟨x, hx⟩ : ∃ x, o + j = x := ⟨_, rfl⟩
    have hEE := HE.out
    by_cases hlt : j < n
    · obtain ⟨hL1, hL2, hL3⟩ := HL.out
      obtain ⟨Q, hQ⟩ : ∃ Q, x / 8 = Q := ⟨_, rfl⟩
      obtain ⟨F, hF⟩ : ∃ F, x % 8 = F := ⟨_, rfl⟩
      obtain ⟨d, hd⟩ : ∃ d, 8 * F = d := ⟨_, rfl⟩
      have j1 : (x : Int) < (E : Int) := by omega
      have j2 : x < E := by omega
      have j3 : IntKind.i64.wrap ((x : Int) + 1) = ((x + 1 : Nat) : Int) := by rw [show (x : Int) + 1 = ((x + 1 : Nat) : Int) by omega]; exact i64_nat _ (by omega)
      have m1 : (x : Int) % 8 = (F : Int) := by omega
      have m2 : IntKind.i64.wrap ((x : Int) / 8) = (Q : Int) := by rw [show (x : Int) / 8 = (Q : Int) by omega]; exact i64_nat _ (by omega)
      have m3 : IntKind.i64.wrap ((F : Int) * 8) = (d : Int) := by rw [show (F : Int) * 8 = (d : Int) by omega]; exact i64_nat _ (by omega)
      have m4 : IntKind.u64.wrap (d : Int) = (d : Int) := by rw [IntKind.wrap_u64]; omega
      have m5 : min d 64 = d := by omega
      have hQL : Q < wl.length := by have := HLw.out; omega
      obtain ⟨bb, of, e, _, hc⟩ := ru_some (HV.out wr H.out.2) (by rw [HLw.out]; have := HLw.out; omega)
      cases e
      have hcell := hc Q hQL
      have q0 : (0 : Int) ≤ (Q : Int) := by omega
      have q1 : (Q : Int) < (Lw : Int) := by have := HLw.out; omega
      have q2 : ¬ (Q : Int) < 0 := by omega
      have m6 : IntKind.u8.wrap (wl.getD Q 0 / 2 ^ d) = bt (wl.getD Q 0) F := by rw [IntKind.wrap_u8', ← hd, ← pow_256, bt]
      have hby : By (bt (wl.getD Q 0) F) := bt_by _ _
      have hsn : rdB wl o (j + 1) = rdB wl o j ++ [bt (wl.getD Q 0) F] := by rw [rdB_snoc, bAt_, hx, hQ, hF]
      have hlen : Hid ((rdB wl o j).length + [bt (wl.getD Q 0) F].length ≤ 4000) := Lib.hid (by rw [rdB_length]; simp only [List.length_singleton]; omega)
      have HS := Lib.hid hsn
      have HK2 := Lib.hid (And.intro hlt hx)
      generalize bt (wl.getD Q 0) F = y at *
      generalize wl.getD Q 0 = z at *
      have R2 : Hid (RA byE (wr.alloc (.cells #[.int .u8 y] 5)) (.slice (some ⟨wr.heap.size, 0, none⟩) 1 1) [y]) := Lib.hid (by_one wr hby).ra
      have O2 : Hid (OwnA byE w.heap.size (wr.alloc (.cells #[.int .u8 y] 5)) lz (rdB wl o j)) := Lib.hid (H.out.1.below (bal (Below.refl _ _)))
      have B2 : Hid (Below w.heap.size w (wr.alloc (.cells #[.int .u8 y] 5))) := Lib.hid (bal H.out.2)
      rw [hx]
      clear hc hsn hlt hj hby hx hQ hF hd hL1 hL2 hL3 hQL hEE
      go_wp2_with (at_builtin; refine app_by rfl _ _ rfl _ _ _ rfl O2.out _ [y] rfl R2.out hlen B2.out.size ?_)
      intro v' w' ho hg hx
      have HN := Lib.hid (show OwnA byE w.heap.size w' v' (rdB wl o (j + 1)) ∧ Below w.heap.size w w' from ⟨by rw [HS.out]; exact ho, below_app B2.out B2.out.size O2.out hg⟩)
      clear ho hg hx
      go_wp2
      go_roundw
      case rel => exact ⟨j + 1, _, by have := HK2.out; omega, by have := HK2.out; go_num, rfl, HN⟩
      case measure => have := HK2.out; have := HE.out; simp [intOf]; omega
    · obtain rfl : j = n := by omega
      have j1 : ¬ (x : Int) < (E : Int) := by omega
      have j2 : ¬ x < E := by omega
      rw [hx]
      clear hlt hj hx hEE
      go_wp2
      go_ret2
      exact ⟨⟨_, rfl, H.out.1⟩, H.out.2⟩
theorem rread_is (wl : List Int) (v : Value) (o n : Int) (w : World) (hv : RU w v wl) (hw : ∀ x ∈ wl, Wd x) (ho : -9223372036854775808 ≤ o ∧ o ≤ 9223372036854775807) (hn : -9223372036854775808 ≤ n ∧ n ≤ 9223372036854775807) (hL : wl.length ≤ 1000) :
    Calls Try.prog 82 #[v, .int .i64 o, .int .i64 n] w fun e w' => (∃ u, e = .returned (.tuple #[u, .bool (decide (InB wl.length o n))]) ∧ OwnA byE w.heap.size w' u (rdL wl o n)) ∧ Below w.heap.size w w' := by
  unfold rdL
  by_cases h : InB wl.length o n
  · rw [decide_eq_true h, if_pos h]
    obtain ⟨a, b, rfl, rfl, h1, h2⟩ := h.nat
    exact rread_yes wl v a b w hv hw hL h1 h2
  · rw [decide_eq_false h, if_neg h]
    obtain ⟨p, cap, rfl, _, _, _⟩ := id hv
    have C0 := inside_is o n wl.length ho hn hL w
    rw [decide_eq_false h] at C0
    have C := Lib.hid C0
    clear C0 hv hw ho hn h hL
    generalize wl.length = L at *
    go_enter Try.func82, Try.ntmps82
    go_wp2_with fail
    refine (C.out).mono ?_; rintro e w' ⟨rfl, rfl⟩
    go_wp2_with fail
    go_ret2
    exact ⟨⟨_, rfl, own_nil_a _ _ _⟩, Below.refl _ _⟩
end Go.Proofs.Ytkpefnjohdjejaa

/-
  Contract: the edits that write bytes (package span).
-/
namespace Go.Proofs.Ytkpefnjohdjejaa
set_option maxRecDepth 100000
open Go.RowKit

theorem by_at {l : List Int} (h : ∀ x ∈ l, By x) {k : Nat} (hk : k < l.length) : By (l.getD k 0) := by
  rw [List.getD_eq_getElem?_getD, List.getElem?_eq_getElem hk]; exact h _ (List.getElem_mem hk)
theorem mid_bytes {w : World} {b off n c : Nat} {l : List Int} (h : RA byE w (.slice (some ⟨b, off, none⟩) n c) l) {d e : Nat} (h1 : d < e) (h2 : e ≤ l.length) : RA byE w (.slice (some ⟨b, off + d, none⟩) (e - d) (c - d)) ((l.take e).drop d) := by
  have a := ra_take h e
  rw [Nat.min_eq_left h2] at a
  have b := ra_drop a (k := d) (by rw [List.length_take]; omega)
  simpa [byE] using b
theorem mid_len_i {l : List Int} {d e : Nat} (h2 : e ≤ l.length) : ((l.take e).drop d).length = e - d := by rw [List.length_drop, List.length_take]; omega
theorem mid_getD {l : List Int} {d e k : Nat} (h : d + k < e) : ((l.take e).drop d).getD k 0 = l.getD (d + k) 0 := by
  rw [List.getD_eq_getElem?_getD, List.getElem?_drop, List.getElem?_take, if_pos h, List.getD_eq_getElem?_getD]
theorem mid_by {l : List Int} (h : ∀ x ∈ l, By x) (d e : Nat) : ∀ x ∈ (l.take e).drop d, By x := fun x hx => h x (List.mem_of_mem_take (List.mem_of_mem_drop hx))
theorem IsE.word {w bl : List Int} {o D N : Nat} {L : List Ed} (h : IsE w o D (fun k => bl.getD k 0) L) (h0 : D = 0 ∨ (o + D) % 8 = 0) (h1 : 1 ≤ N) (h2 : (o + D) % 8 + N ≤ 8) (hb : ∀ x ∈ bl, By x) (hD : D + N ≤ bl.length) (hw : Wd (w.getD ((o + D) / 8) 0)) :
    Wd (puB (w.getD ((o + D) / 8) 0) ((o + D) % 8) ((bl.take (D + N)).drop D)) ∧ IsE w o (D + N) (fun k => bl.getD k 0) (L ++ [⟨(((o + D) / 8 : Nat) : Int), puB (w.getD ((o + D) / 8) 0) ((o + D) % 8) ((bl.take (D + N)).drop D)⟩]) := by
  have hl := mid_len_i (l := bl) (d := D) hD
  have hwd := puB_wd ((bl.take (D + N)).drop D) (w.getD ((o + D) / 8) 0) ((o + D) % 8) hw (mid_by hb _ _) (by rw [hl]; omega)
  refine ⟨hwd, h.more h0 h1 h2 hwd fun j hj => ?_⟩
  rw [bt_puB _ _ _ _ (mid_by hb _ _), hl]
  by_cases hin : (o + D) % 8 ≤ j ∧ j < (o + D) % 8 + N
  · rw [if_pos (by omega), if_pos hin, mid_getD (by omega)]
    congr 1; omega
  · rw [if_neg (by omega), if_neg hin]
theorem put_b {v : Value} {l : List Int} {w : World} (x : Int) (f : Nat) (hx : Wd x) (hv : RA byE w v l) (hf : f + l.length ≤ 8) : Calls Try.prog 95 #[.int .u64 x, .int .i64 f, v] w fun e w' => e = .returned (.int .u64 (puB x f l)) ∧ Below w.heap.size w w' :=
  (sput_is x f hx hv hf).mono fun e w' ⟨h1, n, h2⟩ => ⟨h1, by subst h2; exact below_drewN (Below.refl _ _) n⟩
/-- edits being gathered, part by part -/
structure Eb (wl bl : List Int) (o : Nat) (w1 wr : World) (lv : Value) (k a m : Nat) : Prop where
  sum : a + m = o + bl.length
  ge : o ≤ a
  al : a = o ∨ a % 8 = 0 ∨ m = 0
  rest : (pcs o bl.length).drop k = pcs a m
  own : ∃ L, OwnA edE w1.heap.size wr lv L ∧ IsE wl o (a - o) (fun k => bl.getD k 0) L ∧ L.length ≤ a - o
  below : Below w1.heap.size w1 wr
set_option maxHeartbeats 2000000 in
theorem edits_yes (wl bl : List Int) (v u : Value) (o : Nat) (w : World) (hv : RU w v wl) (hu : RA byE w u bl) (hw : ∀ x ∈ wl, Wd x) (hL : wl.length ≤ 1000) (hn : bl.length ≤ 448) (hon : o + bl.length ≤ 8 * wl.length) :
    Calls Try.prog 87 #[v, .int .i64 o, u] w fun e w' => (∃ x L, e = .returned (.tuple #[x, .bool true]) ∧ OwnA edE w.heap.size w' x L ∧ IsE wl o bl.length (fun k => bl.getD k 0) L) ∧ Below w.heap.size w w' := by
  obtain ⟨p, cap, rfl, _, _, _⟩ := id hv
  obtain ⟨pu, cu, rfl, hlc, hcm⟩ := ra_shape hu
  have C := Lib.hid (withinb_yes o bl.length wl.length cap p hn hon hL w)
  have D := Lib.hid (parts_is o bl.length (by omega) hn w)
  have HV := Lib.hid (fun (w' : World) (hb : Below w.heap.size w w') => ru_below hv hb)
  have HU := Lib.hid (fun (w' : World) (hb : Below w.heap.size w w') => ra_below hu hb)
  have HW := Lib.hid hw
  have HY := Lib.hid (show ∀ x ∈ bl, By x from ra_ok hu)
  have HL := Lib.hid (And.intro hL (And.intro hn hon))
  have HC := Lib.hid (And.intro hlc hcm)
  clear hv hw hL hn hon hu hlc hcm
  obtain ⟨Lw, hLw⟩ : ∃ Lw, wl.length = Lw := ⟨_, rfl⟩
  rw [hLw] at C HV ⊢
  have HLw := Lib.hid hLw
  clear hLw
  obtain ⟨n, hn⟩ : ∃ n, bl.length = n := ⟨_, rfl⟩
  rw [hn] at C D HU ⊢
  have HNn := Lib.hid hn
  clear hn
  go_enter Try.func87, Try.ntmps87
  go_wp2_with fail
  refine (C.out).mono ?_; rintro e w' ⟨rfl, rfl⟩
  go_wp2_with fail
  refine (D.out).mono ?_; rintro e w1 ⟨⟨u1, rfl, o1⟩, b1⟩
  have D1 := Lib.hid b1
  have O1 := Lib.hid o1
  obtain ⟨g, d, rfl, _, _⟩ := o1.shape
  have hpl := pcs_length n o
  have HP : Hid ((pcs o n).length ≤ 1000) := Lib.hid (by rw [hpl]; have := HL.out; have := HNn.out; unfold cnt; split <;> omega)
  clear b1 D o1 hpl C
  obtain ⟨P, hP⟩ : ∃ P, pcs o n = P := ⟨_, rfl⟩
  rw [hP] at O1 HP ⊢
  have HPe := Lib.hid hP
  clear hP
  go_wp2
  go_loopw [8, 9, 23] (fun y x i wr => ∃ (k a m : Nat) (lv : Value), k ≤ P.length ∧ i = .int .i64 k ∧ x = .int .i64 ((a - o : Nat) : Int) ∧ lv = y ∧ Hid (Eb wl bl o w1 wr lv k a m)) (fun _ _ i _ => P.length - (intOf i).toNat)
  case atStart => exact ⟨0, o, n, _, Nat.zero_le _, rfl, by simp, rfl, Lib.hid ⟨by rw [HNn.out], Nat.le_refl _, .inl rfl, by rw [HNn.out]; rfl, ⟨[], own_nil_a _ _ _, by rw [Nat.sub_self]; exact IsE.none _ _ _, Nat.zero_le _⟩, Below.refl _ _⟩⟩
  case round =>
    obtain ⟨k, a, m, lv, hk, rfl, rfl, rfl, H⟩ := hrel
    by_cases hlt : k < P.length
    · have hst := pcs_step H.out.rest (by rw [HNn.out, HPe.out]; exact hlt)
      rw [HNn.out, HPe.out] at hst
      obtain ⟨hm0, hg1, hdr⟩ := hst
      obtain ⟨k1, k2, k3, k4⟩ := pcK_le (a := a) hm0
      obtain ⟨b, off, e, hb, hx⟩ := pc_at (ra_below O1.out.ra H.out.below) (by omega)
      cases e
      obtain ⟨hld, _, _, _⟩ := hx k hlt
      rw [hg1] at hld
      obtain ⟨Dn, hDn⟩ : ∃ Dn, a - o = Dn := ⟨_, rfl⟩
      have hsum := H.out.sum
      rw [HNn.out] at hsum
      have hge := H.out.ge
      obtain ⟨hL1, hL2, hL3⟩ := HL.out
      rw [HNn.out] at hL2 hL3
      obtain ⟨L, OL, EL, hLl⟩ := H.out.own
      rw [hDn] at EL hLl
      have hoD : o + Dn = a := by omega
      have hQL : a / 8 < wl.length := by omega
      have EW := EL.word (N := pcK a m) (by rcases H.out.al with h | h | h; exact .inl (by omega); exact .inr (by rw [hoD]; exact h); exact absurd h hm0) k1 (by rw [hoD]; exact k3) HY.out (by rw [HNn.out]; omega) (by rw [hoD]; exact wd_at HW.out hQL)
      rw [hoD] at EW
      obtain ⟨bb, of, e, _, hc⟩ := ru_some (HV.out _ (below_more D1.out H.out.below)) (by rw [HLw.out]; have := HLw.out; omega)
      cases e
      obtain ⟨b2, f2, e, _, _⟩ := byte_at (HU.out w (Below.refl _ _)) (by rw [HNn.out]; omega)
      cases e
      obtain ⟨N, hN⟩ : ∃ N, pcK a m = N := ⟨_, rfl⟩
      rw [hN] at hld k1 k2 k3 hdr EW k4
      obtain ⟨E, hE⟩ : ∃ E, Dn + N = E := ⟨_, rfl⟩
      rw [hE] at EW
      have HM := Lib.hid (fun (w' : World) (hb : Below w.heap.size w w') => mid_bytes (HU.out w' hb) (d := Dn) (e := E) (by omega) (by rw [HNn.out]; omega))
      have hwz := wd_at HW.out hQL
      have hcell := hc (a / 8) hQL
      have HPut := Lib.hid (fun (w' : World) (hb : Below w.heap.size w w') => put_b (wl.getD (a / 8) 0) (a % 8) hwz (HM.out w' hb) (by rw [mid_len_i (by rw [HNn.out]; omega)]; omega))
      obtain ⟨Q, hQ⟩ : ∃ Q, a / 8 = Q := ⟨_, rfl⟩
      obtain ⟨F, hF⟩ : ∃ F, a % 8 = F := ⟨_, rfl⟩
      rw [hQ] at hld hcell HPut EW
      rw [hF] at hld HPut EW
      obtain ⟨Y, hY⟩ : ∃ Y, puB (wl.getD Q 0) F ((bl.take E).drop Dn) = Y := ⟨_, rfl⟩
      rw [hY] at EW HPut
      obtain ⟨z, hz⟩ : ∃ z, wl.getD Q 0 = z := ⟨_, rfl⟩
      rw [hz] at HPut hcell
      obtain ⟨wo, hwo⟩ : ∃ wo, wo = wr := ⟨_, rfl⟩
      subst hwo
      obtain ⟨W, hW, HWp⟩ := pc_boxed wo ⟨Q, F, N⟩
      have c0 : W.cell? ⟨wo.heap.size, 0, none⟩ = some (.int .i64 Q) := HWp.out.1.c0
      have c1 : W.cell? ⟨wo.heap.size, 1, none⟩ = some (.int .i64 F) := HWp.out.1.c1
      have c2 : W.cell? ⟨wo.heap.size, 2, none⟩ = some (.int .i64 N) := HWp.out.1.c2
      have hBW := below_more H.out.below HWp.out.2
      have hcz : ∀ x, Below w.heap.size w x → x.cell? ⟨bb, of + Q, none⟩ = some (.int .u64 z) := fun x hx => by
        obtain ⟨_, _, e, _, hc2⟩ := ru_some (HV.out _ hx) (by rw [HLw.out]; have := HLw.out; omega)
        cases e
        rw [← hz]; exact hc2 Q (by omega)
      have i0 : (0 : Int) ≤ (k : Int) := by omega
      have i1 : (k : Int) < (P.length : Int) := by omega
      have i2 : ¬ (k : Int) < 0 := by omega
      have i3 : IntKind.i64.wrap ((k : Int) + 1) = ((k + 1 : Nat) : Int) := by rw [show (k : Int) + 1 = ((k + 1 : Nat) : Int) by omega]; exact i64_nat _ (by have := HP.out; omega)
      have i4 : IntKind.i64.wrap ((Dn : Int) + (N : Int)) = (E : Int) := by rw [show (Dn : Int) + (N : Int) = (E : Int) by omega]; exact i64_nat _ (by omega)
      have q0 : (0 : Int) ≤ (Q : Int) := by omega
      have q1 : (Q : Int) < (Lw : Int) := by have := HLw.out; omega
      have q2 : ¬ (Q : Int) < 0 := by omega
      have hcc := HC.out
      rw [HNn.out] at hcc
      have s1 : (Dn : Int) ≤ (E : Int) := by omega
      have s2 : (E : Int) ≤ (n : Int) := by omega
      have s3 : (Dn : Int) ≤ (cu : Int) := by omega
      have s4 : (E : Int) ≤ (cu : Int) := by omega
      have s5 : ¬ cu = 0 := by omega
      have s6 : ¬ cu = Dn := by omega
      have HB := Lib.hid hBW
      have HO := Lib.hid (OL.below HWp.out.2)
      have HPv := Lib.hid HWp.out.1
      have HE := Lib.hid EW
      have HA := Lib.hid (And.intro hge (And.intro hsum (And.intro k1 (And.intro k2 (And.intro hDn (And.intro hE (And.intro hLl (And.intro hL2 k4))))))))
      have HD := Lib.hid hdr
      have HK := Lib.hid hlt
      have hlen : Hid (L.length + [(⟨(Q : Int), Y⟩ : Ed)].length ≤ 4000) := Lib.hid (by simp only [List.length_singleton]; omega)
      have HNe : Hid (lv.ownBlock ≠ some wo.heap.size) := Lib.hid fun e => by have := OL.lt _ e; omega
      have HWf : Hid (Ed.Wf ⟨(Q : Int), Y⟩) := Lib.hid (Ed.wf_of (by simp only; omega) (by simp only; omega) EW.1.1 (by have := EW.1.2; simp only; omega))
      rw [hDn]
      clear hx hb hQ hF hN hge hsum hL1 hL2 hL3 hlt hk hm0 hg1 hdr k1 k2 k3 hE HWp H EW hY hz hcell hwz hBW hcc OL EL hLl hoD hDn hQL hc
      have DD := Lib.hid ((below_more D1.out HB.out).drew)
      have CZ : Hid (∀ x, Below w.heap.size w x → x.cell? ⟨bb, of + Q, none⟩ = some (.int .u64 z)) := Lib.hid hcz
      have SF : Hid (∀ x, Below W.heap.size W x → x.cell? ⟨wo.heap.size, 0, none⟩ = some (.int .i64 Q) ∧ x.cell? ⟨wo.heap.size, 1, none⟩ = some (.int .i64 F) ∧ x.cell? ⟨wo.heap.size, 2, none⟩ = some (.int .i64 N) ∧ x.cell? ⟨bb, of + Q, none⟩ = some (.int .u64 z)) := Lib.hid fun x hx => ⟨(HPv.out.below hx).c0, (HPv.out.below hx).c1, (HPv.out.below hx).c2, CZ.out x (below_more D1.out (below_more HB.out hx))⟩
      clear hcz
      go_wp2_with fail
      go_region_held3 (fun x => x.cell? ⟨wo.heap.size, 0, none⟩ = some (.int .i64 Q) ∧ x.cell? ⟨wo.heap.size, 1, none⟩ = some (.int .i64 F) ∧ x.cell? ⟨wo.heap.size, 2, none⟩ = some (.int .i64 N) ∧ x.cell? ⟨bb, of + Q, none⟩ = some (.int .u64 z))
        (first
          | exact SG.out
          | exact SF.out _ (Below.refl _ _).drew
          | exact SF.out _ BQ.out
          | exact SF.out _ (bal BQ.out))
        (first
        | (refine step_ed (o := ⟨some 47, _, _, _, _, _⟩) rfl (.tmp 27) (.tmp 46) rfl w1.heap.size _ L (by simp [Act.eval]) OQ.out (.slice (some ⟨wq.heap.size, 0, none⟩) 1 1) [⟨(Q : Int), Y⟩] (by simp [Act.eval]) RQ.out hlen.out BW.out.size ?_
           intro vb wb ob gb _
           have OB := Lib.hid ob
           have GB := Lib.hid (below_app BW.out BW.out.size OQ.out gb)
           have VB : Hid (Pv wb wo.heap.size ⟨Q, F, N⟩) := Lib.hid ((gb.block _ VQ.out.lt (fun e => HNe.out e.symm)).trans VQ.out)
           have SG := Lib.hid (And.intro VB.out.c0 (And.intro VB.out.c1 (And.intro VB.out.c2 (CZ.out _ (below_more D1.out GB.out)))))
           clear ob gb)
        | (go_at_call 95; refine (HPut.out _ DD.out).mono ?_; rintro e wq ⟨rfl, bq⟩
           have BQ := Lib.hid (show Below W.heap.size W wq from ((Below.refl _ _).drew).trans bq)
           have OQ := Lib.hid (HO.out.below (bal (o := .cells (ec ⟨(Q : Int), Y⟩) 114) BQ.out))
           have RQ := Lib.hid (ed_one wq HWf.out).ra
           have BW := Lib.hid (below_more HB.out (bal (o := .cells (ec ⟨(Q : Int), Y⟩) 114) BQ.out))
           have VQ := Lib.hid (HPv.out.below (bal (o := .cells (ec ⟨(Q : Int), Y⟩) 114) BQ.out))
           clear bq))
      have d2 : wb.cell? ⟨wo.heap.size, 2, none⟩ = some (.int .i64 N) := VB.out.c2
      have HN : Hid (Eb wl bl o w1 wb vb (k + 1) (a + N) (m - N) ∧ E = a + N - o) := Lib.hid (by
        obtain ⟨g1, g2, g3, g4, g5, g6, g7, g8, g9⟩ := HA.out
        refine ⟨⟨by rw [HNn.out]; omega, by omega, by rcases g9 with g9 | g9; exact .inr (.inr (by omega)); exact .inr (.inl g9), by rw [HNn.out, HPe.out]; exact HD.out, ⟨_, OB.out, ?_, by rw [List.length_append, List.length_singleton]; omega⟩, GB.out⟩, by omega⟩
        have := HE.out.2
        rw [show a + N - o = E by omega]
        exact this)
      go_wp2
      exact ⟨⟨k + 1, a + N, m - N, _, by have := HK.out; omega, by go_num, by rw [HN.out.2], rfl, HN.out.1 |> Lib.hid⟩, by have := HK.out; simp [intOf]; omega⟩
    · obtain rfl : k = P.length := by omega
      have h0 := H.out.rest
      have hm : m = 0 := by
        rw [HNn.out, HPe.out, List.drop_length] at h0
        rcases Nat.eq_zero_or_pos m with h | h
        · exact h
        · rw [pcs_more (by omega)] at h0; cases h0
      subst hm
      have ha : a - o = n := by have := H.out.sum; rw [HNn.out] at this; omega
      have HR := Lib.hid (And.intro H.out.own H.out.below)
      rw [ha] at HR ⊢
      clear h0 ha H
      go_wp2
      go_ret2
      obtain ⟨⟨L, r1, r2, _⟩, r3⟩ := HR.out
      exact ⟨⟨_, L, rfl, r1.mono D1.out.size, r2⟩, below_more D1.out r3⟩
theorem edits_no (o : Int) (bn L c d : Nat) (p q : Option Addr) (_ : -9223372036854775808 ≤ o ∧ o ≤ 9223372036854775807) (h : ¬ InB L o bn) (hL : L ≤ 1000) (hbn : bn ≤ 100000) (w : World) :
    Calls Try.prog 87 #[.slice p L c, .int .i64 o, .slice q bn d] w fun e w' => e = .returned (.tuple #[.slice none 0 0, .bool false]) ∧ w = w' := by
  have C := Lib.hid (withinb_no o bn L c p (by omega) h hL w)
  clear h hL hbn
  go_enter Try.func87, Try.ntmps87
  go_wp2_with fail
  refine (C.out).mono ?_; rintro e w' ⟨rfl, rfl⟩
  go_wp2_with fail
  go_ret2
  exact ⟨rfl, rfl⟩
end Go.Proofs.Ytkpefnjohdjejaa

/-
  Contract: the edits that write bytes (the reference: byte by byte).
-/
namespace Go.Proofs.Ytkpefnjohdjejaa
set_option maxRecDepth 100000
open Go.RowKit

set_option maxHeartbeats 2000000 in
theorem redits_yes (wl bl : List Int) (v u : Value) (o : Nat) (w : World) (hv : RU w v wl) (hu : RA byE w u bl) (hw : ∀ x ∈ wl, Wd x) (hL : wl.length ≤ 1000) (hn : bl.length ≤ 448) (hon : o + bl.length ≤ 8 * wl.length) :
    Calls Try.prog 81 #[v, .int .i64 o, u] w fun e w' => (∃ x L, e = .returned (.tuple #[x, .bool true]) ∧ OwnA edE w.heap.size w' x L ∧ IsE wl o bl.length (fun k => bl.getD k 0) L) ∧ Below w.heap.size w w' := by
  obtain ⟨p, cap, rfl, _, _, _⟩ := id hv
  obtain ⟨pu, cu, rfl, hlc, hcm⟩ := ra_shape hu
  have C0 := inside_is o bl.length wl.length (by omega) (by omega) hL w
  rw [decide_eq_true (show InB wl.length o bl.length from ⟨by omega, by omega, by omega, by omega⟩)] at C0
  have C := Lib.hid C0
  have HV := Lib.hid (fun (w' : World) (hb : Below w.heap.size w w') => ru_below hv hb)
  have HU := Lib.hid (fun (w' : World) (hb : Below w.heap.size w w') => ra_below hu hb)
  have HW := Lib.hid hw
  have HY := Lib.hid (show ∀ x ∈ bl, By x from ra_ok hu)
  have HL := Lib.hid (And.intro hL (And.intro hn hon))
  clear hv hw hL hn hon hu hlc hcm C0
  obtain ⟨Lw, hLw⟩ : ∃ Lw, wl.length = Lw := ⟨_, rfl⟩
  rw [hLw] at C HV ⊢
  have HLw := Lib.hid hLw
  clear hLw
  obtain ⟨n, hn⟩ : ∃ n, bl.length = n := ⟨_, rfl⟩
  rw [hn] at C HU ⊢
  have HNn := Lib.hid hn
  clear hn
  go_enter Try.func81, Try.ntmps81
  go_wp2_with fail
  refine (C.out).mono ?_; rintro e w' ⟨rfl, rfl⟩
  go_wp2
  go_loopw [8, 24] (fun y i wr => ∃ (k : Nat) (lv : Value), k ≤ n ∧ i = .int .i64 k ∧ lv = y ∧ Hid ((∃ L, OwnA edE w.heap.size wr lv L ∧ IsE wl o k (fun k => bl.getD k 0) L) ∧ Below w.heap.size w wr)) (fun _ i _ => n - (intOf i).toNat)
  case atStart => exact ⟨0, _, Nat.zero_le _, rfl, rfl, Lib.hid ⟨⟨[], own_nil_a _ _ _, IsE.none _ _ _⟩, Below.refl _ _⟩⟩
  case round =>
    obtain ⟨k, lv, hk, rfl, rfl, H⟩ := hrel
    by_cases hlt : k < n
    · obtain ⟨hL1, hL2, hL3⟩ := HL.out
      rw [HNn.out] at hL2 hL3
      obtain ⟨⟨L, OL, EL⟩, BL⟩ := H.out
      obtain ⟨bb, of, e, _, hc⟩ := ru_some (HV.out _ BL) (by rw [HLw.out]; have := HLw.out; omega)
      cases e
      obtain ⟨b2, f2, e, _, hcb⟩ := byte_at (HU.out wr BL) (by rw [HNn.out]; omega)
      cases e
      obtain ⟨cellb, hby0⟩ := hcb k (by rw [HNn.out]; exact hlt)
      obtain ⟨A, hA⟩ : ∃ A, o + k = A := ⟨_, rfl⟩
      obtain ⟨Q, hQ⟩ : ∃ Q, A / 8 = Q := ⟨_, rfl⟩
      obtain ⟨F, hF⟩ : ∃ F, A % 8 = F := ⟨_, rfl⟩
      obtain ⟨d, hdd⟩ : ∃ d, 8 * F = d := ⟨_, rfl⟩
      have hQL : Q < wl.length := by omega
      have cellw := hc Q hQL
      have hwz := wd_at HW.out hQL
      have HLe := EL.len
      have j0 : IntKind.i64.wrap ((k : Int) + 1) = ((k + 1 : Nat) : Int) := by rw [show (k : Int) + 1 = ((k + 1 : Nat) : Int) by omega]; exact i64_nat _ (by omega)
      have i0 : (0 : Int) ≤ (k : Int) := by omega
      have i1 : (k : Int) < (n : Int) := by omega
      have i2 : ¬ (k : Int) < 0 := by omega
      have m0 : IntKind.i64.wrap ((o : Int) + (k : Int)) = (A : Int) := by rw [show (o : Int) + (k : Int) = (A : Int) by omega]; exact i64_nat _ (by omega)
      have m1 : (A : Int) % 8 = (F : Int) := by omega
      have m2 : IntKind.i64.wrap ((A : Int) / 8) = (Q : Int) := by rw [show (A : Int) / 8 = (Q : Int) by omega]; exact i64_nat _ (by omega)
      have m3 : IntKind.i64.wrap ((F : Int) * 8) = (d : Int) := by rw [show (F : Int) * 8 = (d : Int) by omega]; exact i64_nat _ (by omega)
      have m4 : IntKind.u64.wrap (d : Int) = (d : Int) := by rw [IntKind.wrap_u64]; omega
      have m5 : min d 64 = d := by omega
      have q0 : (0 : Int) ≤ (Q : Int) := by omega
      have q1 : (Q : Int) < (Lw : Int) := by have := HLw.out; omega
      have q2 : ¬ (Q : Int) < 0 := by omega
      have hd := Lib.hid hdd
      have HQ : Hid (Q ≤ 1000) := Lib.hid (by omega)
      have hF8 : Hid (F < 8) := Lib.hid (by omega)
      have HK := Lib.hid hlt
      have hLen : L.length ≤ 1000 := by rw [HLe]; unfold cnt; split <;> omega
      by_cases hnew : k = 0 ∨ (o + k) % 8 = 0
      · have hmore : ∀ cb, By cb → (∀ j, j = k → bl.getD j 0 = cb) → IsE wl o (k + 1) (fun k => bl.getD k 0) (L ++ [⟨(Q : Int), sb (wl.getD Q 0) F cb⟩]) := fun cb hcb hj => by
          have := EL.more (k := 1) (v := sb (wl.getD Q 0) F cb) hnew (Nat.le_refl _) (by omega) (sb_wd hwz hcb hF8.out) (fun j hj8 => by
            rw [bt_sb hcb, hA, hF, hQ]
            by_cases e : j = F
            · rw [if_pos e, if_pos (by omega)]
              exact (hj _ (by omega)).symm
            · rw [if_neg e, if_neg (by omega)])
          rw [hA, hQ] at this
          exact this
        have HI1 := Lib.hid (hmore _ hby0 (fun j hj => by rw [hj]))
        have hby : Hid (By (bl.getD k 0)) := Lib.hid hby0
        have hz3 : Hid (Wd (wl.getD Q 0)) := Lib.hid hwz
        have O1 := Lib.hid OL
        have B1 := Lib.hid BL
        have hlen : Hid (L.length + [(⟨(Q : Int), wl.getD Q 0⟩ : Ed)].length ≤ 4000) := Lib.hid (by simp only [List.length_singleton]; omega)
        have HWf : Hid (Ed.Wf ⟨(Q : Int), wl.getD Q 0⟩) := Lib.hid (Ed.wf_of (by simp only; omega) (by simp only; omega) hwz.1 (by have := hwz.2; simp only; omega))
        have hlast : Hid (k ≠ 0 → 0 < L.length ∧ ∃ R : Nat, (L.getD (L.length - 1) default).w = (R : Int) ∧ R ≠ Q) := Lib.hid fun h0 => by
          obtain ⟨a1, a2, _⟩ := EL.last h0
          exact ⟨a1, _, a2, by omega⟩
        have hzero : Hid (k = 0 → L.length = 0) := Lib.hid fun h0 => by rw [HLe, cnt, if_pos h0]
        obtain ⟨cb, hcbe⟩ : ∃ cb, bl.getD k 0 = cb := ⟨_, rfl⟩
        obtain ⟨z3, hz⟩ : ∃ z, wl.getD Q 0 = z := ⟨_, rfl⟩
        rw [hcbe] at cellb hby HI1
        rw [hz] at cellw HI1 hlen HWf hz3
        clear hmore hby0 hwz hcbe hz hA hQ hF hdd hL1 hL2 hL3 hQL HLe EL BL hlt hk hnew hc hcb
        obtain ⟨pl, cl, rfl, hlcl, _⟩ := OL.shape
        obtain ⟨K0, hK0⟩ : ∃ K0, L.length = K0 := ⟨_, rfl⟩
        have R2 : Hid (RA edE (wr.alloc (.cells (ec ⟨(Q : Int), z3⟩) 114)) (.slice (some ⟨wr.heap.size, 0, none⟩) 1 1) [⟨(Q : Int), z3⟩]) := Lib.hid (ed_one wr HWf.out).ra
        have O2 := Lib.hid (O1.out.below (bal (o := .cells (ec ⟨(Q : Int), z3⟩) 114) (Below.refl _ _)))
        have B2 := Lib.hid (bal (o := .cells (ec ⟨(Q : Int), z3⟩) 114) B1.out)
        rw [hK0] at O1 O2 hlen hlast hzero OL hLen hlcl ⊢
        have HK0 := Lib.hid hK0
        clear hK0 OL H
        by_cases h0 : k = 0
        · obtain rfl : K0 = 0 := hzero.out h0
          clear h0 hlcl hLen hlast hzero
          go_wp2_with (at_builtin; refine app_ed rfl _ _ rfl _ _ _ rfl O2.out _ [⟨(Q : Int), z3⟩] rfl R2.out (by rw [HK0.out]; exact hlen) B2.out.size ?_)
          intro v' X3 ho hg hx
          have O30 := Lib.hid ho
          have B3 := Lib.hid (below_app B2.out B2.out.size O2.out hg)
          obtain ⟨g, c3, rfl, _, _, _, _⟩ := ho.block (by simp)
          obtain ⟨L3, hL3⟩ : ∃ L3, L ++ [(⟨(Q : Int), z3⟩ : Ed)] = L3 := ⟨_, rfl⟩
          have hE3 : Hid (∀ M, L3.length = M + 1 → L3.getD M default = ⟨(Q : Int), z3⟩) := Lib.hid fun M hM => by
            rw [← hL3] at hM ⊢
            rw [List.length_append, List.length_singleton] at hM
            rw [getD_snoc, if_pos (by omega)]
          have HI0 : Hid (∀ M, L3.length = M + 1 → IsE wl o (k + 1) (fun k => bl.getD k 0) (L3.set M ⟨(Q : Int), sb z3 F cb⟩)) := Lib.hid fun M hM => by
            rw [← hL3] at hM ⊢
            rw [List.length_append, List.length_singleton] at hM
            rw [show M = L.length by omega, List.set_append_right _ _ (Nat.le_refl _), Nat.sub_self]
            exact HI1.out
          rw [hL3] at O30 ⊢
          have O3 := O30
          obtain ⟨K, hK⟩ : ∃ K, L3.length = K := ⟨_, rfl⟩
          have hKp : 0 < K ∧ K ≤ 4001 := by
            rw [← hK, ← hL3, List.length_append, List.length_singleton]
            have a1 := hlen.out
            have a2 := HK0.out
            simp only [List.length_singleton] at a1
            omega
          rw [hK] at O3 O30 hE3 HI0 ⊢
          clear ho hg hx hL3
          obtain ⟨M, hM⟩ : ∃ M, K = M + 1 := ⟨K - 1, by omega⟩
          have t1 : IntKind.i64.wrap ((K : Int) - 1) = (M : Int) := by rw [show (K : Int) - 1 = (M : Int) by omega]; exact i64_nat _ (by omega)
          have t2 : (0 : Int) ≤ (M : Int) := by omega
          have t3 : (M : Int) < (K : Int) := by omega
          have t4 : ¬ (M : Int) < 0 := by omega
          obtain ⟨b9, o9, e9, _, hx9⟩ := ed_at O3.out.ra (by rw [hK]; omega)
          cases e9
          have hx9 := hx9 M (by rw [hK]; omega)
          have eM : (L3.getD M default) = ⟨(Q : Int), z3⟩ := hE3.out M hM
          rw [eM] at hx9
          simp only [Nat.zero_add] at hx9
          obtain ⟨_, x0, x1, _⟩ := hx9
          have x2 : X3.frozen? ⟨g, M * 2 + 1, none⟩ = false := OwnA.free O3.out (M * 2 + 1)
          obtain ⟨C0, Cs, Cz, n1, n2, n3, n4, n5⟩ := put_nums (k := F) hz3.out hby.out hF8.out hd.out
          have hY3 := sb_wd (k := F) hz3.out hby.out hF8.out
          have HS : Hid (OwnA edE w.heap.size (X3.setCell ⟨g, M * 2 + 1, none⟩ (.int .u64 (sb z3 F cb))) (.slice (some ⟨g, 0, none⟩) K c3) (L3.set M ⟨(Q : Int), sb z3 F cb⟩)) := Lib.hid (OwnA.setCell (E := edE) (k := M) (j := 1) O3.out (by rw [hK]; omega) (by decide) (Ed.wf_of (by simp only; omega) (by have := HQ.out; simp only; omega) hY3.1 (by have := hY3.2; simp only; omega)) (by rw [eM]; rfl))
          have HB3 : Hid (Below w.heap.size w (X3.setCell ⟨g, M * 2 + 1, none⟩ (.int .u64 (sb z3 F cb)))) := Lib.hid (B3.out.setCell (p := ⟨g, M * 2 + 1, none⟩) (O3.out.lt _ rfl).1 _)
          have HI : Hid (IsE wl o (k + 1) (fun k => bl.getD k 0) (L3.set M ⟨(Q : Int), sb z3 F cb⟩)) := Lib.hid (HI0.out M hM)
          clear eM hY3
          obtain ⟨y, hy⟩ : ∃ y, sb z3 F cb = y := ⟨_, rfl⟩
          rw [hy] at n5 HS HB3 HI
          have hKM := Lib.hid (And.intro hK hM)
          clear hy hK
          go_wp2
          go_roundw
          case rel => exact ⟨k + 1, _, by have := HK.out; omega, by go_num, rfl, Lib.hid ⟨⟨_, HS.out, HI.out⟩, HB3.out⟩⟩
          case measure => have := HK.out; simp [intOf]; omega
        · obtain ⟨hpos, R, hR, hRQ⟩ := hlast.out h0
          obtain ⟨b8, o8, e8, _, hx8⟩ := ed_at O1.out.ra (by rw [HK0.out]; omega)
          cases e8
          obtain ⟨M0, hM0⟩ : ∃ M, K0 = M + 1 := ⟨K0 - 1, by omega⟩
          have hx8 := (hx8 M0 (by rw [HK0.out]; omega)).2.1
          rw [show K0 - 1 = M0 by omega] at hR
          rw [hR] at hx8
          have s1 : IntKind.i64.wrap ((K0 : Int) - 1) = (M0 : Int) := by rw [show (K0 : Int) - 1 = (M0 : Int) by omega]; exact i64_nat _ (by omega)
          have s2 : (0 : Int) ≤ (M0 : Int) := by omega
          have s3 : (M0 : Int) < (K0 : Int) := by omega
          have s4 : ¬ (M0 : Int) < 0 := by omega
          have s5 : ¬ K0 = 0 := by omega
          have s8 : ((K0 : Int) == 0) = false := by simp; omega
          have s6 : ¬ R = Q := hRQ
          have s7 : ((R : Int) == (Q : Int)) = false := by simp; omega
          clear hR hpos hRQ h0 hlcl hLen hM0
          go_wp2_with (at_builtin; refine app_ed rfl _ _ rfl _ _ _ rfl O2.out _ [⟨(Q : Int), z3⟩] rfl R2.out (by rw [HK0.out]; exact hlen) B2.out.size ?_)
          intro v' X3 ho hg hx
          have O30 := Lib.hid ho
          have B3 := Lib.hid (below_app B2.out B2.out.size O2.out hg)
          obtain ⟨g, c3, rfl, _, _, _, _⟩ := ho.block (by simp)
          obtain ⟨L3, hL3⟩ : ∃ L3, L ++ [(⟨(Q : Int), z3⟩ : Ed)] = L3 := ⟨_, rfl⟩
          have hE3 : Hid (∀ M, L3.length = M + 1 → L3.getD M default = ⟨(Q : Int), z3⟩) := Lib.hid fun M hM => by
            rw [← hL3] at hM ⊢
            rw [List.length_append, List.length_singleton] at hM
            rw [getD_snoc, if_pos (by omega)]
          have HI0 : Hid (∀ M, L3.length = M + 1 → IsE wl o (k + 1) (fun k => bl.getD k 0) (L3.set M ⟨(Q : Int), sb z3 F cb⟩)) := Lib.hid fun M hM => by
            rw [← hL3] at hM ⊢
            rw [List.length_append, List.length_singleton] at hM
            rw [show M = L.length by omega, List.set_append_right _ _ (Nat.le_refl _), Nat.sub_self]
            exact HI1.out
          rw [hL3] at O30 ⊢
          have O3 := O30
          obtain ⟨K, hK⟩ : ∃ K, L3.length = K := ⟨_, rfl⟩
          have hKp : 0 < K ∧ K ≤ 4001 := by
            rw [← hK, ← hL3, List.length_append, List.length_singleton]
            have a1 := hlen.out
            have a2 := HK0.out
            simp only [List.length_singleton] at a1
            omega
          rw [hK] at O3 O30 hE3 HI0 ⊢
          clear ho hg hx hL3
          obtain ⟨M, hM⟩ : ∃ M, K = M + 1 := ⟨K - 1, by omega⟩
          have t1 : IntKind.i64.wrap ((K : Int) - 1) = (M : Int) := by rw [show (K : Int) - 1 = (M : Int) by omega]; exact i64_nat _ (by omega)
          have t2 : (0 : Int) ≤ (M : Int) := by omega
          have t3 : (M : Int) < (K : Int) := by omega
          have t4 : ¬ (M : Int) < 0 := by omega
          obtain ⟨b9, o9, e9, _, hx9⟩ := ed_at O3.out.ra (by rw [hK]; omega)
          cases e9
          have hx9 := hx9 M (by rw [hK]; omega)
          have eM : (L3.getD M default) = ⟨(Q : Int), z3⟩ := hE3.out M hM
          rw [eM] at hx9
          simp only [Nat.zero_add] at hx9
          obtain ⟨_, x0, x1, _⟩ := hx9
          have x2 : X3.frozen? ⟨g, M * 2 + 1, none⟩ = false := OwnA.free O3.out (M * 2 + 1)
          obtain ⟨C0, Cs, Cz, n1, n2, n3, n4, n5⟩ := put_nums (k := F) hz3.out hby.out hF8.out hd.out
          have hY3 := sb_wd (k := F) hz3.out hby.out hF8.out
          have HS : Hid (OwnA edE w.heap.size (X3.setCell ⟨g, M * 2 + 1, none⟩ (.int .u64 (sb z3 F cb))) (.slice (some ⟨g, 0, none⟩) K c3) (L3.set M ⟨(Q : Int), sb z3 F cb⟩)) := Lib.hid (OwnA.setCell (E := edE) (k := M) (j := 1) O3.out (by rw [hK]; omega) (by decide) (Ed.wf_of (by simp only; omega) (by have := HQ.out; simp only; omega) hY3.1 (by have := hY3.2; simp only; omega)) (by rw [eM]; rfl))
          have HB3 : Hid (Below w.heap.size w (X3.setCell ⟨g, M * 2 + 1, none⟩ (.int .u64 (sb z3 F cb)))) := Lib.hid (B3.out.setCell (p := ⟨g, M * 2 + 1, none⟩) (O3.out.lt _ rfl).1 _)
          have HI : Hid (IsE wl o (k + 1) (fun k => bl.getD k 0) (L3.set M ⟨(Q : Int), sb z3 F cb⟩)) := Lib.hid (HI0.out M hM)
          clear eM hY3
          obtain ⟨y, hy⟩ : ∃ y, sb z3 F cb = y := ⟨_, rfl⟩
          rw [hy] at n5 HS HB3 HI
          have hKM := Lib.hid (And.intro hK hM)
          clear hy hK
          go_wp2
          go_roundw
          case rel => exact ⟨k + 1, _, by have := HK.out; omega, by go_num, rfl, Lib.hid ⟨⟨_, HS.out, HI.out⟩, HB3.out⟩⟩
          case measure => have := HK.out; simp [intOf]; omega
      · have h0 : k ≠ 0 := fun e => hnew (.inl e)
        have h8 : (o + k) % 8 ≠ 0 := fun e => hnew (.inr e)
        obtain ⟨a1, a2, a3⟩ := EL.last h0
        have hb8 := EL.byte h0 h8 hby0
        rw [hA, hF] at hb8
        have hLM : (o + k - 1) / 8 = Q := by omega
        rw [hLM] at a2
        have hby : Hid (By (bl.getD k 0)) := Lib.hid hby0
        have B3 := Lib.hid BL
        obtain ⟨z3, hz⟩ : ∃ z, (L.getD (L.length - 1) default).v = z := ⟨_, rfl⟩
        rw [hz] at a3 hb8
        rw [a2] at hb8
        have hz3 := Lib.hid a3
        have hE3 : Hid (∀ M, L.length = M + 1 → L.getD M default = ⟨(Q : Int), z3⟩) := Lib.hid fun M hM => by
          rw [show L.length - 1 = M by omega] at a2 hz
          cases hx : L.getD M default
          rw [hx] at a2 hz
          simp only at a2 hz
          rw [a2, hz]
        obtain ⟨cb, hcbe⟩ : ∃ cb, bl.getD k 0 = cb := ⟨_, rfl⟩
        rw [hcbe] at cellb hby hb8
        have HI0 : Hid (∀ M, L.length = M + 1 → IsE wl o (k + 1) (fun k => bl.getD k 0) (L.set M ⟨(Q : Int), sb z3 F cb⟩)) := Lib.hid fun M hM => by
          rw [show L.length - 1 = M by omega] at hb8
          exact hb8
        obtain ⟨g, c3, rfl, _, _, _, _⟩ := OL.block a1
        have O3 := Lib.hid OL
        obtain ⟨K, hK⟩ : ∃ K, L.length = K := ⟨_, rfl⟩
        have hKp : 0 < K ∧ K ≤ 4001 := by omega
        rw [hK] at O3 hE3 HI0 ⊢
        have s5 : ¬ K = 0 := by omega
        have s8 : ((K : Int) == 0) = false := by simp; omega
        clear hby0 hwz hcbe hz hA hQ hF hdd hL1 hL2 hL3 hQL HLe EL BL hlt hk hnew hc hcb H OL hb8 a2 a3 h0 h8 hLM a1 cellw
        obtain ⟨M, hM⟩ : ∃ M, K = M + 1 := ⟨K - 1, by omega⟩
        have t1 : IntKind.i64.wrap ((K : Int) - 1) = (M : Int) := by rw [show (K : Int) - 1 = (M : Int) by omega]; exact i64_nat _ (by omega)
        have t2 : (0 : Int) ≤ (M : Int) := by omega
        have t3 : (M : Int) < (K : Int) := by omega
        have t4 : ¬ (M : Int) < 0 := by omega
        obtain ⟨b9, o9, e9, _, hx9⟩ := ed_at O3.out.ra (by rw [hK]; omega)
        cases e9
        have hx9 := hx9 M (by rw [hK]; omega)
        have eM : (L.getD M default) = ⟨(Q : Int), z3⟩ := hE3.out M hM
        rw [eM] at hx9
        simp only [Nat.zero_add] at hx9
        obtain ⟨_, x0, x1, _⟩ := hx9
        have x2 : wr.frozen? ⟨g, M * 2 + 1, none⟩ = false := OwnA.free O3.out (M * 2 + 1)
        obtain ⟨C0, Cs, Cz, n1, n2, n3, n4, n5⟩ := put_nums (k := F) hz3.out hby.out hF8.out hd.out
        have hY3 := sb_wd (k := F) hz3.out hby.out hF8.out
        have HS : Hid (OwnA edE w.heap.size (wr.setCell ⟨g, M * 2 + 1, none⟩ (.int .u64 (sb z3 F cb))) (.slice (some ⟨g, 0, none⟩) K c3) (L.set M ⟨(Q : Int), sb z3 F cb⟩)) := Lib.hid (OwnA.setCell (E := edE) (k := M) (j := 1) O3.out (by rw [hK]; omega) (by decide) (Ed.wf_of (by simp only; omega) (by have := HQ.out; simp only; omega) hY3.1 (by have := hY3.2; simp only; omega)) (by rw [eM]; rfl))
        have HB3 : Hid (Below w.heap.size w (wr.setCell ⟨g, M * 2 + 1, none⟩ (.int .u64 (sb z3 F cb)))) := Lib.hid (B3.out.setCell (p := ⟨g, M * 2 + 1, none⟩) (O3.out.lt _ rfl).1 _)
        have HI : Hid (IsE wl o (k + 1) (fun k => bl.getD k 0) (L.set M ⟨(Q : Int), sb z3 F cb⟩)) := Lib.hid (HI0.out M hM)
        clear eM hY3
        obtain ⟨y, hy⟩ : ∃ y, sb z3 F cb = y := ⟨_, rfl⟩
        rw [hy] at n5 HS HB3 HI
        have hKM := Lib.hid (And.intro hK hM)
        clear hy hK hM
        go_wp2
        go_roundw
        case rel => exact ⟨k + 1, _, by have := HK.out; omega, by go_num, rfl, Lib.hid ⟨⟨_, HS.out, HI.out⟩, HB3.out⟩⟩
        case measure => have := HK.out; simp [intOf]; omega
    · obtain rfl : k = n := by omega
      obtain ⟨⟨L, OL, EL⟩, BL⟩ := H.out
      have HR := Lib.hid (And.intro OL (And.intro EL BL))
      clear OL EL BL H
      go_wp2
      go_ret2
      exact ⟨⟨_, L, rfl, HR.out.1, HR.out.2.1⟩, HR.out.2.2⟩
theorem redits_no (o : Int) (bn L c d : Nat) (p q : Option Addr) (ho : -9223372036854775808 ≤ o ∧ o ≤ 9223372036854775807) (h : ¬ InB L o bn) (hL : L ≤ 1000) (hbn : bn ≤ 100000) (w : World) :
    Calls Try.prog 81 #[.slice p L c, .int .i64 o, .slice q bn d] w fun e w' => e = .returned (.tuple #[.slice none 0 0, .bool false]) ∧ w = w' := by
  have C0 := inside_is o bn L ho (by omega) hL w
  rw [decide_eq_false h] at C0
  have C := Lib.hid C0
  clear C0 h hL hbn ho
  go_enter Try.func81, Try.ntmps81
  go_wp2_with fail
  refine (C.out).mono ?_; rintro e w' ⟨rfl, rfl⟩
  go_wp2_with fail
  go_ret2
  exact ⟨rfl, rfl⟩
/-- what Edits tells: nothing where there is no room -/
def Tells (wl bl : List Int) (o : Int) (L : List Ed) : Prop := if InB wl.length o bl.length then IsE wl o.toNat bl.length (fun k => bl.getD k 0) L else L = []
theorem Tells.one {wl bl : List Int} {o : Int} {L L' : List Ed} (h : Tells wl bl o L) (h' : Tells wl bl o L') : L = L' := by
  unfold Tells at h h'
  split at h
  · rename_i hi
    rw [if_pos hi] at h'
    exact h.one h' fun _ _ => rfl
  · rename_i hi
    rw [if_neg hi] at h'
    rw [h, h']
theorem edits_is (wl bl : List Int) (v u : Value) (o : Int) (w : World) (hv : RU w v wl) (hu : RA byE w u bl) (hw : ∀ x ∈ wl, Wd x) (ho : -9223372036854775808 ≤ o ∧ o ≤ 9223372036854775807) (hL : wl.length ≤ 1000) (hbn : bl.length ≤ 100000) :
    Calls Try.prog 87 #[v, .int .i64 o, u] w fun e w' => (∃ x L, e = .returned (.tuple #[x, .bool (decide (InB wl.length o bl.length))]) ∧ OwnA edE w.heap.size w' x L ∧ Tells wl bl o L) ∧ Below w.heap.size w w' := by
  unfold Tells
  by_cases h : InB wl.length o bl.length
  · rw [decide_eq_true h]
    obtain ⟨a, b, rfl, hb, h1, h2⟩ := h.nat
    have eb : bl.length = b := by omega
    refine (edits_yes wl bl v u a w hv hu hw hL (by omega) (by omega)).mono fun e w' ⟨⟨x, L, r1, r2, r3⟩, r4⟩ => ⟨⟨x, L, r1, r2, ?_⟩, r4⟩
    rw [if_pos h, Int.toNat_natCast]
    exact r3
  · rw [decide_eq_false h]
    obtain ⟨p, cap, rfl, _, _, _⟩ := id hv
    obtain ⟨q, d, rfl, _, _⟩ := ra_shape hu
    exact (edits_no o bl.length _ cap d p q ho h hL hbn w).mono fun e w' ⟨h1, h2⟩ => ⟨⟨_, [], h1, own_nil_a _ _ _, by rw [if_neg h]⟩, h2 ▸ Below.refl _ _⟩
theorem redits_is (wl bl : List Int) (v u : Value) (o : Int) (w : World) (hv : RU w v wl) (hu : RA byE w u bl) (hw : ∀ x ∈ wl, Wd x) (ho : -9223372036854775808 ≤ o ∧ o ≤ 9223372036854775807) (hL : wl.length ≤ 1000) (hbn : bl.length ≤ 100000) :
    Calls Try.prog 81 #[v, .int .i64 o, u] w fun e w' => (∃ x L, e = .returned (.tuple #[x, .bool (decide (InB wl.length o bl.length))]) ∧ OwnA edE w.heap.size w' x L ∧ Tells wl bl o L) ∧ Below w.heap.size w w' := by
  unfold Tells
  by_cases h : InB wl.length o bl.length
  · rw [decide_eq_true h]
    obtain ⟨a, b, rfl, hb, h1, h2⟩ := h.nat
    have eb : bl.length = b := by omega
    refine (redits_yes wl bl v u a w hv hu hw hL (by omega) (by omega)).mono fun e w' ⟨⟨x, L, r1, r2, r3⟩, r4⟩ => ⟨⟨x, L, r1, r2, ?_⟩, r4⟩
    rw [if_pos h, Int.toNat_natCast]
    exact r3
  · rw [decide_eq_false h]
    obtain ⟨p, cap, rfl, _, _, _⟩ := id hv
    obtain ⟨q, d, rfl, _, _⟩ := ra_shape hu
    exact (redits_no o bl.length _ cap d p q ho h hL hbn w).mono fun e w' ⟨h1, h2⟩ => ⟨⟨_, [], h1, own_nil_a _ _ _, by rw [if_neg h]⟩, h2 ▸ Below.refl _ _⟩
end Go.Proofs.Ytkpefnjohdjejaa
