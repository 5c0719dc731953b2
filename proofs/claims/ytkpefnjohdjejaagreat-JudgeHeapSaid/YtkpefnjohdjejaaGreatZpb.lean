import Derived.Deep.RegionHeld3
import Derived.Lib.Hide
import Derived.OwnWalk
import Derived.Deep.WholeRow
import Derived.Lib.AppendZeros
import Derived.Shelf.Abstract
import Derived.BigQuiet
import Derived.Maps.RangeWalk
import Derived.Deep.RegionLaw
import Derived.Laws.CopyOwn
import Derived.SizedLaws
import Derived.Test.YtkpefnjohdjejaaGreatZpa
set_option maxRecDepth 100000
set_option maxHeartbeats 8000000
namespace Go.Proofs.YtkpefnjohdjejaaGreat
open Go.ChangeShapes Go.WideShapes Go.ChangeAt Go.RowKit
theorem results_row_tmp {P : Program} {fn : Func} {p q : Tmp} {ty : TypeId} (h : fn.results = #[.cell p ty, .tmp q]) (tmps : Array Value) (w : World) (v : Value) (g : Nat) (t : TypeId) (cs : Array Value) (fr : Nat × Nat) (d : TypeDesc)
 (hp : tmps.getD p undef = .pointer (some ⟨g, 0, none⟩)) (hq : tmps.getD q undef = v) (hg : w.heap[g]? = some (.cells cs t fr))
 (hu : P.underlying ty = some d) (hd : (match d with | .struct _ | .array _ _ => true | _ => false) = true) (hi : (P.info? ty).map (·.size) = some cs.size) :
 (results fn tmps).run P w = .ok (.tuple #[.agg cs, v]) w := by
 have hp' : tmps[p]?.getD undef = .pointer (some ⟨g, 0, none⟩) := by simpa using hp
 have hq' : tmps[q]?.getD undef = v := by simpa using hq
 simp [results, h, hp', hq', asAddr, run_loadVar_row w g t ty cs fr d hg hu hd hi]
theorem built_ed0 : Tryz.prog.built 195 [] = some (ec ⟨0, 0⟩) := by kernel_rfl
@[go_sem] theorem run_edBuild0 (w : World) : (edBuild #[]).run Tryz.prog w = .ok (.agg (ec ⟨0, 0⟩)) w := run_build w _ _ _ built_ed0
theorem medit_is (l : List Bk) (i : Int) (v : Value) (w : World) (hv : RA blkE w v l) (hl : l.length <= 1000) (r : Bool) (h : canM l i = r) :
 Calls Tryz.prog 155 #[v, .int .i64 i] w fun e w' => e = .returned (.tuple #[.agg (ec (medF l i)), .bool r]) /\ Below w.heap.size w w' := by
 obtain ⟨W, hW, H0⟩ := ed_box0 w
 have hvW := ra_below hv H0.out.2
 cases r with
 | false =>
   have C1 := jz (joined_no l i v W hvW hl h)
   rw [medF_no h]
   obtain ⟨p, cap, rfl, _⟩ := ra_shape hv
   generalize l.length = L at *
   clear hv hl h hvW
   go_enter Tryz.func155, Tryz.ntmps155
   go_wp2_with fail
   refine (C1.out).mono ?_; rintro e w1 ⟨rfl, b1⟩
   have G1 := H0.out.1.below b1
   have hst := G1.store ⟨0, 0⟩
   have FY := jz (G1.put ⟨0, 0⟩)
   have BF := jz (((Chg.of_below b1 [w.heap.size]).setRow (g := w.heap.size) (.inl (by simp)) (ec ⟨0, 0⟩)).below H0.out.2 H0.out.2.size (fun k hk => by rw [List.mem_singleton.1 hk]; exact Nat.le_refl _))
   clear b1 G1 C1
   go_wp2
   exact bodyPost_ret (v := .tuple #[.agg (ec ⟨0, 0⟩), .bool false]) (results_row_tmp rfl _ _ _ _ _ _ _ _ rfl rfl FY.out Tryz.underlying195 rfl (by rw [info_edit]; rfl)) rfl ⟨rfl, BF.out⟩
 | true =>
   obtain ⟨k, rfl⟩ : ∃ k : Nat, i = k := ⟨i.toNat, by have := (canM_yes.1 h).2.1; omega⟩
   have C1 := jz (joined_yes l k v W hvW hl h)
   obtain ⟨hm, hk, hu⟩ := canM_nat h
   rw [medF_yes h]
   have HV := jz (fun (w' : World) (hb : Below W.heap.size W w') => ra_below hvW hb)
   obtain ⟨p, c, rfl, hlc, hcm⟩ := ra_shape hv
   obtain ⟨b, off, rfl, _⟩ := blk_at hv (by omega)
   have hft := frm_too hk
   have hml := mid_length hk
   obtain ⟨hms, hma⟩ := mid_sum h
   have C2 := jz (fun (w' : World) (hb : Below W.heap.size W w') => one_is (midB l k) _ w' (ra_mid hk (HV.out w' hb)) (by omega) (by omega) _ _ hma hms)
   obtain ⟨a, ha⟩ : ∃ a, (oneB l k).a = a := ⟨_, rfl⟩
   obtain ⟨s, hs⟩ : ∃ a, (oneB l k).s = a := ⟨_, rfl⟩
   rw [ha, hs] at C2 ⊢
   have C3 := jz (fun w => wordb_is s false w)
   obtain ⟨x, hx⟩ : ∃ x, hdB s false = x := ⟨_, rfl⟩
   rw [hx] at C3 ⊢
   clear hms hma hml ha hs hx h hm hu hv hvW hl HV
   generalize frm l k = F at *
   generalize too l k = T at *
   have i1 : (F : Int) <= (T : Int) := by omega
   have i4 : (T : Int) <= (c : Int) := by omega
   have i6 : ¬ c = F := by omega
   clear hft hlc hcm hk
   generalize l.length = L at *
   go_enter Tryz.func155, Tryz.ntmps155
   go_wp2_with fail
   refine (C1.out).mono ?_; rintro e w1 ⟨rfl, b1⟩
   have D1 := jz b1
   clear b1 C1
   go_wp2_with fail
   refine (C2.out _ D1.out).mono ?_; rintro e w2 ⟨rfl, b2⟩
   have D2 := jz (below_more D1.out b2)
   clear b2 C2 D1
   obtain ⟨V, hV, HV⟩ := blk_boxed w2 ⟨a, s, false⟩
   have D3 := jz (below_more D2.out HV.out.2)
   have GV := jz (H0.out.1.below D3.out)
   have hlt := Nat.ne_of_gt (Nat.lt_of_lt_of_le H0.out.1.lt D2.out.size)
   have c0 : ∀ w', Chg [w.heap.size] V w' -> w'.cell? ⟨w2.heap.size, 0, none⟩ = some (.int .i64 a) := fun w' hc => (HV.out.1.chg hc (by simpa using hlt)).c0
   have c1 : ∀ w', Chg [w.heap.size] V w' -> w'.cell? ⟨w2.heap.size, 1, none⟩ = some (.int .i64 s) := fun w' hc => (HV.out.1.chg hc (by simpa using hlt)).c1
   have c2 : ∀ w', Chg [w.heap.size] V w' -> w'.cell? ⟨w2.heap.size, 2, none⟩ = some (.bool false) := fun w' hc => (HV.out.1.chg hc (by simpa using hlt)).c2
   clear hlt D2
   go_wp2_with fail
   go_region_held3 (fun w' => Chg [w.heap.size] V w')
    (first | assumption | exact (Chg.refl _ _).drew | exact Chg.setRow (by assumption) (.inl (by simp)) _)
    (first
      | (go_at_call 52; refine (C3.out _).mono ?_; rintro e wy ⟨rfl, rfl⟩
         have GY : Ev V.drew w.heap.size ⟨0, 0⟩ := GV.out
         have hst := GY.store ⟨a, x⟩
         have FY := jz (GY.put ⟨a, x⟩)
         have CY := jz ((Chg.refl [w.heap.size] V).drew)
         clear GY))
   have BF := jz (((CY.out.setRow (g := w.heap.size) (.inl (by simp)) (ec ⟨a, x⟩)).below (below_more H0.out.2 D3.out) (Nat.le_trans H0.out.2.size D3.out.size) (fun k hk => by rw [List.mem_singleton.1 hk]; exact Nat.le_refl _)))
   go_wp2
   exact bodyPost_ret (v := .tuple #[.agg (ec ⟨a, x⟩), .bool true]) (results_row_tmp rfl _ _ _ _ _ _ _ _ rfl rfl FY.out Tryz.underlying195 rfl (by rw [info_edit]; rfl)) rfl ⟨rfl, BF.out⟩
theorem tgS_no {n m : Int} {b : Bk} {r : List Bk} (h : fitB n b = false) : tgS n m (b :: r) = tgS n m r := by rw [tgS, if_neg (by rw [h]; simp)]
theorem tgS_take {n m : Int} {b : Bk} {r : List Bk} (h : fitB n b = true) (h2 : m = 0 \/ b.s < m) : tgS n m (b :: r) = tgS n b.s r := by rw [tgS, if_pos ⟨h, h2⟩]
theorem tgS_keep {n m : Int} {b : Bk} {r : List Bk} (h : ¬ (m = 0 \/ b.s < m)) : tgS n m (b :: r) = tgS n m r := by rw [tgS, if_neg (fun g => h g.2)]
theorem tight_is (n : Int) (l : List Bk) (v : Value) (r : Int) (w : World) (hv : RA blkE w v l) (hr : tgS n 0 l = r) :
 Calls Tryz.prog 167 #[v, .int .i64 n] w fun e w' => e = .returned (.int .i64 r) /\ Below w.heap.size w w' := by
 obtain ⟨p, cap, rfl, hlc, hcm⟩ := ra_shape hv
 unfold maxLen at hcm
 have HL : Hid (l.length <= 9223372036854775807) := jz (by omega)
 have HV := jz hv
 have HR := jz hr
 clear hr hcm hlc hv
 go_enter Tryz.func167, Tryz.ntmps167
 go_wp2
 go_loopw [5, 10] (fun z i wr => ∃ (k : Nat) (m : Int), k <= l.length /\ i = .int .i64 k /\ z = .int .i64 m /\ Hid (tgS n m (l.drop k) = r /\ Below w.heap.size w wr)) (fun _ i _ => l.length - (intOf i).toNat)
 case atStart => exact ⟨0, 0, Nat.zero_le _, rfl, rfl, jz ⟨HR.out, Below.refl _ _⟩⟩
 case round =>
  obtain ⟨k, m, hk, rfl, rfl, H⟩ := hrel
  by_cases hlt : k < l.length
  . obtain ⟨b, off, rfl, hb, hx⟩ := blk_at (ra_below HV.out H.out.2) (by omega)
    obtain ⟨hld, _, _, _, hwf⟩ := hx k hlt
    have hF := H.out.1
    rw [getD_cut hlt] at hF
    generalize l.getD k default = y at *
    obtain ⟨a, s, u⟩ := y
    obtain ⟨W, hW, HW⟩ := blk_boxed wr ⟨a, s, u⟩
    have c1 : W.cell? ⟨wr.heap.size, 1, none⟩ = some (.int .i64 s) := HW.out.1.c1
    have c2 : W.cell? ⟨wr.heap.size, 2, none⟩ = some (.bool u) := HW.out.1.c2
    have HB := jz (below_more H.out.2 HW.out.2)
    have i0 : (0 : Int) <= (k : Int) := by omega
    have i1 : (k : Int) < (l.length : Int) := by omega
    have i2 : ¬ (k : Int) < 0 := by omega
    have i3 : IntKind.i64.wrap ((k : Int) + 1) = ((k + 1 : Nat) : Int) := by rw [show (k : Int) + 1 = ((k + 1 : Nat) : Int) by omega]; exact i64_nat _ (by have := HL.out; omega)
    have HK := jz hlt
    have hws : (Lit.int .i64 s).wf = true := hwf.ws
    obtain ⟨t, ht⟩ : ∃ t, takN s n = t := ⟨_, rfl⟩
    have C := jz (takes_is s n t hws ht W)
    clear hx hk hb hwf hws
    cases u
    . cases hf : fitB n ⟨a, s, false⟩
      . rw [tgS_no hf] at hF
        have t0 : (t == 0) = true := by
         have : ¬ (2 <= n /\ n <= s) := fun h => by rw [fitB_iff.2 ⟨rfl, h.1, h.2⟩] at hf; cases hf
         rw [<- ht, takN_zero.2 this]; rfl
        have HF := jz hF
        clear hF hf ht
        go_wp2_with fail
        refine (C.out).mono ?_; rintro e w' ⟨rfl, rfl⟩
        go_wp2
        go_roundw
        case rel => exact ⟨k + 1, m, by have := HK.out; omega, by go_num, rfl, jz ⟨HF.out, HB.out⟩⟩
        case measure => have := HK.out; simp [intOf]; omega
      . have t0 : (t == 0) = false := by
         obtain ⟨_, h1, h2⟩ := fitB_iff.1 hf
         rw [beq_eq_false_iff_ne, <- ht, Ne, takN_zero]
         exact fun h => h ⟨h1, h2⟩
        by_cases hm0 : m = 0
        . rw [tgS_take hf (.inl hm0)] at hF
          have m0 : (m == 0) = true := by rw [hm0]; rfl
          have HF := jz hF
          clear hF hf ht hm0
          go_wp2_with fail
          refine (C.out).mono ?_; rintro e w' ⟨rfl, rfl⟩
          go_wp2
          go_roundw
          case rel => exact ⟨k + 1, s, by have := HK.out; omega, by go_num, rfl, jz ⟨HF.out, HB.out⟩⟩
          case measure => have := HK.out; simp [intOf]; omega
        . have m0 : (m == 0) = false := beq_eq_false_iff_ne.2 hm0
          by_cases hms : s < m
          . rw [tgS_take hf (.inr hms)] at hF
            have HF := jz hF
            clear hF hf ht hm0
            go_wp2_with fail
            refine (C.out).mono ?_; rintro e w' ⟨rfl, rfl⟩
            go_wp2
            go_roundw
            case rel => exact ⟨k + 1, s, by have := HK.out; omega, by go_num, rfl, jz ⟨HF.out, HB.out⟩⟩
            case measure => have := HK.out; simp [intOf]; omega
          . rw [tgS_keep (fun h => h.elim hm0 hms)] at hF
            have HF := jz hF
            clear hF hf ht hm0
            go_wp2_with fail
            refine (C.out).mono ?_; rintro e w' ⟨rfl, rfl⟩
            go_wp2
            go_roundw
            case rel => exact ⟨k + 1, m, by have := HK.out; omega, by go_num, rfl, jz ⟨HF.out, HB.out⟩⟩
            case measure => have := HK.out; simp [intOf]; omega
    . rw [tgS_no (by simp [fitB])] at hF
      have HF := jz hF
      clear hF ht C
      go_wp2
      go_roundw
      case rel => exact ⟨k + 1, m, by have := HK.out; omega, by go_num, rfl, jz ⟨HF.out, HB.out⟩⟩
      case measure => have := HK.out; simp [intOf]; omega
  . obtain rfl : k = l.length := by omega
    have hF := H.out.1
    rw [List.drop_length, tgS] at hF
    subst hF
    go_wp2
    go_ret
    exact ⟨rfl, H.out.2⟩
structure Gth (z : Int) (l : List Bk) (w0 wr : World) (lv : Value) (k : Nat) : Prop where
 ex : ∃ pre : List Nat, OwnI w0.heap.size wr lv (ins pre) /\ pre ++ plS z k (l.drop k) = plS z 0 l /\ pre.length <= k
 up : Below w0.heap.size w0 wr
theorem ownI_nil' (B : Nat) (w : World) : OwnI B w (.slice none 0 0) [] := World.ownsRow_nil _ _ _ _
theorem own_below_i' {B : Nat} {w w' : World} {v : Value} {l : List Int} (h : OwnI B w v l) (hb : Below w.heap.size w w') : OwnI B w' v l := by
 refine ⟨h.1, h.2.imp id ?_⟩
 rintro ⟨g, cap, cur, hv, h1, hg, r⟩
 exact ⟨g, cap, cur, hv, h1, (hb.block g (Array.getElem?_eq_some_iff.1 hg).1).trans hg, r⟩
theorem ins_app (f : List Nat) (i : Nat) : ins (f ++ [i]) = ins f ++ [(i : Int)] := by simp [ins]
theorem ins_length (f : List Nat) : (ins f).length = f.length := by simp [ins]
theorem Gth.start {z : Int} {l : List Bk} {w : World} : Gth z l w w (.slice none 0 0) 0 := ⟨⟨[], ownI_nil' _ _, rfl, Nat.le_refl _⟩, Below.refl _ _⟩
theorem Gth.skip {z : Int} {l : List Bk} {w0 wr w' : World} {lv : Value} {k : Nat} (h : Gth z l w0 wr lv k) (hk : k < l.length) (hn : hasS z (l.getD k default) = false) (hb : Below wr.heap.size wr w') : Gth z l w0 w' lv (k + 1) := by
 obtain ⟨pre, h1, h2, h3⟩ := h.ex
 refine ⟨⟨pre, own_below_i' h1 hb, ?_, by omega⟩, below_more h.up hb⟩
 rw [<- h2, getD_cut hk, plS, hn, if_neg Bool.false_ne_true]
theorem Gth.more {z : Int} {l : List Bk} {w0 wr W : World} {lv : Value} {k : Nat} (h : Gth z l w0 wr lv k) (hk : k < l.length) (hy : hasS z (l.getD k default) = true) (hb : Below wr.heap.size wr W) (hl : l.length <= 1000) :
 ∃ pre, OwnI w0.heap.size (W.alloc (.cells #[.int .i64 (k : Int)] 3)) lv (ins pre) /\ Hid ((ins pre).length + 1 <= 1000000) /\ w0.heap.size <= (W.alloc (.cells #[.int .i64 (k : Int)] 3)).heap.size ∧
  ∀ v' w', OwnI w0.heap.size w' v' (ins pre ++ [(k : Int)]) -> (W.alloc (.cells #[.int .i64 (k : Int)] 3)).grownBy w' lv.ownBlock -> Gth z l w0 w' v' (k + 1) := by
 obtain ⟨pre, h1, h2, h3⟩ := h.ex
 have hB := below_more h.up hb
 have h1' := own_below_i' h1 hb
 refine ⟨pre, World.ownsRow.alloc h1' _, jz (by rw [ins_length]; omega), by rw [size_alloc]; exact Nat.le_succ_of_le hB.size, fun v' w' ho hg => ⟨⟨pre ++ [k], by rw [ins_app]; exact ho, ?_, by simp; omega⟩, Below.grown (bal hB) hg (by rw [size_alloc]; exact Nat.le_succ_of_le hB.size) (fun q hq => (World.ownsRow.lt h1 q hq).1)⟩⟩
 rw [<- h2, getD_cut hk, plS, hy, if_pos rfl]
 simp
theorem fits_is (n : Int) (l : List Bk) (v : Value) (w : World) (hv : RA blkE w v l) (hl : l.length <= 1000) :
 Calls Tryz.prog 141 #[v, .int .i64 n] w fun e w' => (∃ u, e = .returned u /\ OwnI w.heap.size w' u (ins (fitN n l))) /\ Below w.heap.size w w' := by
 obtain ⟨z, hz⟩ : ∃ z, tgS n 0 l = z := ⟨_, rfl⟩
 have T := jz (tight_is n l v z w hv hz)
 rw [fitN, hz]
 obtain ⟨p, cap, rfl, hlc, hcm⟩ := ra_shape hv
 have HL := jz hl
 have HV := jz hv
 clear hcm hlc hv hl hz
 by_cases h0 : z = 0
 . rw [if_pos h0]
   have z0 : (z == 0) = true := by rw [h0]; rfl
   clear h0
   generalize l.length = L at *
   go_enter Tryz.func141, Tryz.ntmps141
   go_wp2_with fail
   refine (T.out).mono ?_; rintro e w1 ⟨rfl, b1⟩
   go_wp2
   go_ret
   exact ⟨⟨_, rfl, ownI_nil' _ _⟩, b1⟩
 . rw [if_neg h0]
   have z0 : (z == 0) = false := beq_eq_false_iff_ne.2 h0
   clear h0
   go_enter Tryz.func141, Tryz.ntmps141
   go_wp2_with fail
   refine (T.out).mono ?_; rintro e w1 ⟨rfl, b1⟩
   have D1 := jz b1
   have HS : Hid (w.heap.size <= w1.heap.size) := jz b1.size
   have HV1 := jz (ra_below HV.out b1)
   clear b1 T
   go_wp2
   go_loopw [6, 16] (fun y i wr => ∃ (k : Nat) (lv : Value), k <= l.length /\ i = .int .i64 k /\ y = lv /\ Hid (Gth z l w1 wr lv k)) (fun _ i _ => l.length - (intOf i).toNat)
   case atStart => exact ⟨0, _, Nat.zero_le _, rfl, rfl, jz Gth.start⟩
   case round =>
    obtain ⟨k, lv, hk, rfl, rfl, H⟩ := hrel
    by_cases hlt : k < l.length
    . obtain ⟨b, off, rfl, hb, hx⟩ := blk_at (ra_below HV1.out H.out.up) (by omega)
      obtain ⟨hld, _, _, _, hwf⟩ := hx k hlt
      have i0 : (0 : Int) <= (k : Int) := by omega
      have i1 : (k : Int) < (l.length : Int) := by omega
      have i2 : ¬ (k : Int) < 0 := by omega
      have i3 : IntKind.i64.wrap ((k : Int) + 1) = ((k + 1 : Nat) : Int) := by rw [show (k : Int) + 1 = ((k + 1 : Nat) : Int) by omega]; exact i64_nat _ (by have := HL.out; omega)
      have HK := jz hlt
      have HSK := jz (fun hn W (hb : Below wr.heap.size wr W) => H.out.skip hlt hn hb)
      have HMO := jz (fun hy W (hb : Below wr.heap.size wr W) => H.out.more hlt hy hb HL.out)
      generalize l.getD k default = y at *
      obtain ⟨a, s, u⟩ := y
      obtain ⟨W, hW, HW⟩ := blk_boxed wr ⟨a, s, u⟩
      have c1 : W.cell? ⟨wr.heap.size, 1, none⟩ = some (.int .i64 s) := HW.out.1.c1
      have c2 : W.cell? ⟨wr.heap.size, 2, none⟩ = some (.bool u) := HW.out.1.c2
      have HB := jz HW.out.2
      clear hx hk hb hwf
      cases u
      . by_cases hs : s = z
        . have s0 : (s == z) = true := by rw [hs]; simp
          obtain ⟨pre, o1, hlen, hB, hmore⟩ := HMO.out (hasS_iff.2 ⟨rfl, hs⟩) W HB.out
          have O1 := jz o1
          have HB1 := jz hB
          have HM := jz hmore
          clear hs o1 hB hmore HSK HMO
          go_wp2_with (at_builtin; refine list_app_int (o := ⟨some 33, _, _, _, _, _⟩) rfl (.tmp 30) (.tmp 32) rfl w1.heap.size _ (ins pre) rfl O1.out _ [(k : Int)] rfl (ri_one _ _) hlen.out HB1.out ?_; intro v1 w2 hown hg _)
          have HN := jz (HM.out _ _ hown hg)
          clear hown hg
          go_wp2
          go_roundw
          case rel => exact ⟨k + 1, _, by have := HK.out; omega, by go_num, rfl, HN⟩
          case measure => have := HK.out; simp [intOf]; omega
        . have s0 : (s == z) = false := beq_eq_false_iff_ne.2 hs
          have HN := jz (HSK.out (by rw [Bool.eq_false_iff, Ne, hasS_iff]; exact fun h => hs h.2) W HB.out)
          clear hs HSK HMO
          go_wp2
          go_roundw
          case rel => exact ⟨k + 1, _, by have := HK.out; omega, by go_num, rfl, HN⟩
          case measure => have := HK.out; simp [intOf]; omega
      . have HN := jz (HSK.out (by simp [hasS]) W HB.out)
        clear HSK HMO
        go_wp2
        go_roundw
        case rel => exact ⟨k + 1, _, by have := HK.out; omega, by go_num, rfl, HN⟩
        case measure => have := HK.out; simp [intOf]; omega
    . obtain rfl : k = l.length := by omega
      obtain ⟨pre, h1, h2, _⟩ := H.out.ex
      rw [List.drop_length, plS, List.append_nil] at h2
      rw [h2] at h1
      have HO := jz (h1.mono HS.out)
      have HB := jz (below_more D1.out H.out.up)
      clear h1 h2
      go_wp2
      go_ret
      exact ⟨⟨_, rfl, HO.out⟩, HB.out⟩
theorem ins_getD {f : List Nat} {k : Nat} (h : k < f.length) : (ins f).getD k 0 = ((f.getD k 0 : Nat) : Int) := by
 simp [ins, h]
theorem getD_cut_n {f : List Nat} {k : Nat} (hk : k < f.length) : f.drop k = f.getD k 0 :: f.drop (k + 1) := by
 rw [List.getD_eq_getElem?_getD, List.getElem?_eq_getElem hk]; exact List.drop_eq_getElem_cons hk
theorem getD_mem_n {f : List Nat} {k : Nat} (hk : k < f.length) : f.getD k 0 ∈ f := by
 rw [List.getD_eq_getElem?_getD, List.getElem?_eq_getElem hk]; exact List.getElem_mem hk
def Chs (cs : List Int) (l : List Bk) (f : List Nat) (R : Option Nat) (k : Nat) (o : Option Nat) : Prop := chO cs l o (f.drop k) = R /\ ∀ d, o = some d -> d < l.length
theorem Chs.first {cs : List Int} {l : List Bk} {f : List Nat} {R : Option Nat} {k : Nat} (h : Chs cs l f R k none) (hk : k < f.length) (hf : ∀ i ∈ f, i < l.length) : Chs cs l f R (k + 1) (some (f.getD k 0)) := by
 obtain ⟨h1, _⟩ := h
 rw [getD_cut_n hk, chO] at h1
 exact ⟨h1, fun d e => by cases e; exact hf _ (getD_mem_n hk)⟩
theorem Chs.turn {cs : List Int} {l : List Bk} {f : List Nat} {R : Option Nat} {k c : Nat} (h : Chs cs l f R k (some c)) (hk : k < f.length) (hf : ∀ i ∈ f, i < l.length) (ha : ahd cs (atL l (f.getD k 0)) (atL l c) = true) : Chs cs l f R (k + 1) (some (f.getD k 0)) := by
 obtain ⟨h1, _⟩ := h
 rw [getD_cut_n hk, chO, if_pos ha] at h1
 exact ⟨h1, fun d e => by cases e; exact hf _ (getD_mem_n hk)⟩
theorem Chs.stay {cs : List Int} {l : List Bk} {f : List Nat} {R : Option Nat} {k c : Nat} (h : Chs cs l f R k (some c)) (hk : k < f.length) (ha : ahd cs (atL l (f.getD k 0)) (atL l c) = false) : Chs cs l f R (k + 1) (some c) := by
 obtain ⟨h1, h2⟩ := h
 rw [getD_cut_n hk, chO, ha, if_neg Bool.false_ne_true] at h1
 exact ⟨h1, h2⟩
theorem choose_is (n : Int) (cs : List Int) (l : List Bk) (v u : Value) (R : Option Nat) (w : World) (hv : RA blkE w v l) (hu : RI w u cs) (hl : l.length <= 1000) (hR : chN n cs l = R) :
 Calls Tryz.prog 148 #[v, .int .i64 n, u] w fun e w' => e = .returned (.int .i64 (oi R)) /\ Below w.heap.size w w' := by
 have T := jz (fits_is n l v w hv hl)
 have hm : ∀ i ∈ fitN n l, i < l.length := fun i hi => (fitN_mem hi).1
 rw [chN] at hR
 generalize fitN n l = F at *
 obtain ⟨p, cap, rfl, hlc, hcm⟩ := ra_shape hv
 obtain ⟨pu, cu, rfl, _, _, _⟩ := id hu
 have HL := jz hl
 have HV := jz hv
 have HU := jz hu
 have HR := jz hR
 have HM := jz hm
 clear hcm hlc hv hu hl hR hm
 go_enter Tryz.func148, Tryz.ntmps148
 go_wp2_with fail
 refine (T.out).mono ?_; rintro e w1 ⟨⟨v1, rfl, o1⟩, b1⟩
 have D1 := jz b1
 have HV1 := jz (ra_below HV.out b1)
 have HU1 := jz (ri_below HU.out b1)
 have HF1 := jz o1.ri
 have HFL : Hid (F.length <= 9223372036854775807) := jz (by
  obtain ⟨_, _, _, h1, h2, _⟩ := o1.ri
  rw [ins_length] at h1
  unfold maxLen at h2
  omega)
 obtain ⟨pf, cf, rfl⟩ := o1.shape
 clear b1 o1 T HV HU
 rw [ins_length] at HF1 ⊢
 go_wp2
 go_loopw [7, 14] (fun y i wr => ∃ (k : Nat) (o : Option Nat), k <= F.length /\ i = .int .i64 k /\ y = .int .i64 (oi o) /\ Hid (Chs cs l F R k o /\ Below w1.heap.size w1 wr)) (fun _ i _ => F.length - (intOf i).toNat)
 case atStart => exact ⟨0, none, Nat.zero_le _, rfl, rfl, jz ⟨⟨HR.out, fun _ e => by cases e⟩, Below.refl _ _⟩⟩
 case round =>
  obtain ⟨k, o, hk, rfl, rfl, H⟩ := hrel
  by_cases hlt : k < F.length
  . obtain ⟨bf, of, rfl, _, hfr⟩ := ri_some (ri_below HF1.out H.out.2) (by rw [ins_length]; omega)
    have cf1 := hfr k (by rw [ins_length]; exact hlt)
    rw [ins_getD hlt] at cf1
    have hi := HM.out _ (getD_mem_n hlt)
    have i0 : (0 : Int) <= (k : Int) := by omega
    have i1 : (k : Int) < (F.length : Int) := by omega
    have i2 : ¬ (k : Int) < 0 := by omega
    have i3 : IntKind.i64.wrap ((k : Int) + 1) = ((k + 1 : Nat) : Int) := by rw [show (k : Int) + 1 = ((k + 1 : Nat) : Int) by omega]; exact i64_nat _ (by have := HFL.out; omega)
    have HK := jz hlt
    cases o with
    | none =>
      have HN := jz (H.out.1.first hlt HM.out)
      have HB := jz H.out.2
      have e0 : (oi none == -1) = true := rfl
      simp only [oi] at e0 ⊢
      generalize F.getD k 0 = I at *
      clear hfr hk
      go_wp2_with fail
      go_quiet (fail)
      go_wp2
      go_roundw
      case rel => exact ⟨k + 1, some I, by have := HK.out; omega, by go_num, rfl, jz ⟨HN.out, below_drewN HB.out _⟩⟩
      case measure => have := HK.out; simp [intOf]; omega
    | some c =>
      have hc := H.out.1.2 c rfl
      obtain ⟨r, hr⟩ : ∃ r, ahd cs (atL l (F.getD k 0)) (atL l c) = r := ⟨_, rfl⟩
      obtain ⟨b, off, rfl, _, _⟩ := blk_at (ra_below HV1.out H.out.2) (by omega)
      have ld : ∀ w', Below wr.heap.size wr w' -> ∀ j, j < l.length -> (blkLoad (.pointer (some ⟨b, off + j * 3, none⟩))).run Tryz.prog w' = .ok (.agg (bc (l.getD j default))) w' /\ (l.getD j default).Wf := fun w' hb j hj => by
       obtain ⟨_, _, e, _, hx⟩ := blk_at (ra_below HV1.out (below_more H.out.2 hb)) (by omega)
       cases e
       exact ⟨(hx j hj).1, (hx j hj).2.2.2.2⟩
      have wi := (ld wr (Below.refl _ _) _ hi).2
      have wc := (ld wr (Below.refl _ _) _ hc).2
      have l1 : ∀ w', Below wr.heap.size wr w' -> (blkLoad (.pointer (some ⟨b, off + F.getD k 0 * 3, none⟩))).run Tryz.prog w' = .ok (.agg (bc (l.getD (F.getD k 0) default))) w' := fun w' hb => (ld w' hb _ hi).1
      have l2 : ∀ w', Below wr.heap.size wr w' -> (blkLoad (.pointer (some ⟨b, off + c * 3, none⟩))).run Tryz.prog w' = .ok (.agg (bc (l.getD c default))) w' := fun w' hb => (ld w' hb _ hc).1
      have HUR := jz (fun w' (hb : Below wr.heap.size wr w') => ri_below HU1.out (below_more H.out.2 hb))
      have HN : Hid (Chs cs l F R (k + 1) (if r = true then some (F.getD k 0) else some c)) := jz (by
       cases r
       . exact H.out.1.stay hlt hr
       . exact H.out.1.turn hlt HM.out hr)
      have HB := jz H.out.2
      have e0 : ((c : Int) == -1) = false := beq_eq_false_iff_ne.2 (by omega)
      have q0 : (c : Int) < (l.length : Int) := by omega
      have q1 : ((F.getD k 0 : Nat) : Int) < (l.length : Int) := by omega
      have q2 : ¬ (c : Int) < 0 := by omega
      have q3 : ¬ ((F.getD k 0 : Nat) : Int) < 0 := by omega
      have q4 : (0 : Int) <= (c : Int) := by omega
      have q5 : (0 : Int) <= ((F.getD k 0 : Nat) : Int) := by omega
      simp only [oi, atL] at e0 hr ⊢
      generalize F.getD k 0 = I at *
      generalize l.getD I default = X at *
      generalize l.getD c default = Y at *
      generalize l.length = L at *
      clear hfr hk ld H HV1 HU1 hi hc
      go_wp2_with fail
      go_region_held3 (fun w' => Below wr.heap.size wr w')
       (first | exact (Below.refl _ _).drew | exact below_more ‹Below wr.heap.size wr _› hbq)
       (first
         | (go_at_call 171; refine (ahead_is _ _ cs _ _ (HUR.out _ (by assumption)) (by assumption) (by assumption) r (by assumption)).mono ?_; rintro e wq ⟨rfl, hbq⟩))
      have HB2 := jz (below_more HB.out ‹Below wr.heap.size wr wq›)
      cases r
      . go_wp2
        go_roundw
        case rel => exact ⟨k + 1, some c, by have := HK.out; omega, by go_num, rfl, jz ⟨HN.out, HB2.out⟩⟩
        case measure => have := HK.out; simp [intOf]; omega
      . go_wp2
        go_roundw
        case rel => exact ⟨k + 1, some I, by have := HK.out; omega, by go_num, rfl, jz ⟨HN.out, HB2.out⟩⟩
        case measure => have := HK.out; simp [intOf]; omega
  . obtain rfl : k = F.length := by omega
    obtain ⟨h1, _⟩ := H.out.1
    rw [List.drop_length, chO] at h1
    subst h1
    have HB := jz (below_more D1.out H.out.2)
    go_wp2
    go_ret
    exact ⟨rfl, HB.out⟩
theorem wd_at {l : List Int} (h : ∀ x ∈ l, Wd x) {k : Nat} (hk : k < l.length) : Wd (l.getD k 0) := by
 rw [List.getD_eq_getElem?_getD, List.getElem?_eq_getElem hk]; exact h _ (List.getElem_mem hk)
structure Rb (wl : List Int) (o n : Nat) (w1 wr : World) (lv : Value) (k a m : Nat) : Prop where
 sum : a + m = o + n
 ge : o <= a
 rest : (pcs o n).drop k = pcs a m
 own : OwnA byE w1.heap.size wr lv (rdB wl o (a - o))
 below : Below w1.heap.size w1 wr
theorem read_yes (wl : List Int) (v : Value) (o n : Nat) (w : World) (hv : RU w v wl) (hw : ∀ x ∈ wl, Wd x) (hL : wl.length <= 1000) (hn : n <= 448) (hon : o + n <= 8 * wl.length) :
 Calls Tryz.prog 73 #[v, .int .i64 o, .int .i64 n] w fun e w' => (∃ u, e = .returned (.tuple #[u, .bool true]) /\ OwnA byE w.heap.size w' u (rdB wl o n)) /\ Below w.heap.size w w' := by
 obtain ⟨p, cap, rfl, _, _, _⟩ := id hv
 have C := jz (withinb_yes o n wl.length cap p hn hon hL w)
 have D := jz (parts_is o n (by omega) hn w)
 have HV := jz (fun (w' : World) (hb : Below w.heap.size w w') => ru_below hv hb)
 have HW := jz hw
 have HL := jz (And.intro hL (And.intro hn hon))
 clear hv hw hL hn hon
 obtain ⟨Lw, hLw⟩ : ∃ Lw, wl.length = Lw := ⟨_, rfl⟩
 rw [hLw] at C HV ⊢
 have HLw := jz hLw
 clear hLw
 go_enter Tryz.func73, Tryz.ntmps73
 go_wp2_with fail
 refine (C.out).mono ?_; rintro e w' ⟨rfl, rfl⟩
 go_wp2_with fail
 refine (D.out).mono ?_; rintro e w1 ⟨⟨u1, rfl, o1⟩, b1⟩
 have D1 := jz b1
 have O1 := jz o1
 obtain ⟨g, d, rfl, _, _⟩ := o1.shape
 have hpl := pcs_length n o
 have HP : Hid ((pcs o n).length <= 1000) := jz (by rw [hpl]; have := HL.out; unfold cnt; split <;> omega)
 clear b1 D o1 hpl C
 obtain ⟨P, hP⟩ : ∃ P, pcs o n = P := ⟨_, rfl⟩
 rw [hP] at O1 HP ⊢
 have HPe := jz hP
 clear hP
 go_wp2
 go_loopw [8, 21] (fun y i wr => ∃ (k a m : Nat) (lv : Value), k <= P.length /\ i = .int .i64 k /\ lv = y /\ Hid (Rb wl o n w1 wr lv k a m)) (fun _ i _ => P.length - (intOf i).toNat)
 case atStart => exact ⟨0, o, n, _, Nat.zero_le _, rfl, rfl, jz ⟨rfl, Nat.le_refl _, rfl, by rw [Nat.sub_self]; exact own_nil_a _ _ _, Below.refl _ _⟩⟩
 case round =>
  obtain ⟨k, a, m, lv, hk, rfl, rfl, H⟩ := hrel
  by_cases hlt : k < P.length
  . have hst := pcs_step H.out.rest (by rw [HPe.out]; exact hlt)
    rw [HPe.out] at hst
    obtain ⟨hm0, hg1, hdr⟩ := hst
    obtain ⟨k1, k2, k3, _⟩ := pcK_le (a := a) hm0
    obtain ⟨b, off, e, hb, hx⟩ := pc_at (ra_below O1.out.ra H.out.below) (by omega)
    cases e
    obtain ⟨hld, _, _, _⟩ := hx k hlt
    rw [hg1] at hld
    obtain ⟨Q, hQ⟩ : ∃ Q, a / 8 = Q := ⟨_, rfl⟩
    obtain ⟨F, hF⟩ : ∃ F, a % 8 = F := ⟨_, rfl⟩
    obtain ⟨N, hN⟩ : ∃ N, pcK a m = N := ⟨_, rfl⟩
    rw [hQ, hF, hN] at hld
    rw [hN] at k1 k2 k3 hdr
    rw [hF] at k3
    have hsum := H.out.sum
    have hge := H.out.ge
    obtain ⟨hL1, hL2, hL3⟩ := HL.out
    obtain ⟨wo, hwo⟩ : ∃ wo, wo = wr := ⟨_, rfl⟩
    subst hwo
    obtain ⟨W, hW, HWp⟩ := pc_boxed wo ⟨Q, F, N⟩
    have c1 : W.cell? ⟨wo.heap.size, 1, none⟩ = some (.int .i64 F) := HWp.out.1.c1
    have i0 : (0 : Int) <= (k : Int) := by omega
    have i1 : (k : Int) < (P.length : Int) := by omega
    have i2 : ¬ (k : Int) < 0 := by omega
    have i3 : IntKind.i64.wrap ((k : Int) + 1) = ((k + 1 : Nat) : Int) := by rw [show (k : Int) + 1 = ((k + 1 : Nat) : Int) by omega]; exact i64_nat _ (by have := HP.out; omega)
    obtain ⟨E, hE⟩ : ∃ E, F + N = E := ⟨_, rfl⟩
    have i4 : IntKind.i64.wrap ((F : Int) + (N : Int)) = (E : Int) := by rw [show (F : Int) + (N : Int) = (E : Int) by omega]; exact i64_nat _ (by omega)
    have HB := jz (below_more H.out.below HWp.out.2)
    have HO := jz (H.out.own.below HWp.out.2)
    have HPv := jz HWp.out.1
    have HNe : Hid (lv.ownBlock ≠ some wo.heap.size) := jz fun e => by have := H.out.own.lt _ e; omega
    have HQ : Hid (Q < Lw /\ Q < wl.length /\ F + N <= 8) := jz ⟨by have := HLw.out; omega, by omega, by omega⟩
    have HA := jz (And.intro hQ (And.intro hF (And.intro hge (And.intro hE (And.intro hsum (And.intro k1 k2))))))
    have HD := jz hdr
    have HK := jz hlt
    clear hx hb hQ hF hN hge hsum hL1 hL2 hL3 hlt hk hm0 hg1 hdr k1 k2 k3 hE HWp H
    go_wp2
    go_loopw [8, 11] (fun y x wr => ∃ (j : Nat) (lv : Value), j <= N /\ x = .int .i64 ((F + j : Nat) : Int) /\ lv = y /\ Hid (OwnA byE w1.heap.size wr lv (rdB wl o (a - o + j)) /\ Below w1.heap.size w1 wr /\ Pv wr wo.heap.size ⟨Q, F, N⟩ /\ lv.ownBlock ≠ some wo.heap.size)) (fun _ x _ => E - (intOf x).toNat)
    case atStart => exact ⟨0, _, Nat.zero_le _, by simp, rfl, jz ⟨HO.out, HB.out, HPv.out, HNe.out⟩⟩
    case round =>
     obtain ⟨j, lz, hj, rfl, rfl, H⟩ := hrel
     have V := H.out.2.2.1
     have d0 : wr.cell? ⟨wo.heap.size, 0, none⟩ = some (.int .i64 Q) := V.c0
     have d1 : wr.cell? ⟨wo.heap.size, 1, none⟩ = some (.int .i64 F) := V.c1
     have d2 : wr.cell? ⟨wo.heap.size, 2, none⟩ = some (.int .i64 N) := V.c2
     obtain ⟨x, hx⟩ : ∃ x, F + j = x := ⟨_, rfl⟩
     by_cases hlt : j < N
     . have hE := HA.out.2.2.2.1
       have hq := HQ.out
       have j1 : ((x : Nat) : Int) < (E : Int) := by omega
       have j2 : x < E := by omega
       have j3 : IntKind.i64.wrap ((x : Int) + 1) = ((x + 1 : Nat) : Int) := by rw [show (x : Int) + 1 = ((x + 1 : Nat) : Int) by omega]; exact i64_nat _ (by omega)
       obtain ⟨bb, of, e, _, hc⟩ := ru_some (HV.out wr (below_more D1.out H.out.2.1)) (by rw [HLw.out]; omega)
       cases e
       have hcell := hc Q (by rw [HLw.out]; omega)
       have q0 : (0 : Int) <= (Q : Int) := by omega
       have q1 : (Q : Int) < (Lw : Int) := by omega
       have q2 : ¬ (Q : Int) < 0 := by omega
       have G := jz (sget_is (wl.getD Q 0) x (wd_at HW.out hq.2.1) (by omega) wr)
       have hby : By (bt (wl.getD Q 0) x) := bt_by _ _
       have hsn : rdB wl o (a - o + (j + 1)) = rdB wl o (a - o + j) ++ [bt (wl.getD Q 0) x] := by
        rw [<- Nat.add_assoc, rdB_snoc, bAt_]
        have e1 : (o + (a - o + j)) / 8 = Q := by have := HA.out; omega
        have e2 : (o + (a - o + j)) % 8 = x := by have := HA.out; omega
        rw [e1, e2]
       have hlen : Hid ((rdB wl o (a - o + j)).length + [bt (wl.getD Q 0) x].length <= 4000) := jz (by rw [rdB_length]; have := HA.out; have := HL.out; simp only [List.length_singleton]; omega)
       have HS := jz hsn
       have HK2 := jz (And.intro hlt hx)
       generalize bt (wl.getD Q 0) x = y at *
       generalize wl.getD Q 0 = z at *
       have R2 : Hid (RA byE (wr.alloc (.cells #[.int .u8 y] 5)) (.slice (some ⟨wr.heap.size, 0, none⟩) 1 1) [y]) := jz (by_one wr hby).ra
       have O2 : Hid (OwnA byE w1.heap.size (wr.alloc (.cells #[.int .u8 y] 5)) lz (rdB wl o (a - o + j))) := jz (H.out.1.below (bal (Below.refl _ _)))
       have B2 : Hid (Below w1.heap.size w1 (wr.alloc (.cells #[.int .u8 y] 5))) := jz (bal H.out.2.1)
       have V2 : Hid (Pv (wr.alloc (.cells #[.int .u8 y] 5)) wo.heap.size ⟨Q, F, N⟩) := jz (V.below (bal (Below.refl _ _)))
       clear hc hsn hlt hE hq hj hby
       rw [hx]
       clear hx
       go_wp2_with fail
       refine (G.out).mono ?_; rintro e w' ⟨rfl, rfl⟩
       go_wp2_with (at_builtin; refine app_by rfl _ _ rfl _ _ _ rfl O2.out _ [y] rfl R2.out hlen B2.out.size ?_)
       intro v' w' ho hg hx
       have HN := jz (show OwnA byE w1.heap.size w' v' (rdB wl o (a - o + (j + 1))) /\ Below w1.heap.size w1 w' /\ Pv w' wo.heap.size ⟨Q, F, N⟩ /\ v'.ownBlock ≠ some wo.heap.size from ⟨by rw [HS.out]; exact ho, below_app B2.out B2.out.size O2.out hg, (hg.block _ V2.out.lt (fun e => H.out.2.2.2 e.symm)).trans V2.out, fun e => by
        rcases hx with hx | hx
        . exact H.out.2.2.2 (hx.symm.trans e)
        . have := Option.some.inj (hx.symm.trans e)
          have := V.lt
          omega⟩)
       clear ho hg hx
       go_wp2
       go_roundw
       case rel => exact ⟨j + 1, _, by have := HK2.out; omega, by have := HK2.out; go_num, rfl, HN⟩
       case measure => have := HK2.out; have := HA.out; simp [intOf]; omega
     . have hjN : j = N := by omega
       have hE := HA.out.2.2.2.1
       have j1 : ¬ ((x : Nat) : Int) < (E : Int) := by omega
       have j2 : ¬ x < E := by omega
       rw [hx]
       clear hlt
       subst hjN
       have HN : Hid (Rb wl o n w1 wr lz (k + 1) (a + j) (m - j)) := jz ⟨by have := HA.out; omega, by have := HA.out; omega, by rw [HPe.out]; exact HD.out, by rw [show a + j - o = a - o + j by have := HA.out; omega]; exact H.out.1, H.out.2.1⟩
       go_wp2
       exact ⟨⟨k + 1, _, _, _, by have := HK.out; omega, by go_num, rfl, HN⟩, by have := HK.out; simp [intOf]; omega⟩
  . obtain rfl : k = P.length := by omega
    have h0 := H.out.rest
    have hm : m = 0 := by
     rw [HPe.out, List.drop_length] at h0
     rcases Nat.eq_zero_or_pos m with h | h
     . exact h
     . rw [pcs_more (by omega)] at h0; cases h0
    subst hm
    have ha : a - o = n := by have := H.out.sum; omega
    have HR := jz (And.intro H.out.own H.out.below)
    rw [ha] at HR
    clear h0 ha H
    go_wp2
    go_ret2
    exact ⟨⟨_, rfl, HR.out.1.mono D1.out.size⟩, below_more D1.out HR.out.2⟩
theorem read_no (o n : Int) (L c : Nat) (p : Option Addr) (hn : -9223372036854775808 <= n /\ n <= 9223372036854775807) (h : ¬ InB L o n) (hL : L <= 1000) (w : World) :
 Calls Tryz.prog 73 #[.slice p L c, .int .i64 o, .int .i64 n] w fun e w' => e = .returned (.tuple #[.slice none 0 0, .bool false]) /\ w = w' := by
 have C := jz (withinb_no o n L c p hn h hL w)
 clear hn h hL
 go_enter Tryz.func73, Tryz.ntmps73
 go_wp2_with fail
 refine (C.out).mono ?_; rintro e w' ⟨rfl, rfl⟩
 go_wp2_with fail
 go_ret2
 exact ⟨rfl, rfl⟩
def rdL (wl : List Int) (o n : Int) : List Int := if InB wl.length o n then rdB wl o.toNat n.toNat else []
theorem read_is (wl : List Int) (v : Value) (o n : Int) (w : World) (hv : RU w v wl) (hw : ∀ x ∈ wl, Wd x) (hn : -9223372036854775808 <= n /\ n <= 9223372036854775807) (hL : wl.length <= 1000) :
 Calls Tryz.prog 73 #[v, .int .i64 o, .int .i64 n] w fun e w' => (∃ u, e = .returned (.tuple #[u, .bool (decide (InB wl.length o n))]) /\ OwnA byE w.heap.size w' u (rdL wl o n)) /\ Below w.heap.size w w' := by
 unfold rdL
 by_cases h : InB wl.length o n
 . rw [decide_eq_true h, if_pos h]
   obtain ⟨a, b, rfl, rfl, h1, h2⟩ := h.nat
   exact read_yes wl v a b w hv hw hL h1 h2
 . rw [decide_eq_false h, if_neg h]
   obtain ⟨p, cap, rfl, _, _, _⟩ := id hv
   exact (read_no o n _ cap p hn h hL w).mono fun e w' ⟨h1, h2⟩ => ⟨⟨_, h1, own_nil_a _ _ _⟩, h2 ▸ Below.refl _ _⟩
theorem mid_bytes {w : World} {b off n c : Nat} {l : List Int} (h : RA byE w (.slice (some ⟨b, off, none⟩) n c) l) {d e : Nat} (h1 : d < e) (h2 : e <= l.length) : RA byE w (.slice (some ⟨b, off + d, none⟩) (e - d) (c - d)) ((l.take e).drop d) := by
 have a := ra_take h e
 rw [Nat.min_eq_left h2] at a
 have b := ra_drop a (k := d) (by rw [List.length_take]; omega)
 simpa [byE] using b
theorem mid_len_i {l : List Int} {d e : Nat} (h2 : e <= l.length) : ((l.take e).drop d).length = e - d := by rw [List.length_drop, List.length_take]; omega
theorem mid_getD {l : List Int} {d e k : Nat} (h : d + k < e) : ((l.take e).drop d).getD k 0 = l.getD (d + k) 0 := by
 rw [List.getD_eq_getElem?_getD, List.getElem?_drop, List.getElem?_take, if_pos h, List.getD_eq_getElem?_getD]
theorem mid_by {l : List Int} (h : ∀ x ∈ l, By x) (d e : Nat) : ∀ x ∈ (l.take e).drop d, By x := fun x hx => h x (List.mem_of_mem_take (List.mem_of_mem_drop hx))
theorem IsE.word {w bl : List Int} {o D N : Nat} {L : List Ed} (h : IsE w o D (fun k => bl.getD k 0) L) (h0 : D = 0 \/ (o + D) % 8 = 0) (h1 : 1 <= N) (h2 : (o + D) % 8 + N <= 8) (hb : ∀ x ∈ bl, By x) (hD : D + N <= bl.length) (hw : Wd (w.getD ((o + D) / 8) 0)) :
 Wd (puB (w.getD ((o + D) / 8) 0) ((o + D) % 8) ((bl.take (D + N)).drop D)) /\ IsE w o (D + N) (fun k => bl.getD k 0) (L ++ [⟨(((o + D) / 8 : Nat) : Int), puB (w.getD ((o + D) / 8) 0) ((o + D) % 8) ((bl.take (D + N)).drop D)⟩]) := by
 have hl := mid_len_i (l := bl) (d := D) hD
 have hwd := puB_wd ((bl.take (D + N)).drop D) (w.getD ((o + D) / 8) 0) ((o + D) % 8) hw (mid_by hb _ _) (by rw [hl]; omega)
 refine ⟨hwd, h.more h0 h1 h2 hwd fun j hj => ?_⟩
 rw [bt_puB _ _ _ _ (mid_by hb _ _), hl]
 by_cases hin : (o + D) % 8 <= j /\ j < (o + D) % 8 + N
 . rw [if_pos (by omega), if_pos hin, mid_getD (by omega)]
   congr 1; omega
 . rw [if_neg (by omega), if_neg hin]
theorem put_b {v : Value} {l : List Int} {w : World} (x : Int) (f : Nat) (hx : Wd x) (hv : RA byE w v l) (hf : f + l.length <= 8) : Calls Tryz.prog 170 #[.int .u64 x, .int .i64 f, v] w fun e w' => e = .returned (.int .u64 (puB x f l)) /\ Below w.heap.size w w' :=
 (sput_is x f hx hv hf).mono fun e w' ⟨h1, n, h2⟩ => ⟨h1, by subst h2; exact below_drewN (Below.refl _ _) n⟩
structure Eb (wl bl : List Int) (o : Nat) (w1 wr : World) (lv : Value) (k a m : Nat) : Prop where
 sum : a + m = o + bl.length
 ge : o <= a
 al : a = o \/ a % 8 = 0 \/ m = 0
 rest : (pcs o bl.length).drop k = pcs a m
 own : ∃ L, OwnA edE w1.heap.size wr lv L /\ IsE wl o (a - o) (fun k => bl.getD k 0) L /\ L.length <= a - o
 below : Below w1.heap.size w1 wr
theorem edits_yes (wl bl : List Int) (v u : Value) (o : Nat) (w : World) (hv : RU w v wl) (hu : RA byE w u bl) (hw : ∀ x ∈ wl, Wd x) (hL : wl.length <= 1000) (hn : bl.length <= 448) (hon : o + bl.length <= 8 * wl.length) :
 Calls Tryz.prog 144 #[v, .int .i64 o, u] w fun e w' => (∃ x L, e = .returned (.tuple #[x, .bool true]) /\ OwnA edE w.heap.size w' x L /\ IsE wl o bl.length (fun k => bl.getD k 0) L) /\ Below w.heap.size w w' := by
 obtain ⟨p, cap, rfl, _, _, _⟩ := id hv
 obtain ⟨pu, cu, rfl, hlc, hcm⟩ := ra_shape hu
 have C := jz (withinb_yes o bl.length wl.length cap p hn hon hL w)
 have D := jz (parts_is o bl.length (by omega) hn w)
 have HV := jz (fun (w' : World) (hb : Below w.heap.size w w') => ru_below hv hb)
 have HU := jz (fun (w' : World) (hb : Below w.heap.size w w') => ra_below hu hb)
 have HW := jz hw
 have HY := jz (show ∀ x ∈ bl, By x from ra_ok hu)
 have HL := jz (And.intro hL (And.intro hn hon))
 have HC := jz (And.intro hlc hcm)
 clear hv hw hL hn hon hu hlc hcm
 obtain ⟨Lw, hLw⟩ : ∃ Lw, wl.length = Lw := ⟨_, rfl⟩
 rw [hLw] at C HV ⊢
 have HLw := jz hLw
 clear hLw
 obtain ⟨n, hn⟩ : ∃ n, bl.length = n := ⟨_, rfl⟩
 rw [hn] at C D HU ⊢
 have HNn := jz hn
 clear hn
 go_enter Tryz.func144, Tryz.ntmps144
 go_wp2_with fail
 refine (C.out).mono ?_; rintro e w' ⟨rfl, rfl⟩
 go_wp2_with fail
 refine (D.out).mono ?_; rintro e w1 ⟨⟨u1, rfl, o1⟩, b1⟩
 have D1 := jz b1
 have O1 := jz o1
 obtain ⟨g, d, rfl, _, _⟩ := o1.shape
 have hpl := pcs_length n o
 have HP : Hid ((pcs o n).length <= 1000) := jz (by rw [hpl]; have := HL.out; have := HNn.out; unfold cnt; split <;> omega)
 clear b1 D o1 hpl C
 obtain ⟨P, hP⟩ : ∃ P, pcs o n = P := ⟨_, rfl⟩
 rw [hP] at O1 HP ⊢
 have HPe := jz hP
 clear hP
 go_wp2
 go_loopw [8, 9, 23] (fun y x i wr => ∃ (k a m : Nat) (lv : Value), k <= P.length /\ i = .int .i64 k /\ x = .int .i64 ((a - o : Nat) : Int) /\ lv = y /\ Hid (Eb wl bl o w1 wr lv k a m)) (fun _ _ i _ => P.length - (intOf i).toNat)
 case atStart => exact ⟨0, o, n, _, Nat.zero_le _, rfl, by simp, rfl, jz ⟨by rw [HNn.out], Nat.le_refl _, .inl rfl, by rw [HNn.out]; rfl, ⟨[], own_nil_a _ _ _, by rw [Nat.sub_self]; exact IsE.none _ _ _, Nat.zero_le _⟩, Below.refl _ _⟩⟩
 case round =>
  obtain ⟨k, a, m, lv, hk, rfl, rfl, rfl, H⟩ := hrel
  by_cases hlt : k < P.length
  . have hst := pcs_step H.out.rest (by rw [HNn.out, HPe.out]; exact hlt)
    rw [HNn.out, HPe.out] at hst
    obtain ⟨hm0, hg1, hdr⟩ := hst
    obtain ⟨k1, k2, k3, k4⟩ := pcK_le (a := a) hm0
    obtain ⟨b, off, e, hb, hx⟩ := pc_at (ra_below O1.out.ra H.out.below) (by omega)
    cases e
    obtain ⟨hld, _, _, _⟩ := hx k hlt
    rw [hg1] at hld
    obtain ⟨Dn, hDn⟩ : ∃ Dn, a - o = Dn := ⟨_, rfl⟩
    have hsum := H.out.sum
    rw [HNn.out] at hsum
    have hge := H.out.ge
    obtain ⟨hL1, hL2, hL3⟩ := HL.out
    rw [HNn.out] at hL2 hL3
    obtain ⟨L, OL, EL, hLl⟩ := H.out.own
    rw [hDn] at EL hLl
    have hoD : o + Dn = a := by omega
    have hQL : a / 8 < wl.length := by omega
    have EW := EL.word (N := pcK a m) (by rcases H.out.al with h | h | h; exact .inl (by omega); exact .inr (by rw [hoD]; exact h); exact absurd h hm0) k1 (by rw [hoD]; exact k3) HY.out (by rw [HNn.out]; omega) (by rw [hoD]; exact wd_at HW.out hQL)
    rw [hoD] at EW
    obtain ⟨bb, of, e, _, hc⟩ := ru_some (HV.out _ (below_more D1.out H.out.below)) (by rw [HLw.out]; have := HLw.out; omega)
    cases e
    obtain ⟨b2, f2, e, _, _⟩ := byte_at (HU.out w (Below.refl _ _)) (by rw [HNn.out]; omega)
    cases e
    obtain ⟨N, hN⟩ : ∃ N, pcK a m = N := ⟨_, rfl⟩
    rw [hN] at hld k1 k2 k3 hdr EW k4
    obtain ⟨E, hE⟩ : ∃ E, Dn + N = E := ⟨_, rfl⟩
    rw [hE] at EW
    have HM := jz (fun (w' : World) (hb : Below w.heap.size w w') => mid_bytes (HU.out w' hb) (d := Dn) (e := E) (by omega) (by rw [HNn.out]; omega))
    have hwz := wd_at HW.out hQL
    have hcell := hc (a / 8) hQL
    have HPut := jz (fun (w' : World) (hb : Below w.heap.size w w') => put_b (wl.getD (a / 8) 0) (a % 8) hwz (HM.out w' hb) (by rw [mid_len_i (by rw [HNn.out]; omega)]; omega))
    obtain ⟨Q, hQ⟩ : ∃ Q, a / 8 = Q := ⟨_, rfl⟩
    obtain ⟨F, hF⟩ : ∃ F, a % 8 = F := ⟨_, rfl⟩
    rw [hQ] at hld hcell HPut EW
    rw [hF] at hld HPut EW
    obtain ⟨Y, hY⟩ : ∃ Y, puB (wl.getD Q 0) F ((bl.take E).drop Dn) = Y := ⟨_, rfl⟩
    rw [hY] at EW HPut
    obtain ⟨z, hz⟩ : ∃ z, wl.getD Q 0 = z := ⟨_, rfl⟩
    rw [hz] at HPut hcell
    obtain ⟨wo, hwo⟩ : ∃ wo, wo = wr := ⟨_, rfl⟩
    subst hwo
    obtain ⟨W, hW, HWp⟩ := pc_boxed wo ⟨Q, F, N⟩
    have c0 : W.cell? ⟨wo.heap.size, 0, none⟩ = some (.int .i64 Q) := HWp.out.1.c0
    have c1 : W.cell? ⟨wo.heap.size, 1, none⟩ = some (.int .i64 F) := HWp.out.1.c1
    have c2 : W.cell? ⟨wo.heap.size, 2, none⟩ = some (.int .i64 N) := HWp.out.1.c2
    have hBW := below_more H.out.below HWp.out.2
    have hcz : ∀ x, Below w.heap.size w x -> x.cell? ⟨bb, of + Q, none⟩ = some (.int .u64 z) := fun x hx => by
     obtain ⟨_, _, e, _, hc2⟩ := ru_some (HV.out _ hx) (by rw [HLw.out]; have := HLw.out; omega)
     cases e
     rw [<- hz]; exact hc2 Q (by omega)
    have i0 : (0 : Int) <= (k : Int) := by omega
    have i1 : (k : Int) < (P.length : Int) := by omega
    have i2 : ¬ (k : Int) < 0 := by omega
    have i3 : IntKind.i64.wrap ((k : Int) + 1) = ((k + 1 : Nat) : Int) := by rw [show (k : Int) + 1 = ((k + 1 : Nat) : Int) by omega]; exact i64_nat _ (by have := HP.out; omega)
    have i4 : IntKind.i64.wrap ((Dn : Int) + (N : Int)) = (E : Int) := by rw [show (Dn : Int) + (N : Int) = (E : Int) by omega]; exact i64_nat _ (by omega)
    have q0 : (0 : Int) <= (Q : Int) := by omega
    have q1 : (Q : Int) < (Lw : Int) := by have := HLw.out; omega
    have q2 : ¬ (Q : Int) < 0 := by omega
    have hcc := HC.out
    rw [HNn.out] at hcc
    have s1 : (Dn : Int) <= (E : Int) := by omega
    have s2 : (E : Int) <= (n : Int) := by omega
    have s3 : (Dn : Int) <= (cu : Int) := by omega
    have s4 : (E : Int) <= (cu : Int) := by omega
    have s5 : ¬ cu = 0 := by omega
    have s6 : ¬ cu = Dn := by omega
    have HB := jz hBW
    have HO := jz (OL.below HWp.out.2)
    have HPv := jz HWp.out.1
    have HE := jz EW
    have HA := jz (And.intro hge (And.intro hsum (And.intro k1 (And.intro k2 (And.intro hDn (And.intro hE (And.intro hLl (And.intro hL2 k4))))))))
    have HD := jz hdr
    have HK := jz hlt
    have hlen : Hid (L.length + [(⟨(Q : Int), Y⟩ : Ed)].length <= 4000) := jz (by simp only [List.length_singleton]; omega)
    have HNe : Hid (lv.ownBlock ≠ some wo.heap.size) := jz fun e => by have := OL.lt _ e; omega
    have HWf : Hid (Ed.Wf ⟨(Q : Int), Y⟩) := jz (Ed.wf_of (by simp only; omega) (by simp only; omega) EW.1.1 (by have := EW.1.2; simp only; omega))
    rw [hDn]
    clear hx hb hQ hF hN hge hsum hL1 hL2 hL3 hlt hk hm0 hg1 hdr k1 k2 k3 hE HWp H EW hY hz hcell hwz hBW hcc OL EL hLl hoD hDn hQL hc
    have DD := jz ((below_more D1.out HB.out).drew)
    have CZ : Hid (∀ x, Below w.heap.size w x -> x.cell? ⟨bb, of + Q, none⟩ = some (.int .u64 z)) := jz hcz
    have SF : Hid (∀ x, Below W.heap.size W x -> x.cell? ⟨wo.heap.size, 0, none⟩ = some (.int .i64 Q) /\ x.cell? ⟨wo.heap.size, 1, none⟩ = some (.int .i64 F) /\ x.cell? ⟨wo.heap.size, 2, none⟩ = some (.int .i64 N) /\ x.cell? ⟨bb, of + Q, none⟩ = some (.int .u64 z)) := jz fun x hx => ⟨(HPv.out.below hx).c0, (HPv.out.below hx).c1, (HPv.out.below hx).c2, CZ.out x (below_more D1.out (below_more HB.out hx))⟩
    clear hcz
    go_wp2_with fail
    go_region_held3 (fun x => x.cell? ⟨wo.heap.size, 0, none⟩ = some (.int .i64 Q) /\ x.cell? ⟨wo.heap.size, 1, none⟩ = some (.int .i64 F) /\ x.cell? ⟨wo.heap.size, 2, none⟩ = some (.int .i64 N) /\ x.cell? ⟨bb, of + Q, none⟩ = some (.int .u64 z))
     (first
       | exact SG.out
       | exact SF.out _ (Below.refl _ _).drew
       | exact SF.out _ BQ.out
       | exact SF.out _ (bal BQ.out))
     (first
     | (refine step_ed (o := ⟨some 47, _, _, _, _, _⟩) rfl (.tmp 27) (.tmp 46) rfl w1.heap.size _ L (by simp [Act.eval]) OQ.out (.slice (some ⟨wq.heap.size, 0, none⟩) 1 1) [⟨(Q : Int), Y⟩] (by simp [Act.eval]) RQ.out hlen.out BW.out.size ?_
        intro vb wb ob gb _
        have OB := jz ob
        have GB := jz (below_app BW.out BW.out.size OQ.out gb)
        have VB : Hid (Pv wb wo.heap.size ⟨Q, F, N⟩) := jz ((gb.block _ VQ.out.lt (fun e => HNe.out e.symm)).trans VQ.out)
        have SG := jz (And.intro VB.out.c0 (And.intro VB.out.c1 (And.intro VB.out.c2 (CZ.out _ (below_more D1.out GB.out)))))
        clear ob gb)
     | (go_at_call 170; refine (HPut.out _ DD.out).mono ?_; rintro e wq ⟨rfl, bq⟩
        have BQ := jz (show Below W.heap.size W wq from ((Below.refl _ _).drew).trans bq)
        have OQ := jz (HO.out.below (bal (o := .cells (ec ⟨(Q : Int), Y⟩) 195) BQ.out))
        have RQ := jz (ed_one wq HWf.out).ra
        have BW := jz (below_more HB.out (bal (o := .cells (ec ⟨(Q : Int), Y⟩) 195) BQ.out))
        have VQ := jz (HPv.out.below (bal (o := .cells (ec ⟨(Q : Int), Y⟩) 195) BQ.out))
        clear bq))
    have d2 : wb.cell? ⟨wo.heap.size, 2, none⟩ = some (.int .i64 N) := VB.out.c2
    have HN : Hid (Eb wl bl o w1 wb vb (k + 1) (a + N) (m - N) /\ E = a + N - o) := jz (by
     obtain ⟨g1, g2, g3, g4, g5, g6, g7, g8, g9⟩ := HA.out
     refine ⟨⟨by rw [HNn.out]; omega, by omega, by rcases g9 with g9 | g9; exact .inr (.inr (by omega)); exact .inr (.inl g9), by rw [HNn.out, HPe.out]; exact HD.out, ⟨_, OB.out, ?_, by rw [List.length_append, List.length_singleton]; omega⟩, GB.out⟩, by omega⟩
     have := HE.out.2
     rw [show a + N - o = E by omega]
     exact this)
    go_wp2
    exact ⟨⟨k + 1, a + N, m - N, _, by have := HK.out; omega, by go_num, by rw [HN.out.2], rfl, HN.out.1 |> jz⟩, by have := HK.out; simp [intOf]; omega⟩
  . obtain rfl : k = P.length := by omega
    have h0 := H.out.rest
    have hm : m = 0 := by
     rw [HNn.out, HPe.out, List.drop_length] at h0
     rcases Nat.eq_zero_or_pos m with h | h
     . exact h
     . rw [pcs_more (by omega)] at h0; cases h0
    subst hm
    have ha : a - o = n := by have := H.out.sum; rw [HNn.out] at this; omega
    have HR := jz (And.intro H.out.own H.out.below)
    rw [ha] at HR ⊢
    clear h0 ha H
    go_wp2
    go_ret2
    obtain ⟨⟨L, r1, r2, _⟩, r3⟩ := HR.out
    exact ⟨⟨_, L, rfl, r1.mono D1.out.size, r2⟩, below_more D1.out r3⟩
theorem edits_no (o : Int) (bn L c d : Nat) (p q : Option Addr) (_ : -9223372036854775808 <= o /\ o <= 9223372036854775807) (h : ¬ InB L o bn) (hL : L <= 1000) (hbn : bn <= 100000) (w : World) :
 Calls Tryz.prog 144 #[.slice p L c, .int .i64 o, .slice q bn d] w fun e w' => e = .returned (.tuple #[.slice none 0 0, .bool false]) /\ w = w' := by
 have C := jz (withinb_no o bn L c p (by omega) h hL w)
 clear h hL hbn
 go_enter Tryz.func144, Tryz.ntmps144
 go_wp2_with fail
 refine (C.out).mono ?_; rintro e w' ⟨rfl, rfl⟩
 go_wp2_with fail
 go_ret2
 exact ⟨rfl, rfl⟩
def Tells (wl bl : List Int) (o : Int) (L : List Ed) : Prop := if InB wl.length o bl.length then IsE wl o.toNat bl.length (fun k => bl.getD k 0) L else L = []
theorem Tells.one {wl bl : List Int} {o : Int} {L L' : List Ed} (h : Tells wl bl o L) (h' : Tells wl bl o L') : L = L' := by
 unfold Tells at h h'
 split at h
 . rename_i hi
   rw [if_pos hi] at h'
   exact h.one h' fun _ _ => rfl
 . rename_i hi
   rw [if_neg hi] at h'
   rw [h, h']
theorem edits_is (wl bl : List Int) (v u : Value) (o : Int) (w : World) (hv : RU w v wl) (hu : RA byE w u bl) (hw : ∀ x ∈ wl, Wd x) (ho : -9223372036854775808 <= o /\ o <= 9223372036854775807) (hL : wl.length <= 1000) (hbn : bl.length <= 100000) :
 Calls Tryz.prog 144 #[v, .int .i64 o, u] w fun e w' => (∃ x L, e = .returned (.tuple #[x, .bool (decide (InB wl.length o bl.length))]) /\ OwnA edE w.heap.size w' x L /\ Tells wl bl o L) /\ Below w.heap.size w w' := by
 unfold Tells
 by_cases h : InB wl.length o bl.length
 . rw [decide_eq_true h]
   obtain ⟨a, b, rfl, hb, h1, h2⟩ := h.nat
   have eb : bl.length = b := by omega
   refine (edits_yes wl bl v u a w hv hu hw hL (by omega) (by omega)).mono fun e w' ⟨⟨x, L, r1, r2, r3⟩, r4⟩ => ⟨⟨x, L, r1, r2, ?_⟩, r4⟩
   rw [if_pos h, Int.toNat_natCast]
   exact r3
 . rw [decide_eq_false h]
   obtain ⟨p, cap, rfl, _, _, _⟩ := id hv
   obtain ⟨q, d, rfl, _, _⟩ := ra_shape hu
   exact (edits_no o bl.length _ cap d p q ho h hL hbn w).mono fun e w' ⟨h1, h2⟩ => ⟨⟨_, [], h1, own_nil_a _ _ _, by rw [if_neg h]⟩, h2 ▸ Below.refl _ _⟩
theorem own_nil_e (B : Nat) (w : World) : OwnA edE B w (.slice none 0 0) [] := own_nil_a _ _ _
theorem blk_ld {w : World} {v : Value} {l : List Bk} (h : RA blkE w v l) {d : Nat} (hd : d < l.length) : ∃ b off c, v = .slice (some ⟨b, off, none⟩) l.length c /\ (blkLoad (.pointer (some ⟨b, off + d * 3, none⟩))).run Tryz.prog w = .ok (.agg (bc (l.getD d default))) w ∧
 w.cell? ⟨b, off + d * 3, none⟩ = some (.int .i64 (l.getD d default).a) /\ w.cell? ⟨b, off + d * 3 + 1, none⟩ = some (.int .i64 (l.getD d default).s) := by
 obtain ⟨p, c, rfl, _, _⟩ := ra_shape h
 obtain ⟨b, off, rfl, _, hx⟩ := blk_at h (by omega)
 exact ⟨b, off, c, rfl, (hx d hd).1, (hx d hd).2.1, (hx d hd).2.2.1⟩
theorem wd_ok {wl : List Int} (h : WordsOk wl) : ∀ x ∈ wl, Wd x := fun x hx => by
 obtain ⟨j, hj, rfl⟩ := List.getElem_of_mem hx
 have := h j hj
 rw [List.getD_eq_getElem?_getD, List.getElem?_eq_getElem hj] at this
 exact ⟨this.1, by have := this.2; simp only [Option.getD_some] at this; omega⟩
theorem al_is (wl : List Int) (n : Int) (cs : List Int) (v u : Value) (w : World) (hv : RU w v wl) (hl : wl.length <= 1000) (hw : WordsOk wl) (hu : RI w u cs) :
 Calls Tryz.prog 118 #[v, .int .i64 n, u] w fun e w' => (∃ x, e = .returned (.tuple #[x, .int .i64 (alR wl n cs).2.1, .int .i64 (alR wl n cs).2.2]) /\ OwnA edE w.heap.size w' x (alR wl n cs).1) /\ Below w.heap.size w w' := by
 have C0 := jz (need_is n w)
 unfold alR
 obtain ⟨N, hN⟩ : ∃ N, needN n = N := ⟨_, rfl⟩
 rw [hN] at C0 ⊢
 by_cases h0 : N = 0
 . rw [if_pos h0]
   have e0 : (N == 0) = true := by rw [h0]; rfl
   clear h0 hv hl hw hu hN
   go_enter Tryz.func118, Tryz.ntmps118
   go_wp2_with fail
   refine (C0.out).mono ?_; rintro e w1 ⟨rfl, rfl⟩
   go_wp2
   go_ret3
   exact ⟨⟨_, rfl, own_nil_e _ _⟩, Below.refl _ _⟩
 . rw [if_neg h0]
   have e0 : (N == 0) = false := beq_eq_false_iff_ne.2 h0
   have hN2 : 2 <= N := by
    unfold needN at hN
    split at hN <;> omega
   cases hB : blkF wl with
   | none =>
     have T := jz (blocks_is wl v none w hv hl hw hB)
     clear h0 hv hl hw hu hN hB hN2
     simp only [Option.isSome_none, Option.getD_none] at T ⊢
     go_enter Tryz.func118, Tryz.ntmps118
     go_wp2_with fail
     refine (C0.out).mono ?_; rintro e w1 ⟨rfl, rfl⟩
     go_wp2_with fail
     refine (T.out).mono ?_; rintro e w1 ⟨⟨v1, rfl, _⟩, b1⟩
     go_wp2
     go_ret3
     exact ⟨⟨_, rfl, own_nil_e _ _⟩, b1⟩
   | some l =>
     have T := jz (blocks_is wl v (some l) w hv hl hw hB)
     obtain ⟨hlen, _⟩ := blkF_len hB
     have hm := blkF_some hB
     have HU := jz (fun (w' : World) (hb : Below w.heap.size w w') => ri_below hu hb)
     simp only [Option.isSome_some, Option.getD_some] at T ⊢
     cases hR : chN N cs l with
     | none =>
       have CC := jz (fun (v1 : Value) (w' : World) (h : RA blkE w' v1 l) (hb : Below w.heap.size w w') => choose_is N cs l v1 u none w' h (HU.out w' hb) (by omega) hR)
       simp only [oi] at CC ⊢
       obtain ⟨y, hy⟩ : ∃ y : Int, (-1 : Int) = y := ⟨_, rfl⟩
       have e1 : (y == -1) = true := by rw [<- hy]; rfl
       rw [hy] at CC
       clear h0 hv hl hw hu hN hB hN2 hlen hm hR hy
       go_enter Tryz.func118, Tryz.ntmps118
       go_wp2_with fail
       refine (C0.out).mono ?_; rintro e w1 ⟨rfl, rfl⟩
       go_wp2_with fail
       refine (T.out).mono ?_; rintro e w1 ⟨⟨v1, rfl, o1⟩, b1⟩
       have D1 := jz b1
       have O1 := jz o1.ra
       clear o1 b1 T
       go_wp2_with fail
       refine (CC.out _ _ O1.out D1.out).mono ?_; rintro e w2 ⟨rfl, b2⟩
       have D2 := jz (below_more D1.out b2)
       clear b2 CC
       go_wp2
       go_ret3
       exact ⟨⟨_, rfl, own_nil_e _ _⟩, D2.out⟩
     | some d =>
       have CC := jz (fun (v1 : Value) (w' : World) (h : RA blkE w' v1 l) (hb : Below w.heap.size w w') => choose_is N cs l v1 u (some d) w' h (HU.out w' hb) (by omega) hR)
       obtain ⟨hd, hcan, _, _, _⟩ := chN_can hm hR hN2
       have CE := jz (fun (v1 : Value) (w' : World) (h : RA blkE w' v1 l) => cedits_is l d N v1 w' h (by omega))
       have LD := jz (fun (v1 : Value) (w' : World) (h : RA blkE w' v1 l) => blk_ld h hd)
       simp only [oi] at CC ⊢
       have CO := jz (fun w' => off_is (l.getD d default) (offB (atL l d)) rfl w')
       have e1 : ((d : Int) == -1) = false := beq_eq_false_iff_ne.2 (by omega)
       have i0 : (d : Int) < (l.length : Int) := by omega
       have i1 : ¬ (d : Int) < 0 := by omega
       have i2 : (0 : Int) <= (d : Int) := by omega
       have HB0 : Hid (w.heap.size <= w.heap.size) := jz (Nat.le_refl _)
       generalize offB (atL l d) = x at *
       generalize cedF l d N = E at *
       clear h0 hv hl hw hu hN hB hN2 hlen hm hR hd hcan
       go_enter Tryz.func118, Tryz.ntmps118
       go_wp2_with fail
       refine (C0.out).mono ?_; rintro e w1 ⟨rfl, rfl⟩
       go_wp2_with fail
       refine (T.out).mono ?_; rintro e w1 ⟨⟨v1, rfl, o1⟩, b1⟩
       have D1 := jz b1
       have O1 := jz o1.ra
       clear o1 b1 T
       go_wp2_with fail
       refine (CC.out _ _ O1.out D1.out).mono ?_; rintro e w2 ⟨rfl, b2⟩
       have D2 := jz (below_more D1.out b2)
       have O2 := jz (ra_below O1.out b2)
       obtain ⟨b, off, c1, rfl, _, _⟩ := LD.out _ _ O2.out
       have ld : ∀ w', Below w2.heap.size w2 w' -> (blkLoad (.pointer (some ⟨b, off + d * 3, none⟩))).run Tryz.prog w' = .ok (.agg (bc (l.getD d default))) w' := fun w' hb => by
        obtain ⟨_, _, _, e, hx, _⟩ := LD.out _ _ (ra_below O2.out hb)
        cases e
        exact hx
       have HO2 := jz (fun w' (hb : Below w2.heap.size w2 w') => ra_below O2.out hb)
       clear b2 CC LD O1 O2
       generalize l.getD d default = X at *
       generalize l.length = L at *
       go_wp2_with fail
       go_region_held3 (fun w' => Below w2.heap.size w2 w')
        (first | assumption | exact (Below.refl _ _).drew | exact below_more ‹Below w2.heap.size w2 _› hby | exact below_more ‹Below w2.heap.size w2 _› hbq)
        (first
          | (go_at_call 149; refine (CE.out _ _ (HO2.out _ (by assumption))).mono ?_; rintro e wy ⟨⟨ue, rfl, oe⟩, hby⟩
             have OE := jz oe
             clear oe)
          | (go_at_call 74; refine (CO.out _).mono ?_; rintro e wq ⟨rfl, hbq⟩))
       go_wp2
       go_ret3
       exact ⟨⟨_, rfl, (OE.out.below hbq).mono (show w.heap.size <= w2.heap.size from D2.out.size)⟩, below_more D2.out (by assumption)⟩
theorem fr_is (wl : List Int) (o : Int) (v : Value) (w : World) (hv : RU w v wl) (hl : wl.length <= 1000) (hw : WordsOk wl) :
 Calls Tryz.prog 121 #[v, .int .i64 o] w fun e w' => (∃ x, e = .returned (.tuple #[x, .int .i64 (frR wl o).2]) /\ OwnA edE w.heap.size w' x (frR wl o).1) /\ Below w.heap.size w w' := by
 unfold frR
 cases hB : blkF wl with
 | none =>
   have T := jz (blocks_is wl v none w hv hl hw hB)
   clear hv hl hw hB
   simp only [Option.isSome_none, Option.getD_none] at T ⊢
   go_enter Tryz.func121, Tryz.ntmps121
   go_wp2_with fail
   refine (T.out).mono ?_; rintro e w1 ⟨⟨v1, rfl, _⟩, b1⟩
   go_wp2
   go_ret2
   exact ⟨⟨_, rfl, own_nil_e _ _⟩, b1⟩
 | some l =>
   have T := jz (blocks_is wl v (some l) w hv hl hw hB)
   obtain ⟨hlen, _⟩ := blkF_len hB
   simp only [Option.isSome_some, Option.getD_some] at T ⊢
   cases hR : isN o l with
   | none =>
     have CU := jz (fun (v1 : Value) (w' : World) (h : RA blkE w' v1 l) => used_is o l v1 none w' h hR)
     have CM := jz (fun (v1 : Value) (w' : World) (h : RA blkE w' v1 l) => medit_is l (-1) v1 w' h (by omega) false (canM_neg l))
     rw [medF_no (canM_neg l)] at CM
     simp only [oi] at CU ⊢
     obtain ⟨y, hy⟩ : ∃ y : Int, (-1 : Int) = y := ⟨_, rfl⟩
     rw [hy] at CU CM
     clear hv hl hw hB hlen hR hy
     go_enter Tryz.func121, Tryz.ntmps121
     go_wp2_with fail
     refine (T.out).mono ?_; rintro e w1 ⟨⟨v1, rfl, o1⟩, b1⟩
     have D1 := jz b1
     have O1 := jz o1.ra
     clear o1 b1 T
     go_wp2_with fail
     refine (CU.out _ _ O1.out).mono ?_; rintro e w2 ⟨rfl, b2⟩
     have D2 := jz (below_more D1.out b2)
     have O2 := jz (ra_below O1.out b2)
     clear b2 CU
     go_wp2_with fail
     refine (CM.out _ _ O2.out).mono ?_; rintro e w3 ⟨rfl, b3⟩
     have D3 := jz (below_more D2.out b3)
     clear b3 CM
     obtain ⟨W, hW, HW⟩ := ed_boxed w3 ⟨0, 0⟩
     have D4 := jz (below_more D3.out HW.out.2)
     go_wp2
     go_ret2
     exact ⟨⟨_, rfl, own_nil_e _ _⟩, D4.out⟩
   | some k =>
     have CU := jz (fun (v1 : Value) (w' : World) (h : RA blkE w' v1 l) => used_is o l v1 (some k) w' h hR)
     have hcan := isN_can hB hR
     have CM := jz (fun (v1 : Value) (w' : World) (h : RA blkE w' v1 l) => medit_is l k v1 w' h (by omega) true hcan)
     have hwf : Hid (medF l k).Wf := jz (by
      rw [medF_yes hcan]
      obtain ⟨g1, g2, g3⟩ := one_in (blkF_some hB) hcan
      obtain ⟨_, h5, _⟩ := (mayL_yes.1 (blkF_some hB)).1
      have := hdB_in (oneB l k).s false
      obtain ⟨g4, _⟩ := g1
      exact Ed.wf_of (by simp only; omega) (by simp only; omega) this.1 this.2)
     simp only [oi] at CU ⊢
     generalize medF l k = E at *
     clear hv hl hw hB hlen hR hcan
     go_enter Tryz.func121, Tryz.ntmps121
     go_wp2_with fail
     refine (T.out).mono ?_; rintro e w1 ⟨⟨v1, rfl, o1⟩, b1⟩
     have D1 := jz b1
     have O1 := jz o1.ra
     clear o1 b1 T
     go_wp2_with fail
     refine (CU.out _ _ O1.out).mono ?_; rintro e w2 ⟨rfl, b2⟩
     have D2 := jz (below_more D1.out b2)
     have O2 := jz (ra_below O1.out b2)
     clear b2 CU
     go_wp2_with fail
     refine (CM.out _ _ O2.out).mono ?_; rintro e w3 ⟨rfl, b3⟩
     have D3 := jz (below_more D2.out b3)
     clear b3 CM
     obtain ⟨W, hW, HW⟩ := ed_boxed w3 E
     have D4 := jz (below_more D3.out HW.out.2)
     have ld := HW.out.1.load
     obtain ⟨V, hV⟩ : ∃ V, W.alloc (.cells (ec E) 195) = V := ⟨_, rfl⟩
     have HV : Hid (OwnA edE W.heap.size V (.slice (some ⟨W.heap.size, 0, none⟩) 1 1) [E] /\ Below W.heap.size W V) := jz ⟨by rw [<- hV]; exact ed_one W hwf.out, by rw [<- hV]; exact bal (Below.refl _ _)⟩
     go_wp2
     go_ret2
     exact ⟨⟨_, rfl, HV.out.1.mono (Nat.le_trans D3.out.size HW.out.2.size)⟩, below_more D4.out HV.out.2⟩
def rdR (wl : List Int) (o n : Int) : List Int := if refF wl o n = 0 then rdL wl o n else []
def WrT (wl bl : List Int) (o : Int) (L : List Ed) : Prop := if refF wl o bl.length = 0 then Tells wl bl o L else L = []
theorem WrT.one {wl bl : List Int} {o : Int} {L L' : List Ed} (h : WrT wl bl o L) (h' : WrT wl bl o L') : L = L' := by
 unfold WrT at h h'
 split at h
 . rename_i c
   rw [if_pos c] at h'
   exact h.one h'
 . rename_i c
   rw [if_neg c] at h'
   rw [h, h']
theorem own_nil_by (B : Nat) (w : World) : OwnA byE B w (.slice none 0 0) [] := own_nil_a _ _ _
theorem rd_is (wl : List Int) (o n : Int) (v : Value) (w : World) (hv : RU w v wl) (hl : wl.length <= 1000) (hw : WordsOk wl) (hn : -9223372036854775808 <= n /\ n <= 9223372036854775807) :
 Calls Tryz.prog 78 #[v, .int .i64 o, .int .i64 n] w fun e w' => (∃ x, e = .returned (.tuple #[x, .int .i64 (refF wl o n)]) /\ OwnA byE w.heap.size w' x (rdR wl o n)) /\ Below w.heap.size w w' := by
 have C := jz (ref_is wl o n v w hv hl hw)
 have CR := jz (fun (w' : World) (hb : Below w.heap.size w w') => read_is wl v o n w' (ru_below hv hb) (wd_ok hw) hn hl)
 unfold rdR
 obtain ⟨r, hr⟩ : ∃ r, refF wl o n = r := ⟨_, rfl⟩
 rw [hr] at C ⊢
 clear hv hl hw hn
 by_cases h0 : r = 0
 . rw [if_pos h0]
   subst h0
   generalize rdL wl o n = B at *
   go_enter Tryz.func78, Tryz.ntmps78
   go_wp2_with fail
   refine (C.out).mono ?_; rintro e w1 ⟨rfl, b1⟩
   have D1 := jz b1
   clear b1 C
   go_wp2_with fail
   refine (CR.out _ D1.out).mono ?_; rintro e w2 ⟨⟨x, rfl, ox⟩, b2⟩
   have D2 := jz (below_more D1.out b2)
   have OX := jz (ox.mono D1.out.size)
   clear b2 CR ox
   go_wp2
   go_ret2
   exact ⟨⟨_, rfl, OX.out⟩, D2.out⟩
 . rw [if_neg h0]
   have e0 : (r != 0) = true := bne_iff_ne.2 h0
   have e1 : (r == 0) = false := beq_eq_false_iff_ne.2 h0
   clear h0
   go_enter Tryz.func78, Tryz.ntmps78
   go_wp2_with fail
   refine (C.out).mono ?_; rintro e w1 ⟨rfl, b1⟩
   go_wp2
   go_ret2
   exact ⟨⟨_, rfl, own_nil_by _ _⟩, b1⟩
theorem wr_is (wl bl : List Int) (o : Int) (v u : Value) (w : World) (hv : RU w v wl) (hu : RA byE w u bl) (hl : wl.length <= 1000) (hbl : bl.length <= 100000) (hw : WordsOk wl) (ho : -9223372036854775808 <= o /\ o <= 9223372036854775807) :
 Calls Tryz.prog 123 #[v, .int .i64 o, u] w fun e w' => (∃ x L, e = .returned (.tuple #[x, .int .i64 (refF wl o bl.length)]) /\ OwnA edE w.heap.size w' x L /\ WrT wl bl o L) /\ Below w.heap.size w w' := by
 have C := jz (ref_is wl o bl.length v w hv hl hw)
 have CR := jz (fun (w' : World) (hb : Below w.heap.size w w') => edits_is wl bl v u o w' (ru_below hv hb) (ra_below hu hb) (wd_ok hw) ho hl hbl)
 have HT : Hid ((∀ X, refF wl o bl.length = 0 -> Tells wl bl o X -> WrT wl bl o X) /\ (refF wl o bl.length ≠ 0 -> WrT wl bl o [])) := jz ⟨fun X h0 h => by unfold WrT; rw [if_pos h0]; exact h, fun h0 => by unfold WrT; rw [if_neg h0]⟩
 obtain ⟨r, hr⟩ : ∃ r, refF wl o bl.length = r := ⟨_, rfl⟩
 rw [hr] at C HT ⊢
 obtain ⟨p, c, rfl, _, _⟩ := ra_shape hu
 clear hv hl hw ho hu hbl
 generalize bl.length = L at *
 by_cases h0 : r = 0
 . have HT1 := jz (fun X => HT.out.1 X h0)
   clear HT
   subst h0
   go_enter Tryz.func123, Tryz.ntmps123
   go_wp2_with fail
   refine (C.out).mono ?_; rintro e w1 ⟨rfl, b1⟩
   have D1 := jz b1
   clear b1 C
   go_wp2_with fail
   refine (CR.out _ D1.out).mono ?_; rintro e w2 ⟨⟨x, X, rfl, ox, tx⟩, b2⟩
   have D2 := jz (below_more D1.out b2)
   have OX := jz (And.intro (ox.mono D1.out.size) tx)
   clear b2 CR ox tx
   go_wp2
   go_ret2
   exact ⟨⟨_, X, rfl, OX.out.1, HT1.out X OX.out.2⟩, D2.out⟩
 . have HT1 := jz (HT.out.2 h0)
   clear HT
   have e0 : (r != 0) = true := bne_iff_ne.2 h0
   have e1 : (r == 0) = false := beq_eq_false_iff_ne.2 h0
   clear h0 CR
   go_enter Tryz.func123, Tryz.ntmps123
   go_wp2_with fail
   refine (C.out).mono ?_; rintro e w1 ⟨rfl, b1⟩
   go_wp2
   go_ret2
   exact ⟨⟨_, [], rfl, own_nil_e _ _, HT1.out⟩, b1⟩
def isB (wl : List Int) (o : Int) : Bool := match blkF wl with
 | none => false
 | some l => (isN o l).isSome
theorem is_is (wl : List Int) (o : Int) (v : Value) (w : World) (hv : RU w v wl) (hl : wl.length <= 1000) (hw : WordsOk wl) :
 Calls Tryz.prog 103 #[v, .int .i64 o] w fun e w' => e = .returned (.bool (isB wl o)) /\ Below w.heap.size w w' := by
 have T := jz (blocks_is wl v (blkF wl) w hv hl hw rfl)
 obtain ⟨R, hR⟩ : ∃ R, isN o ((blkF wl).getD []) = R := ⟨_, rfl⟩
 have hb : isB wl o = (oi R != -1) := by
  unfold isB
  rw [<- hR]
  cases blkF wl with
  | none => rfl
  | some l =>
    simp only [Option.getD_some]
    cases isN o l with
    | none => rfl
    | some k => simp [oi]
 rw [hb]
 have CU := jz (fun (v1 : Value) (w' : World) (h : RA blkE w' v1 ((blkF wl).getD [])) => used_is o _ v1 R w' h hR)
 clear hv hl hw hR hb
 generalize (blkF wl).getD [] = l at *
 generalize (blkF wl).isSome = b at *
 generalize oi R = y at *
 go_enter Tryz.func103, Tryz.ntmps103
 go_wp2_with fail
 refine (T.out).mono ?_; rintro e w1 ⟨⟨v1, rfl, o1⟩, b1⟩
 have D1 := jz b1
 have O1 := jz o1.ra
 clear o1 b1 T
 go_wp2_with fail
 refine (CU.out _ _ O1.out).mono ?_; rintro e w2 ⟨rfl, b2⟩
 have D2 := jz (below_more D1.out b2)
 clear b2 CU
 go_wp2
 go_ret
 exact ⟨rfl, D2.out⟩
def usd (l : List Bk) : List Bk := l.filter (·.u)
theorem usd_app (p q : List Bk) : usd (p ++ q) = usd p ++ usd q := List.filter_append ..
theorem usd_yes {b : Bk} (h : b.u = true) (r : List Bk) : usd (b :: r) = b :: usd r := List.filter_cons_of_pos h
theorem usd_no {b : Bk} (h : b.u = false) (r : List Bk) : usd (b :: r) = usd r := List.filter_cons_of_neg (by rw [h]; exact Bool.false_ne_true)
theorem usd_mem {l : List Bk} {b : Bk} : b ∈ usd l ↔ b ∈ l /\ b.u = true := List.mem_filter
theorem usd_len (l : List Bk) : (usd l).length <= l.length := List.length_filter_le ..
def btw (x y : Int) : List Bk := if x = y then [] else [⟨x, y - x, false⟩]
def bls (n : Int) : Int -> List Bk -> List Bk
 | e, [] => btw e n
 | e, b :: r => btw e b.a ++ b :: bls n (b.a + b.s) r
theorem btw_len (x y : Int) : (btw x y).length <= 1 := by unfold btw; split <;> simp
theorem bls_usd (n : Int) : ∀ l : List Bk, (∀ a z, mayF n a true l = true -> bls n z (usd l) = btw z a ++ l) /\ ∀ a, mayF n a false l = true -> bls n a (usd l) = l
 | [] => ⟨fun a z h => by
     rw [mayF_nil.1 h, List.append_nil]; rfl, fun a h => by
     rw [mayF_nil.1 h]
     show btw n n = []
     rw [btw, if_pos rfl]⟩
 | b :: r => by
   obtain ⟨i1, i2⟩ := bls_usd n r
   refine ⟨fun a z h => ?_, fun a h => ?_⟩
   . obtain ⟨h1, h2, h3, h4⟩ := mayF_cons.1 h
     have hu : b.u = true := by cases e : b.u <;> simp_all
     rw [hu] at h4
     rw [usd_yes hu, bls, h1, i2 _ h4]
   . obtain ⟨h1, h2, _, h4⟩ := mayF_cons.1 h
     cases hu : b.u
     . rw [hu] at h4
       rw [usd_no hu, i1 _ _ h4, btw, if_neg (by have := h2.1; omega)]
       obtain ⟨a', s, u⟩ := b
       simp only at h1 hu ⊢
       subst h1 hu
       rw [List.singleton_append]
       congr 2
       omega
     . rw [hu] at h4
       rw [usd_yes hu, bls, h1, i2 _ h4, btw, if_pos rfl, List.nil_append]
theorem bls_is {n : Int} {l : List Bk} (h : mayL n l = true) : bls n 0 (usd l) = l := (bls_usd n l).2 0 (mayL_yes.1 h).2
theorem usd_pair {n a : Int} : ∀ {l : List Bk} {f : Bool}, mayF n a f l = true -> l.Pairwise fun x y => x.a + x.s <= y.a := by
 intro l
 induction l generalizing a with
 | nil => intro f h; exact List.Pairwise.nil
 | cons b r ih =>
   intro f h
   exact List.pairwise_cons.2 ⟨mayF_behind (p := []) h, ih (mayF_cons.1 h).2.2.2⟩
theorem usd_apart {n : Int} {l : List Bk} (h : mayL n l = true) : (usd l).Pairwise fun x y => x.a + x.s <= y.a := (usd_pair (mayL_yes.1 h).2).filter _
theorem usd_in {n : Int} {l : List Bk} (h : mayL n l = true) {b : Bk} (hb : b ∈ usd l) : b ∈ l /\ b.u = true /\ 2 <= b.s /\ 0 <= b.a /\ b.a + b.s <= n /\ n <= 512 /\ offB b.a = (b.a + 1) * 8 := by
 obtain ⟨h1, h2⟩ := usd_mem.1 hb
 obtain ⟨hm, hf⟩ := mayL_yes.1 h
 obtain ⟨_, h5, _⟩ := hm
 obtain ⟨⟨g1, _⟩, g2, g3⟩ := mayF_sizes hf b h1
 exact ⟨h1, h2, g1, g2, g3, h5, offB_at g2 (by omega)⟩
def ixF (P : Bk -> Bool) : Nat -> List Bk -> Option Nat
 | _, [] => none
 | k, b :: r => if P b = true then some k else ixF P (k + 1) r
theorem ixF_some {P : Bk -> Bool} : ∀ {l : List Bk} {k j : Nat}, ixF P k l = some j -> k <= j /\ j - k < l.length /\ P (l.getD (j - k) default) = true
 | [], _, _, h => by cases h
 | b :: r, k, j, h => by
   rw [ixF] at h
   split at h
   . rename_i hb
     cases h
     simpa using hb
   . obtain ⟨h1, h2, h3⟩ := ixF_some h
     refine ⟨by omega, by rw [List.length_cons]; omega, ?_⟩
     rw [show j - k = (j - (k + 1)) + 1 by omega, List.getD_cons_succ]
     exact h3
theorem ixF_none {P : Bk -> Bool} : ∀ {l : List Bk} {k : Nat}, ixF P k l = none -> ∀ b ∈ l, P b = false
 | [], _, _, b, hb => by cases hb
 | c :: r, k, h, b, hb => by
   rw [ixF] at h
   split at h
   . cases h
   . rename_i hc
     rcases List.mem_cons.1 hb with rfl | hb
     . simpa using hc
     . exact ixF_none h b hb
theorem ixF_app {P : Bk -> Bool} {b : Bk} {q : List Bk} (hb : P b = true) : ∀ (p : List Bk) (k : Nat), (∀ x ∈ p, P x = false) -> ixF P k (p ++ b :: q) = some (k + p.length)
 | [], k, _ => by rw [List.nil_append, ixF, if_pos hb]; rfl
 | c :: p, k, h => by
   rw [List.cons_append, ixF, if_neg (by rw [h c (List.mem_cons_self ..)]; exact Bool.false_ne_true), ixF_app hb p (k + 1) fun x hx => h x (List.mem_cons_of_mem _ hx), List.length_cons]
   congr 1
   omega
theorem ixF_no {P : Bk -> Bool} : ∀ {l : List Bk} {k : Nat}, (∀ b ∈ l, P b = false) -> ixF P k l = none
 | [], _, _ => rfl
 | b :: r, k, h => by
   rw [ixF, if_neg (by rw [h b (List.mem_cons_self ..)]; exact Bool.false_ne_true)]
   exact ixF_no fun x hx => h x (List.mem_cons_of_mem _ hx)
def atO (o : Int) (b : Bk) : Bool := decide (offB b.a = o)
def inO (o n : Int) (b : Bk) : Bool := decide (offB b.a <= o /\ o <= (b.a + b.s) * 8 - n)
theorem usd_split {l : List Bk} {k : Nat} (hk : k < l.length) (hu : (l.getD k default).u = true) : usd l = usd (l.take k) ++ l.getD k default :: usd (l.drop (k + 1)) := by
 have := congrArg usd (getD_split hk)
 rwa [usd_app, usd_yes hu] at this
theorem ix_begins {n : Int} {l : List Bk} (h : mayL n l = true) {o : Int} : ixF (atO o) 0 (usd l) = (isN o l).map fun k => (usd (l.take k)).length := by
 cases e : isN o l with
 | none =>
   refine ixF_no fun b hb => ?_
   obtain ⟨h1, h2⟩ := usd_mem.1 hb
   have := isN_none e b h1
   unfold atO
   exact decide_eq_false fun q => this ⟨h2, q⟩
 | some k =>
   obtain ⟨h1, h2, h3⟩ := isN_some e
   have hs := usd_split h1 h2
   rw [hs, ixF_app (by unfold atO; exact decide_eq_true h3) _ _ fun x hx => ?_, Nat.zero_add]
   . rfl
   . have hp := usd_apart h
     rw [hs] at hp
     have hxx := (List.pairwise_append.1 hp).2.2 x hx _ (List.mem_cons_self ..)
     have g1 := usd_in h (show x ∈ usd l by rw [hs]; exact List.mem_append.2 (.inl hx))
     have g2 := usd_in h (show l.getD k default ∈ usd l by rw [hs]; exact List.mem_append.2 (.inr (List.mem_cons_self ..)))
     unfold atO
     refine decide_eq_false fun q => ?_
     rw [<- h3, g1.2.2.2.2.2.2, g2.2.2.2.2.2.2] at q
     omega
theorem ix_holds {l : List Bk} {o m : Int} (h0 : 0 <= m /\ m <= 448) : (ixF (inO o m) 0 (usd l)).isSome = inL o m l := by
 cases e : ixF (inO o m) 0 (usd l) with
 | none =>
   symm
   refine inL_no fun b hb hu => ?_
   have := ixF_none e b (usd_mem.2 ⟨hb, hu⟩)
   unfold inO at this
   exact of_decide_eq_false this
 | some j =>
   symm
   obtain ⟨_, h2, h3⟩ := ixF_some e
   rw [Nat.sub_zero] at h2 h3
   obtain ⟨g1, g2⟩ := usd_mem.1 (getD_mem h2)
   unfold inO at h3
   exact inL_yes.2 ⟨h0, _, g1, g2, of_decide_eq_true h3⟩
theorem usd_crv {n : Int} {l : List Bk} {d : Nat} {N : Int} (h : mayL n l = true) (hc : canC l d N = true) :
 ∃ j z t : Nat, (crvF l d N).getD d default = ⟨z, t, true⟩ /\ (l.getD d default).a = z /\ takN (l.getD d default).s N = t /\ j <= (usd l).length /\ usd (crvF l d N) = (usd l).take j ++ (⟨z, t, true⟩ :: (usd l).drop j) ∧
  (∀ i, i < j -> ((usd l).getD i default).a < z) /\ (j < (usd l).length -> (z : Int) < ((usd l).getD j default).a) := by
 obtain ⟨_, h0, h1, hu, hne⟩ := canC_yes.1 hc
 have hat := crv_at hc
 have hsp := bAt_split h0 h1
 have hcr : crvF l d N = l.take d ++ (prtB (l.getD d default) N ++ l.drop (d + 1)) := by
  rw [crvF, if_pos hc, bAt_nat, Int.toNat_natCast]
 rw [bAt_nat, bAt_nat] at hat
 rw [bAt_nat] at hsp hu hne
 rw [Int.toNat_natCast] at hsp
 have hd : d < l.length := by omega
 obtain ⟨⟨s1, s2⟩, s3, s4⟩ := at_in h hd
 obtain ⟨t1, t2, t3, _⟩ := takN_some hne
 obtain ⟨⟨a, s, u⟩, hb⟩ : ∃ b, l.getD d default = b := ⟨_, rfl⟩
 have hf := (mayL_yes.1 h).2
 rw [hb] at hsp hat hcr hu hne s1 s2 s3 s4 t2 t3 ⊢
 simp only at hat hu hne s1 s2 s3 s4 t2 t3 ⊢
 subst hu
 obtain ⟨z, rfl⟩ : ∃ z : Nat, a = z := ⟨a.toNat, by omega⟩
 obtain ⟨t, ht⟩ : ∃ t : Nat, takN s N = t := ⟨(takN s N).toNat, by omega⟩
 rw [ht] at hat
 have hul : usd l = usd (l.take d) ++ usd (l.drop (d + 1)) := by
  have := congrArg usd hsp
  rwa [usd_app, usd_no rfl] at this
 rw [hsp] at hf
 have ha := mayF_ahead hf
 have hbh := mayF_behind hf
 have hup : usd (prtB ⟨z, s, false⟩ N) = [⟨z, t, true⟩] := by
  unfold prtB
  simp only [ht]
  split
  . rename_i e
    rw [<- e]; rfl
  . rfl
 have hlen : (usd l).length = (usd (l.take d)).length + (usd (l.drop (d + 1))).length := by rw [hul, List.length_append]
 refine ⟨(usd (l.take d)).length, z, t, hat, rfl, ht, by omega, ?_, fun i hi => ?_, fun hj => ?_⟩
 . rw [hcr, usd_app, usd_app, hup, hul, List.take_left, List.drop_left]
   rfl
 . have hm : (usd l).getD i default ∈ usd (l.take d) := by
    rw [hul, List.getD_eq_getElem?_getD, List.getElem?_append_left hi, List.getElem?_eq_getElem hi]
    exact List.getElem_mem hi
   obtain ⟨g1, _⟩ := usd_mem.1 hm
   have := ha _ g1
   have := usd_in h (show (usd l).getD i default ∈ usd l from getD_mem (by omega))
   simp only at *
   omega
 . have hm : (usd l).getD (usd (l.take d)).length default ∈ usd (l.drop (d + 1)) := by
    rw [hul, List.getD_eq_getElem?_getD, List.getElem?_append_right (Nat.le_refl _), Nat.sub_self, List.getElem?_eq_getElem (by omega)]
    exact List.getElem_mem _
   obtain ⟨g1, _⟩ := usd_mem.1 hm
   have := hbh _ g1
   simp only at this
   omega
theorem usd_mrg {l : List Bk} {k : Nat} (hc : canM l k = true) :
 (usd (l.take k)).length < (usd l).length /\ (usd l).getD (usd (l.take k)).length default = l.getD k default /\ usd (mrgF l k) = (usd l).take (usd (l.take k)).length ++ (usd l).drop ((usd (l.take k)).length + 1) := by
 obtain ⟨_, hk, hu⟩ := canM_nat hc
 have hs := usd_split hk hu
 have hft := frm_too hk
 have h1 : usd (l.take k) = usd (l.take (frm l k)) := by
  rcases frm_or l k with ⟨e, _⟩ | ⟨h0, e, e2⟩
  . rw [e]
  . have : l.take k = l.take (frm l k) ++ [l.getD (k - 1) default] := by
     rw [e]
     obtain ⟨m, rfl⟩ : ∃ m, k = m + 1 := ⟨k - 1, by omega⟩
     rw [List.take_add_one, List.getElem?_eq_getElem (show m < l.length by omega), List.getD_eq_getElem?_getD, List.getElem?_eq_getElem (show m + 1 - 1 < l.length by omega)]
     rfl
    rw [this, usd_app, usd_no e2]
    simp [usd]
 have h2 : usd (l.drop (k + 1)) = usd (l.drop (too l k)) := by
  rcases too_or l k with ⟨e, _⟩ | ⟨h0, e, e2⟩
  . rw [e]
  . rw [e, getD_cut h0, usd_no e2]
 have hm : usd (mrgF l k) = usd (l.take (frm l k)) ++ usd (l.drop (too l k)) := by
  rw [mrgF_yes hc, usd_app, usd_no rfl]
 rw [hm, <- h1, <- h2, hs]
 refine ⟨by rw [List.length_append, List.length_cons]; omega, ?_, ?_⟩
 . rw [List.getD_eq_getElem?_getD, List.getElem?_append_right (Nat.le_refl _), Nat.sub_self]
   rfl
 . rw [List.take_left, List.drop_append]
   simp
def cut (wl : List Int) (b : Bk) : List Int := (wl.drop (b.a.toNat + 1)).take (b.s.toNat - 1)
theorem cut_len {wl : List Int} {b : Bk} (h1 : 0 <= b.a) (h2 : 2 <= b.s) (h3 : b.a + b.s <= wl.length) : (cut wl b).length = b.s.toNat - 1 := by
 unfold cut
 rw [List.length_take, List.length_drop]
 omega
theorem cut_get (wl : List Int) (b : Bk) (j : Nat) : (cut wl b)[j]? = if j < b.s.toNat - 1 then wl[b.a.toNat + 1 + j]? else none := by
 unfold cut
 rw [List.getElem?_take]
 split
 . rw [List.getElem?_drop]
 . rfl
theorem cut_same {X V : List Int} {b : Bk} (hl : V.length = X.length) (h0 : 0 <= b.a) (h : ∀ j : Nat, b.a < j -> (j : Int) < b.a + b.s -> V.getD j 0 = X.getD j 0) : cut V b = cut X b := by
 refine List.ext_getElem? fun i => ?_
 rw [cut_get, cut_get]
 split
 . have := h (b.a.toNat + 1 + i) (by omega) (by omega)
   rw [List.getD_eq_getElem?_getD, List.getD_eq_getElem?_getD] at this
   by_cases hi : b.a.toNat + 1 + i < X.length
   . rw [List.getElem?_eq_getElem hi, List.getElem?_eq_getElem (by omega)] at this ⊢
     simpa using this
   . rw [List.getElem?_eq_none (by omega), List.getElem?_eq_none (by omega)]
 . rfl
theorem cut_nul {V : List Int} {z t : Nat} (hl : z + t <= V.length) (h : ∀ j, z < j -> j < z + t -> V.getD j 0 = 0) : cut V ⟨z, t, true⟩ = List.replicate (t - 1) 0 := by
 refine List.ext_getElem? fun i => ?_
 rw [cut_get, List.getElem?_replicate]
 simp only [Int.toNat_natCast]
 split
 . have := h (z + 1 + i) (by omega) (by omega)
   rw [List.getD_eq_getElem?_getD, List.getElem?_eq_getElem (by omega)] at this
   rw [List.getElem?_eq_getElem (by omega)]
   simpa using this
 . rfl
theorem cut_byte {wl : List Int} {b : Bk} {p : Nat} (hp : p < 8 * (b.s.toNat - 1)) : bAt_ (cut wl b) p = bAt_ wl (8 * (b.a.toNat + 1) + p) := by
 unfold bAt_
 rw [List.getD_eq_getElem?_getD, cut_get, if_pos (by omega), <- List.getD_eq_getElem?_getD, show (8 * (b.a.toNat + 1) + p) / 8 = b.a.toNat + 1 + p / 8 by omega, show (8 * (b.a.toNat + 1) + p) % 8 = p % 8 by omega]
theorem cut_ok {wl : List Int} (h : WordsOk wl) (b : Bk) : WordsOk (cut wl b) := fun j hj => by
 have e := cut_get wl b j
 rw [List.getElem?_eq_getElem hj] at e
 rw [List.getD_eq_getElem?_getD, List.getElem?_eq_getElem hj, e]
 split
 . rename_i c
   rw [if_pos c] at e
   have hi : b.a.toNat + 1 + j < wl.length := by
    by_cases q : b.a.toNat + 1 + j < wl.length
    . exact q
    . rw [List.getElem?_eq_none (by omega)] at e; cases e
   rw [<- List.getD_eq_getElem?_getD]
   exact h _ hi
 . simp
theorem cut_read {wl : List Int} {b : Bk} {o n : Int} (h1 : 0 <= b.a) (h2 : 2 <= b.s) (h3 : b.a + b.s <= wl.length) (hn : 0 <= n /\ n <= 448) (ho : (b.a + 1) * 8 <= o /\ o <= (b.a + b.s) * 8 - n) :
 rdL (cut wl b) (o - (b.a + 1) * 8) n = rdL wl o n := by
 have hl := cut_len h1 h2 h3
 unfold rdL
 rw [if_pos ⟨by omega, by omega, by omega, by rw [hl]; omega⟩, if_pos ⟨by omega, by omega, by omega, by omega⟩]
 refine List.ext_getElem? fun i => ?_
 have key : ∀ (w : List Int) (n o k : Nat), (rdB w o n)[k]? = if k < n then some (bAt_ w (o + k)) else none := fun w n o k => by
  by_cases c : k < n
  . have := rdB_getD w n o k c
    rw [List.getD_eq_getElem?_getD, List.getElem?_eq_getElem (by rw [rdB_length]; exact c)] at this
    rw [if_pos c, List.getElem?_eq_getElem (by rw [rdB_length]; exact c)]
    simpa using this
  . rw [if_neg c, List.getElem?_eq_none (by rw [rdB_length]; omega)]
 rw [key, key]
 split
 . rw [cut_byte (by omega)]
   congr 2
   omega
 . rfl
def upE (d : Int) (L : List Ed) : List Ed := L.map fun e => ⟨e.w + d, e.v⟩
theorem cut_edits {wl : List Int} {b : Bk} (h1 : 0 <= b.a) {f n : Nat} {c : Nat -> Int} {L : List Ed} (h : IsE (cut wl b) f n c L) (hf : f + n <= 8 * (b.s.toNat - 1)) : IsE wl (8 * (b.a.toNat + 1) + f) n c (upE (b.a + 1) L) := by
 have hlen : (upE (b.a + 1) L).length = L.length := List.length_map ..
 have hcnt : cnt (8 * (b.a.toNat + 1) + f) n = cnt f n := by
  unfold cnt
  split <;> omega
 refine ⟨by rw [hlen, h.len, hcnt], fun j hj => ?_⟩
 rw [hlen] at hj
 obtain ⟨g1, g2, g3⟩ := h.at_ j hj
 have e : (upE (b.a + 1) L).getD j default = ⟨(L.getD j default).w + (b.a + 1), (L.getD j default).v⟩ := by
  unfold upE
  rw [List.getD_eq_getElem?_getD, List.getElem?_map, List.getD_eq_getElem?_getD, List.getElem?_eq_getElem hj]
  rfl
 rw [e]
 refine ⟨by simp only; rw [g1]; omega, g2, fun k hk => ?_⟩
 simp only
 rw [g3 k hk]
 have hlc := h.len
 have hin : 8 * (f / 8 + j) + k < 8 * (b.s.toNat - 1) := by
  unfold cnt at hlc
  split at hlc <;> omega
 unfold tgt
 rw [cut_byte hin, show 8 * ((8 * (b.a.toNat + 1) + f) / 8 + j) + k = 8 * (b.a.toNat + 1) + (8 * (f / 8 + j) + k) by omega]
 by_cases hc : f <= 8 * (f / 8 + j) + k /\ 8 * (f / 8 + j) + k < f + n
 . rw [if_pos hc, if_pos (by omega)]
   congr 1
   omega
 . rw [if_neg hc, if_neg (by omega)]
theorem cut_write {wl : List Int} {b : Bk} (h1 : 0 <= b.a) (h2 : 2 <= b.s) (h3 : b.a + b.s <= wl.length) (hok : WordsOk wl) {f n : Nat} {c : Nat -> Int} {L M : List Ed} (h : IsE (cut wl b) f n c L) (hM : IsE wl (8 * (b.a.toNat + 1) + f) n c M) (hf : f + n <= 8 * (b.s.toNat - 1)) :
 appF (cut wl b) L = cut (appF wl M) b := by
 have hl := cut_len h1 h2 h3
 have hl2 : (cut (appF wl M) b).length = b.s.toNat - 1 := cut_len h1 h2 (by rw [appF_length]; exact h3)
 obtain ⟨a1, a2⟩ := appF_isE h (wd_ok (cut_ok hok b)) (by omega)
 obtain ⟨b1, b2⟩ := appF_isE hM (wd_ok hok) (by omega)
 have hokV : WordsOk (appF wl M) := fun j hj => by
  have := b1 _ (List.getElem_mem hj)
  rw [List.getD_eq_getElem?_getD, List.getElem?_eq_getElem hj]
  exact ⟨this.1, by have := this.2; simp only [Option.getD_some]; omega⟩
 refine words_ext (by rw [appF_length, hl, hl2]) a1 (wd_ok (cut_ok hokV b)) fun p hp => ?_
 rw [appF_length, hl] at hp
 rw [a2 p (by omega), cut_byte hp, b2 _ (by omega), tgt, tgt, cut_byte hp]
 by_cases hc : f <= p /\ p < f + n
 . rw [if_pos hc, if_pos (by omega)]
   congr 1
   omega
 . rw [if_neg hc, if_neg (by omega)]
structure Ex where
 b : Bk
 v : Value
 ws : List Int
instance : Inhabited Ex := ⟨⟨default, .slice none 0 0, []⟩⟩
def Ex.cells (x : Ex) : List Value := [.int .i64 x.b.a, .int .i64 x.b.s, .bool x.b.u, x.v]
def xc (x : Ex) : Array Value := x.cells.toArray
structure Ex.Wf (x : Ex) : Prop where
 wb : x.b.Wf
 one : x.v.oneCell' = true
theorem info_ext : (Tryz.prog.info? 126).map (·.size) = some 4 := by kernel_rfl
def exE : Elm Tryz.prog Ex where
 t := 114
 e := 126
 size := 4
 bytes := 48
 z := .agg #[.int .i64 0, .int .i64 0, .bool false, .slice none 0 0]
 enc := Ex.cells
 ok := Ex.Wf
 ht := Tryz.underlying114
 hi := by kernel_rfl
 hzs := rfl
 pos := by decide
 bpos := by decide
 len := fun _ _ => rfl
 one := fun a ha u hu => by
  simp only [Ex.cells, List.mem_cons, List.not_mem_nil, or_false] at hu
  rcases hu with rfl | rfl | rfl | rfl
  . rfl
  . rfl
  . rfl
  . exact ha.one
def xrowE : Elm Tryz.prog Value where
 t := 207
 e := 114
 size := 1
 bytes := 24
 z := .slice none 0 0
 enc := fun v => [v]
 ok := fun v => v.oneCell' = true
 ht := Tryz.underlying207
 hi := by kernel_rfl
 hzs := rfl
 pos := by decide
 bpos := by decide
 len := fun _ _ => rfl
 one := fun a h u hu => by rw [List.mem_singleton.1 hu]; exact h
@[go_sem] theorem xc_ne (x : Ex) : (xc x = #[]) = False := by simp [xc, Ex.cells]
theorem xc_size (x : Ex) : (xc x).size = 4 := rfl
theorem xc_one {x : Ex} (h : x.v.oneCell' = true) : (xc x).all (·.oneCell') = true := by simpa [xc, Ex.cells, Value.oneCell'] using h
def Xv (w : World) (g : Nat) (x : Ex) : Prop := Whole w g 126 (xc x)
section
variable {w w' : World} {g : Nat} {x : Ex}
theorem Xv.lt (h : Xv w g x) : g < w.heap.size := Whole.lt h
theorem Xv.below (h : Xv w g x) (hb : Below w.heap.size w w') : Xv w' g x := (hb.block g (Whole.lt h)).trans h
theorem Xv.new (w : World) (x : Ex) : Xv (w.alloc (.cells (xc x) 126)) w.heap.size x := heap_alloc_new w _
theorem Xv.c0 (h : Xv w g x) : w.cell? ⟨g, 0, none⟩ = some (.int .i64 x.b.a) := Whole.at_ h 0
theorem Xv.c1 (h : Xv w g x) : w.cell? ⟨g, 1, none⟩ = some (.int .i64 x.b.s) := Whole.at_ h 1
theorem Xv.c3 (h : Xv w g x) : w.cell? ⟨g, 3, none⟩ = some x.v := Whole.at_ h 3
theorem Xv.row (h : Xv w g x) : w.rangeAt g 0 x.cells := fun j u hj => by rw [Whole.at_ h, Nat.zero_add, <- hj]; simp [xc]
theorem Xv.block (h : Xv w g x) : (blkLoad (.pointer (some ⟨g, 0, none⟩))).run Tryz.prog w = .ok (.agg (bc x.b)) w := run_blkLoad fun j u hj => by
 refine h.row j u ?_
 have : j < 3 := (List.getElem?_eq_some_iff.1 hj).1
 rcases j with _ | _ | _ | j
 . exact hj
 . exact hj
 . exact hj
 . omega
end
def exLoad (p : Value) : Sem Value := Instr.loadAt 126 p
def exStore (p v : Value) : Sem Unit := Instr.storeAt 126 p v
@[go_sem ↓] theorem loadAt_ex (p : Value) : Instr.loadAt 126 p = exLoad p := rfl
@[go_sem ↓] theorem storeAt_ex (p v : Value) : Instr.storeAt 126 p v = exStore p v := rfl
theorem run_exLoad {w : World} {b o : Nat} {c : Ex} (h : w.rangeAt b o c.cells) : (exLoad (.pointer (some ⟨b, o, none⟩))).run Tryz.prog w = .ok (.agg (xc c)) w :=
 run_loadAt_mid (P := Tryz.prog) w b o 126 c.cells _ h Tryz.underlying126 rfl info_ext
theorem Xv.load {w : World} {g : Nat} {x : Ex} (h : Xv w g x) : (exLoad (.pointer (some ⟨g, 0, none⟩))).run Tryz.prog w = .ok (.agg (xc x)) w := run_exLoad h.row
theorem run_exStore (w : World) {z : Array Value} (hz : z.size = 4) (c : Ex) (h1 : c.v.oneCell' = true) :
 (exStore (.pointer (some ⟨w.heap.size, 0, none⟩)) (.agg (xc c))).run Tryz.prog (w.alloc (.cells z 126)) = .ok () (w.alloc (.cells (xc c) 126)) := by
 unfold exStore
 simp only [Instr.storeAt, Instr.sureAddr, Sem.run_bind, Sem.run_pure, Result.andThen]
 rw [run_storeVar_row _ _ 126 126 z (xc c) (heap_alloc_new w _) (by rw [info_ext, xc_size]) (by rw [hz, xc_size]) (xc_one h1), World.setRow_alloc_new]
theorem ex_at {w : World} {p : Option Addr} {n cap : Nat} {l : List Ex} (h : RA exE w (.slice p n cap) l) (h0 : 0 < l.length) :
 ∃ b off, p = some ⟨b, off, none⟩ /\ b < w.heap.size /\ ∀ k, k < l.length -> (exLoad (.pointer (some ⟨b, off + k * 4, none⟩))).run Tryz.prog w = .ok (.agg (xc (l.getD k default))) w /\ w.cell? ⟨b, off + k * 4, none⟩ = some (.int .i64 (l.getD k default).b.a) /\ (l.getD k default).Wf := by
 obtain ⟨b, off, e, hb, hr⟩ := ra_at h h0
 refine ⟨b, off, e, hb, fun k hk => ?_⟩
 have hk2 := hr k hk
 exact ⟨run_exLoad hk2, hk2 0 _ rfl, (ra_ok h).at_ hk⟩
theorem ex_boxed (w : World) (c : Ex) (h1 : c.v.oneCell' = true) : ∃ W, w.alloc (.cells (xc c) 126) = W /\ (exStore (.pointer (some ⟨w.heap.size, 0, none⟩)) (.agg (xc c))).run Tryz.prog (w.alloc (.cells #[.int .i64 0, .int .i64 0, .bool false, .slice none 0 0] 126)) = .ok () W /\ Hid (Xv W w.heap.size c /\ Below w.heap.size w W) :=
 ⟨_, rfl, run_exStore w rfl c h1, jz ⟨Xv.new w c, bal (Below.refl _ _)⟩⟩
def exBuild (ps : Array (Nat × Value)) : Sem Value := Instr.build 126 ps
@[go_sem ↓] theorem build_ex (ps : Array (Nat × Value)) : Instr.build 126 ps = exBuild ps := rfl
theorem built_ex (b : Bk) (p : Option Addr) (n c : Nat) : Tryz.prog.built 126 [(0, .agg (bc b)), (1, .slice p n c)] = some (xc ⟨b, .slice p n c, []⟩) := by kernel_rfl
theorem run_exBuild (w : World) (b : Bk) (p : Option Addr) (n c : Nat) (l : List Int) : (exBuild #[(0, .agg (bc b)), (1, .slice p n c)]).run Tryz.prog w = .ok (.agg (xc ⟨b, .slice p n c, l⟩)) w := run_build w _ _ _ (built_ex b p n c)
theorem built_exs1 (w : World) (a s : Int) (u : Bool) (p : Option Addr) (n c : Nat) : (Instr.buildSlice 114 1 #[(0, .agg #[.int .i64 a, .int .i64 s, .bool u, .slice p n c])]).run Tryz.prog w = .ok (.slice (some ⟨w.heap.size, 0, none⟩) 1 1) (w.alloc (.cells #[.int .i64 a, .int .i64 s, .bool u, .slice p n c] 126)) := by
 simp [Instr.buildSlice, run_underlying Tryz.underlying114, Instr.fill, go_sem]
def exSlice (n : Nat) (ps : Array (Nat × Value)) : Sem Value := Instr.buildSlice 114 n ps
@[go_sem ↓] theorem slice_ex (n : Nat) (ps : Array (Nat × Value)) : Instr.buildSlice 114 n ps = exSlice n ps := rfl
theorem run_exSlice1 (w : World) (x : Ex) {p : Option Addr} {n c : Nat} (hv : x.v = .slice p n c) : (exSlice 1 #[(0, .agg (xc x))]).run Tryz.prog w = .ok (.slice (some ⟨w.heap.size, 0, none⟩) 1 1) (w.alloc (.cells (xc x) 126)) := by
 have := built_exs1 w x.b.a x.b.s x.b.u p n c
 rw [<- hv] at this
 exact this
theorem ex_one (w : World) {x : Ex} (h : x.Wf) : OwnA exE w.heap.size (w.alloc (.cells (xc x) 126)) (.slice (some ⟨w.heap.size, 0, none⟩) 1 1) [x] := by
 have := own_lit_a exE w (l := [x]) (fun y hy => by rw [List.mem_singleton.1 hy]; exact h) (by unfold maxLen; simp)
 simpa [exE, xc] using this
def xrowSlice (n : Nat) (ps : Array (Nat × Value)) : Sem Value := Instr.buildSlice 207 n ps
@[go_sem ↓] theorem slice_xrow (n : Nat) (ps : Array (Nat × Value)) : Instr.buildSlice 207 n ps = xrowSlice n ps := rfl
@[go_sem] theorem run_xrowSlice3 (w : World) (p p' p2 : Option Addr) (n n' n2 c c' c2 : Nat) : (xrowSlice 3 #[(0, .slice p n c), (1, .slice p' n' c'), (2, .slice p2 n2 c2)]).run Tryz.prog w = .ok (.slice (some ⟨w.heap.size, 0, none⟩) 3 3) (w.alloc (.cells #[.slice p n c, .slice p' n' c', .slice p2 n2 c2] 114)) := by
  unfold xrowSlice Instr.buildSlice
  simp [run_underlying Tryz.underlying207, Instr.fill, go_sem]
@[go_sem] theorem run_xrowSlice2 (w : World) (p p' : Option Addr) (n n' c c' : Nat) : (xrowSlice 2 #[(0, .slice p n c), (1, .slice p' n' c')]).run Tryz.prog w = .ok (.slice (some ⟨w.heap.size, 0, none⟩) 2 2) (w.alloc (.cells #[.slice p n c, .slice p' n' c'] 114)) := by
  unfold xrowSlice Instr.buildSlice
  simp [run_underlying Tryz.underlying207, Instr.fill, go_sem]
theorem ra_one {P : Program} {α : Type} [Inhabited α] {E : Elm P α} {w : World} {u : Value} {l : List α} (h : RA E w u l) : u.oneCell' = true := by
 obtain ⟨_, _, rfl, _⟩ := ra_shape h
 rfl
theorem xrows3 {w : World} {x y z : Value} {l1 l2 l3 : List Ex} (h1 : RA exE w x l1) (h2 : RA exE w y l2) (h3 : RA exE w z l3) : RAs exE xrowE (w.alloc (.cells #[x, y, z] 114)) (.slice (some ⟨w.heap.size, 0, none⟩) 3 3) [l1, l2, l3] := by
 have hb : Below w.heap.size w (w.alloc (.cells #[x, y, z] 114)) := bal (Below.refl _ _)
 have O := own_lit_a xrowE w (l := [x, y, z]) (fun u hu => by
  simp only [List.mem_cons, List.not_mem_nil, or_false] at hu
  rcases hu with rfl | rfl | rfl
  . exact ra_one h1
  . exact ra_one h2
  . exact ra_one h3) (by unfold maxLen; simp)
 refine ⟨[x, y, z], O.ra, rfl, fun k hk => ?_⟩
 have hk : k < 3 := hk
 rcases k with _ | _ | _ | k
 . exact ra_below h1 hb
 . exact ra_below h2 hb
 . exact ra_below h3 hb
 . omega
theorem xrows2 {w : World} {x y : Value} {l1 l2 : List Ex} (h1 : RA exE w x l1) (h2 : RA exE w y l2) : RAs exE xrowE (w.alloc (.cells #[x, y] 114)) (.slice (some ⟨w.heap.size, 0, none⟩) 2 2) [l1, l2] := by
 have hb : Below w.heap.size w (w.alloc (.cells #[x, y] 114)) := bal (Below.refl _ _)
 have O := own_lit_a xrowE w (l := [x, y]) (fun u hu => by
  simp only [List.mem_cons, List.not_mem_nil, or_false] at hu
  rcases hu with rfl | rfl
  . exact ra_one h1
  . exact ra_one h2) (by unfold maxLen; simp)
 refine ⟨[x, y], O.ra, rfl, fun k hk => ?_⟩
 have hk : k < 2 := hk
 rcases k with _ | _ | k
 . exact ra_below h1 hb
 . exact ra_below h2 hb
 . omega
def Far (w : World) (D : List Nat) (v : Value) : Prop := ∀ k, v.ownBlock = some k -> k < w.heap.size /\ k ∉ D
theorem Far.grow {w w' : World} {D : List Nat} {v : Value} (h : Far w D v) (hs : w.heap.size <= w'.heap.size) : Far w' D v := fun k hk => ⟨Nat.lt_of_lt_of_le (h k hk).1 hs, (h k hk).2⟩
theorem Far.more {w w' : World} {D : List Nat} {v : Value} (h : Far w D v) (hs : w.heap.size <= w'.heap.size) {g : Nat} (hg : w.heap.size <= g) : Far w' (g :: D) v := fun k hk => ⟨Nat.lt_of_lt_of_le (h k hk).1 hs, fun q => by
 rcases List.mem_cons.1 q with rfl | q
 . have := (h k hk).1; omega
 . exact (h k hk).2 q⟩
theorem far_own {P : Program} {α : Type} [Inhabited α] {E : Elm P α} {B : Nat} {w : World} {D : List Nat} {v : Value} {l : List α} (h : OwnA E B w v l) (hD : ∀ k ∈ D, k < B) : Far w D v := fun k hk => ⟨(h.lt k hk).2, fun q => by
 have := (h.lt k hk).1
 have := hD k q
 omega⟩
theorem far_own_u {B : Nat} {w : World} {D : List Nat} {v : Value} {l : List Int} (h : OwnU B w v l) (hD : ∀ k ∈ D, k < B) : Far w D v := fun k hk => ⟨(World.ownsRow.lt h k hk).2, fun q => by
 have := (World.ownsRow.lt h k hk).1
 have := hD k q
 omega⟩
theorem ru_chg {D : List Nat} {w w' : World} {v : Value} {l : List Int} (h : RU w v l) (hc : Chg D w w') (hD : ∀ g, v.ownBlock = some g -> g ∉ D) : RU w' v l := by
 obtain ⟨p, cap, rfl, h1, h2, h | ⟨b, off, rfl, hr⟩⟩ := h
 . exact ⟨p, cap, rfl, h1, h2, .inl h⟩
 . refine ⟨_, cap, rfl, h1, h2, .inr ⟨b, off, rfl, fun i hi => ?_⟩⟩
   have hlt := World.block_lt_of_cell? w _ (hr i hi)
   have e := hc.block b hlt (hD b rfl)
   rw [<- hr i hi]
   simp only [World.cell?, e]
structure Us (w : World) (D : List Nat) (wl : List Int) (l : List Bk) (us : List Ex) : Prop where
 map : us.map (·.b) = usd l
 ws : ∀ x ∈ us, x.ws = cut wl x.b /\ RU w x.v x.ws /\ Far w D x.v
theorem Us.chg {w w' : World} {D E : List Nat} {wl : List Int} {l : List Bk} {us : List Ex} (h : Us w D wl l us) (hc : Chg E w w') (hE : ∀ k ∈ E, k ∈ D) : Us w' D wl l us :=
 ⟨h.map, fun x hx => by
   obtain ⟨h1, h2, h3⟩ := h.ws x hx
   exact ⟨h1, ru_chg h2 hc (fun g hg q => (h3 g hg).2 (hE g q)), h3.grow hc.size⟩⟩
theorem Us.len {w : World} {D : List Nat} {wl : List Int} {l : List Bk} {us : List Ex} (h : Us w D wl l us) : us.length = (usd l).length := by rw [<- h.map, List.length_map]
theorem Us.at_ {w : World} {D : List Nat} {wl : List Int} {l : List Bk} {us : List Ex} (h : Us w D wl l us) {k : Nat} (hk : k < us.length) : (us.getD k default).b = (usd l).getD k default /\ us.getD k default ∈ us := by
 rw [<- h.map, List.getD_eq_getElem?_getD, List.getD_eq_getElem?_getD, List.getElem?_map, List.getElem?_eq_getElem hk]
 exact ⟨rfl, List.getElem_mem hk⟩
def Pl (v : Value) : Prop := v = .slice none 0 0 \/ ∃ b n c, v = .slice (some ⟨b, 0, none⟩) n c
theorem pl_own {P : Program} {α : Type} [Inhabited α] {E : Elm P α} {B : Nat} {w : World} {v : Value} {l : List α} (h : OwnA E B w v l) : Pl v := by
 obtain ⟨⟨_, ⟨rfl, _⟩ | ⟨g, cap, cur, rfl, _⟩⟩, _⟩ := h
 . exact .inl rfl
 . exact .inr ⟨_, _, _, rfl⟩
structure Mo (w : World) (D : List Nat) (g : Nat) (wl : List Int) (l : List Bk) (r : Int) : Prop where
 hB : blkF wl = some l
 ok : WordsOk wl
 gD : g ∈ D
 dlt : ∀ k ∈ D, k < w.heap.size
 rows : ∃ v us, Whole w g 116 #[.int .i64 (wl.length : Int), v, .int .i64 r] /\ RA exE w v us /\ Far w D v /\ Us w D wl l us /\ Pl v
section
variable {w w' : World} {D E : List Nat} {g : Nat} {wl : List Int} {l : List Bk} {r : Int}
theorem Mo.len (h : Mo w D g wl l r) : l.length <= 256 /\ wl.length <= 512 /\ mayL wl.length l = true := ⟨(blkF_len h.hB).1, (blkF_len h.hB).2, blkF_some h.hB⟩
theorem Mo.chg (h : Mo w D g wl l r) (hc : Chg E w w') (hE : ∀ k ∈ E, k ∈ D) (hg : g ∉ E) : Mo w' D g wl l r := by
 obtain ⟨v, us, h1, h2, h3, h4, h5⟩ := h.rows
 exact ⟨h.hB, h.ok, h.gD, fun k hk => Nat.lt_of_lt_of_le (h.dlt k hk) hc.size, v, us, hc.whole h1 hg, ra_chg h2 hc (fun k hk q => (h3 k hk).2 (hE k q)), h3.grow hc.size, h4.chg hc hE, h5⟩
theorem Mo.below (h : Mo w D g wl l r) (hb : Below w.heap.size w w') : Mo w' D g wl l r := h.chg (Chg.of_below hb []) (fun _ h => by cases h) (fun h => by cases h)
theorem Mo.more (h : Mo w D g wl l r) (hb : Below w.heap.size w w') {x : Nat} (hx : w.heap.size <= x) (hx2 : x < w'.heap.size) : Mo w' (x :: D) g wl l r := by
 have h' := h.below hb
 obtain ⟨v, us, h1, h2, h3, h4, h5⟩ := h.rows
 refine ⟨h.hB, h.ok, List.mem_cons_of_mem _ h.gD, fun k hk => ?_, v, us, hb.block g h1.lt |>.trans h1, ra_below h2 hb, h3.more hb.size hx, ⟨h4.map, fun y hy => ?_⟩, h5⟩
 . rcases List.mem_cons.1 hk with rfl | hk
   . exact hx2
   . exact h'.dlt k hk
 . obtain ⟨g1, g2, g3⟩ := h4.ws y hy
   exact ⟨g1, ru_below g2 hb, g3.more hb.size hx⟩
theorem Mo.put {wq : World} {B : Nat} {u : Value} {us' : List Ex} {wl' : List Int} {l' : List Bk} (h : Mo w D g wl l r) (hb : Below w.heap.size w wq) (ho : OwnA exE B wq u us') (hB : w.heap.size <= B) (hB' : blkF wl' = some l') (hok : WordsOk wl') (hlen : wl'.length = wl.length) (hmap : us'.map (·.b) = usd l')
 (hws : ∀ x ∈ us', x.ws = cut wl' x.b /\ RU wq x.v x.ws /\ Far wq D x.v) : Mo (wq.setCell ⟨g, 1, none⟩ u) D g wl' l' r /\ Chg [g] w (wq.setCell ⟨g, 1, none⟩ u) := by
 obtain ⟨v, us, h1, _⟩ := h.rows
 have hc : Chg [g] wq (wq.setCell ⟨g, 1, none⟩ u) := (Chg.refl [g] wq).setCell (p := ⟨g, 1, none⟩) (.inl (List.mem_singleton.2 rfl)) u
 have hDB : ∀ k ∈ D, k < B := fun k hk => Nat.lt_of_lt_of_le (h.dlt k hk) hB
 have hgD : ∀ k ∈ [g], k ∈ D := fun k hk => by rw [List.mem_singleton.1 hk]; exact h.gD
 have hF := far_own ho hDB
 have hWq : Whole wq g 116 #[.int .i64 (wl.length : Int), v, .int .i64 r] := (hb.block g h1.lt).trans h1
 refine ⟨⟨hB', hok, h.gD, fun k hk => Nat.lt_of_lt_of_le (h.dlt k hk) (Nat.le_trans hb.size hc.size), u, us', ?_, ra_chg ho.ra hc (fun k hk q => (hF k hk).2 (hgD k q)), hF.grow hc.size, (⟨hmap, hws⟩ : Us wq D wl' l' us').chg hc hgD, pl_own ho⟩, (Chg.of_below hb [g]).trans hc⟩
 rw [hlen]
 exact hWq.set_ 1 u
theorem ra_cut {α : Type} [Inhabited α] {P : Program} {E : Elm P α} {b off n cap k : Nat} {l : List α} (h : RA E w (.slice (some ⟨b, off, none⟩) n cap) l) (hk : k <= l.length) : RA E w (.slice (if cap = k then some ⟨b, off, none⟩ else some ⟨b, off + k * E.size, none⟩) (l.length - k) (cap - k)) (l.drop k) := by
 obtain ⟨_, _, e, h1, h2, _⟩ := id h
 cases e
 by_cases hlt : k < l.length
 . rw [if_neg (by omega)]
   exact ra_drop h hlt
 . rw [List.drop_eq_nil_of_le (by omega), show l.length - k = 0 by omega]
   exact ⟨_, _, rfl, Nat.zero_le _, by omega, (fun _ h => by cases h), .inl rfl⟩
end
section
variable {ops : Array Oper} {rest : List Oper} {o : Oper} {a : Act} {w : World} {Q : Exit -> Act -> World -> Prop} {K : Act -> World -> Prop}
theorem app_ex (hgd : o.guard = none) (s x : Operand) (ho : o.op = .call { callee := .builtin .append, args := #[s, x], argTypes := #[114, 114] }) (B : Nat) (v : Value) (l : List Ex) (hs : a.eval s = v) (hown : OwnA exE B w v l)
 (u : Value) (r : List Ex) (hx : a.eval x = u) (hr : RA exE w u r) (hlen : Hid (l.length + r.length <= 2000)) (hB : B <= w.heap.size)
 (h : ∀ v' w', OwnA exE B w' v' (l ++ r) -> w.grownBy w' v.ownBlock -> (v'.ownBlock = v.ownBlock \/ v'.ownBlock = some w.heap.size) -> wpList Tryz.prog ops Q rest (a.put o.dst v') w') : wpList Tryz.prog ops Q (o :: rest) a w :=
 list_app exE hgd s x ho B v l hs hown u r hx hr (by have := hlen.out; show (l.length + r.length) * 48 <= _; omega) hB h
end
theorem xgrown_own (w : World) (n : Nat) (hn : n <= 2000) : OwnA exE w.heap.size (w.drew.alloc (.cells (Builtin.zeroCells exE.z.cells n ++ Builtin.zeroCells exE.z.cells (grownCap w n 0 126 - n)) 126)) (.slice (some ⟨w.heap.size, 0, none⟩) 0 (grownCap w n 0 126)) [] := by
 have h1 := grownCap_ge w n 0 126
 have h2 := grownCap_le_maxLen w n 0 126 (by unfold maxLen; omega)
 refine ⟨⟨rfl, .inr ⟨w.heap.size, _, _, rfl, Nat.le_refl _, heap_alloc_new _ _, Nat.zero_le _, h2, ?_, ?_⟩⟩, fun _ h => by cases h⟩
 . rw [Array.size_append, size_zeroCells, size_zeroCells, exE.hzs, <- Nat.add_mul]
   congr 1
   omega
 . simp
theorem xgrow_is (n : Nat) (w : World) (hn : n <= 2000) : Calls Tryz.prog 168 #[.slice none 0 0, .int .i64 n] w fun e w' => (∃ v, e = .returned v /\ OwnA exE w.heap.size w' v []) /\ Below w.heap.size w w' := by
 have h1 : ¬ ((n : Int) < 0) := by omega
 have h3 : IntKind.i64.wrap (n : Int) = n := i64_nat _ (by omega)
 by_cases h0 : 0 < n
 . have h4 : (n : Int) > 0 := by omega
   have hO := xgrown_own w n hn
   have hB : Below w.heap.size w (w.drew.alloc (.cells (Builtin.zeroCells exE.z.cells n ++ Builtin.zeroCells exE.z.cells (grownCap w n 0 126 - n)) 126)) := bal ((Below.refl _ _).drew)
   obtain ⟨i0, hi, hz0, hz1, hz2⟩ := info_parts exE.hi
   have hrz : ∀ ty, (Builtin.append_ #[114, 3] ty #[.slice none 0 0, .int .i64 (n : Int)]).run Tryz.prog w = _ := fun ty =>
    Lib.run_append_nil_zeros (P := Tryz.prog) w 114 3 ty 126 i0 exE.z .i64 .i64 Tryz.underlying114 Tryz.underlying3 hi hz0 n h0 (by rw [hz1]; decide) (by omega) (by rw [hz2]; show n * 48 <= _; omega)
   have hG := grownCap_ge w n 0 126
   have hG2 := grownCap_le_maxLen w n 0 126 (by unfold maxLen; omega)
   obtain ⟨W, hW⟩ : ∃ W, w.drew.alloc (.cells (Builtin.zeroCells exE.z.cells n ++ Builtin.zeroCells exE.z.cells (grownCap w n 0 126 - n)) 126) = W := ⟨_, rfl⟩
   rw [hW] at hO hB
   simp only [hW] at hrz
   generalize grownCap w n 0 126 = G at *
   have g1 : ¬ (G = 0) := by omega
   have g2 : (0 : Int) <= (G : Int) := by omega
   have HO := jz hO
   have HB := jz hB
   clear hO hB hW hi hz0 hz1 hz2
   go_enter Tryz.func168, Tryz.ntmps168
   go_wp2_with (at_builtin; refine Lib.wpList_append_run _ rfl _ _ _ _ rfl _ _ rfl rfl _ _ (hrz _) ?_)
   go_wp2
   go_ret
   exact ⟨⟨_, rfl, HO.out⟩, HB.out⟩
 . obtain rfl : n = 0 := by omega
   clear h3
   go_enter Tryz.func168, Tryz.ntmps168
   go_wp2
   go_ret
   exact ⟨⟨_, rfl, own_nil_a _ _ _⟩, Below.refl _ _⟩
def xlens (ls : List (List Ex)) : Nat := (ls.map List.length).sum
theorem xlens_drop {ls : List (List Ex)} {k : Nat} (h : k < ls.length) : xlens (ls.drop k) = (ls.getD k []).length + xlens (ls.drop (k + 1)) := by
 unfold xlens
 rw [List.drop_eq_getElem_cons h, List.getD_eq_getElem?_getD, List.getElem?_eq_getElem h, List.map_cons, List.sum_cons]
 rfl
theorem xlens_flat (ls : List (List Ex)) : ls.flatten.length = xlens ls := by simp [xlens, List.length_flatten]
theorem xflat_take {ls : List (List Ex)} {k : Nat} (h : k < ls.length) : (ls.take (k + 1)).flatten = (ls.take k).flatten ++ ls.getD k [] := by
 rw [List.take_add_one, List.getElem?_eq_getElem h, List.getD_eq_getElem?_getD, List.getElem?_eq_getElem h]
 simp only [Option.toList_some, List.flatten_append, List.flatten_cons, List.flatten_nil, List.append_nil, Option.getD_some]
theorem xflat_split {ls : List (List Ex)} {k : Nat} (h : k < ls.length) : ((ls.take k).flatten).length + (ls.getD k []).length <= xlens ls := by
 have := congrArg List.length (xflat_take h)
 rw [List.length_append] at this
 rw [<- this, <- xlens_flat]
 conv => rhs; rw [<- List.take_append_drop (k + 1) ls]
 rw [List.flatten_append, List.length_append]
 omega
theorem xconcat_is (ls : List (List Ex)) (v : Value) (w : World) (hv : RAs exE xrowE w v ls) (hl : ls.length <= 1000) (hs : xlens ls <= 2000) : Calls Tryz.prog 142 #[v] w fun e w' => (∃ u, e = .returned u /\ OwnA exE w.heap.size w' u ls.flatten) /\ Below w.heap.size w w' := by
 obtain ⟨p, cap, rfl, _, _⟩ := ras_shape hv
 have HX : Hid (∀ wr, Below w.heap.size w wr -> ∀ k, k < ls.length -> ∃ b off q c, p = some ⟨b, off, none⟩ /\ wr.cell? ⟨b, off + k, none⟩ = some (.slice q (ls.getD k []).length c) /\ RA exE wr (.slice q (ls.getD k []).length c) (ls.getD k [])) := jz fun wr hb k hk => by
  obtain ⟨b, off, e, _, hx⟩ := ras_at rfl rfl (ras_below hv hb) (by omega)
  obtain ⟨u, hc, hr⟩ := hx k hk
  obtain ⟨q, c, rfl, _⟩ := ra_shape hr
  exact ⟨b, off, q, c, e, hc, hr⟩
 have HL := jz hl
 have HS := jz hs
 clear hv hl hs
 go_enter Tryz.func142, Tryz.ntmps142
 go_wp2
 go_loopw [3, 5, 11] (fun z s i wr => ∃ k z' : Nat, k <= ls.length /\ i = .int .i64 k /\ z = .int .i64 z' /\ wr = w /\ Hid (z' + xlens (ls.drop k) = xlens ls)) (fun _ _ i _ => ls.length - (intOf i).toNat)
 case atStart => exact ⟨0, 0, Nat.zero_le _, rfl, rfl, rfl, jz (by simp)⟩
 case round =>
  obtain ⟨k, z, hk, rfl, rfl, rfl, H⟩ := hrel
  by_cases hlt : k < ls.length
  . obtain ⟨b, off, q, c, rfl, hc, _⟩ := HX.out wr (Below.refl _ _) k hlt
    have hF := H.out
    rw [xlens_drop hlt] at hF
    have i0 : (0 : Int) <= (k : Int) := by omega
    have i1 : (k : Int) < (ls.length : Int) := by omega
    have i2 : ¬ (k : Int) < 0 := by omega
    have i3 : IntKind.i64.wrap ((k : Int) + 1) = ((k + 1 : Nat) : Int) := by rw [show (k : Int) + 1 = ((k + 1 : Nat) : Int) by omega]; exact i64_nat _ (by have := HL.out; omega)
    generalize (ls.getD k []).length = Y at *
    have i4 : IntKind.i64.wrap ((z : Int) + (Y : Int)) = ((z + Y : Nat) : Int) := by rw [show (z : Int) + (Y : Int) = ((z + Y : Nat) : Int) by omega]; exact i64_nat _ (by have := HS.out; omega)
    have i5 : ¬ ((z + Y : Nat) : Int) < 0 := by omega
    have HF := jz hF
    have HK := jz hlt
    obtain ⟨Z, hZ⟩ : ∃ Z, z + Y = Z := ⟨_, rfl⟩
    rw [hZ] at i4 i5
    have HZ := jz hZ
    clear hF hlt hk hZ
    go_wp2
    go_roundw
    case rel => exact ⟨k + 1, Z, by have := HK.out; omega, by go_num, rfl, trivial, jz (by have := HF.out; have := HZ.out; omega)⟩
    case measure => have := HK.out; simp [intOf]; omega
  . obtain rfl : k = ls.length := by omega
    have hF := H.out
    rw [List.drop_length] at hF
    obtain rfl : z = xlens ls := hF
    clear H hlt hk
    have C := jz (xgrow_is (xlens ls) wr HS.out)
    go_wp2_with fail
    refine (C.out).mono ?_; rintro e w1 ⟨⟨u1, rfl, o1⟩, b1⟩
    have O1 := jz o1
    have B1 := jz b1
    clear o1 b1
    go_wp2
    go_loopw [6, 8, 27] (fun u s i w2 => ∃ k : Nat, k <= ls.length /\ i = .int .i64 k /\ Hid (OwnA exE wr.heap.size w2 u (ls.take k).flatten /\ Below wr.heap.size wr w2)) (fun _ _ i _ => ls.length - (intOf i).toNat)
    case atStart => exact ⟨0, Nat.zero_le _, rfl, jz ⟨O1.out, B1.out⟩⟩
    case round =>
     obtain ⟨k, hk, rfl, H⟩ := hrel
     by_cases hlt : k < ls.length
     . obtain ⟨b, off, q, c, rfl, hc, hr⟩ := HX.out wr (H.out.2) k hlt
       have hlen : Hid (((ls.take k).flatten).length + (ls.getD k []).length <= 2000) := jz (by have := xflat_split hlt; have := HS.out; omega)
       have i0 : (0 : Int) <= (k : Int) := by omega
       have i1 : (k : Int) < (ls.length : Int) := by omega
       have i2 : ¬ (k : Int) < 0 := by omega
       have i3 : IntKind.i64.wrap ((k : Int) + 1) = ((k + 1 : Nat) : Int) := by rw [show (k : Int) + 1 = ((k + 1 : Nat) : Int) by omega]; exact i64_nat _ (by have := HL.out; omega)
       have HT := jz (xflat_take hlt)
       obtain ⟨Y, hY⟩ : ∃ Y, (ls.getD k []).length = Y := ⟨_, rfl⟩
       rw [hY] at hc hr
       have HR := jz hr
       have HK := jz hlt
       clear hr hk hlt hY
       go_wp2_with (at_builtin; refine app_ex rfl _ _ rfl _ _ _ rfl H.out.1 _ _ rfl HR.out hlen (H.out.2.size) ?_)
       intro v' w' ho hg hx
       have HN := jz (show OwnA exE _ w' v' (ls.take (k + 1)).flatten /\ Below _ _ w' from ⟨by rw [HT.out]; exact ho, below_app H.out.2 H.out.2.size H.out.1 hg⟩)
       clear ho hg hx
       go_wp2
       go_roundw
       case rel => exact ⟨k + 1, by have := HK.out; omega, by go_num, HN⟩
       case measure => have := HK.out; simp [intOf]; omega
     . obtain rfl : k = ls.length := by omega
       have hF := H.out
       rw [List.take_length] at hF
       have HF := jz hF
       clear hF
       go_wp2
       go_ret
       exact ⟨⟨_, rfl, HF.out.1⟩, HF.out.2⟩
theorem ex_box (w : World) (x : Ex) : ∃ W, w.alloc (.cells (xc x) 126) = W /\ Hid (Xv W w.heap.size x /\ Below w.heap.size w W) := ⟨_, rfl, jz ⟨Xv.new w x, bal (Below.refl _ _)⟩⟩
theorem hbeg_is {B : Nat} {o : Int} {x : Ex} {W : World} (hc : W.cell? ⟨B, 0, none⟩ = some (.int .i64 o)) :
 Calls Tryz.prog 169 #[.agg (xc x), .pointer (some ⟨B, 0, none⟩)] W fun e w' => e = .returned (.bool (atO o x.b)) /\ Below W.heap.size W w' := by
 obtain ⟨W2, hW, H⟩ := ex_box W x
 have hB := World.block_lt_of_cell? _ _ hc
 have c1 : ∀ w', Below W2.heap.size W2 w' -> w'.cell? ⟨B, 0, none⟩ = some (.int .i64 o) := fun w' hb => ((below_more H.out.2 hb).cell (p := ⟨B, 0, none⟩) hB).trans hc
 have c2 : ∀ w', Below W2.heap.size W2 w' -> (blkLoad (.pointer (some ⟨W.heap.size, 0, none⟩))).run Tryz.prog w' = .ok (.agg (bc x.b)) w' := fun w' hb => (H.out.1.below hb).block
 obtain ⟨y, hy⟩ : ∃ y, offB x.b.a = y := ⟨_, rfl⟩
 have C := jz (fun w => off_is x.b y hy w)
 obtain ⟨r, hr⟩ : ∃ r, atO o x.b = r := ⟨_, rfl⟩
 have e1 : (y == o) = r := by
  rw [<- hr, atO, hy]
  by_cases h : y = o
  . simp [h]
  . simp [h]
 rw [hr]
 have HB := jz H.out.2
 clear hr hy hc H hB
 generalize x.b = b at *
 go_enter Tryz.func169, Tryz.ntmps169
 go_wp2_with fail
 go_region_held3 (fun w' => Below W2.heap.size W2 w')
  (first | assumption | exact (Below.refl _ _).drew | exact below_more ‹Below W2.heap.size W2 _› hbq)
  (first
    | (go_at_call 74; refine (C.out _).mono ?_; rintro e wq ⟨rfl, hbq⟩))
 go_wp2
 go_ret
 exact ⟨rfl, below_more HB.out (by assumption)⟩
theorem xhas_is {o n : Int} {x : Ex} {p : Option Addr} {L c : Nat} {W : World} (hx : x.v = .slice p L c) (hb : 0 <= x.b.a /\ x.b.a + x.b.s <= 512) (hL : (L : Int) = x.b.s - 1) (hn : 0 <= n /\ n <= 448) :
 Calls Tryz.prog 113 #[.agg (xc x), .int .i64 o, .int .i64 n] W fun e w' => e = .returned (.bool (inO o n x.b)) /\ Below W.heap.size W w' := by
 obtain ⟨W2, hW, H⟩ := ex_box W x
 have c1 : ∀ w', Below W2.heap.size W2 w' -> w'.cell? ⟨W.heap.size, 3, none⟩ = some (.slice p L c) := fun w' hb => ((H.out.1.below hb).c3).trans (by rw [hx])
 have c2 : ∀ w', Below W2.heap.size W2 w' -> (blkLoad (.pointer (some ⟨W.heap.size, 0, none⟩))).run Tryz.prog w' = .ok (.agg (bc x.b)) w' := fun w' hb => (H.out.1.below hb).block
 have hoff : offB x.b.a = (x.b.a + 1) * 8 := offB_at hb.1 (by omega)
 obtain ⟨y, hy⟩ : ∃ y, offB x.b.a = y := ⟨_, rfl⟩
 have C := jz (fun w => off_is x.b y hy w)
 obtain ⟨M, hM⟩ : ∃ M, IntKind.i64.wrap (8 * (L : Int)) = M := ⟨_, rfl⟩
 have hM2 : M = 8 * (L : Int) := by rw [<- hM]; exact IntWalk.i64_in _ (by omega)
 obtain ⟨E, hE⟩ : ∃ E, IntKind.i64.wrap (y + M) = E := ⟨_, rfl⟩
 have hE2 : E = (x.b.a + x.b.s) * 8 := by rw [<- hE, IntWalk.i64_in _ (by omega)]; omega
 obtain ⟨Z, hZ⟩ : ∃ Z, IntKind.i64.wrap (E - n) = Z := ⟨_, rfl⟩
 have hZ2 : Z = (x.b.a + x.b.s) * 8 - n := by rw [<- hZ, IntWalk.i64_in _ (by omega)]; omega
 rw [inO, hy, <- hZ2]
 have HB := jz H.out.2
 clear hy hL hn hb hoff hM2 hE2 hZ2 H hx
 generalize x.b = b at *
 by_cases h2 : o >= y
 . by_cases h3 : o <= Z
   . rw [decide_eq_true ⟨h2, h3⟩]
     go_enter Tryz.func113, Tryz.ntmps113
     go_wp2_with fail
     go_region_held3 (fun w' => Below W2.heap.size W2 w')
      (first | assumption | exact (Below.refl _ _).drew | exact below_more ‹Below W2.heap.size W2 _› hbq)
      (first
        | (go_at_call 74; refine (C.out _).mono ?_; rintro e wq ⟨rfl, hbq⟩))
     have G := jz ‹Below W2.heap.size W2 _›
     have d2 := c2 _ G.out
     go_wp2_with fail
     refine (C.out _).mono ?_; rintro e wr ⟨rfl, hbr⟩
     have G2 := jz (below_more HB.out (below_more G.out hbr))
     go_wp2_with fail
     go_ret
     exact ⟨rfl, G2.out⟩
   . rw [decide_eq_false (fun h => h3 h.2)]
     have t3 : decide (o <= Z) = false := decide_eq_false h3
     go_enter Tryz.func113, Tryz.ntmps113
     go_wp2_with fail
     go_region_held3 (fun w' => Below W2.heap.size W2 w')
      (first | assumption | exact (Below.refl _ _).drew | exact below_more ‹Below W2.heap.size W2 _› hbq)
      (first
        | (go_at_call 74; refine (C.out _).mono ?_; rintro e wq ⟨rfl, hbq⟩))
     have G := jz ‹Below W2.heap.size W2 _›
     have d2 := c2 _ G.out
     go_wp2_with fail
     refine (C.out _).mono ?_; rintro e wr ⟨rfl, hbr⟩
     have G2 := jz (below_more HB.out (below_more G.out hbr))
     go_wp2_with fail
     go_ret
     exact ⟨rfl, G2.out⟩
 . rw [decide_eq_false (fun h => h2 h.1)]
   have t2 : decide (o >= y) = false := decide_eq_false h2
   go_enter Tryz.func113, Tryz.ntmps113
   go_wp2_with fail
   go_region_held3 (fun w' => Below W2.heap.size W2 w')
    (first | assumption | exact (Below.refl _ _).drew | exact below_more ‹Below W2.heap.size W2 _› hbq)
    (first
      | (go_at_call 74; refine (C.out _).mono ?_; rintro e wq ⟨rfl, hbq⟩))
   have G := jz ‹Below W2.heap.size W2 _›
   have d2 := c2 _ G.out
   go_wp2_with fail
   refine (C.out _).mono ?_; rintro e wr ⟨rfl, hbr⟩
   have G2 := jz (below_more HB.out (below_more G.out hbr))
   go_wp2_with fail
   go_ret
   exact ⟨rfl, G2.out⟩
theorem xbegi_is {B n cap : Nat} {p : Option Addr} {l : List Ex} {w : World} (P : Bk -> Bool) (hv : RA exE w (.slice p n cap) l) (hP : ∀ x ∈ l, ∀ W, Below w.heap.size w W -> Calls Tryz.prog 169 #[.agg (xc x), .pointer (some ⟨B, 0, none⟩)] W fun e w' => e = .returned (.bool (P x.b)) /\ Below W.heap.size W w') :
 Calls Tryz.prog 111 #[.slice p n cap, .func (.func 169) #[] #[.pointer (some ⟨B, 0, none⟩)]] w fun e w' => e = .returned (.int .i64 (oi (ixF P 0 (l.map (·.b))))) /\ Below w.heap.size w w' := by
 obtain ⟨p', cap', e0, hlc, hcm⟩ := ra_shape hv
 cases e0
 unfold maxLen at hcm
 have eg : ∀ args w, (callFunc 169 args).run Tryz.prog w = .ok (.enter 169 args) w := Go.Proofs.enters_of Tryz.func169 (by kernel_rfl) rfl
 have HV := jz hv
 have HP := jz hP
 have HM := jz (And.intro hlc hcm)
 obtain ⟨R, hR⟩ : ∃ R, ixF P 0 (l.map (·.b)) = R := ⟨_, rfl⟩
 rw [hR]
 have HR := jz hR
 clear hv hP hlc hcm hR
 go_enter Tryz.func111, Tryz.ntmps111
 go_wp2
 go_loopw [8] (fun i wr => ∃ k : Nat, k <= l.length /\ i = .int .i64 k /\ Hid (ixF P k ((l.drop k).map (·.b)) = R /\ Below w.heap.size w wr)) (fun i _ => l.length - (intOf i).toNat)
 case atStart => exact ⟨0, Nat.zero_le _, rfl, jz ⟨by rw [List.drop_zero]; exact HR.out, Below.refl _ _⟩⟩
 case round =>
  obtain ⟨k, hk, rfl, H⟩ := hrel
  by_cases hlt : k < l.length
  . obtain ⟨b, off, e, _, hx⟩ := ex_at (ra_below HV.out H.out.2) (by omega)
    subst e
    obtain ⟨hl, _, _⟩ := hx k hlt
    obtain ⟨X, hX⟩ : ∃ X, l.getD k default = X := ⟨_, rfl⟩
    rw [hX] at hl
    have i0 : (0 : Int) <= (k : Int) := by omega
    have i3 : (k : Int) < (l.length : Int) := by omega
    have i4 : ¬ (k : Int) < 0 := by omega
    have j0 : IntKind.i64.wrap ((k : Int) + 1) = ((k + 1 : Nat) : Int) := by rw [show (k : Int) + 1 = ((k + 1 : Nat) : Int) by omega]; exact i64_nat _ (by have := HM.out; omega)
    have HK := jz hlt
    have hmem : X ∈ l := by rw [<- hX, List.getD_eq_getElem?_getD, List.getElem?_eq_getElem hlt]; exact List.getElem_mem hlt
    have hdr : l.drop k = X :: l.drop (k + 1) := by rw [<- hX, List.getD_eq_getElem?_getD, List.getElem?_eq_getElem hlt]; exact List.drop_eq_getElem_cons hlt
    have hF := H.out.1
    rw [hdr, List.map_cons, ixF] at hF
    have KS := jz (HP.out X hmem wr H.out.2)
    clear hx hX hlt hk hmem hdr
    obtain ⟨q, hq⟩ : ∃ q, P X.b = q := ⟨_, rfl⟩
    rw [hq] at KS hF
    clear hq
    cases q
    . rw [if_neg Bool.false_ne_true] at hF
      have HF := jz hF
      clear hF
      go_wp2_with fail
      refine KS.out.mono ?_; rintro e w' ⟨rfl, hb'⟩
      go_wp2
      have HB := jz (below_more H.out.2 hb')
      clear hb'
      go_roundw
      case rel => exact ⟨k + 1, by have := HK.out; omega, by go_num, jz ⟨HF.out, HB.out⟩⟩
      case measure => have := HK.out; simp [intOf]; omega
    . rw [if_pos rfl] at hF
      subst hF
      go_wp2_with fail
      refine KS.out.mono ?_; rintro e w' ⟨rfl, hb'⟩
      go_wp2
      go_ret
      exact ⟨rfl, below_more H.out.2 hb'⟩
  . obtain rfl : k = l.length := by omega
    have hF := H.out.1
    rw [List.drop_length] at hF
    subst hF
    go_wp2
    go_ret
    exact ⟨rfl, H.out.2⟩
theorem xholi_is {B C n cap : Nat} {p : Option Addr} {l : List Ex} {w : World} (P : Bk -> Bool) (hv : RA exE w (.slice p n cap) l) (hP : ∀ x ∈ l, ∀ W, Below w.heap.size w W -> Calls Tryz.prog 112 #[.agg (xc x), .pointer (some ⟨B, 0, none⟩), .pointer (some ⟨C, 0, none⟩)] W fun e w' => e = .returned (.bool (P x.b)) /\ Below W.heap.size W w') :
 Calls Tryz.prog 111 #[.slice p n cap, .func (.func 112) #[] #[.pointer (some ⟨B, 0, none⟩), .pointer (some ⟨C, 0, none⟩)]] w fun e w' => e = .returned (.int .i64 (oi (ixF P 0 (l.map (·.b))))) /\ Below w.heap.size w w' := by
 obtain ⟨p', cap', e0, hlc, hcm⟩ := ra_shape hv
 cases e0
 unfold maxLen at hcm
 have eg : ∀ args w, (callFunc 112 args).run Tryz.prog w = .ok (.enter 112 args) w := Go.Proofs.enters_of Tryz.func112 (by kernel_rfl) rfl
 have HV := jz hv
 have HP := jz hP
 have HM := jz (And.intro hlc hcm)
 obtain ⟨R, hR⟩ : ∃ R, ixF P 0 (l.map (·.b)) = R := ⟨_, rfl⟩
 rw [hR]
 have HR := jz hR
 clear hv hP hlc hcm hR
 go_enter Tryz.func111, Tryz.ntmps111
 go_wp2
 go_loopw [8] (fun i wr => ∃ k : Nat, k <= l.length /\ i = .int .i64 k /\ Hid (ixF P k ((l.drop k).map (·.b)) = R /\ Below w.heap.size w wr)) (fun i _ => l.length - (intOf i).toNat)
 case atStart => exact ⟨0, Nat.zero_le _, rfl, jz ⟨by rw [List.drop_zero]; exact HR.out, Below.refl _ _⟩⟩
 case round =>
  obtain ⟨k, hk, rfl, H⟩ := hrel
  by_cases hlt : k < l.length
  . obtain ⟨b, off, e, _, hx⟩ := ex_at (ra_below HV.out H.out.2) (by omega)
    subst e
    obtain ⟨hl, _, _⟩ := hx k hlt
    obtain ⟨X, hX⟩ : ∃ X, l.getD k default = X := ⟨_, rfl⟩
    rw [hX] at hl
    have i0 : (0 : Int) <= (k : Int) := by omega
    have i3 : (k : Int) < (l.length : Int) := by omega
    have i4 : ¬ (k : Int) < 0 := by omega
    have j0 : IntKind.i64.wrap ((k : Int) + 1) = ((k + 1 : Nat) : Int) := by rw [show (k : Int) + 1 = ((k + 1 : Nat) : Int) by omega]; exact i64_nat _ (by have := HM.out; omega)
    have HK := jz hlt
    have hmem : X ∈ l := by rw [<- hX, List.getD_eq_getElem?_getD, List.getElem?_eq_getElem hlt]; exact List.getElem_mem hlt
    have hdr : l.drop k = X :: l.drop (k + 1) := by rw [<- hX, List.getD_eq_getElem?_getD, List.getElem?_eq_getElem hlt]; exact List.drop_eq_getElem_cons hlt
    have hF := H.out.1
    rw [hdr, List.map_cons, ixF] at hF
    have KS := jz (HP.out X hmem wr H.out.2)
    clear hx hX hlt hk hmem hdr
    obtain ⟨q, hq⟩ : ∃ q, P X.b = q := ⟨_, rfl⟩
    rw [hq] at KS hF
    clear hq
    cases q
    . rw [if_neg Bool.false_ne_true] at hF
      have HF := jz hF
      clear hF
      go_wp2_with fail
      refine KS.out.mono ?_; rintro e w' ⟨rfl, hb'⟩
      go_wp2
      have HB := jz (below_more H.out.2 hb')
      clear hb'
      go_roundw
      case rel => exact ⟨k + 1, by have := HK.out; omega, by go_num, jz ⟨HF.out, HB.out⟩⟩
      case measure => have := HK.out; simp [intOf]; omega
    . rw [if_pos rfl] at hF
      subst hF
      go_wp2_with fail
      refine KS.out.mono ?_; rintro e w' ⟨rfl, hb'⟩
      go_wp2
      go_ret
      exact ⟨rfl, below_more H.out.2 hb'⟩
  . obtain rfl : k = l.length := by omega
    have hF := H.out.1
    rw [List.drop_length] at hF
    subst hF
    go_wp2
    go_ret
    exact ⟨rfl, H.out.2⟩
theorem btw_is (x y : Int) (hx : 0 <= x /\ x <= 1000) (hy : 0 <= y /\ y <= 1000) (w : World) : Calls Tryz.prog 81 #[.int .i64 x, .int .i64 y] w fun e w' => (∃ v, e = .returned v /\ OwnA blkE w.heap.size w' v (btw x y)) /\ Below w.heap.size w w' := by
 by_cases h : x = y
 . subst h
   rw [btw, if_pos rfl]
   clear hx hy
   have e1 : (x == x) = true := by simp
   go_enter Tryz.func81, Tryz.ntmps81
   go_wp2_with fail
   go_ret
   exact ⟨⟨_, rfl, own_nil_a _ _ _⟩, Below.refl _ _⟩
 . rw [btw, if_neg h]
   have e1 : (x == y) = false := beq_eq_false_iff_ne.2 h
   obtain ⟨d, hd⟩ : ∃ d, y - x = d := ⟨_, rfl⟩
   have e2 : IntKind.i64.wrap (y - x) = d := by rw [<- hd]; exact IntWalk.i64_in _ (by omega)
   have hO := jz (blk_one w (c := ⟨x, d, false⟩) (Bk.wf_of (by simp only; omega) (by simp only; omega) (by simp only; omega) (by simp only; omega)))
   rw [hd]
   clear hd
   clear h hx hy
   go_enter Tryz.func81, Tryz.ntmps81
   go_wp2_with fail
   go_ret
   exact ⟨⟨_, rfl, hO.out⟩, bal (Below.refl _ _)⟩
theorem own_ne {P : Program} {α : Type} [Inhabited α] {E : Elm P α} {B : Nat} {w w' : World} {v : Value} {l : List α} (h : OwnA E B w v l) (hs : w.heap.size <= w'.heap.size) : some w'.heap.size ≠ v.ownBlock := fun e => by
 have := (h.lt _ e.symm).2
 omega
theorem mobl_is {D : List Nat} {g : Nat} {wl : List Int} {l : List Bk} {r : Int} (w : World) (h : Mo w D g wl l r) :
 Calls Tryz.prog 45 #[.pointer (some ⟨g, 0, none⟩)] w fun e w' => (∃ v, e = .returned v /\ OwnA blkE w.heap.size w' v l) /\ Below w.heap.size w w' := by
 obtain ⟨hlen, hwl, hm⟩ := h.len
 obtain ⟨v, us, hW, hR, hF, hU, _⟩ := h.rows
 obtain ⟨p, cap, rfl, hlc, hcm⟩ := ra_shape hR
 have c1 : w.cell? ⟨g, 1, none⟩ = some (.slice p us.length cap) := by rw [Whole.at_ hW]; rfl
 have HC := jz (fun (w' : World) (hb : Below w.heap.size w w') => (show w'.cell? ⟨g, 0, none⟩ = some (.int .i64 (wl.length : Int)) by rw [hb.cell (p := ⟨g, 0, none⟩) hW.lt, Whole.at_ hW]; rfl))
 have HV := jz hR
 have HU := jz (And.intro hU.map (hU.len ▸ Nat.le_trans (usd_len l) hlen))
 have HM := jz hm
 have HL := jz (And.intro hlen hwl)
 clear hlen hwl hm hW hR hF hU hlc hcm h
 go_enter Tryz.func45, Tryz.ntmps45
 go_wp2
 go_loopw [3, 4, 14] (fun lv z i wr => ∃ (k : Nat) (c : List Bk) (e : Int), k <= us.length /\ i = .int .i64 k /\ z = .int .i64 e /\ Hid (OwnA blkE w.heap.size wr lv c /\ c ++ bls wl.length e ((usd l).drop k) = l /\ 0 <= e /\ e <= 512 /\ Below w.heap.size w wr)) (fun _ _ i _ => us.length - (intOf i).toNat)
 case atStart => exact ⟨0, [], 0, Nat.zero_le _, rfl, rfl, jz ⟨own_nil_a _ _ _, by rw [List.drop_zero, List.nil_append]; exact bls_is HM.out, by omega, by omega, Below.refl _ _⟩⟩
 case round =>
  obtain ⟨k, c, e, hk, rfl, rfl, H⟩ := hrel
  by_cases hlt : k < us.length
  . obtain ⟨b, off, rfl, _, hx⟩ := ex_at (ra_below HV.out H.out.2.2.2.2) (by omega)
    obtain ⟨hl, _, hwf⟩ := hx k hlt
    have hbb : (us.getD k default).b = (usd l).getD k default := by
     rw [<- HU.out.1, List.getD_eq_getElem?_getD, List.getD_eq_getElem?_getD, List.getElem?_map, List.getElem?_eq_getElem hlt]; rfl
    have hku : k < (usd l).length := by rw [<- HU.out.1, List.length_map]; exact hlt
    obtain ⟨_, bu, b2, b3, b4, b5, _⟩ := usd_in HM.out (getD_mem hku)
    have hF := H.out.2.1
    rw [getD_cut hku, bls, <- hbb] at hF
    rw [<- hbb] at bu b2 b3 b4
    obtain ⟨X, hX⟩ : ∃ X, us.getD k default = X := ⟨_, rfl⟩
    rw [hX] at hl hwf hF bu b2 b3 b4
    obtain ⟨W, hW, hst, HW⟩ := ex_boxed wr X hwf.one
    obtain ⟨⟨a, s, u⟩, xv, ws⟩ := X
    simp only at bu b2 b3 b4 hF
    subst bu
    have c0 : W.cell? ⟨wr.heap.size, 0, none⟩ = some (.int .i64 a) := HW.out.1.c0
    have C := jz (fun w' => btw_is e a ⟨H.out.2.2.1, by have := H.out.2.2.2.1; omega⟩ ⟨by omega, by omega⟩ w')
    have i0 : (0 : Int) <= (k : Int) := by omega
    have i3 : (k : Int) < (us.length : Int) := by omega
    have i4 : ¬ (k : Int) < 0 := by omega
    have j0 : IntKind.i64.wrap ((k : Int) + 1) = ((k + 1 : Nat) : Int) := by rw [show (k : Int) + 1 = ((k + 1 : Nat) : Int) by omega]; exact i64_nat _ (by have := HU.out.2; omega)
    have j1 : IntKind.i64.wrap (a + s) = a + s := IntWalk.i64_in _ (by omega)
    have HK := jz (show k < us.length /\ 2 <= s /\ 0 <= a /\ a + s <= wl.length /\ (wl.length : Int) <= 512 from ⟨hlt, b2, b3, b4, b5⟩)
    have HF := jz hF
    have hcl : Hid (c.length + (btw e a).length <= 2000 /\ (c ++ btw e a).length + 1 <= 2000) := jz (by
     have h1 := congrArg List.length hF
     have h2 := btw_len e a
     rw [List.length_append] at h1
     have := HL.out.1
     rw [List.length_append]
     omega)
    have HWF := jz hwf.wb
    have HB := jz (below_more H.out.2.2.2.2 HW.out.2)
    clear hx hX hlt hk hF hbb hku b2 b3 b4 b5 hwf
    go_wp2_with fail
    refine (C.out _).mono ?_; rintro e' w1 ⟨⟨v1, rfl, o1⟩, b1⟩
    have O1 := jz o1.ra
    have B1 := jz b1
    have X1 := jz (HW.out.1.below b1)
    clear o1 b1
    obtain ⟨p1, q1, rfl, _, _⟩ := ra_shape O1.out
    go_wp2_with (at_builtin; refine app_blk rfl _ _ rfl _ _ _ rfl (H.out.1.below (below_more HW.out.2 B1.out)) _ _ rfl O1.out (jz hcl.out.1) (below_more HB.out B1.out).size ?_)
    intro v2 w2 o2 g2 x2
    have O2 := jz o2
    have B2 := jz (below_app (below_more HB.out B1.out) (below_more HB.out B1.out).size (H.out.1.below (below_more HW.out.2 B1.out)) g2)
    have X2 := jz (show Xv w2 wr.heap.size ⟨⟨a, s, true⟩, xv, ws⟩ from Whole.grown X1.out g2 (own_ne H.out.1 (Nat.le_refl _)))
    have N2 : Hid (some wr.heap.size ≠ v2.ownBlock) := jz (fun q => by
     rcases x2 with x2 | x2
     . rw [x2] at q; exact own_ne H.out.1 (Nat.le_refl _) q
     . rw [x2] at q
       have q2 := Option.some.inj q
       have := X1.out.lt
       omega)
    have l2 := X2.out.block
    simp only at l2
    clear o2 g2 x2
    go_wp2_with (at_builtin; refine app_blk rfl _ _ rfl _ _ _ rfl (O2.out.alloc _) _ _ rfl (blk_one w2 HWF.out).ra (jz hcl.out.2) (bal B2.out).size ?_)
    intro v3 w3 o3 g3 x3
    have X3 := jz (show Xv w3 wr.heap.size ⟨⟨a, s, true⟩, xv, ws⟩ from Whole.grown (Whole.alloc X2.out _) g3 N2.out)
    have B3 := jz (below_app (bal B2.out) (bal B2.out).size (O2.out.alloc _) g3)
    have O3 := jz o3
    have d0 : w3.cell? ⟨wr.heap.size, 0, none⟩ = some (.int .i64 a) := X3.out.c0
    have d1 : w3.cell? ⟨wr.heap.size, 1, none⟩ = some (.int .i64 s) := X3.out.c1
    clear o3 g3 x3
    go_wp2
    go_roundw
    case rel => exact ⟨k + 1, _, a + s, by have := HK.out; omega, by go_num, rfl, jz ⟨O3.out, by have := HF.out; simpa using this, by have := HK.out; have := H.out; omega, by have := HK.out; omega, B3.out⟩⟩
    case measure => have := HK.out; simp [intOf]; omega
  . obtain rfl : k = us.length := by omega
    have hF := H.out.2.1
    rw [List.drop_eq_nil_of_le (by rw [<- HU.out.1, List.length_map]; exact Nat.le_refl _), bls] at hF
    have cn := HC.out wr H.out.2.2.2.2
    have C := jz (fun w' => btw_is e wl.length ⟨H.out.2.2.1, by have := H.out.2.2.2.1; omega⟩ ⟨by omega, by have := HL.out.2; omega⟩ w')
    have hcl : Hid (c.length + (btw e wl.length).length <= 2000) := jz (by
     have h1 := congrArg List.length hF
     rw [List.length_append] at h1
     have := HL.out.1
     omega)
    have HF := jz hF
    clear hF hlt hk
    generalize wl.length = N at *
    go_wp2_with fail
    refine (C.out _).mono ?_; rintro e' w1 ⟨⟨v1, rfl, o1⟩, b1⟩
    have O1 := jz o1.ra
    have B1 := jz b1
    clear o1 b1
    go_wp2_with (at_builtin; refine app_blk rfl _ _ rfl _ _ _ rfl (H.out.1.below B1.out) _ _ rfl O1.out hcl (below_more H.out.2.2.2.2 B1.out).size ?_)
    intro v2 w2 o2 g2 x2
    have O2 := jz o2
    have B2 := jz (below_app (below_more H.out.2.2.2.2 B1.out) (below_more H.out.2.2.2.2 B1.out).size (H.out.1.below B1.out) g2)
    clear o2 g2 x2
    go_wp2
    go_ret
    exact ⟨⟨_, rfl, by rw [HF.out] at O2; exact O2.out⟩, B2.out⟩
theorem plS_snoc (z : Int) (b : Bk) : ∀ (l : List Bk) (k : Nat), plS z k (l ++ [b]) = plS z k l ++ (if hasS z b = true then [k + l.length] else [])
 | [], k => by rw [List.nil_append, plS, plS, plS, List.nil_append]; rfl
 | c :: r, k => by
   rw [List.cons_append, plS, plS_snoc z b r, plS, List.length_cons, show k + 1 + r.length = k + (r.length + 1) by omega]
   split
   . rw [List.cons_append]
   . rfl
theorem plS_len (z : Int) : ∀ (l : List Bk) (k : Nat), (plS z k l).length <= l.length
 | [], k => by rw [plS]; exact Nat.le_refl _
 | b :: r, k => by
   have := plS_len z r (k + 1)
   rw [plS, List.length_cons]
   split
   . rw [List.length_cons]; omega
   . omega
def fbl (n : Int) (l : List Bk) : List Bk := (fitN n l).map fun i => l.getD i default
def fos (n : Int) (l : List Bk) : List Int := (fbl n l).map fun b => offB b.a
theorem fbl_len (n : Int) (l : List Bk) : (fbl n l).length <= l.length := by
 rw [fbl, List.length_map]
 unfold fitN
 split
 . simp
 . exact plS_len _ _ _
theorem map_snoc {α β : Type} [Inhabited α] (f : α -> β) {l : List α} {k : Nat} (hk : k < l.length) : (l.take (k + 1)).map f = (l.take k).map f ++ [f (l.getD k default)] := by
 rw [List.take_add_one, List.getElem?_eq_getElem hk, List.getD_eq_getElem?_getD, List.getElem?_eq_getElem hk, List.map_append]
 rfl
theorem mfit_is {D : List Nat} {g : Nat} {wl : List Int} {l : List Bk} {r : Int} (N : Int) (w : World) (h : Mo w D g wl l r) :
 Calls Tryz.prog 105 #[.pointer (some ⟨g, 0, none⟩), .int .i64 N] w fun e w' => (∃ v, e = .returned v /\ OwnA blkE w.heap.size w' v (fbl N l)) /\ Below w.heap.size w w' := by
 obtain ⟨hlen, _, _⟩ := h.len
 have C1 := jz (mobl_is w h)
 have C2 := jz (fun v w' (hv : RA blkE w' v l) => fits_is N l v w' hv (by omega))
 have hm : ∀ i ∈ fitN N l, i < l.length := fun i hi => (fitN_mem hi).1
 have hfl : (fitN N l).length <= 256 := by
  have := fbl_len N l
  rw [fbl, List.length_map] at this
  omega
 unfold fbl
 generalize fitN N l = F at *
 have HM := jz hm
 have HL := jz (And.intro hlen hfl)
 clear hm hlen hfl h
 go_enter Tryz.func105, Tryz.ntmps105
 go_wp2_with fail
 refine (C1.out).mono ?_; rintro e w1 ⟨⟨v1, rfl, o1⟩, b1⟩
 have D1 := jz b1
 have O1 := jz o1.ra
 clear b1 o1 C1
 go_wp2_with fail
 refine (C2.out _ _ O1.out).mono ?_; rintro e w2 ⟨⟨v2, rfl, o2⟩, b2⟩
 have D2 := jz (below_more D1.out b2)
 have HF := jz o2.ri
 have O2 := jz (ra_below O1.out b2)
 obtain ⟨pf, cf, rfl⟩ := o2.shape
 obtain ⟨pl, cl, rfl, _, _⟩ := ra_shape O1.out
 clear b2 o2 C2 O1
 rw [ins_length] at HF ⊢
 go_wp2
 go_loopw [6, 15] (fun y i wr => ∃ (k : Nat), k <= F.length /\ i = .int .i64 k /\ Hid (OwnA blkE w2.heap.size wr y ((F.take k).map fun i => l.getD i default) /\ Below w2.heap.size w2 wr)) (fun _ i _ => F.length - (intOf i).toNat)
 case atStart => exact ⟨0, Nat.zero_le _, rfl, jz ⟨own_nil_a _ _ _, Below.refl _ _⟩⟩
 case round =>
  obtain ⟨k, hk, rfl, H⟩ := hrel
  by_cases hlt : k < F.length
  . obtain ⟨bf, of, rfl, _, hfr⟩ := ri_some (ri_below HF.out H.out.2) (by rw [ins_length]; omega)
    have cf1 := hfr k (by rw [ins_length]; exact hlt)
    rw [ins_getD hlt] at cf1
    have hi := HM.out _ (getD_mem_n hlt)
    obtain ⟨b, off, rfl, _, hx⟩ := blk_at (ra_below O2.out H.out.2) (by omega)
    obtain ⟨hld, _, _, _, hwf⟩ := hx _ hi
    have HS := jz (map_snoc (fun i => l.getD i default) hlt)
    have i0 : (0 : Int) <= (k : Int) := by omega
    have i1 : (k : Int) < (F.length : Int) := by omega
    have i2 : ¬ (k : Int) < 0 := by omega
    have i3 : IntKind.i64.wrap ((k : Int) + 1) = ((k + 1 : Nat) : Int) := by rw [show (k : Int) + 1 = ((k + 1 : Nat) : Int) by omega]; exact i64_nat _ (by have := HL.out; omega)
    have q1 : ((F.getD k 0 : Nat) : Int) < (l.length : Int) := by omega
    have q3 : ¬ ((F.getD k 0 : Nat) : Int) < 0 := by omega
    have q5 : (0 : Int) <= ((F.getD k 0 : Nat) : Int) := by omega
    have HK := jz hlt
    have HW := jz hwf
    have hcl : Hid (((F.take k).map fun i => l.getD i default).length + 1 <= 2000) := jz (by rw [List.length_map, List.length_take]; have := HL.out; omega)
    clear hfr hk hx hwf hi hlt
    change Hid (_ = _ ++ [l.getD (F.getD k 0) default]) at HS
    have HO := jz H.out.1
    have HB := jz H.out.2
    obtain ⟨Z, hZ⟩ : ∃ Z, (F.take k).map (fun i => l.getD i default) = Z := ⟨_, rfl⟩
    rw [hZ] at hcl HS HO
    clear H hZ
    generalize F.getD k 0 = I at *
    generalize l.getD I default = X at *
    go_wp2_with (at_builtin; refine app_blk rfl _ _ rfl _ _ _ rfl (HO.out.alloc _) _ _ rfl (blk_one wr HW.out).ra hcl (bal HB.out).size ?_)
    intro v3 w3 o3 g3 x3
    have B3 := jz (below_app (bal HB.out) (bal HB.out).size (HO.out.alloc _) g3)
    have O3 := jz o3
    clear o3 g3 x3
    go_wp2
    go_roundw
    case rel => exact ⟨k + 1, by have := HK.out; omega, by go_num, jz ⟨by rw [HS.out]; exact O3.out, B3.out⟩⟩
    case measure => have := HK.out; simp [intOf]; omega
  . obtain rfl : k = F.length := by omega
    have HF := H.out
    rw [List.take_length] at HF
    go_wp2
    go_ret
    exact ⟨⟨_, rfl, HF.1.mono D2.out.size⟩, below_more D2.out HF.2⟩
theorem mofs_is {D : List Nat} {g : Nat} {wl : List Int} {l : List Bk} {r : Int} (n : Int) (w : World) (h : Mo w D g wl l r) :
 Calls Tryz.prog 67 #[.pointer (some ⟨g, 0, none⟩), .int .i64 n] w fun e w' => (∃ v, e = .returned v /\ OwnI w.heap.size w' v (fos (needN n) l)) /\ Below w.heap.size w w' := by
 obtain ⟨hlen, _, _⟩ := h.len
 have hfl := fbl_len (needN n) l
 have C0 := jz (fun w => need_is n w)
 have C1 := jz (mfit_is (needN n) w h)
 unfold fos
 generalize needN n = N at *
 generalize fbl N l = F at *
 have HL := jz (show F.length <= 256 by omega)
 clear hlen hfl h
 go_enter Tryz.func67, Tryz.ntmps67
 go_wp2_with fail
 refine (C0.out _).mono ?_; rintro e w1 ⟨rfl, rfl⟩
 go_wp2_with fail
 refine (C1.out).mono ?_; rintro e w1 ⟨⟨v1, rfl, o1⟩, b1⟩
 have D1 := jz b1
 have O1 := jz o1.ra
 obtain ⟨pf, cf, rfl, _, _⟩ := ra_shape O1.out
 clear b1 o1 C1
 go_wp2
 go_loopw [5, 13] (fun y i wr => ∃ (k : Nat), k <= F.length /\ i = .int .i64 k /\ Hid (OwnI w1.heap.size wr y ((F.take k).map fun b => offB b.a) /\ Below w1.heap.size w1 wr)) (fun _ i _ => F.length - (intOf i).toNat)
 case atStart => exact ⟨0, Nat.zero_le _, rfl, jz ⟨ownI_nil' _ _, Below.refl _ _⟩⟩
 case round =>
  obtain ⟨k, hk, rfl, H⟩ := hrel
  by_cases hlt : k < F.length
  . obtain ⟨b, off, rfl, _, hx⟩ := blk_at (ra_below O1.out H.out.2) (by omega)
    obtain ⟨hld, _, _, _, _⟩ := hx _ hlt
    have HS := jz (map_snoc (fun b => offB b.a) hlt)
    have i0 : (0 : Int) <= (k : Int) := by omega
    have i1 : (k : Int) < (F.length : Int) := by omega
    have i2 : ¬ (k : Int) < 0 := by omega
    have i3 : IntKind.i64.wrap ((k : Int) + 1) = ((k + 1 : Nat) : Int) := by rw [show (k : Int) + 1 = ((k + 1 : Nat) : Int) by omega]; exact i64_nat _ (by have := HL.out; omega)
    have HK := jz hlt
    have hcl : Hid (((F.take k).map fun b => offB b.a).length + 1 <= 1000000) := jz (by rw [List.length_map, List.length_take]; have := HL.out; omega)
    have HO := jz H.out.1
    have HB := jz H.out.2
    clear hk hx hlt
    change Hid (_ = _ ++ [offB (F.getD k default).a]) at HS
    obtain ⟨Z, hZ⟩ : ∃ Z, (F.take k).map (fun b => offB b.a) = Z := ⟨_, rfl⟩
    rw [hZ] at hcl HS HO
    clear H hZ
    generalize F.getD k default = X at *
    obtain ⟨W, hW, HW⟩ := blk_boxed wr X
    have l0 := HW.out.1.load
    obtain ⟨x, hx⟩ : ∃ x, offB X.a = x := ⟨_, rfl⟩
    have C := jz (off_is X x hx W)
    rw [hx] at HS
    clear hx
    go_wp2_with fail
    refine (C.out).mono ?_; rintro e w2 ⟨rfl, b2⟩
    have B2 := jz (below_more HW.out.2 b2)
    clear b2
    go_wp2_with (at_builtin; refine list_app_int rfl _ _ rfl w1.heap.size _ _ rfl (World.ownsRow.alloc (own_below_i HO.out B2.out) _) _ [x] rfl (ri_one _ _) hcl.out (bal (below_more HB.out B2.out)).size ?_)
    intro v3 w3 o3 g3 x3
    have B3 := jz (Below.grown (bal (below_more HB.out B2.out)) g3 (bal (below_more HB.out B2.out)).size (fun q hq => (World.ownsRow.lt HO.out q hq).1))
    have O3 := jz o3
    clear o3 g3 x3
    go_wp2
    go_roundw
    case rel => exact ⟨k + 1, by have := HK.out; omega, by go_num, jz ⟨by rw [HS.out]; exact O3.out, B3.out⟩⟩
    case measure => have := HK.out; simp [intOf]; omega
  . obtain rfl : k = F.length := by omega
    have HF := H.out
    rw [List.take_length] at HF
    go_wp2
    go_ret
    exact ⟨⟨_, rfl, OwnI.mono HF.1 D1.out.size⟩, below_more D1.out HF.2⟩
def str8 (L : List Int) : List UInt8 := L.map fun n => UInt8.ofNat n.toNat
def bsR : Value -> Option (DataW Unit × List MemPlace)
 | .agg cs => match cs.toList with
   | [.string s] => some (.lit (.string s.data.toList), [])
   | _ => none
 | _ => none
structure HM (w : World) (b n : Nat) (S : Int -> Option (List Int)) : Prop where
 ex : ∃ D : DataW Unit, w.ownsMap Tryz.prog 3 bsR b n D /\ (∀ x, Maps.has D (.int .i64 x) = (S x).isSome) /\ ∀ x L, S x = some L -> ∀ z, D.atKey (.int .i64 x) z = .lit (.string (str8 L))
section
variable {w w' : World} {b n : Nat} {S : Int -> Option (List Int)}
end
section
variable {w : World} {ops : Array Oper} {rest : List Oper} {o : Oper} {a : Act} {Q : Exit -> Act -> World -> Prop} {b n r cnt : Nat} {D : DataW Unit} {left : Lit -> Bool}
end
theorem lie_apart {n : Int} {l : List Bk} (h : mayL n l = true) {b c : Bk} (hb : b ∈ l) (hc : c ∈ l) (hne : b.a ≠ c.a) : b.a + b.s <= c.a \/ c.a + c.s <= b.a := by
 obtain ⟨i, hi, rfl⟩ := List.getElem_of_mem hb
 obtain ⟨j, hj, rfl⟩ := List.getElem_of_mem hc
 have e1 : l[i] = l.getD i default := by rw [List.getD_eq_getElem?_getD, List.getElem?_eq_getElem hi]; rfl
 have e2 : l[j] = l.getD j default := by rw [List.getD_eq_getElem?_getD, List.getElem?_eq_getElem hj]; rfl
 have hf := (mayL_yes.1 h).2
 rw [e1, e2] at hne ⊢
 rcases Nat.lt_trichotomy i j with c | c | c
 . exact .inl (mayF_apart hf i j c hj)
 . subst c
   exact absurd rfl hne
 . exact .inr (mayF_apart hf j i c hi)
theorem mtake_is {D : List Nat} {g : Nat} {wl : List Int} {l : List Bk} {r : Int} {d z t : Nat} {N : Int} (w : World) (h : Mo w D g wl l r) (hc : canC l d N = true) (hz : (l.getD d default).a = z) (ht : takN (l.getD d default).s N = t) :
 Calls Tryz.prog 106 #[.pointer (some ⟨g, 0, none⟩), .int .i64 z, .int .i64 t] w fun e w' => e = .returned (.tuple #[]) /\ Mo w' D g (appF wl (cedF l d N)) (crvF l d N) r /\ Chg [g] w w' := by
 obtain ⟨hlen, hwl, hm⟩ := h.len
 obtain ⟨v, us, hW, hR, hF, hU, hP⟩ := h.rows
 obtain ⟨j, z', t', hat, hz', ht', hj, hus, hlo, hhi⟩ := usd_crv hm hc
 obtain rfl : z = z' := by omega
 obtain rfl : t = t' := by omega
 obtain ⟨hB', z', t', m, hg', ht2, htm, hgt, hT⟩ := taken h.hB h.ok hc
 rw [hgt] at hat
 obtain ⟨rfl, rfl⟩ : z = z' /\ t = t' := by
  injection hat with e1 e2 e3
  omega
 have hm1 := blkF_some hB'
 have hlen1 := crv_length hc
 have hd0 : d < l.length := by
  obtain ⟨_, h0, h1, _⟩ := canC_yes.1 hc
  omega
 have hd1 : d < (crvF l d N).length := by rw [hlen1]; split <;> omega
 obtain ⟨⟨s1, s2⟩, s3, s4⟩ := at_in hm1 hd1
 rw [hgt] at s1 s2 s3 s4
 simp only at s1 s2 s3 s4
 rw [hT.len] at s4
 have hul := hU.len
 -- the words behind the header, the extent
 have hmk := run_make_row' (P := Tryz.prog) 65 50 (.int .u64 0) 8 Tryz.underlying65 info_u64 rfl .i64 .i64 (t - 1) (by omega) (by omega)
 obtain ⟨T, hTt⟩ : ∃ T, t - 1 = T := ⟨_, rfl⟩
 rw [hTt] at hmk
 have i0 : IntKind.i64.wrap ((t : Int) - 1) = (T : Int) := by rw [show (t : Int) - 1 = (T : Int) by omega]; exact i64_nat _ (by omega)
 have hO0 := own_made_u w T (by unfold maxLen; omega)
 obtain ⟨W1, hW1⟩ : ∃ W1, w.alloc (.cells (madeCells #[.int .u64 0] T) 50) = W1 := ⟨_, rfl⟩
 have hB1 : Below w.heap.size w W1 := by rw [<- hW1]; exact bal (Below.refl _ _)
 rw [hW1] at hO0
 have hbd : ∀ w', (exBuild #[(0, .agg (bc ⟨z, t, true⟩)), (1, .slice (some ⟨w.heap.size, 0, none⟩) T T)]).run Tryz.prog w' = .ok (.agg (xc ⟨⟨z, t, true⟩, .slice (some ⟨w.heap.size, 0, none⟩) T T, List.replicate T 0⟩)) w' := fun w' => run_exBuild w' _ _ _ _ _
 obtain ⟨X, hX⟩ : ∃ X : Ex, (⟨⟨z, t, true⟩, .slice (some ⟨w.heap.size, 0, none⟩) T T, List.replicate T 0⟩ : Ex) = X := ⟨_, rfl⟩
 have hXv : X.v.oneCell' = true := by rw [<- hX]; rfl
 have hXwf : X.Wf := ⟨by rw [<- hX]; exact Bk.wf_of (by simp only; omega) (by simp only; omega) (by simp only; omega) (by simp only; omega), hXv⟩
 have hsl : ∀ w', (exSlice 1 #[(0, .agg (xc X))]).run Tryz.prog w' = .ok (.slice (some ⟨w'.heap.size, 0, none⟩) 1 1) (w'.alloc (.cells (xc X) 126)) := fun w' => run_exSlice1 w' X (by rw [<- hX])
 have hXb : X.b = ⟨z, t, true⟩ := by rw [<- hX]
 have hXw : X.ws = List.replicate (t - 1) 0 /\ RU W1 X.v X.ws /\ Far W1 D X.v := by
  rw [<- hX, hTt]
  exact ⟨rfl, OwnU.ru hO0, far_own_u hO0 h.dlt⟩
 rw [hX] at hbd
 clear hX
 obtain ⟨W2, hW2, hst, HW2⟩ := ex_boxed W1 X hXv
 have hB2 := below_more hB1 HW2.out.2
 -- what is in the model then
 have FIN : Hid (∀ (wq : World) (u : Value), Below W2.heap.size W2 wq -> OwnA exE W2.heap.size wq u (us.take j ++ (X :: us.drop j)) -> Mo (wq.setCell ⟨g, 1, none⟩ u) D g (appF wl (cedF l d N)) (crvF l d N) r /\ Chg [g] w (wq.setCell ⟨g, 1, none⟩ u)) := jz fun wq u hb ho => by
  refine h.put (below_more hB2 hb) ho hB2.size hB' hT.ok hT.len ?_ fun x hx => ?_
  . rw [hus, <- hU.map, List.map_append, List.map_cons, List.map_take, List.map_drop, hXb]
  . have hWq : Below W1.heap.size W1 wq := below_more HW2.out.2 hb
    have old : ∀ x ∈ us, x.ws = cut (appF wl (cedF l d N)) x.b /\ RU wq x.v x.ws /\ Far wq D x.v := fun x hx => by
     obtain ⟨g1, g2, g3⟩ := hU.ws x hx
     have hxl : x.b ∈ usd l := by rw [<- hU.map]; exact List.mem_map.2 ⟨x, hx, rfl⟩
     obtain ⟨q1, q2, q3, q4, q5, _⟩ := usd_in hm hxl
     refine ⟨?_, ru_below g2 (below_more hB2 hb), g3.grow (below_more hB2 hb).size⟩
     rw [g1]
     refine (cut_same hT.len q4 fun i i1 i2 => hT.far i ?_).symm
     have hne : x.b.a ≠ (l.getD d default).a := fun e => by
      obtain ⟨i, hi, e2⟩ := List.getElem_of_mem q1
      have e3 : l.getD i default = x.b := by rw [List.getD_eq_getElem?_getD, List.getElem?_eq_getElem hi, <- e2]; rfl
      have := apart_a hm hi hd0 (by rw [e3, e])
      subst this
      rw [<- e3, hg'] at q2
      cases q2
     have := lie_apart hm q1 (getD_mem hd0) hne
     rw [hg'] at this
     simp only at this
     omega
    rcases List.mem_append.1 hx with hx | hx
    . exact old x (List.mem_of_mem_take hx)
    . rcases List.mem_cons.1 hx with rfl | hx
      . refine ⟨?_, ru_below hXw.2.1 hWq, hXw.2.2.grow hWq.size⟩
        rw [hXw.1, hXb]
        exact (cut_nul (by rw [hT.len]; omega) fun i i1 i2 => hT.nul i i1 i2).symm
      . exact old x (List.mem_of_mem_drop hx)
 have CC : Hid (∀ u1 u2 : Value, RA exE W2 u1 (us.take j) -> RA exE W2 u2 (us.drop j) -> Calls Tryz.prog 142 #[.slice (some ⟨W2.heap.size + 1, 0, none⟩) 3 3]
  ((W2.alloc (.cells (xc X) 126)).alloc (.cells #[u1, .slice (some ⟨W2.heap.size, 0, none⟩) 1 1, u2] 114)).drew fun e w' => (∃ u, e = .returned u /\ OwnA exE W2.heap.size w' u (us.take j ++ (X :: us.drop j))) /\ Below W2.heap.size W2 w') := jz fun u1 u2 h1 h2 => by
  have b1 : Below W2.heap.size W2 (W2.alloc (.cells (xc X) 126)) := bal (Below.refl _ _)
  have h3 := xrows3 (ra_below h1 b1) (ex_one W2 hXwf).ra (ra_below h2 b1)
  rw [size_alloc] at h3
  have h4 := ras_below h3 ((Below.refl _ _).drew)
  have b2 := (bal (o := .cells #[u1, .slice (some ⟨W2.heap.size, 0, none⟩) 1 1, u2] 114) b1).drew
  refine (xconcat_is [us.take j, [X], us.drop j] _ _ h4 (by simp) (by
   have := usd_len l
   simp only [xlens, List.map_cons, List.map_nil, List.sum_cons, List.sum_nil, List.length_take, List.length_drop, List.length_cons, List.length_nil]
   omega)).mono ?_
  rintro e w' ⟨⟨v, rfl, ho⟩, hb'⟩
  refine ⟨⟨v, rfl, ?_⟩, below_more b2 hb'⟩
  have := ho.mono b2.size
  simpa using this
 obtain ⟨U, hUu⟩ : ∃ U, us.take j ++ (X :: us.drop j) = U := ⟨_, rfl⟩
 rw [hUu] at FIN CC
 clear hUu
 have HR := jz (ra_below hR hB2)
 have HC := jz (fun k (hk : k < us.length) b n c (e : v = .slice (some ⟨b, 0, none⟩) n c) => (show W2.cell? ⟨b, k * 4, none⟩ = some (.int .i64 (us.getD k default).b.a) by
  have hr := ra_below hR hB2
  rw [e] at hr
  obtain ⟨b', off, e', _, hx⟩ := ex_at hr (by omega)
  cases e'
  have := (hx k hk).2.1
  rwa [Nat.zero_add] at this))
 have HB2 := jz hB2
 have HLO := jz (fun k (hk : k < j) => (show (us.getD k default).b.a < z by rw [(hU.at_ (by omega)).1]; exact hlo k hk))
 have HHI := jz (fun (hk : j < us.length) => (show (z : Int) < (us.getD j default).b.a by rw [(hU.at_ hk).1]; exact hhi (by omega)))
 have HL := jz (show j <= us.length /\ us.length <= 256 by have := usd_len l; omega)
 have c1 : ∀ w', Below W2.heap.size W2 w' -> w'.cell? ⟨g, 1, none⟩ = some v := fun w' hb => by rw [(below_more hB2 hb).cell (p := ⟨g, 1, none⟩) hW.lt, Whole.at_ hW]; rfl
 have f1 : ∀ w', Below W2.heap.size W2 w' -> w'.frozen? ⟨g, 1, none⟩ = false := fun w' hb => Whole.free (((below_more hB2 hb).block g hW.lt).trans hW) 1
 have lx : ∀ w', Below W2.heap.size W2 w' -> (exLoad (.pointer (some ⟨W1.heap.size, 0, none⟩))).run Tryz.prog w' = .ok (.agg (xc X)) w' := fun w' hb => (HW2.out.1.below hb).load
 have c1w := c1 W2 (Below.refl _ _)
 obtain ⟨hLv, hLc⟩ : (∃ p c, v = .slice p us.length c) /\ True := by
  obtain ⟨p, c, e, _⟩ := ra_shape hR
  exact ⟨⟨p, c, e⟩, trivial⟩
 clear hlo hhi hR hU hF h hW hO0 hB' hgt hT hm hm1 hlen1 hd0 hd1 hat hus hc hz ht hz' ht' hg' ht2 htm s1 s2 s3 s4 hlen hwl hul hj hXw hXb hXwf hB1 hB2 hLc hTt
 rcases hP with rfl | ⟨b, n, cap, rfl⟩
 . obtain ⟨p, c, e⟩ := hLv
   injection e with e1 e2 e3
   obtain rfl : j = 0 := by have := HL.out; omega
   obtain rfl : us = [] := List.eq_nil_of_length_eq_zero e2.symm
   clear e1 e2 e3 HC HLO HHI HR HL
   have C3 := jz (CC.out (.slice none 0 0) (.slice none 0 0) (ra_nil _ _) (ra_nil _ _))
   clear CC
   go_enter Tryz.func106, Tryz.ntmps106
   go_wp2
   go_loopw [7] (fun i wr => i = .int .i64 0 /\ wr = W2) (fun _ _ => 0)
   case atStart => exact ⟨rfl, rfl⟩
   case round =>
    obtain ⟨rfl, rfl⟩ := hrel
    go_wp2_with fail
    have d1 := c1 wr.drew (Below.refl _ _).drew
    have d2 := c1 (wr.alloc (.cells (xc X) 126)).drew (bal (Below.refl _ _)).drew
    have d3 := lx wr.drew (Below.refl _ _).drew
    go_region_law (first
     | (go_simp; go_at_call 142; refine (C3.out).mono ?_; rintro e wq ⟨⟨uq, rfl, oq⟩, bq⟩
        have FQ := jz (FIN.out wq uq bq oq)
        have f2 := f1 wq bq
        have c2 := c1 wq bq
        obtain ⟨pq, cq, rfl, _, _⟩ := ra_shape oq.ra
        clear oq))
    all_goals
     go_wp2
     all_goals
      go_end0
      exact ⟨rfl, FQ.out⟩
 . obtain ⟨p, c, e⟩ := hLv
   injection e with e1 e2 e3
   subst e2 e3
   have h1 := ra_take HR.out j
   rw [Nat.min_eq_left HL.out.1] at h1
   have h2 := ra_cut HR.out HL.out.1
   rw [Nat.zero_add] at h2
   change RA exE W2 (.slice (if cap = j then some ⟨b, 0, none⟩ else some ⟨b, j * 4, none⟩) (us.length - j) (cap - j)) (us.drop j) at h2
   have C3 := jz (CC.out _ _ h1 h2)
   obtain ⟨_, _, e, hlc, _⟩ := ra_shape HR.out
   cases e
   have HN := jz (fun k hk => HC.out k hk b _ _ rfl)
   clear h1 h2 CC HR HC e1
   have i6 : (j : Int) <= (us.length : Int) := by have := HL.out; omega
   have i5 : (j : Int) <= (cap : Int) := by omega
   generalize us.length = L at *
   go_enter Tryz.func106, Tryz.ntmps106
   go_wp2
   go_loopw [7] (fun i wr => ∃ k : Nat, k <= j /\ i = .int .i64 k /\ wr = W2) (fun i _ => j - (intOf i).toNat)
   case atStart => exact ⟨0, Nat.zero_le _, rfl, rfl⟩
   case round =>
    obtain ⟨k, hk, rfl, rfl⟩ := hrel
    have i1 : IntKind.i64.wrap ((k : Int) + 1) = ((k + 1 : Nat) : Int) := by rw [show (k : Int) + 1 = ((k + 1 : Nat) : Int) by omega]; exact i64_nat _ (by have := HL.out; omega)
    have i3 : (0 : Int) <= (k : Int) := by omega
    have i4 : ¬ (k : Int) < 0 := by omega
    by_cases hlt : k < j
    . have hku : k < L := by have := HL.out; omega
      have hx0 := HN.out k hku
      have i2 : (k : Int) < (L : Int) := by omega
      have e1 := HLO.out k hlt
      have HK := jz hlt
      generalize (us.getD k default).b.a = y at *
      clear hk hlt hku
      go_wp2
      go_roundw
      case rel => exact ⟨k + 1, by have := HK.out; omega, by go_num, trivial⟩
      case measure => have := HK.out; simp [intOf]; omega
    . obtain rfl : k = j := by omega
      have d1 := c1 wr.drew (Below.refl _ _).drew
      have d2 := c1 (wr.alloc (.cells (xc X) 126)).drew (bal (Below.refl _ _)).drew
      have d3 := lx wr.drew (Below.refl _ _).drew
      by_cases hku : k < L
      . have hx0 := HN.out k hku
        have i2 : (k : Int) < (L : Int) := by omega
        have e1 := HHI.out hku
        have e2 : ¬ (us.getD k default).b.a < (z : Int) := by omega
        generalize (us.getD k default).b.a = y at *
        clear hk hlt hku e1 i1
        go_wp2_with fail
        go_region_law (first
         | (go_simp; go_at_call 142; refine (C3.out).mono ?_; rintro e wq ⟨⟨uq, rfl, oq⟩, bq⟩
            have FQ := jz (FIN.out wq uq bq oq)
            have f2 := f1 wq bq
            have c2 := c1 wq bq
            obtain ⟨pq, cq, rfl, _, _⟩ := ra_shape oq.ra
            clear oq))
        all_goals
         go_wp2
         all_goals
          go_end0
          exact ⟨rfl, FQ.out⟩
      . have i2 : ¬ (k : Int) < (L : Int) := by omega
        clear hk hlt i1
        go_wp2_with fail
        go_region_law (first
         | (go_simp; go_at_call 142; refine (C3.out).mono ?_; rintro e wq ⟨⟨uq, rfl, oq⟩, bq⟩
            have FQ := jz (FIN.out wq uq bq oq)
            have f2 := f1 wq bq
            have c2 := c1 wq bq
            obtain ⟨pq, cq, rfl, _, _⟩ := ra_shape oq.ra
            clear oq))
        all_goals
         go_wp2
         all_goals
          go_end0
          exact ⟨rfl, FQ.out⟩
theorem fit_can {N : Int} {l : List Bk} {m : Int} (hm : mayL m l = true) {d : Nat} (hd : d ∈ fitN N l) : d < l.length /\ canC l d N = true /\ (l.getD d default).u = false /\ N <= (l.getD d default).s /\ 2 <= N := by
 obtain ⟨h1, h2, _⟩ := fitN_mem hd
 obtain ⟨hu, h3, h4⟩ := fitB_iff.1 h2
 refine ⟨h1, ?_, hu, h4, h3⟩
 rw [can_at hm h1 h3, hu, decide_eq_true h4]
 rfl
def alQ (N : Int) (l : List Bk) (o : Int) : Option Nat := (fitN N l).find? fun d => decide (offB (l.getD d default).a = o)
def alW (wl : List Int) (N : Int) (l : List Bk) (o : Int) : List Int := match alQ N l o with
 | none => wl
 | some d => appF wl (cedF l d N)
def alB (N : Int) (l : List Bk) (o : Int) : List Bk := match alQ N l o with
 | none => l
 | some d => crvF l d N
theorem malloc_is {D : List Nat} {g : Nat} {wl : List Int} {l : List Bk} {r : Int} (n o : Int) (w : World) (h : Mo w D g wl l r) :
 Calls Tryz.prog 68 #[.pointer (some ⟨g, 0, none⟩), .int .i64 n, .int .i64 o] w fun e w' => e = .returned (.bool (alQ (needN n) l o).isSome) /\ Mo w' D g (alW wl (needN n) l o) (alB (needN n) l o) r /\ Chg [g] w w' := by
 obtain ⟨hlen, _, hm⟩ := h.len
 have hfl := fbl_len (needN n) l
 have C0 := jz (fun w => need_is n w)
 have C1 := jz (mfit_is (needN n) w h)
 generalize needN n = N at *
 obtain ⟨R, hR⟩ : ∃ R, alQ N l o = R := ⟨_, rfl⟩
 rw [hR]
 have NONE : Hid (R = none -> ∀ w', Below w.heap.size w w' -> Mo w' D g (alW wl N l o) (alB N l o) r /\ Chg [g] w w') := jz fun hn w' hb => by
  rw [hn] at hR
  unfold alW alB
  rw [hR]
  exact ⟨h.below hb, Chg.of_below hb _⟩
 have SOME : Hid (∀ d, R = some d -> ∃ z t : Nat, (l.getD d default).a = z /\ takN (l.getD d default).s N = t /\ (Lit.int .i64 (l.getD d default).s).wf = true /\ ∀ w', Below w.heap.size w w' -> Calls Tryz.prog 106 #[.pointer (some ⟨g, 0, none⟩), .int .i64 z, .int .i64 t] w' fun e w'' => e = .returned (.tuple #[]) /\ Mo w'' D g (alW wl N l o) (alB N l o) r /\ Chg [g] w' w'') := jz fun d hd => by
  rw [hd] at hR
  have hmem := List.mem_of_find?_eq_some hR
  obtain ⟨g1, g2, g3, g4, g5⟩ := fit_can hm hmem
  obtain ⟨_, z, t, m, e1, e2, _, _, _⟩ := taken h.hB h.ok g2
  have e1a : (l.getD d default).a = z := by rw [e1]
  have e1s : takN (l.getD d default).s N = t := by rw [e1]; exact e2
  obtain ⟨⟨q1, q2⟩, _⟩ := at_in hm g1
  refine ⟨z, t, e1a, e1s, i64_of (by omega) (by omega), fun w' hb => ?_⟩
  unfold alW alB
  rw [hR]
  exact mtake_is w' (h.below hb) g2 e1a e1s
 have HG := jz (show g < w.heap.size from h.dlt g h.gD)
 unfold alQ at hR
 unfold fbl at C1 hfl
 generalize fitN N l = F at *
 have HR := jz hR
 have HL := jz (show F.length <= 256 by rw [List.length_map] at hfl; omega)
 clear hlen hfl h hR hm
 go_enter Tryz.func68, Tryz.ntmps68
 go_wp2_with fail
 refine (C0.out _).mono ?_; rintro e w1 ⟨rfl, rfl⟩
 go_wp2_with fail
 refine (C1.out).mono ?_; rintro e w1 ⟨⟨v1, rfl, o1⟩, b1⟩
 have D1 := jz b1
 have O1 := jz o1.ra
 obtain ⟨pf, cf, rfl, _, _⟩ := ra_shape O1.out
 clear b1 o1 C1
 rw [List.length_map] at O1 ⊢
 go_wp2
 go_loopw [16] (fun i wr => ∃ (k : Nat), k <= F.length /\ i = .int .i64 k /\ Hid ((F.drop k).find? (fun d => decide (offB (l.getD d default).a = o)) = R /\ Below w1.heap.size w1 wr)) (fun i _ => F.length - (intOf i).toNat)
 case atStart => exact ⟨0, Nat.zero_le _, rfl, jz ⟨by rw [List.drop_zero]; exact HR.out, Below.refl _ _⟩⟩
 case round =>
  obtain ⟨k, hk, rfl, H⟩ := hrel
  by_cases hlt : k < F.length
  . obtain ⟨b, off, rfl, _, hx⟩ := blk_at (ra_below O1.out H.out.2) (by rw [List.length_map]; omega)
    obtain ⟨hld, _, _, _, _⟩ := hx k (by rw [List.length_map]; exact hlt)
    have hF := H.out.1
    rw [getD_cut_n hlt, List.find?_cons] at hF
    rw [show (F.map fun i => l.getD i default).getD k default = l.getD (F.getD k 0) default by
     rw [List.getD_eq_getElem?_getD, List.getElem?_map, List.getD_eq_getElem?_getD (l := F), List.getElem?_eq_getElem hlt]; rfl] at hld
    have i0 : (0 : Int) <= (k : Int) := by omega
    have i1 : (k : Int) < (F.length : Int) := by omega
    have i2 : ¬ (k : Int) < 0 := by omega
    have i3 : IntKind.i64.wrap ((k : Int) + 1) = ((k + 1 : Nat) : Int) := by rw [show (k : Int) + 1 = ((k + 1 : Nat) : Int) by omega]; exact i64_nat _ (by have := HL.out; omega)
    have HK := jz hlt
    clear hk hx hlt
    generalize F.getD k 0 = I at *
    obtain ⟨X, hX⟩ : ∃ X, l.getD I default = X := ⟨_, rfl⟩
    obtain ⟨W, hW, HW⟩ := blk_boxed wr X
    have l0 := HW.out.1.load
    obtain ⟨x, hx⟩ : ∃ x, offB X.a = x := ⟨_, rfl⟩
    have C := jz (off_is X x hx W)
    rw [hX] at hF hld
    rw [hx] at hF
    clear hx
    by_cases hxo : x = o
    . rw [decide_eq_true hxo] at hF
      have e1 : (x == o) = true := by rw [hxo]; simp
      obtain ⟨z, t, ha, hs, hwf, ht⟩ := SOME.out I hF.symm
      rw [hX] at ha hs hwf
      have HT := jz ht
      have hne : Hid (wr.heap.size ∉ [g]) := jz (fun q => by
       have := List.mem_singleton.1 q
       have := HG.out
       have := D1.out.size
       have := H.out.2.size
       omega)
      obtain ⟨XX, s, u⟩ := X
      simp only at ha hs hwf
      subst ha
      have CTk := jz (fun w => takes_is s N t hwf hs w)
      subst hF
      clear hxo ht SOME hs hwf
      go_wp2_with fail
      refine (C.out).mono ?_; rintro e w2 ⟨rfl, b2⟩
      have B2 := jz (below_more D1.out (below_more H.out.2 (below_more HW.out.2 b2)))
      have V2 := jz (HW.out.1.below b2)
      have c0 : ∀ w', Chg [g] w2 w' -> w'.cell? ⟨wr.heap.size, 0, none⟩ = some (.int .i64 (z : Int)) := fun w' hc => (V2.out.chg hc hne.out).c0
      have c1 : ∀ w', Chg [g] w2 w' -> w'.cell? ⟨wr.heap.size, 1, none⟩ = some (.int .i64 s) := fun w' hc => (V2.out.chg hc hne.out).c1
      clear b2
      go_wp2_with fail
      go_region_held3 (fun w' => Chg [g] w2 w')
       (first | assumption | exact (Chg.refl _ _).drew)
       (first
         | (go_at_call 107; refine (CTk.out _).mono ?_; rintro e wz ⟨rfl, rfl⟩)
         | (go_at_call 106; refine (HT.out _ B2.out.drew).mono ?_; rintro e wy ⟨rfl, hM, hC⟩
            have HMO := jz hM
            have SC := hC.from_drew
            clear hM hC))
      have HCC := jz ((Chg.of_below B2.out [g]).trans SC)
      go_wp2
      go_ret
      exact ⟨rfl, HMO.out, HCC.out⟩
    . rw [decide_eq_false hxo] at hF
      have e1 : (x == o) = false := beq_eq_false_iff_ne.2 hxo
      have HF := jz hF
      clear hF hxo
      go_wp2_with fail
      refine (C.out).mono ?_; rintro e w2 ⟨rfl, b2⟩
      have B2 := jz (below_more H.out.2 (below_more HW.out.2 b2))
      clear b2
      go_wp2
      go_roundw
      case rel => exact ⟨k + 1, by have := HK.out; omega, by go_num, jz ⟨HF.out, B2.out⟩⟩
      case measure => have := HK.out; simp [intOf]; omega
  . obtain rfl : k = F.length := by omega
    have hF := H.out.1
    rw [List.drop_length, List.find?_nil] at hF
    subst hF
    have FN := jz (NONE.out rfl wr (below_more D1.out H.out.2))
    go_wp2
    go_ret
    exact ⟨rfl, FN.out⟩
theorem info_mod : (Tryz.prog.info? 116).map (·.size) = some 3 := by kernel_rfl
def moLoad (p : Value) : Sem Value := Instr.loadAt 116 p
def moStore (p v : Value) : Sem Unit := Instr.storeAt 116 p v
@[go_sem ↓] theorem loadAt_mo (p : Value) : Instr.loadAt 116 p = moLoad p := rfl
@[go_sem ↓] theorem storeAt_mo (p v : Value) : Instr.storeAt 116 p v = moStore p v := rfl
theorem run_moLoad {w : World} {g : Nat} {a b c : Value} (h : Whole w g 116 #[a, b, c]) : (moLoad (.pointer (some ⟨g, 0, none⟩))).run Tryz.prog w = .ok (.agg #[a, b, c]) w :=
 run_loadAt_mid (P := Tryz.prog) w g 0 116 [a, b, c] _ (fun j u hj => by rw [Whole.at_ h, Nat.zero_add, <- hj]; simp) Tryz.underlying116 rfl info_mod
theorem run_moStore (w : World) {z : Array Value} (hz : z.size = 3) (a b c : Value) (h1 : a.oneCell' = true) (h2 : b.oneCell' = true) (h3 : c.oneCell' = true) :
 (moStore (.pointer (some ⟨w.heap.size, 0, none⟩)) (.agg #[a, b, c])).run Tryz.prog (w.alloc (.cells z 116)) = .ok () (w.alloc (.cells #[a, b, c] 116)) := by
 unfold moStore
 simp only [Instr.storeAt, Instr.sureAddr, Sem.run_bind, Sem.run_pure, Result.andThen]
 rw [run_storeVar_row _ _ 116 116 z #[a, b, c] (heap_alloc_new w _) (by rw [info_mod]; rfl) (by rw [hz]; rfl) (by simp [h1, h2, h3]), World.setRow_alloc_new]
def moBuild (ps : Array (Nat × Value)) : Sem Value := Instr.build 116 ps
@[go_sem ↓] theorem build_mo (ps : Array (Nat × Value)) : Instr.build 116 ps = moBuild ps := rfl
theorem built_mo (n : Int) : Tryz.prog.built 116 [(0, .int .i64 n)] = some #[.int .i64 n, .slice none 0 0, .int .i64 0] := by kernel_rfl
@[go_sem] theorem run_moBuild (w : World) (n : Int) : (moBuild #[(0, .int .i64 n)]).run Tryz.prog w = .ok (.agg #[.int .i64 n, .slice none 0 0, .int .i64 0]) w := run_build w _ _ _ (built_mo n)
theorem mnew_yes (n : Nat) (h : Mw n) (w : World) : Calls Tryz.prog 34 #[.int .i64 n] w fun e w' => (∃ g, e = .returned (.pointer (some ⟨g, 0, none⟩)) /\ w.heap.size <= g /\ ∀ D : List Nat, (∀ k ∈ D, k < w.heap.size) -> Mo w' (g :: D) g (firstL n) [⟨0, n, false⟩] 0) /\ Below w.heap.size w w' := by
 have C := jz (first_is n w)
 obtain ⟨f1, f2, f3⟩ := first_blk h
 obtain ⟨h8, h5, _⟩ := h
 have hx : ¬ (firstL n).length = 0 := by rw [f2]; omega
 have HF := jz (And.intro f1 (And.intro f2 f3))
 have e0 : ((n : Int) == 0) = false := beq_eq_false_iff_ne.2 (by omega)
 have hn0 : ¬ n = 0 := by omega
 clear f1 f3 hx
 go_enter Tryz.func34, Tryz.ntmps34
 go_wp2_with fail
 refine (C.out).mono ?_; rintro e w1 ⟨⟨v, rfl, o⟩, b1⟩
 obtain ⟨p, c, rfl⟩ := o.shape
 have D1 := jz b1
 rw [f2]
 clear b1 o C f2
 have HM : Hid (∀ D : List Nat, (∀ k ∈ D, k < w.heap.size) -> Mo (w1.alloc (.cells #[.int .i64 n, .slice none 0 0, .int .i64 0] 116)) (w1.heap.size :: D) w1.heap.size (firstL n) [⟨0, n, false⟩] 0) := jz fun D hD => by
  obtain ⟨q1, q2, q3⟩ := HF.out
  refine ⟨q1, q3, List.mem_cons_self .., fun k hk => ?_, _, [], ?_, ra_nil _ _, (fun k hk => by cases hk), ⟨rfl, fun x hx => by cases hx⟩, .inl rfl⟩
  . rw [size_alloc]
    rcases List.mem_cons.1 hk with rfl | hk
    . omega
    . have := hD k hk
      have := D1.out.size
      omega
  . rw [q2]
    exact heap_alloc_new _ _
 go_wp2_with fail
 go_ret
 exact ⟨⟨_, rfl, D1.out.size, HM.out⟩, bal D1.out⟩
theorem mroot_is {D : List Nat} {g : Nat} {wl : List Int} {l : List Bk} {r : Int} (w : World) (h : Mo w D g wl l r) : Calls Tryz.prog 40 #[.pointer (some ⟨g, 0, none⟩)] w fun e w' => e = .returned (.int .i64 r) /\ w = w' := by
 obtain ⟨v, us, hW, _⟩ := h.rows
 have c2 : w.cell? ⟨g, 2, none⟩ = some (.int .i64 r) := by rw [Whole.at_ hW]; rfl
 clear h hW
 go_enter Tryz.func40, Tryz.ntmps40
 go_wp2_with fail
 go_ret
 exact ⟨rfl, rfl⟩
theorem mcopy_is {D : List Nat} {g : Nat} {wl : List Int} {l : List Bk} {r : Int} (w : World) (h : Mo w D g wl l r) : Calls Tryz.prog 69 #[.pointer (some ⟨g, 0, none⟩)] w fun e w' =>
 (∃ x, e = .returned (.pointer (some ⟨x, 0, none⟩)) /\ w.heap.size <= x /\ x < w'.heap.size /\ Mo w' (x :: D) x wl l r) /\ Below w.heap.size w w' := by
 obtain ⟨v, us, hW, hR, hF, hU, hP⟩ := h.rows
 obtain ⟨p, cap, rfl, _, _⟩ := ra_shape hR
 have l0 := run_moLoad hW
 obtain ⟨W, hWn⟩ : ∃ W, w.alloc (.cells #[.int .i64 (wl.length : Int), .slice p us.length cap, .int .i64 r] 116) = W := ⟨_, rfl⟩
 have hst : (moStore (.pointer (some ⟨w.heap.size, 0, none⟩)) (.agg #[.int .i64 (wl.length : Int), .slice p us.length cap, .int .i64 r])).run Tryz.prog (w.alloc (.cells #[.int .i64 0, .slice none 0 0, .int .i64 0] 116)) = .ok () W := by
  rw [<- hWn]
  exact run_moStore w rfl _ _ _ rfl rfl rfl
 have hb : Below w.heap.size w W := by rw [<- hWn]; exact bal (Below.refl _ _)
 have hs : W.heap.size = w.heap.size + 1 := by rw [<- hWn, size_alloc]
 have HM : Hid (Mo W (w.heap.size :: D) w.heap.size wl l r) := jz (by
  have hm := h.more hb (Nat.le_refl _) (by omega)
  refine ⟨h.hB, h.ok, List.mem_cons_self .., hm.dlt, .slice p us.length cap, us, ?_, ra_below hR hb, hF.more hb.size (Nat.le_refl _), ⟨hU.map, fun y hy => ?_⟩, hP⟩
  . rw [<- hWn]; exact heap_alloc_new _ _
  . obtain ⟨g1, g2, g3⟩ := hU.ws y hy
    exact ⟨g1, ru_below g2 hb, g3.more hb.size (Nat.le_refl _)⟩)
 have HB := jz (And.intro hb (show w.heap.size < W.heap.size by omega))
 clear hW hR hF hU hP h hb hs
 generalize us.length = L at *
 generalize wl.length = N at *
 go_enter Tryz.func69, Tryz.ntmps69
 go_wp2_with fail
 go_ret
 exact ⟨⟨_, rfl, Nat.le_refl _, HB.out.2, HM.out⟩, HB.out.1⟩
theorem mbeg_is {D : List Nat} {g : Nat} {wl : List Int} {l : List Bk} {r : Int} (o : Int) (w : World) (h : Mo w D g wl l r) : Calls Tryz.prog 143 #[.pointer (some ⟨g, 0, none⟩), .int .i64 o] w fun e w' =>
 e = .returned (.int .i64 (oi (ixF (atO o) 0 (usd l)))) /\ Below w.heap.size w w' := by
 obtain ⟨v, us, hW, hR, hF, hU, hP⟩ := h.rows
 obtain ⟨p, cap, rfl, _, _⟩ := ra_shape hR
 obtain ⟨W, hWn⟩ : ∃ W, w.alloc (.cells #[.int .i64 o] 3) = W := ⟨_, rfl⟩
 have hb : Below w.heap.size w W := by rw [<- hWn]; exact bal (Below.refl _ _)
 have cB : W.cell? ⟨w.heap.size, 0, none⟩ = some (.int .i64 o) := by rw [<- hWn]; exact Whole.at_ (heap_alloc_new w _) 0
 have c1 : W.cell? ⟨g, 1, none⟩ = some (.slice p us.length cap) := by rw [hb.cell (p := ⟨g, 1, none⟩) hW.lt, Whole.at_ hW]; rfl
 have C := jz (xbegi_is (B := w.heap.size) (atO o) (ra_below hR hb) fun x hx W' hb' => hbeg_is ((hb'.cell (p := ⟨w.heap.size, 0, none⟩) (World.block_lt_of_cell? _ _ cB)).trans cB))
 rw [hU.map] at C
 have HB := jz hb
 clear hR hW hF hU hP h hb cB
 generalize us.length = L at *
 generalize ixF (atO o) 0 (usd l) = R at *
 go_enter Tryz.func143, Tryz.ntmps143
 go_wp2_with fail
 refine (C.out).mono ?_; rintro e w1 ⟨rfl, b1⟩
 have D1 := jz (below_more HB.out b1)
 go_wp2_with fail
 go_ret
 exact ⟨rfl, D1.out⟩
theorem Mo.root {D : List Nat} {g : Nat} {wl : List Int} {l : List Bk} {r : Int} {w w' : World} (h : Mo w D g wl l r) (hb : Below w.heap.size w w') (o : Int) : Mo (w'.setCell ⟨g, 2, none⟩ (.int .i64 o)) D g wl l o /\ Chg [g] w (w'.setCell ⟨g, 2, none⟩ (.int .i64 o)) := by
 obtain ⟨v, us, h1, h2, h3, h4, h5⟩ := (h.below hb).rows
 have hc : Chg [g] w' (w'.setCell ⟨g, 2, none⟩ (.int .i64 o)) := (Chg.refl [g] w').setCell (p := ⟨g, 2, none⟩) (.inl (List.mem_singleton.2 rfl)) _
 have hgD : ∀ k ∈ [g], k ∈ D := fun k hk => by rw [List.mem_singleton.1 hk]; exact h.gD
 exact ⟨⟨h.hB, h.ok, h.gD, fun k hk => Nat.lt_of_lt_of_le ((h.below hb).dlt k hk) hc.size, v, us, h1.set_ 2 _, ra_chg h2 hc (fun k hk q => (h3 k hk).2 (hgD k q)), h3.grow hc.size, h4.chg hc hgD, h5⟩, (Chg.of_below hb [g]).trans hc⟩
def srQ (l : List Bk) (o : Int) : Int := if o ≠ 0 /\ isN o l = none then 1 else 0
theorem msetr_is {D : List Nat} {g : Nat} {wl : List Int} {l : List Bk} {r : Int} (o : Int) (w : World) (h : Mo w D g wl l r) : Calls Tryz.prog 110 #[.pointer (some ⟨g, 0, none⟩), .int .i64 o] w fun e w' =>
 e = .returned (.int .i64 (srQ l o)) /\ Mo w' D g wl l (if srQ l o = 0 then o else r) /\ Chg [g] w w' := by
 have hm := h.len.2.2
 have C := jz (mbeg_is o w h)
 rw [ix_begins hm] at C
 have FIN := jz (fun w' (hb : Below w.heap.size w w') => h.root hb o)
 have HN := jz (fun w' (hb : Below w.heap.size w w') => And.intro (h.below hb) (Chg.of_below hb [g]))
 obtain ⟨v, us, hW, _⟩ := h.rows
 have c2 : ∀ w', Below w.heap.size w w' -> w'.cell? ⟨g, 2, none⟩ = some (.int .i64 r) := fun w' hb => by rw [hb.cell (p := ⟨g, 2, none⟩) hW.lt, Whole.at_ hW]; rfl
 have f2 : ∀ w', Below w.heap.size w w' -> w'.frozen? ⟨g, 2, none⟩ = false := fun w' hb => Whole.free ((hb.block g hW.lt).trans hW) 2
 clear hm h hW
 by_cases h0 : o = 0
 . subst h0
   have e0 : srQ l 0 = 0 := if_neg (fun q => q.1 rfl)
   rw [e0, if_pos rfl]
   have d2 := c2 w (Below.refl _ _)
   have g2 := f2 w (Below.refl _ _)
   have F0 := jz (FIN.out w (Below.refl _ _))
   clear c2 f2 C HN FIN e0
   go_enter Tryz.func110, Tryz.ntmps110
   go_wp2_with fail
   go_ret
   exact ⟨rfl, F0.out⟩
 . have n0 : (o != 0) = true := by simpa using h0
   cases e : isN o l with
   | none =>
     have e0 : srQ l o = 1 := if_pos ⟨h0, e⟩
     rw [e0, if_neg (by decide)]
     rw [e] at C
     simp only [Option.map_none, oi] at C
     clear c2 f2 FIN e0 h0 e
     go_enter Tryz.func110, Tryz.ntmps110
     go_wp2_with fail
     refine (C.out).mono ?_; rintro e w1 ⟨rfl, b1⟩
     have F0 := jz (HN.out w1 b1)
     clear b1 HN C
     go_wp2_with fail
     go_ret
     exact ⟨rfl, F0.out⟩
   | some k =>
     have e0 : srQ l o = 0 := if_neg (fun q => by rw [e] at q; cases q.2)
     rw [e0, if_pos rfl]
     rw [e] at C
     simp only [Option.map_some, oi] at C
     generalize (usd (l.take k)).length = j at *
     have n1 : ((j : Int) == -1) = false := beq_eq_false_iff_ne.2 (by omega)
     clear e0 h0 e HN
     go_enter Tryz.func110, Tryz.ntmps110
     go_wp2_with fail
     refine (C.out).mono ?_; rintro e w1 ⟨rfl, b1⟩
     have F0 := jz (FIN.out w1 b1)
     have d2 := c2 w1 b1
     have g2 := f2 w1 b1
     clear b1 FIN C c2 f2
     go_wp2_with fail
     go_ret
     exact ⟨rfl, F0.out⟩
def feQ (l : List Bk) (o r : Int) : Int := match isN o l with
 | none => 1
 | some _ => if o = r then 5 else 0
def feW (wl : List Int) (l : List Bk) (o r : Int) : List Int := match isN o l with
 | none => wl
 | some k => if o = r then wl else appF wl [medF l k]
def feB (l : List Bk) (o r : Int) : List Bk := match isN o l with
 | none => l
 | some k => if o = r then l else mrgF l k
theorem mfree_is {D : List Nat} {g : Nat} {wl : List Int} {l : List Bk} {r : Int} (o : Int) (w : World) (h : Mo w D g wl l r) : Calls Tryz.prog 108 #[.pointer (some ⟨g, 0, none⟩), .int .i64 o] w fun e w' =>
 e = .returned (.int .i64 (feQ l o r)) /\ Mo w' D g (feW wl l o r) (feB l o r) r /\ Chg [g] w w' := by
 obtain ⟨hlen, hwl, hm⟩ := h.len
 have C := jz (mbeg_is o w h)
 rw [ix_begins hm] at C
 have HN := jz (fun w' (hb : Below w.heap.size w w') => And.intro (h.below hb) (Chg.of_below hb [g]))
 obtain ⟨v, us, hW, hR, hF, hU, hP⟩ := h.rows
 have c2 : ∀ w', Below w.heap.size w w' -> w'.cell? ⟨g, 2, none⟩ = some (.int .i64 r) := fun w' hb => by rw [hb.cell (p := ⟨g, 2, none⟩) hW.lt, Whole.at_ hW]; rfl
 cases e : isN o l with
 | none =>
   have e1 : feQ l o r = 1 := by rw [feQ, e]
   have e2 : feW wl l o r = wl := by rw [feW, e]
   have e3 : feB l o r = l := by rw [feB, e]
   rw [e1, e2, e3]
   rw [e] at C
   simp only [Option.map_none, oi] at C
   clear c2 hW hR hF hU hP h e e1 e2 e3 hlen hwl hm
   go_enter Tryz.func108, Tryz.ntmps108
   go_wp2_with fail
   refine (C.out).mono ?_; rintro e w1 ⟨rfl, b1⟩
   have F0 := jz (HN.out w1 b1)
   clear b1 HN C
   go_wp2_with fail
   go_ret
   exact ⟨rfl, F0.out⟩
 | some k =>
   rw [e] at C
   simp only [Option.map_some, oi] at C
   by_cases hr : o = r
   . have e1 : feQ l o r = 5 := by rw [feQ, e]; exact if_pos hr
     have e2 : feW wl l o r = wl := by rw [feW, e]; exact if_pos hr
     have e3 : feB l o r = l := by rw [feB, e]; exact if_pos hr
     rw [e1, e2, e3]
     generalize (usd (l.take k)).length = j at *
     have n1 : ((j : Int) == -1) = false := beq_eq_false_iff_ne.2 (by omega)
     have n2 : (o == r) = true := by rw [hr]; simp
     clear hW hR hF hU hP h e e1 e2 e3 hlen hwl hm hr
     go_enter Tryz.func108, Tryz.ntmps108
     go_wp2_with fail
     refine (C.out).mono ?_; rintro e w1 ⟨rfl, b1⟩
     have F0 := jz (HN.out w1 b1)
     have d2 := c2 w1 b1
     clear b1 HN C c2
     go_wp2_with fail
     go_ret
     exact ⟨rfl, F0.out⟩
   . have e1 : feQ l o r = 0 := by rw [feQ, e]; exact if_neg hr
     have e2 : feW wl l o r = appF wl [medF l k] := by rw [feW, e]; exact if_neg hr
     have e3 : feB l o r = mrgF l k := by rw [feB, e]; exact if_neg hr
     rw [e1, e2, e3]
     have hcm := isN_can h.hB e
     obtain ⟨_, hk, hku⟩ := canM_nat hcm
     obtain ⟨hj, hat, hmg⟩ := usd_mrg hcm
     obtain ⟨g1, g2, g3, i, hi, hii, g4⟩ := given h.hB h.ok hcm
     have hul := hU.len
     generalize (usd (l.take k)).length = j at *
     have n1 : ((j : Int) == -1) = false := beq_eq_false_iff_ne.2 (by omega)
     have n2 : (o == r) = false := beq_eq_false_iff_ne.2 hr
     have FIN : Hid (∀ (wq : World) (u : Value), Below w.heap.size w wq -> OwnA exE w.heap.size wq u (us.take j ++ us.drop (j + 1)) -> Mo (wq.setCell ⟨g, 1, none⟩ u) D g (appF wl [medF l k]) (mrgF l k) r /\ Chg [g] w (wq.setCell ⟨g, 1, none⟩ u)) := jz fun wq u hb ho => by
      refine h.put hb ho (Nat.le_refl _) g1 g3 g2 (by rw [hmg, <- hU.map, List.map_append, List.map_take, List.map_drop]) fun x hx => ?_
      have hxu : x ∈ us := by
       rcases List.mem_append.1 hx with hx | hx
       . exact List.mem_of_mem_take hx
       . exact List.mem_of_mem_drop hx
      obtain ⟨q1, q2, q3⟩ := hU.ws x hxu
      have hxm : x.b ∈ usd (mrgF l k) := by rw [hmg, <- hU.map, <- List.map_take, <- List.map_drop, <- List.map_append]; exact List.mem_map.2 ⟨x, hx, rfl⟩
      obtain ⟨hxb, hxv⟩ := usd_mem.1 hxm
      obtain ⟨hb', hne⟩ := mrg_from hm hcm hxb hxv
      obtain ⟨⟨b1, _⟩, b2, b3⟩ := mayF_sizes (mayL_yes.1 hm).2 x.b hb'
      refine ⟨?_, ru_below q2 hb, q3.grow hb.size⟩
      rw [q1]
      refine (cut_same g2 b2 fun a a1 a2 => g4 a ?_).symm
      have hai : x.b.a ≠ (l.getD i default).a := fun eq => by
       rcases hii with rfl | hf
       . exact hne eq
       . obtain ⟨m, hm1, hm2⟩ := List.getElem_of_mem hb'
         have e5 : l.getD m default = x.b := by rw [List.getD_eq_getElem?_getD, List.getElem?_eq_getElem hm1, <- hm2]; rfl
         have := apart_a hm hm1 hi (by rw [e5, eq])
         subst this
         rw [e5, hxv] at hf
         cases hf
      have hap := lie_apart hm hb' (getD_mem hi) hai
      have := (at_in hm hi).1.1
      omega
     have hL : j < us.length /\ us.length <= 256 := by have := usd_len l; omega
     obtain ⟨b, n, cap, rfl⟩ : ∃ b n c, v = .slice (some ⟨b, 0, none⟩) n c := by
      rcases hP with rfl | hP
      . obtain ⟨_, _, e, _⟩ := ra_shape hR
        injection e with _ e _
        omega
      . exact hP
     obtain ⟨_, _, e0, hlc, hcc⟩ := ra_shape hR
     cases e0
     obtain ⟨K1, hK1⟩ : ∃ k, j + 1 = k := ⟨_, rfl⟩
     rw [hK1] at FIN
     have CC : Hid (∀ w', Below w.heap.size w w' -> Calls Tryz.prog 142 #[.slice (some ⟨w'.heap.size, 0, none⟩) 2 2]
      (w'.alloc (.cells #[.slice (some ⟨b, 0, none⟩) j cap, .slice (if cap = K1 then some ⟨b, 0, none⟩ else some ⟨b, K1 * 4, none⟩) (us.length - K1) (cap - K1)] 114)).drew fun e w'' => (∃ u, e = .returned u /\ OwnA exE w.heap.size w'' u (us.take j ++ us.drop K1)) /\ Below w.heap.size w w'') := jz fun w' hb => by
      have hr := ra_below hR hb
      have h1 := ra_take hr j
      rw [Nat.min_eq_left (by omega)] at h1
      have h2 := ra_cut hr (show K1 <= us.length by omega)
      rw [Nat.zero_add] at h2
      change RA exE w' (.slice (if cap = K1 then some ⟨b, 0, none⟩ else some ⟨b, K1 * 4, none⟩) (us.length - K1) (cap - K1)) (us.drop K1) at h2
      have h4 := ras_below (xrows2 h1 h2) ((Below.refl _ _).drew)
      have b2 : Below w.heap.size w (w'.alloc (.cells #[.slice (some ⟨b, 0, none⟩) j cap, .slice (if cap = K1 then some ⟨b, 0, none⟩ else some ⟨b, K1 * 4, none⟩) (us.length - K1) (cap - K1)] 114)).drew := (bal hb).drew
      refine (xconcat_is [us.take j, us.drop K1] _ _ h4 (by simp) (by
       simp only [xlens, List.map_cons, List.map_nil, List.sum_cons, List.sum_nil, List.length_take, List.length_drop]
       omega)).mono ?_
      rintro e w' ⟨⟨v, rfl, ho⟩, hb'⟩
      refine ⟨⟨v, rfl, ?_⟩, below_more b2 hb'⟩
      have := ho.mono b2.size
      simpa using this
     obtain ⟨U, hUu⟩ : ∃ U, us.take j ++ us.drop K1 = U := ⟨_, rfl⟩
     rw [hUu] at FIN CC
     clear hUu
     have c1 : ∀ w', Below w.heap.size w w' -> w'.cell? ⟨g, 1, none⟩ = some (.slice (some ⟨b, 0, none⟩) us.length cap) := fun w' hb => by rw [hb.cell (p := ⟨g, 1, none⟩) hW.lt, Whole.at_ hW]; rfl
     have f1 : ∀ w', Below w.heap.size w w' -> w'.frozen? ⟨g, 1, none⟩ = false := fun w' hb => Whole.free ((hb.block g hW.lt).trans hW) 1
     have i1 : IntKind.i64.wrap ((j : Int) + 1) = (K1 : Int) := by rw [show (j : Int) + 1 = (K1 : Int) by omega]; exact i64_nat _ (by omega)
     have i2 : (j : Int) <= (us.length : Int) := by omega
     have i3 : (j : Int) <= (cap : Int) := by omega
     have i4 : (K1 : Int) <= (us.length : Int) := by omega
     have i5 : (K1 : Int) <= (cap : Int) := by omega
     clear hW hR hF hU hP h e e1 e2 e3 hlen hwl hm hr hcm hk hku hj hat hmg g1 g2 g3 hi hii g4 hul hL hlc hcc HN
     generalize us.length = L at *
     go_enter Tryz.func108, Tryz.ntmps108
     go_wp2_with fail
     refine (C.out).mono ?_; rintro e w1 ⟨rfl, b1⟩
     have d2 := c2 w1 b1
     have d1 := c1 w1.drew b1.drew
     have C3 := jz (CC.out w1 b1)
     clear CC C c2
     go_wp2_with fail
     go_region_law (first
      | (go_simp; go_at_call 142; refine (C3.out).mono ?_; rintro e wq ⟨⟨uq, rfl, oq⟩, bq⟩
         have FQ := jz (FIN.out wq uq bq oq)
         have f2 := f1 wq bq
         have c2 := c1 wq bq
         obtain ⟨pq, cq, rfl, _, _⟩ := ra_shape oq.ra
         clear oq))
     all_goals
      go_wp2
      all_goals
       go_ret
       exact ⟨rfl, FQ.out⟩
def hoQ (l : List Bk) (o n : Int) : Option Nat := if 0 <= n /\ n <= 448 then ixF (inO o n) 0 (usd l) else none
theorem hoQ_is (l : List Bk) (o n : Int) : (hoQ l o n).isSome = inL o n l := by
 unfold hoQ
 split
 . rename_i h; exact ix_holds h
 . rename_i h
   show false = inL o n l
   symm
   rw [Bool.eq_false_iff, Ne, inL_yes]
   exact fun q => h q.1
theorem ref_of {wl : List Int} {l : List Bk} (hB : blkF wl = some l) (o n : Int) : refF wl o n = if (hoQ l o n).isSome = true then 0 else 1 := by
 unfold refF
 rw [hB, hoQ_is]
theorem hoQ_some {l : List Bk} {o n : Int} {j : Nat} (h : hoQ l o n = some j) : (0 <= n /\ n <= 448) /\ j < (usd l).length /\ offB ((usd l).getD j default).a <= o /\ o <= (((usd l).getD j default).a + ((usd l).getD j default).s) * 8 - n := by
 unfold hoQ at h
 split at h
 . rename_i hn
   obtain ⟨_, h2, h3⟩ := ixF_some h
   rw [Nat.sub_zero] at h2 h3
   unfold inO at h3
   exact ⟨hn, h2, of_decide_eq_true h3⟩
 . cases h
theorem ex_ld {w : World} {v : Value} {l : List Ex} (h : RA exE w v l) {d : Nat} (hd : d < l.length) : ∃ b off c, v = .slice (some ⟨b, off, none⟩) l.length c /\ l.length <= c /\ ∀ w', Below w.heap.size w w' -> (exLoad (.pointer (some ⟨b, off + d * 4, none⟩))).run Tryz.prog w' = .ok (.agg (xc (l.getD d default))) w' := by
 obtain ⟨p, c, rfl, hlc, _⟩ := ra_shape h
 obtain ⟨b, off, rfl, _⟩ := ex_at h (by omega)
 refine ⟨b, off, c, rfl, hlc, fun w' hb => ?_⟩
 obtain ⟨_, _, e, _, hx⟩ := ex_at (ra_below h hb) (by omega)
 cases e
 exact (hx d hd).1
theorem hhol_is {B C : Nat} {o n : Int} {x : Ex} {p : Option Addr} {L c : Nat} {W : World} (hB : W.cell? ⟨B, 0, none⟩ = some (.int .i64 o)) (hC : W.cell? ⟨C, 0, none⟩ = some (.int .i64 n)) (hx : x.v = .slice p L c) (hb : 0 <= x.b.a /\ x.b.a + x.b.s <= 512) (hL : (L : Int) = x.b.s - 1) (hn : 0 <= n /\ n <= 448) :
 Calls Tryz.prog 112 #[.agg (xc x), .pointer (some ⟨B, 0, none⟩), .pointer (some ⟨C, 0, none⟩)] W fun e w' => e = .returned (.bool (inO o n x.b)) /\ Below W.heap.size W w' := by
 obtain ⟨W2, hW, H⟩ := ex_box W x
 have c1 : W2.cell? ⟨B, 0, none⟩ = some (.int .i64 o) := (H.out.2.cell (p := ⟨B, 0, none⟩) (World.block_lt_of_cell? _ _ hB)).trans hB
 have c2 : W2.cell? ⟨C, 0, none⟩ = some (.int .i64 n) := (H.out.2.cell (p := ⟨C, 0, none⟩) (World.block_lt_of_cell? _ _ hC)).trans hC
 have l0 := H.out.1.load
 have CH := jz (xhas_is (o := o) (n := n) (W := W2) hx hb hL hn)
 have HB := jz H.out.2
 clear hB hC hx hb hL hn H
 generalize inO o n x.b = r at *
 go_enter Tryz.func112, Tryz.ntmps112
 go_wp2_with fail
 refine (CH.out).mono ?_; rintro e w1 ⟨rfl, b1⟩
 have D1 := jz (below_more HB.out b1)
 go_wp2_with fail
 go_ret
 exact ⟨rfl, D1.out⟩
theorem mhol_is {D : List Nat} {g : Nat} {wl : List Int} {l : List Bk} {r : Int} (o n : Int) (w : World) (h : Mo w D g wl l r) : Calls Tryz.prog 72 #[.pointer (some ⟨g, 0, none⟩), .int .i64 o, .int .i64 n] w fun e w' =>
 e = .returned (.int .i64 (oi (hoQ l o n))) /\ Below w.heap.size w w' := by
 obtain ⟨hlen, hwl, hm⟩ := h.len
 obtain ⟨v, us, hW, hR, hF, hU, hP⟩ := h.rows
 obtain ⟨p, cap, rfl, _, _⟩ := ra_shape hR
 obtain ⟨V, hV⟩ : ∃ V, w.alloc (.cells #[.int .i64 o] 3) = V := ⟨_, rfl⟩
 obtain ⟨W, hWn⟩ : ∃ W, V.alloc (.cells #[.int .i64 n] 3) = W := ⟨_, rfl⟩
 have hb1 : Below w.heap.size w V := by rw [<- hV]; exact bal (Below.refl _ _)
 have hb2 : Below V.heap.size V W := by rw [<- hWn]; exact bal (Below.refl _ _)
 have hb := below_more hb1 hb2
 have cB : V.cell? ⟨w.heap.size, 0, none⟩ = some (.int .i64 o) := by rw [<- hV]; exact Whole.at_ (heap_alloc_new w _) 0
 have cC : W.cell? ⟨V.heap.size, 0, none⟩ = some (.int .i64 n) := by rw [<- hWn]; exact Whole.at_ (heap_alloc_new V _) 0
 have cB2 : W.cell? ⟨w.heap.size, 0, none⟩ = some (.int .i64 o) := (hb2.cell (p := ⟨w.heap.size, 0, none⟩) (World.block_lt_of_cell? _ _ cB)).trans cB
 have c1 : W.cell? ⟨g, 1, none⟩ = some (.slice p us.length cap) := by rw [hb.cell (p := ⟨g, 1, none⟩) hW.lt, Whole.at_ hW]; rfl
 have HB := jz hb
 unfold hoQ
 by_cases h1 : n < 0
 . rw [if_neg (by omega)]
   clear hR hW hF hU hP h hb cB hb1 hb2 cB2 c1 hlen hwl hm
   simp only [oi]
   go_enter Tryz.func72, Tryz.ntmps72
   go_wp2_with fail
   go_ret
   exact ⟨rfl, HB.out⟩
 . by_cases h2 : n > 448
   . rw [if_neg (by omega)]
     clear hR hW hF hU hP h hb cB hb1 hb2 cB2 c1 hlen hwl hm
     simp only [oi]
     go_enter Tryz.func72, Tryz.ntmps72
     go_wp2_with fail
     go_ret
     exact ⟨rfl, HB.out⟩
   . rw [if_pos (by omega)]
     have C := jz (xholi_is (B := w.heap.size) (C := V.heap.size) (inO o n) (ra_below hR hb) fun x hx W' hb' => by
      obtain ⟨g1, g2, g3⟩ := hU.ws x hx
      have hxl : x.b ∈ usd l := by rw [<- hU.map]; exact List.mem_map.2 ⟨x, hx, rfl⟩
      obtain ⟨_, _, q3, q4, q5, q6, _⟩ := usd_in hm hxl
      obtain ⟨px, cx, e, _⟩ := id g2
      exact hhol_is ((hb'.cell (p := ⟨w.heap.size, 0, none⟩) (World.block_lt_of_cell? _ _ cB2)).trans cB2) ((hb'.cell (p := ⟨V.heap.size, 0, none⟩) (World.block_lt_of_cell? _ _ cC)).trans cC) e ⟨q4, by omega⟩ (by rw [g1, cut_len q4 q3 q5]; omega) ⟨by omega, by omega⟩)
     rw [hU.map] at C
     clear hR hW hF hU hP h hb cB hb1 hb2 cB2 hlen hwl hm
     generalize us.length = L at *
     generalize ixF (inO o n) 0 (usd l) = R at *
     go_enter Tryz.func72, Tryz.ntmps72
     go_wp2_with fail
     refine (C.out).mono ?_; rintro e w1 ⟨rfl, b1⟩
     have D1 := jz (below_more HB.out b1)
     go_wp2_with fail
     go_ret
     exact ⟨rfl, D1.out⟩
theorem mread_is {D : List Nat} {g : Nat} {wl : List Int} {l : List Bk} {r : Int} (o n : Int) (w : World) (h : Mo w D g wl l r) : Calls Tryz.prog 38 #[.pointer (some ⟨g, 0, none⟩), .int .i64 o, .int .i64 n] w fun e w' =>
 (∃ x, e = .returned (.tuple #[x, .int .i64 (refF wl o n)]) /\ OwnA byE w.heap.size w' x (rdR wl o n)) /\ Below w.heap.size w w' := by
 have C := jz (mhol_is o n w h)
 have hr := ref_of h.hB o n
 have hd : rdR wl o n = if (hoQ l o n).isSome = true then rdL wl o n else [] := by
  rw [rdR, hr]
  cases (hoQ l o n).isSome <;> rfl
 cases e : hoQ l o n with
 | none =>
   rw [e] at C hr hd
   rw [hr, hd]
   simp only [oi, Option.isSome_none, Bool.false_eq_true, if_false] at C ⊢
   clear h e hr hd
   go_enter Tryz.func38, Tryz.ntmps38
   go_wp2_with fail
   refine (C.out).mono ?_; rintro e w1 ⟨rfl, b1⟩
   go_wp2_with fail
   go_ret2
   exact ⟨⟨_, rfl, own_nil_by _ _⟩, b1⟩
 | some j =>
   rw [e] at C hr hd
   rw [hr, hd]
   simp only [oi, Option.isSome_some, if_true] at C ⊢
   obtain ⟨hlen, hwl, hm⟩ := h.len
   obtain ⟨v, us, hW, hR, hF, hU, hP⟩ := h.rows
   obtain ⟨hn, hj, h1, h2⟩ := hoQ_some e
   have hju : j < us.length := by rw [hU.len]; exact hj
   obtain ⟨hat, hmem⟩ := hU.at_ hju
   obtain ⟨_, hu, q3, q4, q5, q6, q7⟩ := usd_in hm (getD_mem hj)
   rw [<- hat] at h1 h2 hu q3 q4 q5 q7
   obtain ⟨x1, x2, x3⟩ := hU.ws _ hmem
   obtain ⟨px, cx, hxv, _⟩ := id x2
   obtain ⟨b, off, cap, rfl, hlc, hld⟩ := ex_ld hR hju
   have c1 : ∀ w', Below w.heap.size w w' -> w'.cell? ⟨g, 1, none⟩ = some (.slice (some ⟨b, off, none⟩) us.length cap) := fun w' hb => by rw [hb.cell (p := ⟨g, 1, none⟩) hW.lt, Whole.at_ hW]; rfl
   have hl1 := cut_len q4 q3 q5
   have hrd := cut_read q4 q3 q5 hn (by rw [<- q7]; exact ⟨h1, h2⟩)
   have hk2 := wd_ok (cut_ok h.ok (us.getD j default).b)
   rw [<- q7] at hrd
   have CR := jz (fun (w' : World) (hb : Below w.heap.size w w') => read_is (cut wl (us.getD j default).b) (us.getD j default).v (o - offB (us.getD j default).b.a) n w' (by rw [<- x1]; exact ru_below x2 hb) hk2 (by omega) (by omega))
   rw [hrd] at CR
   have n1 : ((j : Int) == -1) = false := beq_eq_false_iff_ne.2 (by omega)
   have i0 : (0 : Int) <= (j : Int) := by omega
   have i1 : (j : Int) < (us.length : Int) := by omega
   have i2 : ¬ (j : Int) < 0 := by omega
   have hof : 8 <= offB (us.getD j default).b.a /\ offB (us.getD j default).b.a <= 4104 := by omega
   obtain ⟨X, hX⟩ : ∃ X, us.getD j default = X := ⟨_, rfl⟩
   rw [hX] at hld CR hxv h1 h2 hof q4 q5
   have hX1 : X.v.oneCell' = true := by rw [hxv]; rfl
   obtain ⟨y, hy⟩ : ∃ y, offB X.b.a = y := ⟨_, rfl⟩
   have CO := jz (fun w => off_is X.b y hy w)
   rw [hy] at CR h1 hof
   obtain ⟨F, hF2⟩ : ∃ F, o - y = F := ⟨_, rfl⟩
   have i3 : IntKind.i64.wrap (o - y) = F := by rw [<- hF2]; exact IntWalk.i64_in _ (by omega)
   rw [hF2] at CR
   generalize decide (InB (cut wl X.b).length F n) = q at *
   generalize rdL wl o n = B at *
   generalize X.ws.length = M at *
   clear hW hR hF hU hP h hlen hwl hm hn hj hju hat hmem hu q3 q4 q5 q6 q7 x1 x2 x3 hlc hl1 hrd hk2 hof hy hF2 hX h1 h2 e hr hd
   generalize us.length = L at *
   go_enter Tryz.func38, Tryz.ntmps38
   go_wp2_with fail
   refine (C.out).mono ?_; rintro e w1 ⟨rfl, b1⟩
   have d1 := c1 w1 b1
   have l1 := hld w1 b1
   have D1 := jz b1
   obtain ⟨W2, hW2, hst, HW2⟩ := ex_boxed w1 X hX1
   have D2 := jz (below_more b1 HW2.out.2)
   have e1 : ∀ w', Below W2.heap.size W2 w' -> w'.cell? ⟨w1.heap.size, 3, none⟩ = some (.slice px M cx) := fun w' hb => ((HW2.out.1.below hb).c3).trans (by rw [hxv])
   have e2 : ∀ w', Below W2.heap.size W2 w' -> (blkLoad (.pointer (some ⟨w1.heap.size, 0, none⟩))).run Tryz.prog w' = .ok (.agg (bc X.b)) w' := fun w' hb => (HW2.out.1.below hb).block
   rw [hxv] at CR
   generalize X.b = xb at *
   clear b1 C hld c1
   go_wp2_with fail
   go_region_held3 (fun w' => Below W2.heap.size W2 w')
    (first | assumption | exact (Below.refl _ _).drew | exact below_more ‹Below W2.heap.size W2 _› hbq | exact below_more ‹Below W2.heap.size W2 _› hby)
    (first
      | (go_at_call 74; refine (CO.out _).mono ?_; rintro e wq ⟨rfl, hbq⟩)
      | (go_at_call 73; refine (CR.out _ (below_more D2.out (by assumption))).mono ?_; rintro e wy ⟨⟨ux, rfl, ox⟩, hby⟩
         have OX := jz (ox.mono (B' := w.heap.size) (below_more D2.out (by assumption)).size)
         clear ox))
   have HH := jz (below_more D2.out ‹Below W2.heap.size W2 wy›)
   go_wp2
   go_ret2
   exact ⟨⟨_, rfl, OX.out⟩, HH.out⟩
theorem wrote {wl : List Int} {l : List Bk} (hB : blkF wl = some l) (hok : WordsOk wl) {b : Bk} (hb : b ∈ l) {f n : Nat} {c : Nat -> Int} {M : List Ed} (hM : IsE wl (8 * (b.a.toNat + 1) + f) n c M) (hf : f + n <= 8 * (b.s.toNat - 1)) :
 blkF (appF wl M) = some l /\ WordsOk (appF wl M) /\ ∀ x ∈ l, x.a ≠ b.a -> cut (appF wl M) x = cut wl x := by
 have hm := blkF_some hB
 obtain ⟨hn, hF⟩ := mayL_yes.1 hm
 obtain ⟨_, hn5, _⟩ := hn
 obtain ⟨⟨b1, b1'⟩, b2, b3⟩ := mayF_sizes hF b hb
 obtain ⟨v1, v2⟩ := appF_isE hM (wd_ok hok) (by omega)
 have hlen : (appF wl M).length = wl.length := appF_length ..
 have hwd : ∀ {v : List Int} {j : Nat}, (∀ x ∈ v, Wd x) -> j < v.length -> Wd (v.getD j 0) := fun hv hj => by
  rw [List.getD_eq_getElem?_getD, List.getElem?_eq_getElem hj]
  exact hv _ (List.getElem_mem hj)
 have hsame : ∀ j, j < wl.length -> ((j : Int) <= b.a \/ b.a + b.s <= j) -> (appF wl M).getD j 0 = wl.getD j 0 := fun j hj q => by
  refine wd_ext (hwd v1 (by rw [hlen]; exact hj)) (hwd (wd_ok hok) hj) fun k hk => ?_
  have := v2 (8 * j + k) (by omega)
  rw [tgt, if_neg (by omega)] at this
  unfold bAt_ at this
  rwa [show (8 * j + k) / 8 = j by omega, show (8 * j + k) % 8 = k by omega] at this
 refine ⟨blkF_of (by rw [hlen]; exact hm) fun x hx => ?_, fun j hj => ?_, fun x hx hne => ?_⟩
 . obtain ⟨⟨x1, _⟩, x2, x3⟩ := mayF_sizes hF x hx
   rw [hsame _ (by omega) ?_]
   . exact blkF_hd hB x hx
   . by_cases e : x.a = b.a
     . omega
     . rcases lie_apart hm hx hb e with q | q <;> omega
 . have := v1 _ (List.getElem_mem hj)
   rw [List.getD_eq_getElem?_getD, List.getElem?_eq_getElem hj]
   exact ⟨this.1, by have := this.2; simp only [Option.getD_some]; omega⟩
 . obtain ⟨⟨x1, _⟩, x2, x3⟩ := mayF_sizes hF x hx
   refine cut_same hlen x2 fun j j1 j2 => hsame j (by omega) ?_
   rcases lie_apart hm hx hb hne with q | q <;> omega
theorem appF_take {l : List Int} {es : List Ed} {k : Nat} (h : k < es.length) : appF l (es.take (k + 1)) = if 0 <= (es.getD k default).w /\ (es.getD k default).w < (appF l (es.take k)).length then (appF l (es.take k)).set (es.getD k default).w.toNat (es.getD k default).v else appF l (es.take k) := by
 rw [List.take_add_one, appF_app, List.getElem?_eq_getElem h, List.getD_eq_getElem?_getD, List.getElem?_eq_getElem h]
 rfl
theorem made_words (n : Nat) : (madeCells #[.int .u64 0] n).toList = List.replicate n (.int .u64 0) := by rw [toList_madeCells_one]
theorem size_u64s : (Tryz.prog.info? 50).map (·.size) = some 1 := by kernel_rfl
theorem apply_is (l : List Int) (es : List Ed) (v u : Value) (w : World) (hv : RU w v l) (hu : RA edE w u es) (hl : l.length <= 1000) (hel : es.length <= 4000) :
 Calls Tryz.prog 145 #[v, u] w fun e w' => (∃ x, e = .returned x /\ OwnU w.heap.size w' x (appF l es)) /\ Below w.heap.size w w' := by
 obtain ⟨p, c, rfl, _, _⟩ := ra_shape hu
 obtain ⟨p2, c2, rfl, _, _, _⟩ := id hv
 have hmk := run_make_row' (P := Tryz.prog) 65 50 (.int .u64 0) 8 Tryz.underlying65 info_u64 rfl .i64 .i64 l.length (by omega) (by omega)
 obtain ⟨W, hW⟩ : ∃ W, w.alloc (.cells (madeCells #[.int .u64 0] l.length) 50) = W := ⟨_, rfl⟩
 have hB : Below w.heap.size w W := by rw [<- hW]; exact bal (Below.refl _ _)
 have hg : W.heap[w.heap.size]? = some (.cells (List.replicate l.length (.int .u64 0)).toArray 50 (0, 0)) := by
  rw [<- hW, <- made_words, Array.toArray_toList]; exact heap_alloc_new w _
 have HG := jz hg
 have HBW := jz hB
 have HE := jz (fun (w' : World) (hb : Below w.heap.size w w') => ra_below hu hb)
 have HV := jz (ru_below hv hB)
 have HL := jz (And.intro hl hel)
 have CS : Hid ((l.map uv).length = Nat.min l.length l.length) := jz (by simp)
 have CF : Hid (0 + (l.map uv).length <= (List.replicate l.length (Value.int .u64 0)).length) := jz (by simp)
 have CP : Hid (0 < (l.map uv).length -> some (⟨w.heap.size, 0, none⟩ : Addr) = some ⟨w.heap.size, 0, none⟩ /\ ∃ ad, p2 = some ad /\ ∀ j v, (l.map uv)[j]? = some v -> W.cell? (ad.add j) = some v) := jz fun h0 => by
  obtain ⟨b, off, rfl, _, hc⟩ := ru_some HV.out (by simpa using h0)
  refine ⟨rfl, _, rfl, fun j v hj => ?_⟩
  have hj' : j < l.length := by have := (List.getElem?_eq_some_iff.1 hj).1; simpa using this
  have e : (⟨b, off, none⟩ : Addr).add j = ⟨b, off + j, none⟩ := Go.WideShapes.add_plain ..
  rw [e, hc j hj']
  simp [hj', uv] at hj ⊢
  exact hj
 have FIN : Hid (∀ w', w'.heap[w.heap.size]? = some (.cells (splice (List.replicate l.length (Value.int .u64 0)) 0 (l.map uv)).toArray 50 (0, 0)) -> OwnU w.heap.size w' (.slice (some ⟨w.heap.size, 0, none⟩) l.length l.length) l) := jz fun w' h => by
  have es : splice (List.replicate l.length (Value.int .u64 0)) 0 (l.map uv) = l.map uv := by simp [splice]
  rw [es] at h
  refine ⟨by simp, .inr ⟨w.heap.size, l.length, _, rfl, Nat.le_refl _, h, Nat.le_refl _, by unfold maxLen; omega, by simp, by simp [List.take_of_length_le]⟩⟩
 clear hu hv hl hel hB hg
 obtain ⟨R0, hR0⟩ : ∃ R0, List.replicate l.length (Value.int .u64 0) = R0 := ⟨_, rfl⟩
 obtain ⟨C0, hC0⟩ : ∃ C0, l.map uv = C0 := ⟨_, rfl⟩
 rw [hR0] at HG CF FIN
 rw [hC0] at CS CF CP FIN
 have CO : Hid (∀ v ∈ C0, v.oneCell' = true) := jz (by rw [<- hC0]; exact uv_one l)
 clear hR0 hC0
 go_enter Tryz.func145, Tryz.ntmps145
 go_wp2_with (refine wpList_copy_splice (o := ⟨some 13, _, _, _, _, _⟩) rfl (.tmp 11) (.tmp 12) 65 65 rfl 50 Tryz.underlying65 size_u64s _ _ _ _ _ _ rfl rfl w.heap.size 0 R0 50 HG.out C0 CS.out CP.out CF.out CO.out w.heap.size w HBW.out (Nat.le_refl _) ?_)
 intro w1 hg1 hb1
 have O1 := jz (FIN.out _ hg1.out)
 have D1 := jz hb1
 clear hg1 hb1 FIN CP CF CO HG CS
 go_wp2
 go_loopw [7, 16] (fun x i wr => ∃ k : Nat, k <= es.length /\ i = .int .i64 k /\ Hid (OwnU w.heap.size wr (.slice (some ⟨w.heap.size, 0, none⟩) l.length l.length) (appF l (es.take k)) /\ Below w.heap.size w wr)) (fun _ i _ => es.length - (intOf i).toNat)
 case atStart => exact ⟨0, Nat.zero_le _, rfl, jz ⟨O1.out, D1.out⟩⟩
 case round =>
  obtain ⟨k, hk, rfl, H⟩ := hrel
  by_cases hlt : k < es.length
  . obtain ⟨b, off, rfl, hb, hx⟩ := ed_at (HE.out _ H.out.2) (by omega)
    obtain ⟨hld, _, _, hwf⟩ := hx k hlt
    have hF := appF_take (l := l) hlt
    rw [appF_length] at hF
    generalize es.getD k default = y at *
    obtain ⟨a, x⟩ := y
    simp only at hF
    obtain ⟨W, hW, HW⟩ := ed_boxed wr ⟨a, x⟩
    have c0 : W.cell? ⟨wr.heap.size, 0, none⟩ = some (.int .i64 a) := HW.out.1.c0
    have c1 : W.cell? ⟨wr.heap.size, 1, none⟩ = some (.int .u64 x) := HW.out.1.c1
    have hB := below_more H.out.2 HW.out.2
    have hO := H.out.1.below HW.out.2
    have i0 : (0 : Int) <= (k : Int) := by omega
    have i1 : (k : Int) < (es.length : Int) := by omega
    have i2 : ¬ (k : Int) < 0 := by omega
    have i3 : IntKind.i64.wrap ((k : Int) + 1) = ((k + 1 : Nat) : Int) := by rw [show (k : Int) + 1 = ((k + 1 : Nat) : Int) by omega]; exact i64_nat _ (by have := HL.out; omega)
    have HK := jz hlt
    by_cases h1 : 0 <= a
    . by_cases h2 : a < (l.length : Int)
      . rw [if_pos ⟨h1, h2⟩] at hF
        obtain ⟨z, rfl⟩ : ∃ z : Nat, a = z := ⟨a.toNat, by omega⟩
        rw [Int.toNat_natCast] at hF
        have i4 : (z : Int) >= 0 := by omega
        have i5 : ¬ (z : Int) < 0 := by omega
        have i6 : ¬ (l.length : Int) <= (z : Int) := by omega
        obtain ⟨_, z3⟩ := OwnU.cells hO (j := z) (by rw [appF_length]; omega)
        obtain ⟨c3, _⟩ := OwnU.cells hO (j := z) (by rw [appF_length]; omega)
        generalize (appF l (es.take k)).getD z 0 = y at c3
        have HN : Hid (OwnU w.heap.size (W.setCell ⟨w.heap.size, z, none⟩ (.int .u64 x)) (.slice (some ⟨w.heap.size, 0, none⟩) l.length l.length) (appF l (es.take (k + 1))) /\ Below w.heap.size w (W.setCell ⟨w.heap.size, z, none⟩ (.int .u64 x))) := jz ⟨by rw [hF]; exact OwnU.stored hO z x, hB.setCell (p := ⟨w.heap.size, z, none⟩) (Nat.le_refl _) _⟩
        clear hx hF hB hO hb hk hlt h1 hwf
        go_wp2
        go_roundw
        case rel => exact ⟨k + 1, by have := HK.out; omega, by go_num, HN⟩
        case measure => have := HK.out; simp [intOf]; omega
      . rw [if_neg (by omega)] at hF
        have HN := jz (And.intro hO hB)
        rw [<- hF] at HN
        clear hx hF hB hO hb hk hlt hwf
        go_wp2
        go_roundw
        case rel => exact ⟨k + 1, by have := HK.out; omega, by go_num, HN⟩
        case measure => have := HK.out; simp [intOf]; omega
    . rw [if_neg (by omega)] at hF
      have HN := jz (And.intro hO hB)
      rw [<- hF] at HN
      clear hx hF hB hO hb hk hlt hwf
      go_wp2
      go_roundw
      case rel => exact ⟨k + 1, by have := HK.out; omega, by go_num, HN⟩
      case measure => have := HK.out; simp [intOf]; omega
  . obtain rfl : k = es.length := by omega
    have hF := H.out
    rw [List.take_length] at hF
    have HF := jz hF
    clear hF
    go_wp2
    go_ret
    exact ⟨⟨_, rfl, HF.out.1⟩, HF.out.2⟩
theorem mwrite_is {D : List Nat} {g : Nat} {wl : List Int} {l : List Bk} {r : Int} (o : Int) (bl : List Int) (u : Value) (w : World) (h : Mo w D g wl l r) (hu : RA byE w u bl) (hbl : bl.length <= 100000) : Calls Tryz.prog 109 #[.pointer (some ⟨g, 0, none⟩), .int .i64 o, u] w fun e w' =>
 e = .returned (.int .i64 (refF wl o bl.length)) /\ ∃ M, WrT wl bl o M /\ Mo w' D g (appF wl M) l r /\ Chg [g] w w' := by
 have C := jz (mhol_is o bl.length w h)
 have hr := ref_of h.hB o bl.length
 obtain ⟨q, d, rfl, _, _⟩ := ra_shape hu
 cases e : hoQ l o bl.length with
 | none =>
   rw [e] at C hr
   have hw : WrT wl bl o [] := by
    unfold WrT
    rw [hr, if_neg (by simp)]
   have FIN := jz (fun w' (hb : Below w.heap.size w w') => (show ∃ M, WrT wl bl o M /\ Mo w' D g (appF wl M) l r /\ Chg [g] w w' from ⟨[], hw, h.below hb, Chg.of_below hb _⟩))
   rw [hr]
   simp only [oi, Option.isSome_none, Bool.false_eq_true, if_false] at C ⊢
   clear h e hr hw hu hbl
   generalize bl.length = L at *
   go_enter Tryz.func109, Tryz.ntmps109
   go_wp2_with fail
   refine (C.out).mono ?_; rintro e w1 ⟨rfl, b1⟩
   have FQ := jz (FIN.out w1 b1)
   clear FIN b1
   go_wp2_with fail
   go_ret
   exact ⟨rfl, FQ.out⟩
 | some j =>
   rw [e] at C hr
   rw [hr]
   simp only [oi, Option.isSome_some, if_true] at C hr ⊢
   obtain ⟨hlen, hwl, hm⟩ := h.len
   obtain ⟨v, us, hW, hR, hF, hU, hP⟩ := h.rows
   obtain ⟨hn, hj, h1, h2⟩ := hoQ_some e
   have hju : j < us.length := by rw [hU.len]; exact hj
   obtain ⟨hat, hmem⟩ := hU.at_ hju
   obtain ⟨hbm, hbu, q3, q4, q5, q6, q7⟩ := usd_in hm (getD_mem hj)
   rw [<- hat] at h1 h2 hbm hbu q3 q4 q5 q7
   obtain ⟨x1, x2, x3⟩ := hU.ws _ hmem
   obtain ⟨px, cx, hxv, _⟩ := id x2
   obtain ⟨b, n, cap, rfl⟩ : ∃ b n c, v = .slice (some ⟨b, 0, none⟩) n c := by
    rcases hP with rfl | hP
    . obtain ⟨_, _, e, _⟩ := ra_shape hR
      injection e with _ e _
      omega
    . exact hP
   obtain ⟨b', off, c', e0, hlc, hld⟩ := ex_ld hR hju
   cases e0
   simp only [Nat.zero_add] at hld
   have c1 : ∀ w', Below w.heap.size w w' -> w'.cell? ⟨g, 1, none⟩ = some (.slice (some ⟨b, 0, none⟩) us.length cap) := fun w' hb => by rw [hb.cell (p := ⟨g, 1, none⟩) hW.lt, Whole.at_ hW]; rfl
   have f1 : ∀ w', Below w.heap.size w w' -> w'.frozen? ⟨g, 1, none⟩ = false := fun w' hb => Whole.free ((hb.block g hW.lt).trans hW) 1
   have hl1 := cut_len q4 q3 q5
   have hk2 := cut_ok h.ok (us.getD j default).b
   have hsp : us = us.take j ++ us.getD j default :: us.drop (j + 1) := by
    rw [List.getD_eq_getElem?_getD, List.getElem?_eq_getElem hju]
    exact (List.take_append_drop j us).symm.trans (by rw [List.drop_eq_getElem_cons hju]; rfl)
   have hap := usd_apart hm
   rw [<- hU.map, hsp, List.map_append, List.map_cons] at hap
   obtain ⟨_, hap2, hap3⟩ := List.pairwise_append.1 hap
   have hap4 := (List.pairwise_cons.1 hap2).1
   clear hap hap2
   obtain ⟨X, hX⟩ : ∃ X, us.getD j default = X := ⟨_, rfl⟩
   rw [hX] at hld hxv h1 h2 q3 q4 q5 q7 hbm hbu hl1 hk2 x1 x2 hsp hap3 hap4
   obtain ⟨A, hA⟩ : ∃ A : Nat, X.b.a = A := ⟨X.b.a.toNat, by omega⟩
   obtain ⟨S, hS⟩ : ∃ A : Nat, X.b.s = A := ⟨X.b.s.toNat, by omega⟩
   obtain ⟨f, hf⟩ : ∃ f : Nat, o - offB X.b.a = f := ⟨(o - offB X.b.a).toNat, by omega⟩
   have hAt : X.b.a.toNat = A := by omega
   have hSt : X.b.s.toNat = S := by omega
   rw [hSt] at hl1
   have ho : o = ((8 * (A + 1) + f : Nat) : Int) := by omega
   have hfB : f + bl.length <= 8 * (S - 1) := by omega
   -- what is told of the edits
   have CE := jz (fun (w' : World) (hb : Below w.heap.size w w') => edits_is (cut wl X.b) bl X.v (.slice q bl.length d) f w' (by rw [<- x1]; exact ru_below x2 hb) (ra_below hu hb) (wd_ok hk2) (by omega) (by omega) hbl)
   have hIn : InB (cut wl X.b).length f bl.length := ⟨by omega, by omega, by omega, by rw [hl1]; omega⟩
   rw [decide_eq_true hIn] at CE
   have hT : Hid (∀ L, Tells (cut wl X.b) bl f L -> L.length <= 4000) := jz fun L hL => by
    unfold Tells at hL
    rw [if_pos hIn, Int.toNat_natCast] at hL
    rw [hL.len]
    unfold cnt
    split <;> omega
   have CA := jz (fun (L : List Ed) (v' : Value) (w' : World) (hb : Below w.heap.size w w') (hv : RA edE w' v' L) (hL : L.length <= 4000) => apply_is (cut wl X.b) L X.v v' w' (by rw [<- x1]; exact ru_below x2 hb) hv (by omega) hL)
   -- what is in the model then
   have FIN : Hid (∀ (W5 wq : World) (uq : Value) (L : List Ed) (xv : Value), Below w.heap.size w W5 -> Below W5.heap.size W5 wq -> Tells (cut wl X.b) bl f L -> RU W5 xv (appF (cut wl X.b) L) -> Far W5 D xv -> OwnA exE W5.heap.size wq uq (us.take j ++ (⟨X.b, xv, appF (cut wl X.b) L⟩ :: us.drop (j + 1))) →
    ∃ M, WrT wl bl o M /\ Mo (wq.setCell ⟨g, 1, none⟩ uq) D g (appF wl M) l r /\ Chg [g] w (wq.setCell ⟨g, 1, none⟩ uq)) := jz fun W5 wq uq L xv hb5 hbq hL hru hfar ho5 => by
    unfold Tells at hL
    rw [if_pos hIn, Int.toNat_natCast] at hL
    have hM := cut_edits q4 hL (by rw [hSt]; exact hfB)
    obtain ⟨g1, g2, g3⟩ := wrote h.hB h.ok hbm hM (by rw [hSt]; exact hfB)
    have hcw := cut_write q4 q3 q5 h.ok hL hM (by rw [hSt]; exact hfB)
    refine ⟨upE (X.b.a + 1) L, ?_, h.put (below_more hb5 hbq) ho5 hb5.size g1 g2 (appF_length ..) ?_ fun x hx => ?_⟩
    . unfold WrT Tells
      have hIn2 : InB wl.length o bl.length := ⟨by omega, by omega, by omega, by omega⟩
      rw [hr, if_pos rfl, if_pos hIn2, ho, Int.toNat_natCast]
      rw [hAt] at hM
      exact hM
    . have := hU.map
      rw [hsp] at this
      rw [<- this]
      simp
    . have old : ∀ x ∈ us, x.b.a ≠ X.b.a -> x.ws = cut (appF wl (upE (X.b.a + 1) L)) x.b /\ RU wq x.v x.ws /\ Far wq D x.v := fun x hx hne => by
       obtain ⟨y1, y2, y3⟩ := hU.ws x hx
       have hxl : x.b ∈ usd l := by rw [<- hU.map]; exact List.mem_map.2 ⟨x, hx, rfl⟩
       exact ⟨by rw [y1]; exact (g3 x.b (usd_mem.1 hxl).1 hne).symm, ru_below y2 (below_more hb5 hbq), y3.grow (below_more hb5 hbq).size⟩
      rcases List.mem_append.1 hx with hx | hx
      . have hxu := List.mem_of_mem_take hx
        refine old x hxu fun eq => ?_
        have := hap3 x.b (List.mem_map.2 ⟨x, hx, rfl⟩) X.b (List.mem_cons_self ..)
        have := usd_in hm (show x.b ∈ usd l by rw [<- hU.map]; exact List.mem_map.2 ⟨x, hxu, rfl⟩)
        omega
      . rcases List.mem_cons.1 hx with rfl | hx
        . exact ⟨hcw, ru_below hru hbq, hfar.grow hbq.size⟩
        . have hxu := List.mem_of_mem_drop hx
          refine old x hxu fun eq => ?_
          have := hap4 x.b (List.mem_map.2 ⟨x, hx, rfl⟩)
          omega
   have hD := jz h.dlt
   have hwfb : X.b.Wf := Bk.wf_of (by omega) (by omega) (by omega) (by omega)
   have CO := jz (fun w => off_is X.b _ q7 w)
   have hoc : offB X.b.a = (X.b.a + 1) * 8 := q7
   obtain ⟨y, hy⟩ : ∃ y, (X.b.a + 1) * 8 = y := ⟨_, rfl⟩
   rw [hy] at CO q7
   have i3 : IntKind.i64.wrap (o - y) = (f : Int) := by rw [show o - y = (f : Int) by omega]; exact i64_nat _ (by omega)
   obtain ⟨K1, hK1⟩ : ∃ k, j + 1 = k := ⟨_, rfl⟩
   rw [hK1] at FIN
   have CC : Hid (∀ (X' : Ex) (W5 : World), X'.Wf -> Below w.heap.size w W5 -> Calls Tryz.prog 142 #[.slice (some ⟨W5.heap.size + 1, 0, none⟩) 3 3]
    ((W5.alloc (.cells (xc X') 126)).alloc (.cells #[.slice (some ⟨b, 0, none⟩) j cap, .slice (some ⟨W5.heap.size, 0, none⟩) 1 1, .slice (if cap = K1 then some ⟨b, 0, none⟩ else some ⟨b, K1 * 4, none⟩) (us.length - K1) (cap - K1)] 114)).drew fun e w' =>
      (∃ u, e = .returned u /\ OwnA exE W5.heap.size w' u (us.take j ++ (X' :: us.drop K1))) /\ Below W5.heap.size W5 w') := jz fun X' W5 hX' hb => by
    have hr := ra_below hR hb
    have h1 := ra_take hr j
    rw [Nat.min_eq_left (by omega)] at h1
    have h2 := ra_cut hr (show K1 <= us.length by omega)
    rw [Nat.zero_add] at h2
    change RA exE W5 (.slice (if cap = K1 then some ⟨b, 0, none⟩ else some ⟨b, K1 * 4, none⟩) (us.length - K1) (cap - K1)) (us.drop K1) at h2
    have b1 : Below W5.heap.size W5 (W5.alloc (.cells (xc X') 126)) := bal (Below.refl _ _)
    have h3 := xrows3 (ra_below h1 b1) (ex_one W5 hX').ra (ra_below h2 b1)
    rw [size_alloc] at h3
    have h4 := ras_below h3 ((Below.refl _ _).drew)
    have b2 := (bal (o := .cells #[.slice (some ⟨b, 0, none⟩) j cap, .slice (some ⟨W5.heap.size, 0, none⟩) 1 1, .slice (if cap = K1 then some ⟨b, 0, none⟩ else some ⟨b, K1 * 4, none⟩) (us.length - K1) (cap - K1)] 114) b1).drew
    refine (xconcat_is [us.take j, [X'], us.drop K1] _ _ h4 (by simp) (by
     have := hU.len
     have := usd_len l
     simp only [xlens, List.map_cons, List.map_nil, List.sum_cons, List.sum_nil, List.length_take, List.length_drop, List.length_cons, List.length_nil]
     omega)).mono ?_
    rintro e w' ⟨⟨v, rfl, ho⟩, hb'⟩
    refine ⟨⟨v, rfl, ?_⟩, below_more b2 hb'⟩
    have := ho.mono b2.size
    simpa using this
   have n1 : ((j : Int) == -1) = false := beq_eq_false_iff_ne.2 (by omega)
   have i0 : (0 : Int) <= (j : Int) := by omega
   have i1 : (j : Int) < (us.length : Int) := by omega
   have i2 : ¬ (j : Int) < 0 := by omega
   have i4 : (K1 : Int) <= (us.length : Int) := by omega
   have i5 : (K1 : Int) <= (cap : Int) := by omega
   have i6 : (j : Int) <= (cap : Int) := by omega
   have i7 : IntKind.i64.wrap ((j : Int) + 1) = (K1 : Int) := by rw [show (j : Int) + 1 = (K1 : Int) by omega]; exact i64_nat _ (by have := usd_len l; omega)
   have i8 : (j : Int) <= (us.length : Int) := by omega
   have hX1 : X.v.oneCell' = true := by rw [hxv]; rfl
   have HWF := jz hwfb
   clear hW hR hF hU hP h hlen hwl hm hn hj hju hat hmem hbm hbu q3 q4 q5 q6 q7 x1 x2 x3 hlc hl1 hk2 hsp hap3 hap4 hX h1 h2 e hr hA hS hf hAt hSt ho hfB hIn hu hbl hwfb hoc hy hK1
   generalize us.take j = U1 at *
   generalize us.drop K1 = U2 at *
   generalize us.length = N at *
   generalize X.ws.length = T at *
   generalize bl.length = Z at *
   go_enter Tryz.func109, Tryz.ntmps109
   go_wp2_with fail
   refine (C.out).mono ?_; rintro e w1 ⟨rfl, b1⟩
   have d1 := c1 w1 b1
   have l1 := hld w1 b1
   obtain ⟨W2, hW2, hst, HW2⟩ := ex_boxed w1 X hX1
   have D2 := jz (below_more b1 HW2.out.2)
   have e1 : ∀ w', Below W2.heap.size W2 w' -> w'.cell? ⟨w1.heap.size, 3, none⟩ = some (.slice px T cx) := fun w' hb => ((HW2.out.1.below hb).c3).trans (by rw [hxv])
   have e2 : ∀ w', Below W2.heap.size W2 w' -> (blkLoad (.pointer (some ⟨w1.heap.size, 0, none⟩))).run Tryz.prog w' = .ok (.agg (bc X.b)) w' := fun w' hb => (HW2.out.1.below hb).block
   rw [hxv] at CE CA
   clear C hld
   go_wp2_with fail
   go_region_held3 (fun w' => Below W2.heap.size W2 w')
    (first | assumption | exact (Below.refl _ _).drew | exact below_more ‹Below W2.heap.size W2 _› hbq | exact below_more ‹Below W2.heap.size W2 _› hby)
    (first
      | (go_at_call 74; refine (CO.out _).mono ?_; rintro e wq ⟨rfl, hbq⟩)
      | (go_at_call 144; refine (CE.out _ (below_more D2.out (by assumption))).mono ?_; rintro e wy ⟨⟨ue, L, rfl, oe, te⟩, hby⟩
         have OE := jz (And.intro oe.ra te)
         clear oe te))
   have HH := jz ‹Below W2.heap.size W2 wy›
   have e3 := e1 wy HH.out
   clear e1 e2
   go_wp2_with fail
   refine (CA.out L _ _ (below_more D2.out HH.out) OE.out.1 (hT.out L OE.out.2)).mono ?_; rintro e w4 ⟨⟨uv4, rfl, o4⟩, b4⟩
   have X4 := HW2.out.1.below (below_more HH.out b4)
   obtain ⟨WS, hWS⟩ : ∃ WS, appF (cut wl X.b) L = WS := ⟨_, rfl⟩
   obtain ⟨W5, hW5⟩ : ∃ W5, w4.setCell ⟨w1.heap.size, 3, none⟩ uv4 = W5 := ⟨_, rfl⟩
   have HF : Hid (Xv W5 w1.heap.size ⟨X.b, uv4, WS⟩ /\ Below w.heap.size w W5 /\ (⟨X.b, uv4, WS⟩ : Ex).Wf /\ ∀ (wq : World) (uq : Value), Below W5.heap.size W5 wq -> OwnA exE W5.heap.size wq uq (U1 ++ (⟨X.b, uv4, WS⟩ :: U2)) -> ∃ M, WrT wl bl o M /\ Mo (wq.setCell ⟨g, 1, none⟩ uq) D g (appF wl M) l r /\ Chg [g] w (wq.setCell ⟨g, 1, none⟩ uq)) := jz (by
    have k1 : w1.heap.size < wy.heap.size := Nat.lt_of_lt_of_le HW2.out.1.lt HH.out.size
    have hc : Chg [w1.heap.size] w4 W5 := by rw [<- hW5]; exact (Chg.refl [w1.heap.size] w4).setCell (p := ⟨w1.heap.size, 3, none⟩) (.inl (List.mem_singleton.2 rfl)) _
    have hb4 : Below w.heap.size w w4 := below_more D2.out (below_more HH.out b4)
    have hb5 : Below w.heap.size w W5 := hc.below hb4 hb4.size (fun k hk => by rw [List.mem_singleton.1 hk]; exact b1.size)
    have hX5 : Xv W5 w1.heap.size ⟨X.b, uv4, WS⟩ := by
     rw [<- hW5]
     exact Whole.set_ X4 3 uv4
    refine ⟨hX5, hb5, ⟨HWF.out, by obtain ⟨_, _, rfl⟩ := o4.shape; rfl⟩, fun wq uq hbq ho => ?_⟩
    have hru : RU W5 uv4 WS := by
     rw [<- hWS]
     refine ru_chg o4.ru hc fun k hk q => ?_
     have := (World.ownsRow.lt o4 k hk).1
     rw [List.mem_singleton.1 q] at this
     omega
    have hfar : Far W5 D uv4 := (far_own_u o4 fun k hk => by
     have := hD.out k hk
     have := (below_more D2.out HH.out).size
     omega).grow hc.size
    refine FIN.out W5 wq uq L uv4 hb5 hbq OE.out.2 (by rw [hWS]; exact hru) hfar ?_
    rw [hWS]
    exact ho)
   have e4 := X4.c3
   rw [hxv] at e4
   have f4 := Whole.free X4 3
   rw [hWS] at o4
   obtain ⟨pv, cv, rfl⟩ := o4.shape
   obtain ⟨nv, hnv⟩ : ∃ nv, WS.length = nv := ⟨_, rfl⟩
   rw [hnv] at hW5 HF ⊢
   have C5 := jz (CC.out _ W5 HF.out.2.2.1 HF.out.2.1)
   have d5 := c1 W5.drew HF.out.2.1.drew
   obtain ⟨X', hX'⟩ : ∃ X' : Ex, (⟨X.b, .slice pv nv cv, WS⟩ : Ex) = X' := ⟨_, rfl⟩
   have hsl : ∀ w', (exSlice 1 #[(0, .agg (xc X'))]).run Tryz.prog w' = .ok (.slice (some ⟨w'.heap.size, 0, none⟩) 1 1) (w'.alloc (.cells (xc X') 126)) := fun w' => run_exSlice1 w' X' (by rw [<- hX'])
   rw [hX'] at C5 HF
   have d6 := c1 (W5.alloc (.cells (xc X') 126)).drew (bal HF.out.2.1).drew
   have l5 : (exLoad (.pointer (some ⟨w1.heap.size, 0, none⟩))).run Tryz.prog W5.drew = .ok (.agg (xc X')) W5.drew := Xv.load (w := W5.drew) HF.out.1
   have FC := jz c1
   have FF := jz f1
   clear X4 o4 CC FIN CE CA CO hWS hnv hX' c1 f1 hT HWF b4 e3 d1 l1 hxv b1 hD
   obtain ⟨U, hU⟩ : ∃ U, U1 ++ (X' :: U2) = U := ⟨_, rfl⟩
   rw [hU] at C5 HF
   clear hU
   go_wp2_with fail
   go_region_law (first
    | (go_simp; go_at_call 142; refine (C5.out).mono ?_; rintro e wq ⟨⟨uq, rfl, oq⟩, bq⟩
       have FQ := jz (HF.out.2.2.2 wq uq bq oq)
       have f2 := FF.out wq (below_more HF.out.2.1 bq)
       have c2 := FC.out wq (below_more HF.out.2.1 bq)
       obtain ⟨pq, cq, rfl, _, _⟩ := ra_shape oq.ra
       clear oq))
   all_goals
    go_wp2
    all_goals
     go_ret
     exact ⟨rfl, FQ.out⟩
structure Js where
 wl : List Int
 l : List Bk
 r : Int
 w : Bool
def bare3 (e off : Int) (da : List Int) (k : Int) : Prop := e = k /\ off = 0 /\ da = []
instance (e off : Int) (da : List Int) (k : Int) : Decidable (bare3 e off da k) := by unfold bare3; infer_instance
def SeeA (s : Js) (n e off : Int) (da : List Int) (b : Bool) (s' : Js) : Prop :=
 if needN n = 0 then b = decide (bare3 e off da 1) /\ s' = s
 else if bare3 e off da 3 then b = true /\ s' = { s with w := true }
 else if s.w = true then b = false /\ s' = s
 else if bare3 e off da 4 then b = decide (fos (needN n) s.l = []) /\ s' = s
 else if e = 0 /\ da = [] then b = (alQ (needN n) s.l off).isSome /\ s' = { s with wl := alW s.wl (needN n) s.l off, l := alB (needN n) s.l off }
 else b = false /\ s' = s
def ChQ (s : Js) (d o : Int) (bl : List Int) (er : Int) (s2 : Js) : Prop :=
 if d = 2 then er = feQ s.l o s.r /\ s2 = ⟨feW s.wl s.l o s.r, feB s.l o s.r, s.r, s.w⟩
 else if d = 4 then er = refF s.wl o bl.length /\ ∃ M, WrT s.wl bl o M /\ s2 = ⟨appF s.wl M, s.l, s.r, s.w⟩
 else er = srQ s.l o /\ s2 = ⟨s.wl, s.l, if srQ s.l o = 0 then o else s.r, s.w⟩
def must (d : Int) (bl : List Int) : Prop := ¬ (d = 4 /\ bl = [])
instance (d : Int) (bl : List Int) : Decidable (must d bl) := by unfold must; infer_instance
def SeeC (s : Js) (d o : Int) (bl : List Int) (e off : Int) (da : List Int) (b : Bool) (s' : Js) : Prop :=
 ∃ er s2, ChQ s d o bl er s2 ∧
  if er = 0 /\ must d bl /\ bare3 e off da 3 then b = true /\ s' = { s with w := true }
  else if er = 0 /\ must d bl /\ s.w = true then b = false /\ s' = s
  else if bare3 e off da er then b = true /\ s' = s2
  else b = false /\ s' = s
def SeeQ (s : Js) (d o n : Int) (bl : List Int) (e off : Int) (da : List Int) (b : Bool) (s' : Js) : Prop :=
 if d = 1 then SeeA s n e off da b s'
 else if d = 2 \/ d = 4 \/ d = 5 then SeeC s d o bl e off da b s'
 else if d = 3 then b = decide (e = refF s.wl o n /\ off = 0 /\ da = rdR s.wl o n) /\ s' = s
 else if d = 6 then b = decide (e = 0 /\ off = s.r /\ da = []) /\ s' = s
 else b = decide (bare3 e off da 1) /\ s' = s
theorem SeeA.one {s : Js} {n e off : Int} {da : List Int} {b b' : Bool} {s' s'' : Js} (h : SeeA s n e off da b s') (h' : SeeA s n e off da b' s'') : b = b' /\ s' = s'' := by
 unfold SeeA at h h'
 repeat' split at h
 all_goals (simp_all)
theorem ChQ.one {s : Js} {d o : Int} {bl : List Int} {er er' : Int} {s2 s2' : Js} (h : ChQ s d o bl er s2) (h' : ChQ s d o bl er' s2') : er = er' /\ s2 = s2' := by
 unfold ChQ at h h'
 by_cases c2 : d = 2
 . rw [if_pos c2] at h h'; exact ⟨h.1.trans h'.1.symm, h.2.trans h'.2.symm⟩
 rw [if_neg c2] at h h'
 by_cases c4 : d = 4
 . rw [if_pos c4] at h h'
   obtain ⟨h1, M, h2, h3⟩ := h
   obtain ⟨g1, M', g2, g3⟩ := h'
   obtain rfl := h2.one g2
   exact ⟨h1.trans g1.symm, h3.trans g3.symm⟩
 rw [if_neg c4] at h h'
 exact ⟨h.1.trans h'.1.symm, h.2.trans h'.2.symm⟩
theorem SeeC.one {s : Js} {d o : Int} {bl : List Int} {e off : Int} {da : List Int} {b b' : Bool} {s' s'' : Js} (h : SeeC s d o bl e off da b s') (h' : SeeC s d o bl e off da b' s'') : b = b' /\ s' = s'' := by
 obtain ⟨er, s2, h1, h⟩ := h
 obtain ⟨er', s2', h1', h'⟩ := h'
 obtain ⟨rfl, rfl⟩ := h1.one h1'
 split at h
 . rename_i q
   rw [if_pos q] at h'
   exact ⟨h.1.trans h'.1.symm, h.2.trans h'.2.symm⟩
 rename_i q
 rw [if_neg q] at h'
 split at h
 . rename_i q
   rw [if_pos q] at h'
   exact ⟨h.1.trans h'.1.symm, h.2.trans h'.2.symm⟩
 rename_i q
 rw [if_neg q] at h'
 split at h
 . rename_i q
   rw [if_pos q] at h'
   exact ⟨h.1.trans h'.1.symm, h.2.trans h'.2.symm⟩
 rename_i q
 rw [if_neg q] at h'
 exact ⟨h.1.trans h'.1.symm, h.2.trans h'.2.symm⟩
theorem SeeQ.one {s : Js} {d o n : Int} {bl : List Int} {e off : Int} {da : List Int} {b b' : Bool} {s' s'' : Js} (h : SeeQ s d o n bl e off da b s') (h' : SeeQ s d o n bl e off da b' s'') : b = b' /\ s' = s'' := by
 unfold SeeQ at h h'
 by_cases c1 : d = 1
 . rw [if_pos c1] at h h'; exact h.one h'
 rw [if_neg c1] at h h'
 by_cases c2 : d = 2 \/ d = 4 \/ d = 5
 . rw [if_pos c2] at h h'; exact h.one h'
 rw [if_neg c2] at h h'
 by_cases c3 : d = 3
 . rw [if_pos c3] at h h'; exact ⟨h.1.trans h'.1.symm, h.2.trans h'.2.symm⟩
 rw [if_neg c3] at h h'
 by_cases c6 : d = 6
 . rw [if_pos c6] at h h'; exact ⟨h.1.trans h'.1.symm, h.2.trans h'.2.symm⟩
 rw [if_neg c6] at h h'
 exact ⟨h.1.trans h'.1.symm, h.2.trans h'.2.symm⟩
theorem Far.wide {w w' : World} {D D' : List Nat} {v : Value} (h : Far w D v) (hs : w.heap.size <= w'.heap.size) (hD : ∀ k ∈ D', k ∈ D \/ w.heap.size <= k) : Far w' D' v := fun k hk => ⟨Nat.lt_of_lt_of_le (h k hk).1 hs, fun q => by
 rcases hD k q with q | q
 . exact (h k hk).2 q
 . have := (h k hk).1; omega⟩
theorem Mo.wide {w w' : World} {D D' E : List Nat} {g : Nat} {wl : List Int} {l : List Bk} {r : Int} (h : Mo w D g wl l r) (hc : Chg E w w') (hE : ∀ k ∈ E, k ∈ D) (hg : g ∉ E) (h1 : ∀ k ∈ D, k ∈ D') (h2 : ∀ k ∈ D', k ∈ D \/ w.heap.size <= k) (h3 : ∀ k ∈ D', k < w'.heap.size) : Mo w' D' g wl l r := by
 obtain ⟨v, us, q1, q2, q3, q4, q5⟩ := h.rows
 refine ⟨h.hB, h.ok, h1 _ h.gD, h3, v, us, hc.whole q1 hg, ra_chg q2 hc (fun k hk q => (q3 k hk).2 (hE k q)), q3.wide hc.size h2, ⟨q4.map, fun x hx => ?_⟩, q5⟩
 obtain ⟨g1, g2, g3⟩ := q4.ws x hx
 exact ⟨g1, ru_chg g2 hc (fun k hk q => (g3 k hk).2 (hE k q)), g3.wide hc.size h2⟩
structure Jo (w : World) (D : List Nat) (j g : Nat) (s : Js) : Prop where
 top : Whole w j 82 #[.pointer (some ⟨g, 0, none⟩), .bool s.w]
 m : Mo w D g s.wl s.l s.r
 jD : j ∈ D
 ne : j ≠ g
section
variable {w w' : World} {D D' E : List Nat} {j g : Nat} {s : Js}
theorem Jo.c0 (h : Jo w D j g s) : w.cell? ⟨j, 0, none⟩ = some (.pointer (some ⟨g, 0, none⟩)) := Whole.at_ h.top 0
theorem Jo.c1 (h : Jo w D j g s) : w.cell? ⟨j, 1, none⟩ = some (.bool s.w) := Whole.at_ h.top 1
theorem Jo.f (h : Jo w D j g s) (i : Nat) : w.frozen? ⟨j, i, none⟩ = false := Whole.free h.top i
theorem Jo.below (h : Jo w D j g s) (hb : Below w.heap.size w w') : Jo w' D j g s := ⟨(hb.block j h.top.lt).trans h.top, h.m.below hb, h.jD, h.ne⟩
theorem Jo.wide (h : Jo w D j g s) (hc : Chg E w w') (hE : ∀ k ∈ E, k ∈ D) (hg : g ∉ E) (hj : j ∉ E) (h1 : ∀ k ∈ D, k ∈ D') (h2 : ∀ k ∈ D', k ∈ D \/ w.heap.size <= k) (h3 : ∀ k ∈ D', k < w'.heap.size) : Jo w' D' j g s :=
 ⟨hc.whole h.top hj, h.m.wide hc hE hg h1 h2 h3, h1 _ h.jD, h.ne⟩
theorem Jo.wear (h : Jo w D j g s) (b : Bool) : Jo (w.setCell ⟨j, 1, none⟩ (.bool b)) D j g { s with w := b } /\ Chg [j] w (w.setCell ⟨j, 1, none⟩ (.bool b)) := by
 have hc : Chg [j] w (w.setCell ⟨j, 1, none⟩ (.bool b)) := (Chg.refl [j] w).setCell (p := ⟨j, 1, none⟩) (.inl (List.mem_singleton.2 rfl)) _
 exact ⟨⟨h.top.set_ 1 _, h.m.chg hc (fun k hk => by rw [List.mem_singleton.1 hk]; exact h.jD) (fun q => h.ne (List.mem_singleton.1 q).symm), h.jD, h.ne⟩, hc⟩
theorem Jo.next (h : Jo w D j g s) {x : Nat} {s2 : Js} (hx : Mo w D x s2.wl s2.l s2.r) (hne : j ≠ x) (hw : s2.w = s.w) : Jo (w.setCell ⟨j, 0, none⟩ (.pointer (some ⟨x, 0, none⟩))) D j x s2 /\ Chg [j] w (w.setCell ⟨j, 0, none⟩ (.pointer (some ⟨x, 0, none⟩))) := by
 have hc : Chg [j] w (w.setCell ⟨j, 0, none⟩ (.pointer (some ⟨x, 0, none⟩))) := (Chg.refl [j] w).setCell (p := ⟨j, 0, none⟩) (.inl (List.mem_singleton.2 rfl)) _
 refine ⟨⟨?_, hx.chg hc (fun k hk => by rw [List.mem_singleton.1 hk]; exact h.jD) (fun q => hne (List.mem_singleton.1 q).symm), h.jD, hne⟩, hc⟩
 rw [hw]
 exact h.top.set_ 0 _
end
structure Grow (w w' : World) (D D' : List Nat) : Prop where
 sub : ∀ k ∈ D, k ∈ D'
 new : ∀ k ∈ D', k ∈ D \/ w.heap.size <= k
theorem Grow.refl (w w' : World) (D : List Nat) : Grow w w' D D := ⟨fun _ h => h, fun _ h => .inl h⟩
theorem Grow.one {w w' : World} {D : List Nat} {x : Nat} (hx : w.heap.size <= x) : Grow w w' D (x :: D) := ⟨fun _ h => List.mem_cons_of_mem _ h, fun k h => by
 rcases List.mem_cons.1 h with rfl | h
 . exact .inr hx
 . exact .inl h⟩
def JOut (w w' : World) (D : List Nat) (j g : Nat) (P : Bool -> Js -> Prop) (e : Ending) : Prop :=
 ∃ b s' g' D', e = .returned (.bool b) /\ P b s' /\ Jo w' D' j g' s' /\ Chg [j, g] w w' /\ Grow w w' D D' /\ (g' = g \/ w.heap.size <= g')
structure Px where
 d : Int
 o : Int
 nn : Int
 msk : Int
 v : Value
 bl : List Int
instance : Inhabited Px := ⟨⟨0, 0, 0, 0, .slice none 0 0, []⟩⟩
def Px.cells (x : Px) : List Value := [.int .i64 x.d, .int .i64 x.o, .int .i64 x.nn, .int .i64 x.msk, x.v]
def pxc (x : Px) : Array Value := x.cells.toArray
structure Px.Wf (W : World) (x : Px) : Prop where
 wd : (Lit.int .i64 x.d).wf = true
 wo : (Lit.int .i64 x.o).wf = true
 wn : (Lit.int .i64 x.nn).wf = true
 wm : (Lit.int .i64 x.msk).wf = true
 one : x.v.oneCell' = true
 rv : RA byE W x.v x.bl
theorem cells_hop : Tryz.prog.cellsOf 41 = 5 := by kernel_rfl
theorem cells_int_h : Tryz.prog.cellsOf 3 = 1 := by kernel_rfl
theorem cells_bs_h : Tryz.prog.cellsOf 39 = 1 := by kernel_rfl
theorem info_hop : (Tryz.prog.info? 41).map (·.size) = some 5 := by kernel_rfl
theorem trod_fiveh {H : Type} {enc : TypeId × Value -> H} {P : Program} {w : World} {base : Nat} {spare : Nat -> Bool} {held : Bool} {t : TypeId} {f0 f1 f2 f3 f4 : Field} {fuel : Nat} {cs : List Value} {x : DataW H × List MemPlace}
 (ht : P.underlying t = some (.struct #[f0, f1, f2, f3, f4])) (h : DataW.trod enc P w base spare held fuel t cs = some x) :
 ∃ y0 y1 y2 y3 y4 n, cs.length = P.cellsOf t /\ DataW.trod enc P w base spare held n f0.type ((cs.drop f0.offset).take (P.cellsOf f0.type)) = some y0 ∧
  DataW.trod enc P w base spare held n f1.type ((cs.drop f1.offset).take (P.cellsOf f1.type)) = some y1 /\ DataW.trod enc P w base spare held n f2.type ((cs.drop f2.offset).take (P.cellsOf f2.type)) = some y2 ∧
  DataW.trod enc P w base spare held n f3.type ((cs.drop f3.offset).take (P.cellsOf f3.type)) = some y3 /\ DataW.trod enc P w base spare held n f4.type ((cs.drop f4.offset).take (P.cellsOf f4.type)) = some y4 := by
 obtain ⟨xs, n, _, rfl, hl, hlen, hf⟩ := DataW.trod_struct ht h
 match xs, hlen with
 | [y0, y1, y2, y3, y4], _ => exact ⟨y0, y1, y2, y3, y4, n, hl, by simpa using hf 0 f0 rfl, by simpa using hf 1 f1 rfl, by simpa using hf 2 f2 rfl, by simpa using hf 3 f3 rfl, by simpa using hf 4 f4 rfl⟩
theorem byte_elh {H : Type} {enc : TypeId × Value -> H} {W : World} {base n : Nat} {sp : Nat -> Bool} {held : Bool} {c : List Value} {y : DataW H × List MemPlace} (hy : DataW.trod enc Tryz.prog W base sp held n 5 c = some y) : ∃ a, c = byE.enc a /\ byE.ok a := by
 obtain ⟨i, e0, _, w0⟩ := DataW.trod_int Tryz.underlying5 hy
 refine ⟨i, e0, ?_⟩
 have : 0 <= i /\ i <= 255 := by simpa [Lit.wf, IntKind.min, IntKind.max, IntKind.signed, IntKind.bits] using w0
 show By i
 unfold By; omega
theorem hop_cells {H : Type} {enc : TypeId × Value -> H} {W : World} {n : Nat} {sp : Nat -> Bool} {held : Bool} {cs : List Value} {y : DataW H × List MemPlace}
 (h : DataW.trod enc Tryz.prog W 0 sp held n 41 cs = some y) : ∃ c : Px, cs = c.cells /\ c.Wf W := by
 obtain ⟨y0, y1, y2, y3, y4, k, hl, g0, g1, g2, g3, g4⟩ := trod_fiveh Tryz.underlying41 h
 rw [cells_hop] at hl
 dsimp only at g0 g1 g2 g3 g4
 rw [cells_int_h] at g0 g1 g2 g3
 rw [cells_bs_h] at g4
 obtain ⟨d, e0, _, w0⟩ := DataW.trod_int Tryz.underlying3 g0
 obtain ⟨o, e1, _, w1⟩ := DataW.trod_int Tryz.underlying3 g1
 obtain ⟨i, e2, _, w2⟩ := DataW.trod_int Tryz.underlying3 g2
 obtain ⟨m, e3, _, w3⟩ := DataW.trod_int Tryz.underlying3 g3
 obtain ⟨u, l, e4, hr⟩ := elems_in byE g4 (fun _ _ _ hy _ => byte_elh hy)
 obtain ⟨q, c, eu, _⟩ := ra_shape hr
 refine ⟨⟨d, o, i, m, u, l⟩, ?_, ⟨w0, w1, w2, w3, by rw [eu]; rfl, hr⟩⟩
 match cs, hl with
 | [c0, c1, c2, c3, c4], _ =>
   simp at e0 e1 e2 e3 e4
   simp [Px.cells, e0, e1, e2, e3, e4]
def opE (W : World) : Elm Tryz.prog Px where
 t := 25
 e := 41
 size := 5
 bytes := 56
 z := .agg #[.int .i64 0, .int .i64 0, .int .i64 0, .int .i64 0, .slice none 0 0]
 enc := Px.cells
 ok := Px.Wf W
 ht := Tryz.underlying25
 hi := by kernel_rfl
 hzs := rfl
 pos := by decide
 bpos := by decide
 len := fun _ _ => rfl
 one := fun a ha u hu => by
  simp only [Px.cells, List.mem_cons, List.not_mem_nil, or_false] at hu
  rcases hu with rfl | rfl | rfl | rfl | rfl
  . rfl
  . rfl
  . rfl
  . rfl
  . exact ha.one
theorem hops_in {H : Type} {enc : TypeId × Value -> H} {W : World} {base : Nat} {v : Value} {d : DataW H} {p : List MemPlace}
 (hval : Value.okWide Tryz.prog W .any base 25 v) (h : DataW.Trod enc Tryz.prog W 0 (fun _ => true) true 25 v d p) : ∃ l : List Px, RA (opE W) W v l := by
 obtain ⟨va, vl, vc, rfl⟩ := okWide_slice Tryz.underlying25 hval
 obtain ⟨fuel, hf⟩ := h
 obtain ⟨u, l, e, hr⟩ := elems_in (opE W) hf (fun _ _ _ hy _ => hop_cells hy)
 have e' : Value.slice va vl vc = u := by simpa [Value.cells] using e
 exact ⟨l, by rw [e']; exact hr⟩
@[go_sem] theorem pxc_ne (x : Px) : (pxc x = #[]) = False := by simp [pxc, Px.cells]
theorem pxc_size (x : Px) : (pxc x).size = 5 := rfl
def Pxv (w : World) (g : Nat) (x : Px) : Prop := Whole w g 41 (pxc x)
section
variable {w w' : World} {g : Nat} {x : Px}
theorem Pxv.below (h : Pxv w g x) (hb : Below w.heap.size w w') : Pxv w' g x := (hb.block g (Whole.lt h)).trans h
theorem Pxv.chg {D : List Nat} (h : Pxv w g x) (hb : Chg D w w') (hg : g ∉ D) : Pxv w' g x := hb.whole h hg
theorem Pxv.new (w : World) (x : Px) : Pxv (w.alloc (.cells (pxc x) 41)) w.heap.size x := heap_alloc_new w _
theorem Pxv.c0 (h : Pxv w g x) : w.cell? ⟨g, 0, none⟩ = some (.int .i64 x.d) := Whole.at_ h 0
theorem Pxv.c1 (h : Pxv w g x) : w.cell? ⟨g, 1, none⟩ = some (.int .i64 x.o) := Whole.at_ h 1
theorem Pxv.c2 (h : Pxv w g x) : w.cell? ⟨g, 2, none⟩ = some (.int .i64 x.nn) := Whole.at_ h 2
theorem Pxv.c4 (h : Pxv w g x) : w.cell? ⟨g, 4, none⟩ = some x.v := Whole.at_ h 4
end
def pxLoad (p : Value) : Sem Value := Instr.loadAt 41 p
def pxStore (p v : Value) : Sem Unit := Instr.storeAt 41 p v
@[go_sem ↓] theorem loadAt_px (p : Value) : Instr.loadAt 41 p = pxLoad p := rfl
@[go_sem ↓] theorem storeAt_px (p v : Value) : Instr.storeAt 41 p v = pxStore p v := rfl
theorem run_pxLoad {w : World} {b o : Nat} {c : Px} (h : w.rangeAt b o c.cells) : (pxLoad (.pointer (some ⟨b, o, none⟩))).run Tryz.prog w = .ok (.agg (pxc c)) w :=
 run_loadAt_mid (P := Tryz.prog) w b o 41 c.cells _ h Tryz.underlying41 rfl info_hop
theorem run_pxStore (w : World) {z : Array Value} (hz : z.size = 5) (c : Px) (h1 : c.v.oneCell' = true) :
 (pxStore (.pointer (some ⟨w.heap.size, 0, none⟩)) (.agg (pxc c))).run Tryz.prog (w.alloc (.cells z 41)) = .ok () (w.alloc (.cells (pxc c) 41)) := by
 unfold pxStore
 simp only [Instr.storeAt, Instr.sureAddr, Sem.run_bind, Sem.run_pure, Result.andThen]
 rw [run_storeVar_row _ _ 41 41 z (pxc c) (heap_alloc_new w _) (by rw [info_hop, pxc_size]) (by rw [hz, pxc_size]) (by simpa [pxc, Px.cells, Value.oneCell'] using h1), World.setRow_alloc_new]
theorem px_at {W w : World} {p : Option Addr} {n cap : Nat} {l : List Px} (h : RA (opE W) w (.slice p n cap) l) (h0 : 0 < l.length) :
 ∃ b off, p = some ⟨b, off, none⟩ /\ b < w.heap.size /\ ∀ k, k < l.length -> (pxLoad (.pointer (some ⟨b, off + k * 5, none⟩))).run Tryz.prog w = .ok (.agg (pxc (l.getD k default))) w /\ (l.getD k default).Wf W := by
 obtain ⟨b, off, e, hb, hr⟩ := ra_at h h0
 refine ⟨b, off, e, hb, fun k hk => ?_⟩
 have hk2 := hr k hk
 exact ⟨run_pxLoad hk2, (ra_ok h).at_ hk⟩
theorem px_boxed (w : World) (c : Px) (h1 : c.v.oneCell' = true) : ∃ W, w.alloc (.cells (pxc c) 41) = W /\ (pxStore (.pointer (some ⟨w.heap.size, 0, none⟩)) (.agg (pxc c))).run Tryz.prog (w.alloc (.cells #[.int .i64 0, .int .i64 0, .int .i64 0, .int .i64 0, .slice none 0 0] 41)) = .ok () W /\ Hid (Pxv W w.heap.size c /\ Below w.heap.size w W) :=
 ⟨_, rfl, run_pxStore w rfl c h1, jz ⟨Pxv.new w c, bal (Below.refl _ _)⟩⟩
theorem info_ans : (Tryz.prog.info? 44).map (·.size) = some 3 := by kernel_rfl
def anc (e o : Int) (v : Value) : Array Value := #[.int .i64 e, .int .i64 o, v]
@[go_sem] theorem anc_ne (e o : Int) (v : Value) : (anc e o v = #[]) = False := by simp [anc]
def anLoad (p : Value) : Sem Value := Instr.loadAt 44 p
def anStore (p v : Value) : Sem Unit := Instr.storeAt 44 p v
@[go_sem ↓] theorem loadAt_an (p : Value) : Instr.loadAt 44 p = anLoad p := rfl
@[go_sem ↓] theorem storeAt_an (p v : Value) : Instr.storeAt 44 p v = anStore p v := rfl
def Anv (w : World) (g : Nat) (e o : Int) (v : Value) : Prop := Whole w g 44 (anc e o v)
section
variable {w w' : World} {g : Nat} {e o e' o' : Int} {v v' : Value}
theorem Anv.lt (h : Anv w g e o v) : g < w.heap.size := Whole.lt h
theorem Anv.below (h : Anv w g e o v) (hb : Below w.heap.size w w') : Anv w' g e o v := (hb.block g (Whole.lt h)).trans h
theorem Anv.chg {D : List Nat} (h : Anv w g e o v) (hc : Chg D w w') (hg : g ∉ D) : Anv w' g e o v := hc.whole h hg
theorem Anv.new (w : World) (e o : Int) (v : Value) : Anv (w.alloc (.cells (anc e o v) 44)) w.heap.size e o v := heap_alloc_new w _
theorem Anv.c0 (h : Anv w g e o v) : w.cell? ⟨g, 0, none⟩ = some (.int .i64 e) := Whole.at_ h 0
theorem Anv.c1 (h : Anv w g e o v) : w.cell? ⟨g, 1, none⟩ = some (.int .i64 o) := Whole.at_ h 1
theorem Anv.c2 (h : Anv w g e o v) : w.cell? ⟨g, 2, none⟩ = some v := Whole.at_ h 2
theorem Anv.load (h : Anv w g e o v) : (anLoad (.pointer (some ⟨g, 0, none⟩))).run Tryz.prog w = .ok (.agg (anc e o v)) w :=
 run_loadAt_mid (P := Tryz.prog) w g 0 44 [.int .i64 e, .int .i64 o, v] _ (fun j u hj => by rw [Whole.at_ h, Nat.zero_add, <- hj]; simp [anc]) Tryz.underlying44 rfl info_ans
theorem Anv.store (h : Anv w g e o v) (h1 : v'.oneCell' = true) : (anStore (.pointer (some ⟨g, 0, none⟩)) (.agg (anc e' o' v'))).run Tryz.prog w = .ok () (w.setRow g (anc e' o' v')) := by
 unfold anStore
 simp only [Instr.storeAt, Instr.sureAddr, Sem.run_bind, Sem.run_pure, Result.andThen]
 exact run_storeVar_row w g 44 44 (anc e o v) (anc e' o' v') h (by rw [info_ans]; rfl) rfl (by have a : ∀ k i, (Value.int k i).oneCell' = true := fun _ _ => rfl; simp [anc, h1, a])
theorem Anv.put (h : Anv w g e o v) : Anv (w.setRow g (anc e' o' v')) g e' o' v' := by
 have q : w.heap[g]? = some (.cells (anc e o v) 44 (0, 0)) := h
 unfold Anv Whole
 simp [World.setRow, Array.getElem?_modify, q]
end
def anBuild (ps : Array (Nat × Value)) : Sem Value := Instr.build 44 ps
@[go_sem ↓] theorem build_an (ps : Array (Nat × Value)) : Instr.build 44 ps = anBuild ps := rfl
theorem built_an0 (e : Int) : Tryz.prog.built 44 [(0, .int .i64 e)] = some (anc e 0 (.slice none 0 0)) := by kernel_rfl
theorem built_an1 (o : Int) : Tryz.prog.built 44 [(1, .int .i64 o)] = some (anc 0 o (.slice none 0 0)) := by kernel_rfl
theorem built_an01 (e o : Int) : Tryz.prog.built 44 [(0, .int .i64 e), (1, .int .i64 o)] = some (anc e o (.slice none 0 0)) := by kernel_rfl
theorem built_an02 (e : Int) (p : Option Addr) (n c : Nat) : Tryz.prog.built 44 [(0, .int .i64 e), (2, .slice p n c)] = some (anc e 0 (.slice p n c)) := by kernel_rfl
@[go_sem] theorem run_anBuild0 (w : World) (e : Int) : (anBuild #[(0, .int .i64 e)]).run Tryz.prog w = .ok (.agg (anc e 0 (.slice none 0 0))) w := run_build w _ _ _ (built_an0 e)
@[go_sem] theorem run_anBuild1 (w : World) (o : Int) : (anBuild #[(1, .int .i64 o)]).run Tryz.prog w = .ok (.agg (anc 0 o (.slice none 0 0))) w := run_build w _ _ _ (built_an1 o)
@[go_sem] theorem run_anBuild01 (w : World) (e o : Int) : (anBuild #[(0, .int .i64 e), (1, .int .i64 o)]).run Tryz.prog w = .ok (.agg (anc e o (.slice none 0 0))) w := run_build w _ _ _ (built_an01 e o)
@[go_sem] theorem run_anBuild02 (w : World) (e : Int) (p : Option Addr) (n c : Nat) : (anBuild #[(0, .int .i64 e), (2, .slice p n c)]).run Tryz.prog w = .ok (.agg (anc e 0 (.slice p n c))) w := run_build w _ _ _ (built_an02 e p n c)
theorem an_boxed (w : World) (e o : Int) {v : Value} (h1 : v.oneCell' = true) : ∃ W, w.alloc (.cells (anc e o v) 44) = W /\ (anStore (.pointer (some ⟨w.heap.size, 0, none⟩)) (.agg (anc e o v))).run Tryz.prog (w.alloc (.cells #[.int .i64 0, .int .i64 0, .slice none 0 0] 44)) = .ok () W /\ Hid (Anv W w.heap.size e o v /\ Below w.heap.size w W) := by
 refine ⟨_, rfl, ?_, jz ⟨Anv.new w e o v, bal (Below.refl _ _)⟩⟩
 have h : Anv (w.alloc (.cells #[.int .i64 0, .int .i64 0, .slice none 0 0] 44)) w.heap.size 0 0 (.slice none 0 0) := Anv.new w 0 0 _
 rw [h.store (e' := e) (o' := o) h1, World.setRow_alloc_new]
theorem bequal_is {w : World} {v v' : Value} {l l' : List Int} (hv : RA byE w v l) (hv' : RA byE w v' l') : Calls Tryz.prog 75 #[v, v'] w fun f w' => f = .returned (.bool (decide (l = l'))) /\ w = w' := by
 have hs := run_strConv hv
 have hs' := run_strConv hv'
 have HI' : Hid ((strOfNums l).toList = (strOfNums l').toList -> l = l') := jz (strOf_inj (fun x hx => ra_ok hv x hx) (fun x hx => ra_ok hv' x hx))
 obtain ⟨q, c, hvv, _⟩ := ra_shape hv
 obtain ⟨q', c', hvv', _⟩ := ra_shape hv'
 subst hvv hvv'
 by_cases h2 : l = l'
 . subst h2
   rw [decide_eq_true rfl]
   generalize strOfNums l = sl at *
   generalize l.length = n at *
   clear hv hv' HI'
   go_enter Tryz.func75, Tryz.ntmps75
   go_wp2_with fail
   go_ret
   exact ⟨by simp, rfl⟩
 . rw [decide_eq_false h2]
   have hne : ¬ (strOfNums l).toList = (strOfNums l').toList := fun q => h2 (HI'.out q)
   generalize strOfNums l = sl at *
   generalize strOfNums l' = sl' at *
   generalize l.length = n at *
   generalize l'.length = n' at *
   clear hv hv' HI' h2
   go_enter Tryz.func75, Tryz.ntmps75
   go_wp2_with fail
   go_ret
   exact ⟨by simp [hne], rfl⟩
theorem jsame_is {w : World} {e o e' o' : Int} {v v' : Value} {l l' : List Int} (hv : RA byE w v l) (hv' : RA byE w v' l') :
 Calls Tryz.prog 39 #[.agg (anc e o v), .agg (anc e' o' v')] w fun f w' => f = .returned (.bool (decide (e = e' /\ o = o' /\ l = l'))) /\ Below w.heap.size w w' := by
 obtain ⟨W0, hW0⟩ : ∃ W0, w.alloc (.cells (anc e o v) 44) = W0 := ⟨_, rfl⟩
 obtain ⟨W, hW⟩ : ∃ W, W0.alloc (.cells (anc e' o' v') 44) = W := ⟨_, rfl⟩
 have s0 : W0.heap.size = w.heap.size + 1 := by rw [<- hW0, size_alloc]
 have B0 : Below w.heap.size w W0 := by rw [<- hW0]; exact bal (Below.refl _ _)
 have B1 : Below W0.heap.size W0 W := by rw [<- hW]; exact bal (Below.refl _ _)
 have HB := jz (below_more B0 B1)
 have A0 : Anv W w.heap.size e o v := by
  have : Anv W0 w.heap.size e o v := by rw [<- hW0]; exact Anv.new w e o v
  exact this.below B1
 have A1 : Anv W (w.heap.size + 1) e' o' v' := by rw [<- s0, <- hW]; exact Anv.new W0 e' o' v'
 have c0 := A0.c0
 have c1 := A0.c1
 have c2 := A0.c2
 have d0 := A1.c0
 have d1 := A1.c1
 have d2 := A1.c2
 have C := jz (bequal_is (ra_below hv HB.out) (ra_below hv' HB.out))
 obtain ⟨q, c, hvv, _⟩ := ra_shape hv
 obtain ⟨q', c', hvv', _⟩ := ra_shape hv'
 subst hvv hvv'
 by_cases h0 : e = e'
 . subst h0
   by_cases h1 : o = o'
   . subst h1
     have hd : decide (e = e /\ o = o /\ l = l') = decide (l = l') := by simp
     rw [hd]
     generalize decide (l = l') = bb at *
     generalize l.length = n at *
     generalize l'.length = n' at *
     clear hv hv' B0 B1 A0 A1
     go_enter Tryz.func39, Tryz.ntmps39
     go_wp2_with fail
     refine (C.out).mono ?_; rintro e w' ⟨rfl, rfl⟩
     go_wp2_with fail
     go_ret
     exact ⟨rfl, HB.out⟩
   . have hd : decide (e = e /\ o = o' /\ l = l') = false := by simp [h1]
     rw [hd]
     have i1 : (o == o') = false := beq_eq_false_iff_ne.2 h1
     generalize l.length = n at *
     generalize l'.length = n' at *
     clear hv hv' B0 B1 A0 A1 C
     go_enter Tryz.func39, Tryz.ntmps39
     go_wp2_with fail
     go_ret
     exact ⟨by simp, HB.out⟩
 . have hd : decide (e = e' /\ o = o' /\ l = l') = false := by simp [h0]
   rw [hd]
   have i1 : (e == e') = false := beq_eq_false_iff_ne.2 h0
   generalize l.length = n at *
   generalize l'.length = n' at *
   clear hv hv' B0 B1 A0 A1 C
   go_enter Tryz.func39, Tryz.ntmps39
   go_wp2_with fail
   go_ret
   exact ⟨by simp, HB.out⟩
theorem bare_is (e : Int) (w : World) : Calls Tryz.prog 41 #[.int .i64 e] w fun f w' => f = .returned (.agg (anc e 0 (.slice none 0 0))) /\ Below w.heap.size w w' := by
 obtain ⟨W, hW, hst, H⟩ := an_boxed w e 0 (v := .slice none 0 0) rfl
 go_enter Tryz.func41, Tryz.ntmps41
 go_wp2
 exact bodyPost_ret (v := .agg (anc e 0 (.slice none 0 0))) (results_cell_row rfl _ _ _ _ _ _ _ rfl H.out.1 Tryz.underlying44 rfl (by rw [info_ans]; rfl)) rfl ⟨rfl, H.out.2⟩
theorem jsame_bare {w : World} {e o k : Int} {v : Value} {l : List Int} (hv : RA byE w v l) : Calls Tryz.prog 39 #[.agg (anc e o v), .agg (anc k 0 (.slice none 0 0))] w fun f w' => f = .returned (.bool (decide (bare3 e o l k))) /\ Below w.heap.size w w' := by
 have h := jsame_is (w := w) (e := e) (o := o) (e' := k) (o' := 0) (l' := []) hv (own_nil_a byE 0 w).ra
 exact h
theorem jal_is {w : World} {D : List Nat} {j g : Nat} {s : Js} (h : Jo w D j g s) : Calls Tryz.prog 35 #[.pointer (some ⟨j, 0, none⟩)] w fun e w' => e = .returned (.pointer (some ⟨g, 0, none⟩)) /\ w = w' := by
 have c0 := h.c0
 clear h
 go_enter Tryz.func35, Tryz.ntmps35
 go_wp2_with fail
 go_ret
 exact ⟨rfl, rfl⟩
theorem jworn_is {w : World} {D : List Nat} {j g : Nat} {s : Js} (h : Jo w D j g s) : Calls Tryz.prog 16 #[.pointer (some ⟨j, 0, none⟩)] w fun e w' => e = .returned (.bool s.w) /\ w = w' := by
 have c1 := h.c1
 clear h
 generalize s.w = b at *
 go_enter Tryz.func16, Tryz.ntmps16
 go_wp2_with fail
 go_ret
 exact ⟨rfl, rfl⟩
theorem jroot_is {w : World} {D : List Nat} {j g : Nat} {s : Js} (h : Jo w D j g s) : Calls Tryz.prog 17 #[.pointer (some ⟨j, 0, none⟩)] w fun e w' => e = .returned (.int .i64 s.r) /\ w = w' := by
 have C := jz (jal_is h)
 have C2 := jz (mroot_is w h.m)
 clear h
 generalize s.r = r at *
 go_enter Tryz.func17, Tryz.ntmps17
 go_wp2_with fail
 refine (C.out).mono ?_; rintro e w' ⟨rfl, rfl⟩
 go_wp2_with fail
 refine (C2.out).mono ?_; rintro e w' ⟨rfl, rfl⟩
 go_wp2_with fail
 go_ret
 exact ⟨rfl, rfl⟩
theorem jblk_is {w : World} {D : List Nat} {j g : Nat} {s : Js} (h : Jo w D j g s) : Calls Tryz.prog 15 #[.pointer (some ⟨j, 0, none⟩)] w fun e w' => (∃ v, e = .returned v /\ OwnA blkE w.heap.size w' v s.l) /\ Below w.heap.size w w' := by
 have C := jz (jal_is h)
 have C2 := jz (mobl_is w h.m)
 clear h
 go_enter Tryz.func15, Tryz.ntmps15
 go_wp2_with fail
 refine (C.out).mono ?_; rintro e w' ⟨rfl, rfl⟩
 go_wp2_with fail
 refine (C2.out).mono ?_; rintro e w1 ⟨⟨v, rfl, o1⟩, b1⟩
 have G := jz (And.intro o1 b1)
 obtain ⟨q, c, rfl, _⟩ := ra_shape o1.ra
 clear o1 b1
 go_wp2_with fail
 go_ret
 exact ⟨⟨_, rfl, G.out.1⟩, G.out.2⟩
theorem jsw_is {w : World} {D : List Nat} {j g : Nat} {s : Js} {e o : Int} {v : Value} {l : List Int} (h : Jo w D j g s) (hv : RA byE w v l) : Calls Tryz.prog 66 #[.pointer (some ⟨j, 0, none⟩), .agg (anc e o v)] w fun f w' =>
 (bare3 e o l 3 /\ f = .returned (.bool true) /\ Jo w' D j g { s with w := true } /\ Chg [j] w w') \/ (¬ bare3 e o l 3 /\ f = .returned (.bool false) /\ Below w.heap.size w w') := by
 obtain ⟨q, c, hvv, _⟩ := ra_shape hv
 obtain ⟨W, hW, hst, H⟩ := an_boxed w e o (v := v) (by rw [hvv]; rfl)
 have ld : ∀ w', Below W.heap.size W w' -> (anLoad (.pointer (some ⟨w.heap.size, 0, none⟩))).run Tryz.prog w' = .ok (.agg (anc e o v)) w' := fun w' hb => (H.out.1.below hb).load
 have bd : Below W.heap.size W W.drew := (Below.refl _ _).drew
 have C1 := jz (fun w' => bare_is 3 w')
 have C2 := jz (fun w' (hb : Below W.heap.size W w') => jsame_bare (e := e) (o := o) (k := 3) (ra_below hv (below_more H.out.2 hb)))
 have HJ := jz (fun w' (hb : Below W.heap.size W w') => And.intro (h.below (below_more H.out.2 hb)) (below_more H.out.2 hb))
 subst hvv
 clear hv h
 by_cases hb : bare3 e o l 3
 . rw [decide_eq_true hb] at C2
   have HBB := jz hb
   clear hb
   generalize l.length = n at *
   go_enter Tryz.func66, Tryz.ntmps66
   go_wp2
   go_region_held3 (fun w' => Below W.heap.size W w')
    (first | assumption | exact (Below.refl _ _).drew)
    (first
      | (go_at_call 41; refine (C1.out _).mono ?_; rintro e w1 ⟨rfl, b1⟩
         have B1 : Below W.heap.size W w1 := below_more (by assumption) b1
         clear b1)
      | (go_at_call 39; refine (C2.out _ (by assumption)).mono ?_; rintro e w2 ⟨rfl, b2⟩
         have B2 : Below W.heap.size W w2 := below_more (by assumption) b2
         have B2' := jz B2
         clear b2))
   obtain ⟨J2, K2⟩ := HJ.out _ B2'.out
   have f1 := J2.f 1
   have c1 := J2.c1
   obtain ⟨g1, g2⟩ := J2.wear true
   have G := jz (And.intro g1 ((Chg.of_below K2 [j]).trans g2))
   clear J2 K2 g1 g2 ld
   go_wp2_with fail
   go_ret
   exact .inl ⟨HBB.out, rfl, G.out⟩
 . rw [decide_eq_false hb] at C2
   have HBB := jz hb
   clear hb
   generalize l.length = n at *
   go_enter Tryz.func66, Tryz.ntmps66
   go_wp2
   go_region_held3 (fun w' => Below W.heap.size W w')
    (first | assumption | exact (Below.refl _ _).drew)
    (first
      | (go_at_call 41; refine (C1.out _).mono ?_; rintro e w1 ⟨rfl, b1⟩
         have B1 : Below W.heap.size W w1 := below_more (by assumption) b1
         clear b1)
      | (go_at_call 39; refine (C2.out _ (by assumption)).mono ?_; rintro e w2 ⟨rfl, b2⟩
         have B2 : Below W.heap.size W w2 := below_more (by assumption) b2
         have B2' := jz B2
         clear b2))
   have G := jz (HJ.out _ B2'.out).2
   clear ld
   go_wp2_with fail
   go_ret
   exact .inr ⟨HBB.out, rfl, G.out⟩
theorem jmw_is (x : Px) (w : World) {q : Option Addr} {c : Nat} (hv : x.v = .slice q x.bl.length c) : Calls Tryz.prog 71 #[.agg (pxc x)] w fun e w' => e = .returned (.bool (decide (must x.d x.bl))) /\ Below w.heap.size w w' := by
 obtain ⟨W, hW, hst, H⟩ := px_boxed w x (by rw [hv]; rfl)
 have c0 := H.out.1.c0
 have c4 := H.out.1.c4
 rw [hv] at c4
 have HB := jz H.out.2
 by_cases h4 : x.d = 4
 . rw [h4] at c0
   by_cases hb : x.bl = []
   . have e0 : decide (must x.d x.bl) = false := decide_eq_false fun k => k ⟨h4, hb⟩
     rw [e0]
     have hl : x.bl.length = 0 := by rw [hb]; rfl
     rw [hl] at c4
     clear hv h4 hb e0 hl H
     generalize pxc x = xc at *
     go_enter Tryz.func71, Tryz.ntmps71
     go_wp2_with fail
     go_ret
     exact ⟨rfl, HB.out⟩
   . have e0 : decide (must x.d x.bl) = true := decide_eq_true fun k => hb k.2
     rw [e0]
     have hl : 0 < x.bl.length := List.length_pos_iff.2 hb
     have hl2 : (x.bl.length : Int) > 0 := by omega
     clear hv h4 hb e0 H
     generalize x.bl.length = n at *
     generalize pxc x = xc at *
     go_enter Tryz.func71, Tryz.ntmps71
     go_wp2_with fail
     go_ret
     exact ⟨by simp, HB.out⟩
 . have e0 : decide (must x.d x.bl) = true := decide_eq_true fun k => h4 k.1
   rw [e0]
   have i1 : (x.d == 4) = false := beq_eq_false_iff_ne.2 h4
   have i2 : (x.d != 4) = true := by simpa using h4
   clear hv h4 e0 H
   generalize x.d = d at *
   generalize pxc x = xc at *
   go_enter Tryz.func71, Tryz.ntmps71
   go_wp2_with fail
   go_ret
   exact ⟨by simp, HB.out⟩
theorem jchg_is {w : World} {D : List Nat} {g : Nat} (s : Js) (x : Px) (hd : x.d = 2 \/ x.d = 4 \/ x.d = 5) (h : Mo w D g s.wl s.l s.r) (hv : RA byE w x.v x.bl) (hbl : x.bl.length <= 100000) : Calls Tryz.prog 70 #[.pointer (some ⟨g, 0, none⟩), .agg (pxc x)] w fun e w' =>
 ∃ er s2, e = .returned (.int .i64 er) /\ ChQ s x.d x.o x.bl er s2 /\ s2.w = s.w /\ Mo w' D g s2.wl s2.l s2.r /\ Chg [g] w w' := by
 obtain ⟨q, c, hvv, _⟩ := ra_shape hv
 obtain ⟨W, hW, hst, H⟩ := px_boxed w x (by rw [hvv]; rfl)
 have c0 := H.out.1.c0
 have c1 := H.out.1.c1
 have c4 := H.out.1.c4
 rw [hvv] at c4
 have HM := jz (h.below H.out.2)
 have HC := jz (Chg.of_below H.out.2 [g])
 have HV : Hid (RA byE W (.slice q x.bl.length c) x.bl) := jz (by rw [<- hvv]; exact ra_below hv H.out.2)
 have HL := jz hbl
 clear h hv hbl hvv H
 rcases hd with hd | hd | hd
 . rw [hd] at c0
   have C := jz (mfree_is x.o W HM.out)
   have F := jz (fun w' (m : Mo w' D g (feW s.wl s.l x.o s.r) (feB s.l x.o s.r) s.r) (k : Chg [g] W w') => (show ∃ er s2, Ending.returned (.int .i64 (feQ s.l x.o s.r)) = .returned (.int .i64 er) /\ ChQ s x.d x.o x.bl er s2 /\ s2.w = s.w /\ Mo w' D g s2.wl s2.l s2.r /\ Chg [g] w w' from ⟨_, ⟨feW s.wl s.l x.o s.r, feB s.l x.o s.r, s.r, s.w⟩, rfl, by unfold ChQ; rw [if_pos hd]; exact ⟨rfl, rfl⟩, rfl, m, HC.out.trans k⟩))
   clear hd
   generalize x.o = o at *
   generalize pxc x = xc at *
   go_enter Tryz.func70, Tryz.ntmps70
   go_wp2_with fail
   refine (C.out).mono ?_; rintro e w1 ⟨rfl, m1, k1⟩
   have G := jz (F.out _ m1 k1)
   clear m1 k1 F C
   generalize feQ s.l o s.r = er at *
   go_wp2_with fail
   go_ret
   exact G.out
 . rw [hd] at c0
   have C := jz (mwrite_is x.o x.bl _ W HM.out HV.out HL.out)
   have F := jz (fun w' M (hM : WrT s.wl x.bl x.o M) (m : Mo w' D g (appF s.wl M) s.l s.r) (k : Chg [g] W w') => (show ∃ er s2, Ending.returned (.int .i64 (refF s.wl x.o x.bl.length)) = .returned (.int .i64 er) /\ ChQ s x.d x.o x.bl er s2 /\ s2.w = s.w /\ Mo w' D g s2.wl s2.l s2.r /\ Chg [g] w w' from ⟨_, ⟨appF s.wl M, s.l, s.r, s.w⟩, rfl, by unfold ChQ; rw [if_neg (by omega), if_pos hd]; exact ⟨rfl, M, hM, rfl⟩, rfl, m, HC.out.trans k⟩))
   have hne : ¬ x.d = 2 := by omega
   clear hd hne
   generalize x.o = o at *
   generalize pxc x = xc at *
   generalize x.bl = bl at *
   go_enter Tryz.func70, Tryz.ntmps70
   go_wp2_with fail
   refine (C.out).mono ?_; rintro e w1 ⟨rfl, M, hM, m1, k1⟩
   have G := jz (F.out _ M hM m1 k1)
   clear hM m1 k1 F C
   generalize refF s.wl o bl.length = er at *
   go_wp2_with fail
   go_ret
   exact G.out
 . rw [hd] at c0
   have C := jz (msetr_is x.o W HM.out)
   have F := jz (fun w' (m : Mo w' D g s.wl s.l (if srQ s.l x.o = 0 then x.o else s.r)) (k : Chg [g] W w') => (show ∃ er s2, Ending.returned (.int .i64 (srQ s.l x.o)) = .returned (.int .i64 er) /\ ChQ s x.d x.o x.bl er s2 /\ s2.w = s.w /\ Mo w' D g s2.wl s2.l s2.r /\ Chg [g] w w' from ⟨_, ⟨s.wl, s.l, if srQ s.l x.o = 0 then x.o else s.r, s.w⟩, rfl, by unfold ChQ; rw [if_neg (by omega), if_neg (by omega)]; exact ⟨rfl, rfl⟩, rfl, m, HC.out.trans k⟩))
   clear hd
   generalize x.o = o at *
   generalize pxc x = xc at *
   go_enter Tryz.func70, Tryz.ntmps70
   go_wp2_with fail
   refine (C.out).mono ?_; rintro e w1 ⟨rfl, m1, k1⟩
   have G := jz (F.out _ m1 k1)
   clear m1 k1 F C
   generalize srQ s.l o = er at *
   go_wp2_with fail
   go_ret
   exact G.out
theorem jsa_is {w : World} {D : List Nat} {j g : Nat} {s : Js} (n e o : Int) {v : Value} {l : List Int} (h : Jo w D j g s) (hv : RA byE w v l) : Calls Tryz.prog 36 #[.pointer (some ⟨j, 0, none⟩), .int .i64 n, .agg (anc e o v)] w fun f w' =>
 JOut w w' D j g (fun b s' => SeeA s n e o l b s') f := by
 obtain ⟨q, c, hvv, _⟩ := ra_shape hv
 obtain ⟨W, hW, hst, H⟩ := an_boxed w e o (v := v) (by rw [hvv]; rfl)
 have HB := jz H.out.2
 have HA := jz H.out.1
 have HV := jz (fun w' (hb : Below W.heap.size W w') => ra_below hv (below_more H.out.2 hb))
 have HD : Hid (g ∈ D /\ j ∈ D /\ j ≠ g /\ j < w.heap.size /\ g < w.heap.size /\ w.heap.size < W.heap.size) := jz ⟨h.m.gD, h.jD, h.ne, h.top.lt, h.m.dlt g h.m.gD, H.out.1.lt⟩
 have JB := jz (fun w' (hb : Below W.heap.size W w') => h.below (below_more H.out.2 hb))
 -- the end: what is there then
 have FIN : Hid (∀ w' b s', Jo w' D j g s' -> Chg [j, g] W w' -> SeeA s n e o l b s' -> JOut w w' D j g (fun b s' => SeeA s n e o l b s') (.returned (.bool b))) := jz fun w' b s' q1 q2 q3 =>
  ⟨b, s', g, D, rfl, q3, q1, (Chg.of_below H.out.2 _).trans q2, Grow.refl _ _ _, .inl rfl⟩
 have FB : Hid (∀ w' b, Below W.heap.size W w' -> SeeA s n e o l b s -> JOut w w' D j g (fun b s' => SeeA s n e o l b s') (.returned (.bool b))) := jz fun w' b hb q => FIN.out w' b s (JB.out w' hb) (Chg.of_below hb _) q
 have C0 := jz (need_is n W)
 have CB := jz (fun k w' => bare_is k w')
 have CS := jz (fun k w' (hb : Below W.heap.size W w') => jsame_bare (e := e) (o := o) (k := k) (HV.out _ hb))
 have ld : ∀ w', Below W.heap.size W w' -> (anLoad (.pointer (some ⟨w.heap.size, 0, none⟩))).run Tryz.prog w' = .ok (.agg (anc e o v)) w' := fun w' hb => (H.out.1.below hb).load
 have ldW := ld W (Below.refl _ _)
 have C1 := jz (jsw_is (e := e) (o := o) (JB.out W (Below.refl _ _)) (HV.out W (Below.refl _ _)))
 subst hvv
 clear hv h H
 by_cases hN : needN n = 0
 . have F1 := jz (fun w' (hb : Below W.heap.size W w') => FB.out w' _ hb (show SeeA s n e o l (decide (bare3 e o l 1)) s from by unfold SeeA; rw [if_pos hN]; exact ⟨rfl, rfl⟩))
   have C2 := jz (CS.out 1)
   have C3 := jz (CB.out 1)
   rw [hN] at C0
   clear hN FIN FB JB HV CS CB C1
   generalize decide (bare3 e o l 1) = bb at *
   generalize l.length = L at *
   go_enter Tryz.func36, Tryz.ntmps36
   go_wp2_with fail
   refine (C0.out).mono ?_; rintro e w' ⟨rfl, rfl⟩
   go_wp2
   go_region_held3 (fun w' => Below W.heap.size W w')
    (first | assumption | exact (Below.refl _ _).drew)
    (first
      | (go_at_call 41; refine (C3.out _).mono ?_; rintro e w1 ⟨rfl, b1⟩
         have B1 : Below W.heap.size W w1 := below_more (by assumption) b1
         clear b1)
      | (go_at_call 39; refine (C2.out _ (by assumption)).mono ?_; rintro e w2 ⟨rfl, b2⟩
         have B2 : Below W.heap.size W w2 := below_more (by assumption) b2
         have B2' := jz B2
         clear b2))
   go_wp2_with fail
   go_ret
   exact F1.out _ B2'.out
 have i0 : (needN n == 0) = false := beq_eq_false_iff_ne.2 hN
 have HN := jz hN
 clear hN
 obtain ⟨N, hNN⟩ : ∃ N, needN n = N := ⟨_, rfl⟩
 rw [hNN] at i0 C0 HN
 have HNN := jz hNN
 clear hNN
 go_enter Tryz.func36, Tryz.ntmps36
 go_wp2_with fail
 refine (C0.out).mono ?_; rintro e w' ⟨rfl, rfl⟩
 go_wp2_with fail
 refine (C1.out).mono ?_; rintro f w1 (⟨h3, rfl, m1, k1⟩ | ⟨h3, rfl, b1⟩)
 . have G := jz (FIN.out w1 true _ m1 (k1.mono fun y hy => List.mem_cons.2 (.inl (List.mem_singleton.1 hy))) (by unfold SeeA; rw [HNN.out, if_neg HN.out, if_pos h3]; exact ⟨rfl, rfl⟩))
   clear m1 k1 h3 ld
   go_wp2_with fail
   go_ret
   exact G.out
 have H3 := jz h3
 have B1 := jz b1
 have c1 := (JB.out w1 b1).c1
 clear h3 b1 C1 C0
 by_cases hw : s.w = true
 . rw [hw] at c1
   have G := jz (FB.out w1 false B1.out (by unfold SeeA; rw [HNN.out, if_neg HN.out, if_neg H3.out, if_pos hw]; exact ⟨rfl, rfl⟩))
   clear hw ld
   go_wp2_with fail
   go_ret
   exact G.out
 have hw0 : s.w = false := by simpa using hw
 rw [hw0] at c1
 have HW := jz hw
 clear hw hw0
 have ld1 : ∀ w', Below w1.heap.size w1 w' -> (anLoad (.pointer (some ⟨w.heap.size, 0, none⟩))).run Tryz.prog w' = .ok (.agg (anc e o (.slice q l.length c))) w' := fun w' hb => ld w' (below_more B1.out hb)
 have C2 := jz (fun w' (hb : Below w1.heap.size w1 w') => CS.out 4 w' (below_more B1.out hb))
 have C3 := jz (CB.out 4)
 by_cases h4 : bare3 e o l 4
 . rw [decide_eq_true h4] at C2
   have CF := jz (fun w' (hb : Below W.heap.size W w') => mofs_is n w' (JB.out w' hb).m)
   have F1 := jz (fun w' (hb : Below W.heap.size W w') => FB.out w' _ hb (show SeeA s n e o l (decide (fos N s.l = [])) s from by unfold SeeA; rw [HNN.out, if_neg HN.out, if_neg H3.out, if_neg HW.out, if_pos h4]; exact ⟨rfl, rfl⟩))
   have HC0 := jz (fun w' (hb : Below W.heap.size W w') => (JB.out w' hb).c0)
   rw [HNN.out] at CF
   clear h4 FIN FB HV ld ldW CS CB
   generalize fos N s.l = F at *
   generalize l.length = L at *
   go_wp2
   go_region_held3 (fun w' => Below w1.heap.size w1 w')
    (first | assumption | exact (Below.refl _ _).drew)
    (first
      | (go_at_call 41; refine (C3.out _).mono ?_; rintro e w2 ⟨rfl, b2⟩
         have B2 : Below w1.heap.size w1 w2 := below_more (by assumption) b2
         clear b2)
      | (go_at_call 39; refine (C2.out _ (by assumption)).mono ?_; rintro e w3 ⟨rfl, b3⟩
         have B3 : Below w1.heap.size w1 w3 := below_more (by assumption) b3
         have B3' := jz (below_more B1.out B3)
         clear b3))
   have c3 := HC0.out _ B3'.out
   clear ld1
   go_wp2_with fail
   refine (CF.out _ B3'.out).mono ?_; rintro e w4 ⟨⟨v4, rfl, o4⟩, b4⟩
   have B4 := jz (below_more B3'.out b4)
   obtain ⟨ql, cl, rfl⟩ : ∃ q c, v4 = .slice q F.length c := by
    obtain ⟨q, c, e, _⟩ := o4.ri
    exact ⟨q, c, e⟩
   clear o4 b4
   by_cases hF : F = []
   . subst hF
     have G := jz (F1.out _ B4.out)
     rw [decide_eq_true rfl] at G
     go_wp2_with fail
     go_ret
     exact G.out
   . have G := jz (F1.out _ B4.out)
     rw [decide_eq_false hF] at G
     have hL := List.length_pos_iff.2 hF
     clear hF F1
     generalize F.length = FL at *
     have i1 : ¬ FL = 0 := by omega
     have i2 : ((FL : Int) == 0) = false := beq_eq_false_iff_ne.2 (by omega)
     clear hL
     go_wp2_with fail
     go_ret
     exact G.out
 rw [decide_eq_false h4] at C2
 have H4 := jz h4
 clear h4
 have C4 := jz (fun w' (hb : Below W.heap.size W w') => jsame_is (e := e) (o := o) (e' := 0) (o' := o) (v' := .slice none 0 0) (l' := []) (HV.out _ hb) (own_nil_a byE 0 w').ra)
 have CA := jz (fun w' (hb : Below W.heap.size W w') => malloc_is n o w' (JB.out w' hb).m)
 have LG : Hid (∀ w2, Below W.heap.size W w2 -> ∀ w', Chg [g] w2 w' -> (anLoad (.pointer (some ⟨w.heap.size, 0, none⟩))).run Tryz.prog w' = .ok (.agg (anc e o (.slice q l.length c))) w' /\ w'.cell? ⟨w.heap.size, 1, none⟩ = some (.int .i64 o) /\ w'.cell? ⟨j, 0, none⟩ = some (.pointer (some ⟨g, 0, none⟩))) := jz fun w2 hb w' hc => by
  have hA := (HA.out.below hb).chg hc (by have := HD.out; simp; omega)
  refine ⟨hA.load, hA.c1, ?_⟩
  have := hc.whole (JB.out w2 hb).top (by simpa using HD.out.2.2.1)
  exact Whole.at_ this 0
 rw [HNN.out] at CA
 by_cases h0 : e = 0 /\ l = []
 . obtain ⟨rfl, rfl⟩ := h0
   have FA : Hid (∀ w2 w', Below W.heap.size W w2 -> Mo w' D g (alW s.wl N s.l o) (alB N s.l o) s.r -> Chg [g] w2 w' -> JOut w w' D j g (fun b s' => SeeA s n 0 o [] b s') (.returned (.bool (alQ N s.l o).isSome))) := jz fun w2 w' hb m k =>
    FIN.out w' _ { s with wl := alW s.wl N s.l o, l := alB N s.l o } ⟨k.whole (JB.out w2 hb).top (by simpa using HD.out.2.2.1), m, HD.out.2.1, HD.out.2.2.1⟩ ((Chg.of_below hb _).trans (k.mono fun y hy => by rw [List.mem_singleton.1 hy]; simp)) (by
     unfold SeeA
     rw [HNN.out, if_neg HN.out, if_neg H3.out, if_neg HW.out, if_neg H4.out, if_pos ⟨rfl, rfl⟩]
     exact ⟨rfl, rfl⟩)
   have CQ : Hid (∀ w', Below W.heap.size W w' -> Calls Tryz.prog 39 #[.agg (anc 0 o (.slice q ([] : List Int).length c)), .agg (anc 0 o (.slice none 0 0))] w' fun f w'' => f = .returned (.bool true) /\ Below w'.heap.size w' w'') := jz fun w' hb => by
    have := C4.out w' hb
    rwa [show decide ((0 : Int) = 0 /\ o = o /\ ([] : List Int) = []) = true by simp] at this
   clear FIN FB HV ld ldW CS CB C4
   generalize (alQ N s.l o).isSome = bq at *
   go_wp2
   go_region_held3 (fun w' => Below w1.heap.size w1 w')
    (first | assumption | exact (Below.refl _ _).drew)
    (first
      | (go_at_call 41; refine (C3.out _).mono ?_; rintro e w2 ⟨rfl, b2⟩
         have B2 : Below w1.heap.size w1 w2 := below_more (by assumption) b2
         clear b2)
      | (go_at_call 39; refine (C2.out _ (by assumption)).mono ?_; rintro e w3 ⟨rfl, b3⟩
         have B3 : Below w1.heap.size w1 w3 := below_more (by assumption) b3
         have B3' := jz (below_more B1.out B3)
         clear b3))
   clear ld1
   have ldg : ∀ w', Chg [g] w3 w' -> (anLoad (.pointer (some ⟨w.heap.size, 0, none⟩))).run Tryz.prog w' = .ok (.agg (anc 0 o (.slice q ([] : List Int).length c))) w' := fun w' hc => (LG.out w3 B3'.out w' hc).1
   have cog : ∀ w', Chg [g] w3 w' -> w'.cell? ⟨w.heap.size, 1, none⟩ = some (.int .i64 o) := fun w' hc => (LG.out w3 B3'.out w' hc).2.1
   have cjg : ∀ w', Chg [g] w3 w' -> w'.cell? ⟨j, 0, none⟩ = some (.pointer (some ⟨g, 0, none⟩)) := fun w' hc => (LG.out w3 B3'.out w' hc).2.2
   have b3d : Below w3.heap.size w3 w3.drew := (Below.refl _ _).drew
   have k3d : Chg [g] w3 w3.drew := Chg.of_below b3d _
   go_wp2
   refine wp_region_held_drew (S := fun w' => Chg [g] w3 w') (by kernel_rfl) k3d (fun hHeld => ?_)
   refine wpAnyH_take (i := 0) (oi := ⟨some 35, _, _, _, _, _⟩) (v := ?_) rfl (by kernel_rfl) (by kernel_rfl) (by kernel_rfl) (fun _ _ _ h => h) (Or.inl ⟨by rfl, ?_⟩) (by assumption) ?_
   rotate_left
   focus (intro w hSw; (try dsimp only at hSw); go_simp; try with_reducible rfl)
   try simp only [Act.put, List.setIfInBounds_toArray, List.set_cons_zero, List.set_cons_succ]
   refine wpAnyH_take (i := 1) (oi := ⟨some 36, _, _, _, _, _⟩) (v := ?_) rfl (by kernel_rfl) (by kernel_rfl) (by kernel_rfl) (fun _ _ _ h => h) (Or.inl ⟨by rfl, ?_⟩) (by assumption) ?_
   rotate_left
   focus (intro w hSw; (try dsimp only at hSw); go_simp; try with_reducible rfl)
   try simp only [Act.put, List.setIfInBounds_toArray, List.set_cons_zero, List.set_cons_succ]
   refine wpAnyH_take (i := 2) (oi := ⟨some 37, _, _, _, _, _⟩) (v := ?_) rfl (by kernel_rfl) (by kernel_rfl) (by kernel_rfl) (fun _ _ _ h => h) (Or.inl ⟨by rfl, ?_⟩) (by assumption) ?_
   rotate_left
   focus (intro w hSw; (try dsimp only at hSw); go_simp; try with_reducible rfl)
   try simp only [Act.put, List.setIfInBounds_toArray, List.set_cons_zero, List.set_cons_succ]
   refine wpAnyH_take (i := 3) (oi := ⟨some 38, _, _, _, _, _⟩) (v := ?_) rfl (by kernel_rfl) (by kernel_rfl) (by kernel_rfl) (fun _ _ _ h => h) (Or.inl ⟨by rfl, ?_⟩) (by assumption) ?_
   rotate_left
   focus (intro w hSw; (try dsimp only at hSw); go_simp; try with_reducible rfl)
   try simp only [Act.put, List.setIfInBounds_toArray, List.set_cons_zero, List.set_cons_succ]
   refine wpAnyH_ready (rs := [4]) (by kernel_rfl) (by simp) ?_
   refine AllReadyH.cons (o := ⟨some 39, _, _, _, _, _⟩) rfl (fun K hK => ?_) AllReadyH.nil
   go_simp
   go_at_call 39; refine (CQ.out _ (below_more B3'.out b3d)).mono ?_; rintro e w4 ⟨rfl, b4⟩
   have k4 : Chg [g] w3 w4 := k3d.trans (Chg.of_below b4 _)
   have B4 := jz (below_more (below_more B3'.out b3d) b4)
   refine hK.out _ _ ?_ (fun hHeld => ?_)
   focus (exact k4)
   clear hK K b4
   try simp only [Act.put, List.setIfInBounds_toArray, List.set_cons_zero, List.set_cons_succ]
   refine wpAnyH_take (i := 5) (oi := ⟨some 40, _, _, _, _, _⟩) (v := ?_) rfl (by kernel_rfl) (by kernel_rfl) (by kernel_rfl) (fun _ _ _ h => h) (Or.inl ⟨by rfl, ?_⟩) (by assumption) ?_
   rotate_left
   focus (intro w hSw; (try dsimp only at hSw); go_simp; try with_reducible rfl)
   try simp only [Act.put, List.setIfInBounds_toArray, List.set_cons_zero, List.set_cons_succ]
   refine wpAnyH_take (i := 6) (oi := ⟨some 41, _, _, _, _, _⟩) (v := ?_) rfl (by kernel_rfl) (by kernel_rfl) (by kernel_rfl) (fun _ _ _ h => h) (Or.inl ⟨by rfl, ?_⟩) (by assumption) ?_
   rotate_left
   focus (intro w hSw; (try dsimp only at hSw); go_simp; try with_reducible rfl)
   try simp only [Act.put, List.setIfInBounds_toArray, List.set_cons_zero, List.set_cons_succ]
   refine wpAnyH_take (i := 7) (oi := ⟨some 42, _, _, _, _, _⟩) (v := ?_) rfl (by kernel_rfl) (by kernel_rfl) (by kernel_rfl) (fun _ _ _ h => h) (Or.inl ⟨by rfl, ?_⟩) (by assumption) ?_
   rotate_left
   focus (intro w hSw; (try dsimp only at hSw); go_simp; try with_reducible rfl)
   try simp only [Act.put, List.setIfInBounds_toArray, List.set_cons_zero, List.set_cons_succ]
   refine wpAnyH_take (i := 8) (oi := ⟨some 43, _, _, _, _, _⟩) (v := ?_) rfl (by kernel_rfl) (by kernel_rfl) (by kernel_rfl) (fun _ _ _ h => h) (Or.inl ⟨by rfl, ?_⟩) (by assumption) ?_
   rotate_left
   focus (intro w hSw; (try dsimp only at hSw); go_simp; try with_reducible rfl)
   try simp only [Act.put, List.setIfInBounds_toArray, List.set_cons_zero, List.set_cons_succ]
   refine wpAnyH_take (i := 9) (oi := ⟨some 44, _, _, _, _, _⟩) (v := ?_) rfl (by kernel_rfl) (by kernel_rfl) (by kernel_rfl) (fun _ _ _ h => h) (Or.inl ⟨by rfl, ?_⟩) (by assumption) ?_
   rotate_left
   focus (intro w hSw; (try dsimp only at hSw); go_simp; try with_reducible rfl)
   try simp only [Act.put, List.setIfInBounds_toArray, List.set_cons_zero, List.set_cons_succ]
   refine wpAnyH_take (i := 10) (oi := ⟨some 45, _, _, _, _, _⟩) (v := ?_) rfl (by kernel_rfl) (by kernel_rfl) (by kernel_rfl) (fun _ _ _ h => h) (Or.inl ⟨by rfl, ?_⟩) (by assumption) ?_
   rotate_left
   focus (intro w hSw; (try dsimp only at hSw); go_simp; try with_reducible rfl)
   try simp only [Act.put, List.setIfInBounds_toArray, List.set_cons_zero, List.set_cons_succ]
   refine wpAnyH_take (i := 11) (oi := ⟨some 46, _, _, _, _, _⟩) (v := ?_) rfl (by kernel_rfl) (by kernel_rfl) (by kernel_rfl) (fun _ _ _ h => h) (Or.inl ⟨by rfl, ?_⟩) (by assumption) ?_
   rotate_left
   focus (intro w hSw; (try dsimp only at hSw); go_simp; try with_reducible rfl)
   try simp only [Act.put, List.setIfInBounds_toArray, List.set_cons_zero, List.set_cons_succ]
   refine wpAnyH_take (i := 12) (oi := ⟨some 47, _, _, _, _, _⟩) (v := ?_) rfl (by kernel_rfl) (by kernel_rfl) (by kernel_rfl) (fun _ _ _ h => h) (Or.inl ⟨by rfl, ?_⟩) (by assumption) ?_
   rotate_left
   focus (intro w hSw; (try dsimp only at hSw); go_simp; try with_reducible rfl)
   try simp only [Act.put, List.setIfInBounds_toArray, List.set_cons_zero, List.set_cons_succ]
   refine wpAnyH_ready (rs := [13]) (by kernel_rfl) (by simp) ?_
   refine AllReadyH.cons (o := ⟨some 48, _, _, _, _, _⟩) rfl (fun K hK => ?_) AllReadyH.nil
   go_simp
   go_at_call 68; refine (CA.out _ B4.out).mono ?_; rintro e w5 ⟨rfl, m5, k5⟩
   have G := jz (FA.out _ _ B4.out m5 k5)
   refine hK.out _ _ ?_ (fun hHeld => ?_)
   focus (exact k4.trans k5)
   clear hK K m5
   try simp only [Act.put, List.setIfInBounds_toArray, List.set_cons_zero, List.set_cons_succ]
   refine wpAnyH_take (i := 14) (oi := ⟨some 49, _, _, _, _, _⟩) (v := ?_) rfl (by kernel_rfl) (by kernel_rfl) (by kernel_rfl) (fun _ _ _ h => h) (Or.inl ⟨by rfl, ?_⟩) (by assumption) ?_
   rotate_left
   focus (intro w hSw; (try dsimp only at hSw); go_simp; try with_reducible rfl)
   try simp only [Act.put, List.setIfInBounds_toArray, List.set_cons_zero, List.set_cons_succ]
   refine wpAnyH_take (i := 15) (oi := ⟨some 6, _, _, _, _, _⟩) (v := ?_) rfl (by kernel_rfl) (by kernel_rfl) (by kernel_rfl) (fun _ _ _ h => h) (Or.inl ⟨by rfl, ?_⟩) (by assumption) ?_
   rotate_left
   focus (intro w hSw; (try dsimp only at hSw); go_simp; try with_reducible rfl)
   try simp only [Act.put, List.setIfInBounds_toArray, List.set_cons_zero, List.set_cons_succ]
   refine wpAnyH_done (by kernel_rfl) ?_ _
   go_wp2
   go_ret
   exact G.out
 . have FN := jz (fun w' (hb : Below W.heap.size W w') => FB.out w' false hb (by unfold SeeA; rw [HNN.out, if_neg HN.out, if_neg H3.out, if_neg HW.out, if_neg H4.out, if_neg h0]; exact ⟨rfl, rfl⟩))
   have CQ : Hid (∀ w', Below W.heap.size W w' -> Calls Tryz.prog 39 #[.agg (anc e o (.slice q l.length c)), .agg (anc 0 o (.slice none 0 0))] w' fun f w'' => f = .returned (.bool false) /\ Below w'.heap.size w' w'') := jz fun w' hb => by
    have := C4.out w' hb
    rwa [show decide (e = 0 /\ o = o /\ l = []) = false from decide_eq_false fun q => h0 ⟨q.1, q.2.2⟩] at this
   clear FIN FB HV ld ldW CS CB C4 CA h0
   generalize l.length = L at *
   go_wp2
   go_region_held3 (fun w' => Below w1.heap.size w1 w')
    (first | assumption | exact (Below.refl _ _).drew)
    (first
      | (go_at_call 41; refine (C3.out _).mono ?_; rintro e w2 ⟨rfl, b2⟩
         have B2 : Below w1.heap.size w1 w2 := below_more (by assumption) b2
         clear b2)
      | (go_at_call 39; refine (C2.out _ (by assumption)).mono ?_; rintro e w3 ⟨rfl, b3⟩
         have B3 : Below w1.heap.size w1 w3 := below_more (by assumption) b3
         have B3' := jz (below_more B1.out B3)
         clear b3))
   clear ld1
   have ldg : ∀ w', Chg [g] w3 w' -> (anLoad (.pointer (some ⟨w.heap.size, 0, none⟩))).run Tryz.prog w' = .ok (.agg (anc e o (.slice q L c))) w' := fun w' hc => (LG.out w3 B3'.out w' hc).1
   have cog : ∀ w', Chg [g] w3 w' -> w'.cell? ⟨w.heap.size, 1, none⟩ = some (.int .i64 o) := fun w' hc => (LG.out w3 B3'.out w' hc).2.1
   have b3d : Below w3.heap.size w3 w3.drew := (Below.refl _ _).drew
   have k3d : Chg [g] w3 w3.drew := Chg.of_below b3d _
   go_wp2
   refine wp_region_held_drew (S := fun w' => Chg [g] w3 w') (by kernel_rfl) k3d (fun hHeld => ?_)
   refine wpAnyH_take (i := 0) (oi := ⟨some 35, _, _, _, _, _⟩) (v := ?_) rfl (by kernel_rfl) (by kernel_rfl) (by kernel_rfl) (fun _ _ _ h => h) (Or.inl ⟨by rfl, ?_⟩) (by assumption) ?_
   rotate_left
   focus (intro w hSw; (try dsimp only at hSw); go_simp; try with_reducible rfl)
   try simp only [Act.put, List.setIfInBounds_toArray, List.set_cons_zero, List.set_cons_succ]
   refine wpAnyH_take (i := 1) (oi := ⟨some 36, _, _, _, _, _⟩) (v := ?_) rfl (by kernel_rfl) (by kernel_rfl) (by kernel_rfl) (fun _ _ _ h => h) (Or.inl ⟨by rfl, ?_⟩) (by assumption) ?_
   rotate_left
   focus (intro w hSw; (try dsimp only at hSw); go_simp; try with_reducible rfl)
   try simp only [Act.put, List.setIfInBounds_toArray, List.set_cons_zero, List.set_cons_succ]
   refine wpAnyH_take (i := 2) (oi := ⟨some 37, _, _, _, _, _⟩) (v := ?_) rfl (by kernel_rfl) (by kernel_rfl) (by kernel_rfl) (fun _ _ _ h => h) (Or.inl ⟨by rfl, ?_⟩) (by assumption) ?_
   rotate_left
   focus (intro w hSw; (try dsimp only at hSw); go_simp; try with_reducible rfl)
   try simp only [Act.put, List.setIfInBounds_toArray, List.set_cons_zero, List.set_cons_succ]
   refine wpAnyH_take (i := 3) (oi := ⟨some 38, _, _, _, _, _⟩) (v := ?_) rfl (by kernel_rfl) (by kernel_rfl) (by kernel_rfl) (fun _ _ _ h => h) (Or.inl ⟨by rfl, ?_⟩) (by assumption) ?_
   rotate_left
   focus (intro w hSw; (try dsimp only at hSw); go_simp; try with_reducible rfl)
   try simp only [Act.put, List.setIfInBounds_toArray, List.set_cons_zero, List.set_cons_succ]
   refine wpAnyH_ready (rs := [4]) (by kernel_rfl) (by simp) ?_
   refine AllReadyH.cons (o := ⟨some 39, _, _, _, _, _⟩) rfl (fun K hK => ?_) AllReadyH.nil
   go_simp
   go_at_call 39; refine (CQ.out _ (below_more B3'.out b3d)).mono ?_; rintro e w4 ⟨rfl, b4⟩
   have k4 : Chg [g] w3 w4 := k3d.trans (Chg.of_below b4 _)
   have B4 := jz (below_more (below_more B3'.out b3d) b4)
   refine hK.out _ _ ?_ (fun hHeld => ?_)
   focus (exact k4)
   clear hK K b4
   try simp only [Act.put, List.setIfInBounds_toArray, List.set_cons_zero, List.set_cons_succ]
   refine wpAnyH_take (i := 5) (oi := ⟨some 40, _, _, _, _, _⟩) (v := ?_) rfl (by kernel_rfl) (by kernel_rfl) (by kernel_rfl) (fun _ _ _ h => h) (Or.inl ⟨by rfl, ?_⟩) (by assumption) ?_
   rotate_left
   focus (intro w hSw; (try dsimp only at hSw); go_simp; try with_reducible rfl)
   try simp only [Act.put, List.setIfInBounds_toArray, List.set_cons_zero, List.set_cons_succ]
   refine wpAnyH_take (i := 6) (oi := ⟨some 41, _, _, _, _, _⟩) (v := undef) rfl (by kernel_rfl) (by kernel_rfl) (by kernel_rfl) (fun _ _ _ h => h) (Or.inr ⟨by rfl, rfl⟩) (by assumption) ?_
   try simp only [Act.put, List.setIfInBounds_toArray, List.set_cons_zero, List.set_cons_succ]
   refine wpAnyH_take (i := 7) (oi := ⟨some 42, _, _, _, _, _⟩) (v := undef) rfl (by kernel_rfl) (by kernel_rfl) (by kernel_rfl) (fun _ _ _ h => h) (Or.inr ⟨by rfl, rfl⟩) (by assumption) ?_
   try simp only [Act.put, List.setIfInBounds_toArray, List.set_cons_zero, List.set_cons_succ]
   refine wpAnyH_take (i := 8) (oi := ⟨some 43, _, _, _, _, _⟩) (v := undef) rfl (by kernel_rfl) (by kernel_rfl) (by kernel_rfl) (fun _ _ _ h => h) (Or.inr ⟨by rfl, rfl⟩) (by assumption) ?_
   try simp only [Act.put, List.setIfInBounds_toArray, List.set_cons_zero, List.set_cons_succ]
   refine wpAnyH_take (i := 9) (oi := ⟨some 44, _, _, _, _, _⟩) (v := undef) rfl (by kernel_rfl) (by kernel_rfl) (by kernel_rfl) (fun _ _ _ h => h) (Or.inr ⟨by rfl, rfl⟩) (by assumption) ?_
   try simp only [Act.put, List.setIfInBounds_toArray, List.set_cons_zero, List.set_cons_succ]
   refine wpAnyH_take (i := 10) (oi := ⟨some 45, _, _, _, _, _⟩) (v := undef) rfl (by kernel_rfl) (by kernel_rfl) (by kernel_rfl) (fun _ _ _ h => h) (Or.inr ⟨by rfl, rfl⟩) (by assumption) ?_
   try simp only [Act.put, List.setIfInBounds_toArray, List.set_cons_zero, List.set_cons_succ]
   refine wpAnyH_take (i := 11) (oi := ⟨some 46, _, _, _, _, _⟩) (v := undef) rfl (by kernel_rfl) (by kernel_rfl) (by kernel_rfl) (fun _ _ _ h => h) (Or.inr ⟨by rfl, rfl⟩) (by assumption) ?_
   try simp only [Act.put, List.setIfInBounds_toArray, List.set_cons_zero, List.set_cons_succ]
   refine wpAnyH_take (i := 12) (oi := ⟨some 47, _, _, _, _, _⟩) (v := undef) rfl (by kernel_rfl) (by kernel_rfl) (by kernel_rfl) (fun _ _ _ h => h) (Or.inr ⟨by rfl, rfl⟩) (by assumption) ?_
   try simp only [Act.put, List.setIfInBounds_toArray, List.set_cons_zero, List.set_cons_succ]
   refine wpAnyH_take (i := 13) (oi := ⟨some 48, _, _, _, _, _⟩) (v := undef) rfl (by kernel_rfl) (by kernel_rfl) (by kernel_rfl) (fun _ _ _ h => h) (Or.inr ⟨by rfl, rfl⟩) (by assumption) ?_
   try simp only [Act.put, List.setIfInBounds_toArray, List.set_cons_zero, List.set_cons_succ]
   refine wpAnyH_take (i := 14) (oi := ⟨some 49, _, _, _, _, _⟩) (v := ?_) rfl (by kernel_rfl) (by kernel_rfl) (by kernel_rfl) (fun _ _ _ h => h) (Or.inl ⟨by rfl, ?_⟩) (by assumption) ?_
   rotate_left
   focus (intro w hSw; (try dsimp only at hSw); go_simp; try with_reducible rfl)
   try simp only [Act.put, List.setIfInBounds_toArray, List.set_cons_zero, List.set_cons_succ]
   refine wpAnyH_take (i := 15) (oi := ⟨some 6, _, _, _, _, _⟩) (v := ?_) rfl (by kernel_rfl) (by kernel_rfl) (by kernel_rfl) (fun _ _ _ h => h) (Or.inl ⟨by rfl, ?_⟩) (by assumption) ?_
   rotate_left
   focus (intro w hSw; (try dsimp only at hSw); go_simp; try with_reducible rfl)
   try simp only [Act.put, List.setIfInBounds_toArray, List.set_cons_zero, List.set_cons_succ]
   refine wpAnyH_done (by kernel_rfl) ?_ _
   have G := jz (FN.out _ B4.out)
   go_wp2
   go_ret
   exact G.out
end Go.Proofs.YtkpefnjohdjejaaGreat
