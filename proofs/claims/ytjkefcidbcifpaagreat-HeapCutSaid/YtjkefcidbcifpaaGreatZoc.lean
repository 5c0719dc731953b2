import Derived.Deep.RegionHeld3
import Derived.Lib.Hide
import Derived.OwnWalk
import Derived.Maps.RangeWalk
import Derived.Lib.SlicesCompact
import Derived.Deep.Slices
import Derived.BigQuiet
import Derived.Deep.DeepCutAuto
import Derived.Deep.RegionLaw
import Derived.Shelf.Abstract
import Derived.StillTailTactics
import Derived.Test.YtjkefcidbcifpaaGreatZob
set_option maxRecDepth 100000
set_option maxHeartbeats 8000000
namespace Go.Proofs.YtjkefcidbcifpaaGreat
open Go.ChangeShapes Go.WideShapes Go.ChangeAt Go.RowKit
theorem tgS_no {n m : Int} {b : Bk} {r : List Bk} (h : fitB n b = false) : tgS n m (b :: r) = tgS n m r := by rw [tgS, if_neg (by rw [h]; simp)]
theorem tgS_take {n m : Int} {b : Bk} {r : List Bk} (h : fitB n b = true) (h2 : m = 0 \/ b.s < m) : tgS n m (b :: r) = tgS n b.s r := by rw [tgS, if_pos ⟨h, h2⟩]
theorem tgS_keep {n m : Int} {b : Bk} {r : List Bk} (h : ¬ (m = 0 \/ b.s < m)) : tgS n m (b :: r) = tgS n m r := by rw [tgS, if_neg (fun g => h g.2)]
theorem tight_is (n : Int) (l : List Bk) (v : Value) (r : Int) (w : World) (hv : RA blkE w v l) (hr : tgS n 0 l = r) :
 Calls Tryz.prog 207 #[v, .int .i64 n] w fun e w' => e = .returned (.int .i64 r) /\ Below w.heap.size w w' := by
 obtain ⟨p, cap, rfl, hlc, hcm⟩ := ra_shape hv
 unfold maxLen at hcm
 have HL : Hid (l.length <= 9223372036854775807) := jz (by omega)
 have HV := jz hv
 have HR := jz hr
 clear hr hcm hlc hv
 go_enter Tryz.func207, Tryz.ntmps207
 go_wp2
 go_loopw [5, 10] (fun z i wr => ∃ (k : Nat) (m : Int), k <= l.length /\ i = .int .i64 k /\ z = .int .i64 m /\ Hid (tgS n m (l.drop k) = r /\ Below w.heap.size w wr)) (fun _ i _ => l.length - (intOf i).toNat)
 case atStart => exact ⟨0, 0, Nat.zero_le _, rfl, rfl, jz ⟨HR.out, Below.refl _ _⟩⟩
 case round =>
  obtain ⟨k, m, hk, rfl, rfl, H⟩ := hrel
  by_cases hlt : k < l.length
  . obtain ⟨b, off, rfl, hb, hx⟩ := blk_at (ra_below HV.out H.out.2) (by omega)
    obtain ⟨hld, _, _, _, hwf⟩ := hx k hlt
    have hF := H.out.1
    rw [getD_cut hlt] at hF
    generalize l.getD k default = y at *
    obtain ⟨a, s, u⟩ := y
    obtain ⟨W, hW, HW⟩ := blk_boxed wr ⟨a, s, u⟩
    have c1 : W.cell? ⟨wr.heap.size, 1, none⟩ = some (.int .i64 s) := HW.out.1.c1
    have c2 : W.cell? ⟨wr.heap.size, 2, none⟩ = some (.bool u) := HW.out.1.c2
    have HB := jz (below_more H.out.2 HW.out.2)
    have i0 : (0 : Int) <= (k : Int) := by omega
    have i1 : (k : Int) < (l.length : Int) := by omega
    have i2 : ¬ (k : Int) < 0 := by omega
    have i3 : IntKind.i64.wrap ((k : Int) + 1) = ((k + 1 : Nat) : Int) := by rw [show (k : Int) + 1 = ((k + 1 : Nat) : Int) by omega]; exact i64_nat _ (by have := HL.out; omega)
    have HK := jz hlt
    have hws : (Lit.int .i64 s).wf = true := hwf.ws
    obtain ⟨t, ht⟩ : ∃ t, takN s n = t := ⟨_, rfl⟩
    have C := jz (takes_is s n t hws ht W)
    clear hx hk hb hwf hws
    cases u
    . cases hf : fitB n ⟨a, s, false⟩
      . rw [tgS_no hf] at hF
        have t0 : (t == 0) = true := by
         have : ¬ (2 <= n /\ n <= s) := fun h => by rw [fitB_iff.2 ⟨rfl, h.1, h.2⟩] at hf; cases hf
         rw [<- ht, takN_zero.2 this]; rfl
        have HF := jz hF
        clear hF hf ht
        go_wp2_with fail
        refine (C.out).mono ?_; rintro e w' ⟨rfl, rfl⟩
        go_wp2
        go_roundw
        case rel => exact ⟨k + 1, m, by have := HK.out; omega, by go_num, rfl, jz ⟨HF.out, HB.out⟩⟩
        case measure => have := HK.out; simp [intOf]; omega
      . have t0 : (t == 0) = false := by
         obtain ⟨_, h1, h2⟩ := fitB_iff.1 hf
         rw [beq_eq_false_iff_ne, <- ht, Ne, takN_zero]
         exact fun h => h ⟨h1, h2⟩
        by_cases hm0 : m = 0
        . rw [tgS_take hf (.inl hm0)] at hF
          have m0 : (m == 0) = true := by rw [hm0]; rfl
          have HF := jz hF
          clear hF hf ht hm0
          go_wp2_with fail
          refine (C.out).mono ?_; rintro e w' ⟨rfl, rfl⟩
          go_wp2
          go_roundw
          case rel => exact ⟨k + 1, s, by have := HK.out; omega, by go_num, rfl, jz ⟨HF.out, HB.out⟩⟩
          case measure => have := HK.out; simp [intOf]; omega
        . have m0 : (m == 0) = false := beq_eq_false_iff_ne.2 hm0
          by_cases hms : s < m
          . rw [tgS_take hf (.inr hms)] at hF
            have HF := jz hF
            clear hF hf ht hm0
            go_wp2_with fail
            refine (C.out).mono ?_; rintro e w' ⟨rfl, rfl⟩
            go_wp2
            go_roundw
            case rel => exact ⟨k + 1, s, by have := HK.out; omega, by go_num, rfl, jz ⟨HF.out, HB.out⟩⟩
            case measure => have := HK.out; simp [intOf]; omega
          . rw [tgS_keep (fun h => h.elim hm0 hms)] at hF
            have HF := jz hF
            clear hF hf ht hm0
            go_wp2_with fail
            refine (C.out).mono ?_; rintro e w' ⟨rfl, rfl⟩
            go_wp2
            go_roundw
            case rel => exact ⟨k + 1, m, by have := HK.out; omega, by go_num, rfl, jz ⟨HF.out, HB.out⟩⟩
            case measure => have := HK.out; simp [intOf]; omega
    . rw [tgS_no (by simp [fitB])] at hF
      have HF := jz hF
      clear hF ht C
      go_wp2
      go_roundw
      case rel => exact ⟨k + 1, m, by have := HK.out; omega, by go_num, rfl, jz ⟨HF.out, HB.out⟩⟩
      case measure => have := HK.out; simp [intOf]; omega
  . obtain rfl : k = l.length := by omega
    have hF := H.out.1
    rw [List.drop_length, tgS] at hF
    subst hF
    go_wp2
    go_ret
    exact ⟨rfl, H.out.2⟩
structure Gth (z : Int) (l : List Bk) (w0 wr : World) (lv : Value) (k : Nat) : Prop where
 ex : ∃ pre : List Nat, OwnI w0.heap.size wr lv (ins pre) /\ pre ++ plS z k (l.drop k) = plS z 0 l /\ pre.length <= k
 up : Below w0.heap.size w0 wr
theorem ownI_nil' (B : Nat) (w : World) : OwnI B w (.slice none 0 0) [] := World.ownsRow_nil _ _ _ _
theorem own_below_i' {B : Nat} {w w' : World} {v : Value} {l : List Int} (h : OwnI B w v l) (hb : Below w.heap.size w w') : OwnI B w' v l := by
 refine ⟨h.1, h.2.imp id ?_⟩
 rintro ⟨g, cap, cur, hv, h1, hg, r⟩
 exact ⟨g, cap, cur, hv, h1, (hb.block g (Array.getElem?_eq_some_iff.1 hg).1).trans hg, r⟩
theorem ins_app (f : List Nat) (i : Nat) : ins (f ++ [i]) = ins f ++ [(i : Int)] := by simp [ins]
theorem ins_length (f : List Nat) : (ins f).length = f.length := by simp [ins]
theorem Gth.start {z : Int} {l : List Bk} {w : World} : Gth z l w w (.slice none 0 0) 0 := ⟨⟨[], ownI_nil' _ _, rfl, Nat.le_refl _⟩, Below.refl _ _⟩
theorem Gth.skip {z : Int} {l : List Bk} {w0 wr w' : World} {lv : Value} {k : Nat} (h : Gth z l w0 wr lv k) (hk : k < l.length) (hn : hasS z (l.getD k default) = false) (hb : Below wr.heap.size wr w') : Gth z l w0 w' lv (k + 1) := by
 obtain ⟨pre, h1, h2, h3⟩ := h.ex
 refine ⟨⟨pre, own_below_i' h1 hb, ?_, by omega⟩, below_more h.up hb⟩
 rw [<- h2, getD_cut hk, plS, hn, if_neg Bool.false_ne_true]
theorem Gth.more {z : Int} {l : List Bk} {w0 wr W : World} {lv : Value} {k : Nat} (h : Gth z l w0 wr lv k) (hk : k < l.length) (hy : hasS z (l.getD k default) = true) (hb : Below wr.heap.size wr W) (hl : l.length <= 1000) :
 ∃ pre, OwnI w0.heap.size (W.alloc (.cells #[.int .i64 (k : Int)] 3)) lv (ins pre) /\ Hid ((ins pre).length + 1 <= 1000000) /\ w0.heap.size <= (W.alloc (.cells #[.int .i64 (k : Int)] 3)).heap.size ∧
  ∀ v' w', OwnI w0.heap.size w' v' (ins pre ++ [(k : Int)]) -> (W.alloc (.cells #[.int .i64 (k : Int)] 3)).grownBy w' lv.ownBlock -> Gth z l w0 w' v' (k + 1) := by
 obtain ⟨pre, h1, h2, h3⟩ := h.ex
 have hB := below_more h.up hb
 have h1' := own_below_i' h1 hb
 refine ⟨pre, World.ownsRow.alloc h1' _, jz (by rw [ins_length]; omega), by rw [size_alloc]; exact Nat.le_succ_of_le hB.size, fun v' w' ho hg => ⟨⟨pre ++ [k], by rw [ins_app]; exact ho, ?_, by simp; omega⟩, Below.grown (bal hB) hg (by rw [size_alloc]; exact Nat.le_succ_of_le hB.size) (fun q hq => (World.ownsRow.lt h1 q hq).1)⟩⟩
 rw [<- h2, getD_cut hk, plS, hy, if_pos rfl]
 simp
theorem fits_is (n : Int) (l : List Bk) (v : Value) (w : World) (hv : RA blkE w v l) (hl : l.length <= 1000) :
 Calls Tryz.prog 185 #[v, .int .i64 n] w fun e w' => (∃ u, e = .returned u /\ OwnI w.heap.size w' u (ins (fitN n l))) /\ Below w.heap.size w w' := by
 obtain ⟨z, hz⟩ : ∃ z, tgS n 0 l = z := ⟨_, rfl⟩
 have T := jz (tight_is n l v z w hv hz)
 rw [fitN, hz]
 obtain ⟨p, cap, rfl, hlc, hcm⟩ := ra_shape hv
 have HL := jz hl
 have HV := jz hv
 clear hcm hlc hv hl hz
 by_cases h0 : z = 0
 . rw [if_pos h0]
   have z0 : (z == 0) = true := by rw [h0]; rfl
   clear h0
   generalize l.length = L at *
   go_enter Tryz.func185, Tryz.ntmps185
   go_wp2_with fail
   refine (T.out).mono ?_; rintro e w1 ⟨rfl, b1⟩
   go_wp2
   go_ret
   exact ⟨⟨_, rfl, ownI_nil' _ _⟩, b1⟩
 . rw [if_neg h0]
   have z0 : (z == 0) = false := beq_eq_false_iff_ne.2 h0
   clear h0
   go_enter Tryz.func185, Tryz.ntmps185
   go_wp2_with fail
   refine (T.out).mono ?_; rintro e w1 ⟨rfl, b1⟩
   have D1 := jz b1
   have HS : Hid (w.heap.size <= w1.heap.size) := jz b1.size
   have HV1 := jz (ra_below HV.out b1)
   clear b1 T
   go_wp2
   go_loopw [6, 16] (fun y i wr => ∃ (k : Nat) (lv : Value), k <= l.length /\ i = .int .i64 k /\ y = lv /\ Hid (Gth z l w1 wr lv k)) (fun _ i _ => l.length - (intOf i).toNat)
   case atStart => exact ⟨0, _, Nat.zero_le _, rfl, rfl, jz Gth.start⟩
   case round =>
    obtain ⟨k, lv, hk, rfl, rfl, H⟩ := hrel
    by_cases hlt : k < l.length
    . obtain ⟨b, off, rfl, hb, hx⟩ := blk_at (ra_below HV1.out H.out.up) (by omega)
      obtain ⟨hld, _, _, _, hwf⟩ := hx k hlt
      have i0 : (0 : Int) <= (k : Int) := by omega
      have i1 : (k : Int) < (l.length : Int) := by omega
      have i2 : ¬ (k : Int) < 0 := by omega
      have i3 : IntKind.i64.wrap ((k : Int) + 1) = ((k + 1 : Nat) : Int) := by rw [show (k : Int) + 1 = ((k + 1 : Nat) : Int) by omega]; exact i64_nat _ (by have := HL.out; omega)
      have HK := jz hlt
      have HSK := jz (fun hn W (hb : Below wr.heap.size wr W) => H.out.skip hlt hn hb)
      have HMO := jz (fun hy W (hb : Below wr.heap.size wr W) => H.out.more hlt hy hb HL.out)
      generalize l.getD k default = y at *
      obtain ⟨a, s, u⟩ := y
      obtain ⟨W, hW, HW⟩ := blk_boxed wr ⟨a, s, u⟩
      have c1 : W.cell? ⟨wr.heap.size, 1, none⟩ = some (.int .i64 s) := HW.out.1.c1
      have c2 : W.cell? ⟨wr.heap.size, 2, none⟩ = some (.bool u) := HW.out.1.c2
      have HB := jz HW.out.2
      clear hx hk hb hwf
      cases u
      . by_cases hs : s = z
        . have s0 : (s == z) = true := by rw [hs]; simp
          obtain ⟨pre, o1, hlen, hB, hmore⟩ := HMO.out (hasS_iff.2 ⟨rfl, hs⟩) W HB.out
          have O1 := jz o1
          have HB1 := jz hB
          have HM := jz hmore
          clear hs o1 hB hmore HSK HMO
          go_wp2_with (at_builtin; refine list_app_int (o := ⟨some 33, _, _, _, _, _⟩) rfl (.tmp 30) (.tmp 32) rfl w1.heap.size _ (ins pre) rfl O1.out _ [(k : Int)] rfl (ri_one _ _) hlen.out HB1.out ?_; intro v1 w2 hown hg _)
          have HN := jz (HM.out _ _ hown hg)
          clear hown hg
          go_wp2
          go_roundw
          case rel => exact ⟨k + 1, _, by have := HK.out; omega, by go_num, rfl, HN⟩
          case measure => have := HK.out; simp [intOf]; omega
        . have s0 : (s == z) = false := beq_eq_false_iff_ne.2 hs
          have HN := jz (HSK.out (by rw [Bool.eq_false_iff, Ne, hasS_iff]; exact fun h => hs h.2) W HB.out)
          clear hs HSK HMO
          go_wp2
          go_roundw
          case rel => exact ⟨k + 1, _, by have := HK.out; omega, by go_num, rfl, HN⟩
          case measure => have := HK.out; simp [intOf]; omega
      . have HN := jz (HSK.out (by simp [hasS]) W HB.out)
        clear HSK HMO
        go_wp2
        go_roundw
        case rel => exact ⟨k + 1, _, by have := HK.out; omega, by go_num, rfl, HN⟩
        case measure => have := HK.out; simp [intOf]; omega
    . obtain rfl : k = l.length := by omega
      obtain ⟨pre, h1, h2, _⟩ := H.out.ex
      rw [List.drop_length, plS, List.append_nil] at h2
      rw [h2] at h1
      have HO := jz (h1.mono HS.out)
      have HB := jz (below_more D1.out H.out.up)
      clear h1 h2
      go_wp2
      go_ret
      exact ⟨⟨_, rfl, HO.out⟩, HB.out⟩
theorem ins_getD {f : List Nat} {k : Nat} (h : k < f.length) : (ins f).getD k 0 = ((f.getD k 0 : Nat) : Int) := by
 simp [ins, h]
theorem getD_cut_n {f : List Nat} {k : Nat} (hk : k < f.length) : f.drop k = f.getD k 0 :: f.drop (k + 1) := by
 rw [List.getD_eq_getElem?_getD, List.getElem?_eq_getElem hk]; exact List.drop_eq_getElem_cons hk
theorem getD_mem_n {f : List Nat} {k : Nat} (hk : k < f.length) : f.getD k 0 ∈ f := by
 rw [List.getD_eq_getElem?_getD, List.getElem?_eq_getElem hk]; exact List.getElem_mem hk
def Chs (cs : List Int) (l : List Bk) (f : List Nat) (R : Option Nat) (k : Nat) (o : Option Nat) : Prop := chO cs l o (f.drop k) = R /\ ∀ d, o = some d -> d < l.length
theorem Chs.first {cs : List Int} {l : List Bk} {f : List Nat} {R : Option Nat} {k : Nat} (h : Chs cs l f R k none) (hk : k < f.length) (hf : ∀ i ∈ f, i < l.length) : Chs cs l f R (k + 1) (some (f.getD k 0)) := by
 obtain ⟨h1, _⟩ := h
 rw [getD_cut_n hk, chO] at h1
 exact ⟨h1, fun d e => by cases e; exact hf _ (getD_mem_n hk)⟩
theorem Chs.turn {cs : List Int} {l : List Bk} {f : List Nat} {R : Option Nat} {k c : Nat} (h : Chs cs l f R k (some c)) (hk : k < f.length) (hf : ∀ i ∈ f, i < l.length) (ha : ahd cs (atL l (f.getD k 0)) (atL l c) = true) : Chs cs l f R (k + 1) (some (f.getD k 0)) := by
 obtain ⟨h1, _⟩ := h
 rw [getD_cut_n hk, chO, if_pos ha] at h1
 exact ⟨h1, fun d e => by cases e; exact hf _ (getD_mem_n hk)⟩
theorem Chs.stay {cs : List Int} {l : List Bk} {f : List Nat} {R : Option Nat} {k c : Nat} (h : Chs cs l f R k (some c)) (hk : k < f.length) (ha : ahd cs (atL l (f.getD k 0)) (atL l c) = false) : Chs cs l f R (k + 1) (some c) := by
 obtain ⟨h1, h2⟩ := h
 rw [getD_cut_n hk, chO, ha, if_neg Bool.false_ne_true] at h1
 exact ⟨h1, h2⟩
theorem choose_is (n : Int) (cs : List Int) (l : List Bk) (v u : Value) (R : Option Nat) (w : World) (hv : RA blkE w v l) (hu : RI w u cs) (hl : l.length <= 1000) (hR : chN n cs l = R) :
 Calls Tryz.prog 157 #[v, .int .i64 n, u] w fun e w' => e = .returned (.int .i64 (oi R)) /\ Below w.heap.size w w' := by
 have T := jz (fits_is n l v w hv hl)
 have hm : ∀ i ∈ fitN n l, i < l.length := fun i hi => (fitN_mem hi).1
 rw [chN] at hR
 generalize fitN n l = F at *
 obtain ⟨p, cap, rfl, hlc, hcm⟩ := ra_shape hv
 obtain ⟨pu, cu, rfl, _, _, _⟩ := id hu
 have HL := jz hl
 have HV := jz hv
 have HU := jz hu
 have HR := jz hR
 have HM := jz hm
 clear hcm hlc hv hu hl hR hm
 go_enter Tryz.func157, Tryz.ntmps157
 go_wp2_with fail
 refine (T.out).mono ?_; rintro e w1 ⟨⟨v1, rfl, o1⟩, b1⟩
 have D1 := jz b1
 have HV1 := jz (ra_below HV.out b1)
 have HU1 := jz (ri_below HU.out b1)
 have HF1 := jz o1.ri
 have HFL : Hid (F.length <= 9223372036854775807) := jz (by
  obtain ⟨_, _, _, h1, h2, _⟩ := o1.ri
  rw [ins_length] at h1
  unfold maxLen at h2
  omega)
 obtain ⟨pf, cf, rfl⟩ := o1.shape
 clear b1 o1 T HV HU
 rw [ins_length] at HF1 ⊢
 go_wp2
 go_loopw [7, 14] (fun y i wr => ∃ (k : Nat) (o : Option Nat), k <= F.length /\ i = .int .i64 k /\ y = .int .i64 (oi o) /\ Hid (Chs cs l F R k o /\ Below w1.heap.size w1 wr)) (fun _ i _ => F.length - (intOf i).toNat)
 case atStart => exact ⟨0, none, Nat.zero_le _, rfl, rfl, jz ⟨⟨HR.out, fun _ e => by cases e⟩, Below.refl _ _⟩⟩
 case round =>
  obtain ⟨k, o, hk, rfl, rfl, H⟩ := hrel
  by_cases hlt : k < F.length
  . obtain ⟨bf, of, rfl, _, hfr⟩ := ri_some (ri_below HF1.out H.out.2) (by rw [ins_length]; omega)
    have cf1 := hfr k (by rw [ins_length]; exact hlt)
    rw [ins_getD hlt] at cf1
    have hi := HM.out _ (getD_mem_n hlt)
    have i0 : (0 : Int) <= (k : Int) := by omega
    have i1 : (k : Int) < (F.length : Int) := by omega
    have i2 : ¬ (k : Int) < 0 := by omega
    have i3 : IntKind.i64.wrap ((k : Int) + 1) = ((k + 1 : Nat) : Int) := by rw [show (k : Int) + 1 = ((k + 1 : Nat) : Int) by omega]; exact i64_nat _ (by have := HFL.out; omega)
    have HK := jz hlt
    cases o with
    | none =>
      have HN := jz (H.out.1.first hlt HM.out)
      have HB := jz H.out.2
      have e0 : (oi none == -1) = true := rfl
      simp only [oi] at e0 ⊢
      generalize F.getD k 0 = I at *
      clear hfr hk
      go_wp2_with fail
      go_quiet (fail)
      go_wp2
      go_roundw
      case rel => exact ⟨k + 1, some I, by have := HK.out; omega, by go_num, rfl, jz ⟨HN.out, below_drewN HB.out _⟩⟩
      case measure => have := HK.out; simp [intOf]; omega
    | some c =>
      have hc := H.out.1.2 c rfl
      obtain ⟨r, hr⟩ : ∃ r, ahd cs (atL l (F.getD k 0)) (atL l c) = r := ⟨_, rfl⟩
      obtain ⟨b, off, rfl, _, _⟩ := blk_at (ra_below HV1.out H.out.2) (by omega)
      have ld : ∀ w', Below wr.heap.size wr w' -> ∀ j, j < l.length -> (blkLoad (.pointer (some ⟨b, off + j * 3, none⟩))).run Tryz.prog w' = .ok (.agg (bc (l.getD j default))) w' /\ (l.getD j default).Wf := fun w' hb j hj => by
       obtain ⟨_, _, e, _, hx⟩ := blk_at (ra_below HV1.out (below_more H.out.2 hb)) (by omega)
       cases e
       exact ⟨(hx j hj).1, (hx j hj).2.2.2.2⟩
      have wi := (ld wr (Below.refl _ _) _ hi).2
      have wc := (ld wr (Below.refl _ _) _ hc).2
      have l1 : ∀ w', Below wr.heap.size wr w' -> (blkLoad (.pointer (some ⟨b, off + F.getD k 0 * 3, none⟩))).run Tryz.prog w' = .ok (.agg (bc (l.getD (F.getD k 0) default))) w' := fun w' hb => (ld w' hb _ hi).1
      have l2 : ∀ w', Below wr.heap.size wr w' -> (blkLoad (.pointer (some ⟨b, off + c * 3, none⟩))).run Tryz.prog w' = .ok (.agg (bc (l.getD c default))) w' := fun w' hb => (ld w' hb _ hc).1
      have HUR := jz (fun w' (hb : Below wr.heap.size wr w') => ri_below HU1.out (below_more H.out.2 hb))
      have HN : Hid (Chs cs l F R (k + 1) (if r = true then some (F.getD k 0) else some c)) := jz (by
       cases r
       . exact H.out.1.stay hlt hr
       . exact H.out.1.turn hlt HM.out hr)
      have HB := jz H.out.2
      have e0 : ((c : Int) == -1) = false := beq_eq_false_iff_ne.2 (by omega)
      have q0 : (c : Int) < (l.length : Int) := by omega
      have q1 : ((F.getD k 0 : Nat) : Int) < (l.length : Int) := by omega
      have q2 : ¬ (c : Int) < 0 := by omega
      have q3 : ¬ ((F.getD k 0 : Nat) : Int) < 0 := by omega
      have q4 : (0 : Int) <= (c : Int) := by omega
      have q5 : (0 : Int) <= ((F.getD k 0 : Nat) : Int) := by omega
      simp only [oi, atL] at e0 hr ⊢
      generalize F.getD k 0 = I at *
      generalize l.getD I default = X at *
      generalize l.getD c default = Y at *
      generalize l.length = L at *
      clear hfr hk ld H HV1 HU1 hi hc
      go_wp2_with fail
      go_region_held3 (fun w' => Below wr.heap.size wr w')
       (first | exact (Below.refl _ _).drew | exact below_more ‹Below wr.heap.size wr _› hbq)
       (first
         | (go_at_call 186; refine (ahead_is _ _ cs _ _ (HUR.out _ (by assumption)) (by assumption) (by assumption) r (by assumption)).mono ?_; rintro e wq ⟨rfl, hbq⟩))
      have HB2 := jz (below_more HB.out ‹Below wr.heap.size wr wq›)
      cases r
      . go_wp2
        go_roundw
        case rel => exact ⟨k + 1, some c, by have := HK.out; omega, by go_num, rfl, jz ⟨HN.out, HB2.out⟩⟩
        case measure => have := HK.out; simp [intOf]; omega
      . go_wp2
        go_roundw
        case rel => exact ⟨k + 1, some I, by have := HK.out; omega, by go_num, rfl, jz ⟨HN.out, HB2.out⟩⟩
        case measure => have := HK.out; simp [intOf]; omega
  . obtain rfl : k = F.length := by omega
    obtain ⟨h1, _⟩ := H.out.1
    rw [List.drop_length, chO] at h1
    subst h1
    have HB := jz (below_more D1.out H.out.2)
    go_wp2
    go_ret
    exact ⟨rfl, HB.out⟩
theorem wd_at {l : List Int} (h : ∀ x ∈ l, Wd x) {k : Nat} (hk : k < l.length) : Wd (l.getD k 0) := by
 rw [List.getD_eq_getElem?_getD, List.getElem?_eq_getElem hk]; exact h _ (List.getElem_mem hk)
structure Rb (wl : List Int) (o n : Nat) (w1 wr : World) (lv : Value) (k a m : Nat) : Prop where
 sum : a + m = o + n
 ge : o <= a
 rest : (pcs o n).drop k = pcs a m
 own : OwnA byE w1.heap.size wr lv (rdB wl o (a - o))
 below : Below w1.heap.size w1 wr
theorem read_yes (wl : List Int) (v : Value) (o n : Nat) (w : World) (hv : RU w v wl) (hw : ∀ x ∈ wl, Wd x) (hL : wl.length <= 1000) (hn : n <= 448) (hon : o + n <= 8 * wl.length) :
 Calls Tryz.prog 144 #[v, .int .i64 o, .int .i64 n] w fun e w' => (∃ u, e = .returned (.tuple #[u, .bool true]) /\ OwnA byE w.heap.size w' u (rdB wl o n)) /\ Below w.heap.size w w' := by
 obtain ⟨p, cap, rfl, _, _, _⟩ := id hv
 have C := jz (withinb_yes o n wl.length cap p hn hon hL w)
 have D := jz (parts_is o n (by omega) hn w)
 have HV := jz (fun (w' : World) (hb : Below w.heap.size w w') => ru_below hv hb)
 have HW := jz hw
 have HL := jz (And.intro hL (And.intro hn hon))
 clear hv hw hL hn hon
 obtain ⟨Lw, hLw⟩ : ∃ Lw, wl.length = Lw := ⟨_, rfl⟩
 rw [hLw] at C HV ⊢
 have HLw := jz hLw
 clear hLw
 go_enter Tryz.func144, Tryz.ntmps144
 go_wp2_with fail
 refine (C.out).mono ?_; rintro e w' ⟨rfl, rfl⟩
 go_wp2_with fail
 refine (D.out).mono ?_; rintro e w1 ⟨⟨u1, rfl, o1⟩, b1⟩
 have D1 := jz b1
 have O1 := jz o1
 obtain ⟨g, d, rfl, _, _⟩ := o1.shape
 have hpl := pcs_length n o
 have HP : Hid ((pcs o n).length <= 1000) := jz (by rw [hpl]; have := HL.out; unfold cnt; split <;> omega)
 clear b1 D o1 hpl C
 obtain ⟨P, hP⟩ : ∃ P, pcs o n = P := ⟨_, rfl⟩
 rw [hP] at O1 HP ⊢
 have HPe := jz hP
 clear hP
 go_wp2
 go_loopw [8, 21] (fun y i wr => ∃ (k a m : Nat) (lv : Value), k <= P.length /\ i = .int .i64 k /\ lv = y /\ Hid (Rb wl o n w1 wr lv k a m)) (fun _ i _ => P.length - (intOf i).toNat)
 case atStart => exact ⟨0, o, n, _, Nat.zero_le _, rfl, rfl, jz ⟨rfl, Nat.le_refl _, rfl, by rw [Nat.sub_self]; exact own_nil_a _ _ _, Below.refl _ _⟩⟩
 case round =>
  obtain ⟨k, a, m, lv, hk, rfl, rfl, H⟩ := hrel
  by_cases hlt : k < P.length
  . have hst := pcs_step H.out.rest (by rw [HPe.out]; exact hlt)
    rw [HPe.out] at hst
    obtain ⟨hm0, hg1, hdr⟩ := hst
    obtain ⟨k1, k2, k3, _⟩ := pcK_le (a := a) hm0
    obtain ⟨b, off, e, hb, hx⟩ := pc_at (ra_below O1.out.ra H.out.below) (by omega)
    cases e
    obtain ⟨hld, _, _, _⟩ := hx k hlt
    rw [hg1] at hld
    obtain ⟨Q, hQ⟩ : ∃ Q, a / 8 = Q := ⟨_, rfl⟩
    obtain ⟨F, hF⟩ : ∃ F, a % 8 = F := ⟨_, rfl⟩
    obtain ⟨N, hN⟩ : ∃ N, pcK a m = N := ⟨_, rfl⟩
    rw [hQ, hF, hN] at hld
    rw [hN] at k1 k2 k3 hdr
    rw [hF] at k3
    have hsum := H.out.sum
    have hge := H.out.ge
    obtain ⟨hL1, hL2, hL3⟩ := HL.out
    obtain ⟨wo, hwo⟩ : ∃ wo, wo = wr := ⟨_, rfl⟩
    subst hwo
    obtain ⟨W, hW, HWp⟩ := pc_boxed wo ⟨Q, F, N⟩
    have c1 : W.cell? ⟨wo.heap.size, 1, none⟩ = some (.int .i64 F) := HWp.out.1.c1
    have i0 : (0 : Int) <= (k : Int) := by omega
    have i1 : (k : Int) < (P.length : Int) := by omega
    have i2 : ¬ (k : Int) < 0 := by omega
    have i3 : IntKind.i64.wrap ((k : Int) + 1) = ((k + 1 : Nat) : Int) := by rw [show (k : Int) + 1 = ((k + 1 : Nat) : Int) by omega]; exact i64_nat _ (by have := HP.out; omega)
    obtain ⟨E, hE⟩ : ∃ E, F + N = E := ⟨_, rfl⟩
    have i4 : IntKind.i64.wrap ((F : Int) + (N : Int)) = (E : Int) := by rw [show (F : Int) + (N : Int) = (E : Int) by omega]; exact i64_nat _ (by omega)
    have HB := jz (below_more H.out.below HWp.out.2)
    have HO := jz (H.out.own.below HWp.out.2)
    have HPv := jz HWp.out.1
    have HNe : Hid (lv.ownBlock ≠ some wo.heap.size) := jz fun e => by have := H.out.own.lt _ e; omega
    have HQ : Hid (Q < Lw /\ Q < wl.length /\ F + N <= 8) := jz ⟨by have := HLw.out; omega, by omega, by omega⟩
    have HA := jz (And.intro hQ (And.intro hF (And.intro hge (And.intro hE (And.intro hsum (And.intro k1 k2))))))
    have HD := jz hdr
    have HK := jz hlt
    clear hx hb hQ hF hN hge hsum hL1 hL2 hL3 hlt hk hm0 hg1 hdr k1 k2 k3 hE HWp H
    go_wp2
    go_loopw [8, 11] (fun y x wr => ∃ (j : Nat) (lv : Value), j <= N /\ x = .int .i64 ((F + j : Nat) : Int) /\ lv = y /\ Hid (OwnA byE w1.heap.size wr lv (rdB wl o (a - o + j)) /\ Below w1.heap.size w1 wr /\ Pv wr wo.heap.size ⟨Q, F, N⟩ /\ lv.ownBlock ≠ some wo.heap.size)) (fun _ x _ => E - (intOf x).toNat)
    case atStart => exact ⟨0, _, Nat.zero_le _, by simp, rfl, jz ⟨HO.out, HB.out, HPv.out, HNe.out⟩⟩
    case round =>
     obtain ⟨j, lz, hj, rfl, rfl, H⟩ := hrel
     have V := H.out.2.2.1
     have d0 : wr.cell? ⟨wo.heap.size, 0, none⟩ = some (.int .i64 Q) := V.c0
     have d1 : wr.cell? ⟨wo.heap.size, 1, none⟩ = some (.int .i64 F) := V.c1
     have d2 : wr.cell? ⟨wo.heap.size, 2, none⟩ = some (.int .i64 N) := V.c2
     obtain ⟨x, hx⟩ : ∃ x, F + j = x := ⟨_, rfl⟩
     by_cases hlt : j < N
     . have hE := HA.out.2.2.2.1
       have hq := HQ.out
       have j1 : ((x : Nat) : Int) < (E : Int) := by omega
       have j2 : x < E := by omega
       have j3 : IntKind.i64.wrap ((x : Int) + 1) = ((x + 1 : Nat) : Int) := by rw [show (x : Int) + 1 = ((x + 1 : Nat) : Int) by omega]; exact i64_nat _ (by omega)
       obtain ⟨bb, of, e, _, hc⟩ := ru_some (HV.out wr (below_more D1.out H.out.2.1)) (by rw [HLw.out]; omega)
       cases e
       have hcell := hc Q (by rw [HLw.out]; omega)
       have q0 : (0 : Int) <= (Q : Int) := by omega
       have q1 : (Q : Int) < (Lw : Int) := by omega
       have q2 : ¬ (Q : Int) < 0 := by omega
       have G := jz (sget_is (wl.getD Q 0) x (wd_at HW.out hq.2.1) (by omega) wr)
       have hby : By (bt (wl.getD Q 0) x) := bt_by _ _
       have hsn : rdB wl o (a - o + (j + 1)) = rdB wl o (a - o + j) ++ [bt (wl.getD Q 0) x] := by
        rw [<- Nat.add_assoc, rdB_snoc, bAt_]
        have e1 : (o + (a - o + j)) / 8 = Q := by have := HA.out; omega
        have e2 : (o + (a - o + j)) % 8 = x := by have := HA.out; omega
        rw [e1, e2]
       have hlen : Hid ((rdB wl o (a - o + j)).length + [bt (wl.getD Q 0) x].length <= 4000) := jz (by rw [rdB_length]; have := HA.out; have := HL.out; simp only [List.length_singleton]; omega)
       have HS := jz hsn
       have HK2 := jz (And.intro hlt hx)
       generalize bt (wl.getD Q 0) x = y at *
       generalize wl.getD Q 0 = z at *
       have R2 : Hid (RA byE (wr.alloc (.cells #[.int .u8 y] 5)) (.slice (some ⟨wr.heap.size, 0, none⟩) 1 1) [y]) := jz (by_one wr hby).ra
       have O2 : Hid (OwnA byE w1.heap.size (wr.alloc (.cells #[.int .u8 y] 5)) lz (rdB wl o (a - o + j))) := jz (H.out.1.below (bal (Below.refl _ _)))
       have B2 : Hid (Below w1.heap.size w1 (wr.alloc (.cells #[.int .u8 y] 5))) := jz (bal H.out.2.1)
       have V2 : Hid (Pv (wr.alloc (.cells #[.int .u8 y] 5)) wo.heap.size ⟨Q, F, N⟩) := jz (V.below (bal (Below.refl _ _)))
       clear hc hsn hlt hE hq hj hby
       rw [hx]
       clear hx
       go_wp2_with fail
       refine (G.out).mono ?_; rintro e w' ⟨rfl, rfl⟩
       go_wp2_with (at_builtin; refine app_by rfl _ _ rfl _ _ _ rfl O2.out _ [y] rfl R2.out hlen B2.out.size ?_)
       intro v' w' ho hg hx
       have HN := jz (show OwnA byE w1.heap.size w' v' (rdB wl o (a - o + (j + 1))) /\ Below w1.heap.size w1 w' /\ Pv w' wo.heap.size ⟨Q, F, N⟩ /\ v'.ownBlock ≠ some wo.heap.size from ⟨by rw [HS.out]; exact ho, below_app B2.out B2.out.size O2.out hg, (hg.block _ V2.out.lt (fun e => H.out.2.2.2 e.symm)).trans V2.out, fun e => by
        rcases hx with hx | hx
        . exact H.out.2.2.2 (hx.symm.trans e)
        . have := Option.some.inj (hx.symm.trans e)
          have := V.lt
          omega⟩)
       clear ho hg hx
       go_wp2
       go_roundw
       case rel => exact ⟨j + 1, _, by have := HK2.out; omega, by have := HK2.out; go_num, rfl, HN⟩
       case measure => have := HK2.out; have := HA.out; simp [intOf]; omega
     . have hjN : j = N := by omega
       have hE := HA.out.2.2.2.1
       have j1 : ¬ ((x : Nat) : Int) < (E : Int) := by omega
       have j2 : ¬ x < E := by omega
       rw [hx]
       clear hlt
       subst hjN
       have HN : Hid (Rb wl o n w1 wr lz (k + 1) (a + j) (m - j)) := jz ⟨by have := HA.out; omega, by have := HA.out; omega, by rw [HPe.out]; exact HD.out, by rw [show a + j - o = a - o + j by have := HA.out; omega]; exact H.out.1, H.out.2.1⟩
       go_wp2
       exact ⟨⟨k + 1, _, _, _, by have := HK.out; omega, by go_num, rfl, HN⟩, by have := HK.out; simp [intOf]; omega⟩
  . obtain rfl : k = P.length := by omega
    have h0 := H.out.rest
    have hm : m = 0 := by
     rw [HPe.out, List.drop_length] at h0
     rcases Nat.eq_zero_or_pos m with h | h
     . exact h
     . rw [pcs_more (by omega)] at h0; cases h0
    subst hm
    have ha : a - o = n := by have := H.out.sum; omega
    have HR := jz (And.intro H.out.own H.out.below)
    rw [ha] at HR
    clear h0 ha H
    go_wp2
    go_ret2
    exact ⟨⟨_, rfl, HR.out.1.mono D1.out.size⟩, below_more D1.out HR.out.2⟩
theorem read_no (o n : Int) (L c : Nat) (p : Option Addr) (hn : -9223372036854775808 <= n /\ n <= 9223372036854775807) (h : ¬ InB L o n) (hL : L <= 1000) (w : World) :
 Calls Tryz.prog 144 #[.slice p L c, .int .i64 o, .int .i64 n] w fun e w' => e = .returned (.tuple #[.slice none 0 0, .bool false]) /\ w = w' := by
 have C := jz (withinb_no o n L c p hn h hL w)
 clear hn h hL
 go_enter Tryz.func144, Tryz.ntmps144
 go_wp2_with fail
 refine (C.out).mono ?_; rintro e w' ⟨rfl, rfl⟩
 go_wp2_with fail
 go_ret2
 exact ⟨rfl, rfl⟩
def rdL (wl : List Int) (o n : Int) : List Int := if InB wl.length o n then rdB wl o.toNat n.toNat else []
theorem read_is (wl : List Int) (v : Value) (o n : Int) (w : World) (hv : RU w v wl) (hw : ∀ x ∈ wl, Wd x) (hn : -9223372036854775808 <= n /\ n <= 9223372036854775807) (hL : wl.length <= 1000) :
 Calls Tryz.prog 144 #[v, .int .i64 o, .int .i64 n] w fun e w' => (∃ u, e = .returned (.tuple #[u, .bool (decide (InB wl.length o n))]) /\ OwnA byE w.heap.size w' u (rdL wl o n)) /\ Below w.heap.size w w' := by
 unfold rdL
 by_cases h : InB wl.length o n
 . rw [decide_eq_true h, if_pos h]
   obtain ⟨a, b, rfl, rfl, h1, h2⟩ := h.nat
   exact read_yes wl v a b w hv hw hL h1 h2
 . rw [decide_eq_false h, if_neg h]
   obtain ⟨p, cap, rfl, _, _, _⟩ := id hv
   exact (read_no o n _ cap p hn h hL w).mono fun e w' ⟨h1, h2⟩ => ⟨⟨_, h1, own_nil_a _ _ _⟩, h2 ▸ Below.refl _ _⟩
theorem rread_yes (wl : List Int) (v : Value) (o n : Nat) (w : World) (hv : RU w v wl) (hw : ∀ x ∈ wl, Wd x) (hL : wl.length <= 1000) (hn : n <= 448) (hon : o + n <= 8 * wl.length) :
 Calls Tryz.prog 133 #[v, .int .i64 o, .int .i64 n] w fun e w' => (∃ u, e = .returned (.tuple #[u, .bool true]) /\ OwnA byE w.heap.size w' u (rdB wl o n)) /\ Below w.heap.size w w' := by
 obtain ⟨p, cap, rfl, _, _, _⟩ := id hv
 have C0 := inside_is o n wl.length (by omega) (by omega) hL w
 rw [decide_eq_true (show InB wl.length o n from ⟨by omega, by omega, by omega, by omega⟩)] at C0
 have C := jz C0
 have HV := jz (fun (w' : World) (hb : Below w.heap.size w w') => ru_below hv hb)
 have HW := jz hw
 have HL := jz (And.intro hL (And.intro hn hon))
 obtain ⟨E, hE⟩ : ∃ E, o + n = E := ⟨_, rfl⟩
 have e1 : IntKind.i64.wrap ((o : Int) + (n : Int)) = (E : Int) := by rw [show (o : Int) + (n : Int) = (E : Int) by omega]; exact i64_nat _ (by omega)
 have HE := jz hE
 clear hv hw hL hn hon C0 hE
 obtain ⟨Lw, hLw⟩ : ∃ Lw, wl.length = Lw := ⟨_, rfl⟩
 rw [hLw] at C HV ⊢
 have HLw := jz hLw
 clear hLw
 go_enter Tryz.func133, Tryz.ntmps133
 go_wp2_with fail
 refine (C.out).mono ?_; rintro e w' ⟨rfl, rfl⟩
 go_wp2
 go_loopw [8, 9] (fun y x wr => ∃ (j : Nat) (lv : Value), j <= n /\ x = .int .i64 ((o + j : Nat) : Int) /\ lv = y /\ Hid (OwnA byE w.heap.size wr lv (rdB wl o j) /\ Below w.heap.size w wr)) (fun _ x _ => E - (intOf x).toNat)
 case atStart => exact ⟨0, _, Nat.zero_le _, by simp, rfl, jz ⟨own_nil_a _ _ _, Below.refl _ _⟩⟩
 case round =>
  obtain ⟨j, lz, hj, rfl, rfl, H⟩ := hrel
  obtain ⟨x, hx⟩ : ∃ x, o + j = x := ⟨_, rfl⟩
  have hEE := HE.out
  by_cases hlt : j < n
  . obtain ⟨hL1, hL2, hL3⟩ := HL.out
    obtain ⟨Q, hQ⟩ : ∃ Q, x / 8 = Q := ⟨_, rfl⟩
    obtain ⟨F, hF⟩ : ∃ F, x % 8 = F := ⟨_, rfl⟩
    obtain ⟨d, hd⟩ : ∃ d, 8 * F = d := ⟨_, rfl⟩
    have j1 : (x : Int) < (E : Int) := by omega
    have j2 : x < E := by omega
    have j3 : IntKind.i64.wrap ((x : Int) + 1) = ((x + 1 : Nat) : Int) := by rw [show (x : Int) + 1 = ((x + 1 : Nat) : Int) by omega]; exact i64_nat _ (by omega)
    have m1 : (x : Int) % 8 = (F : Int) := by omega
    have m2 : IntKind.i64.wrap ((x : Int) / 8) = (Q : Int) := by rw [show (x : Int) / 8 = (Q : Int) by omega]; exact i64_nat _ (by omega)
    have m3 : IntKind.i64.wrap ((F : Int) * 8) = (d : Int) := by rw [show (F : Int) * 8 = (d : Int) by omega]; exact i64_nat _ (by omega)
    have m4 : IntKind.u64.wrap (d : Int) = (d : Int) := by rw [IntKind.wrap_u64]; omega
    have m5 : min d 64 = d := by omega
    have hQL : Q < wl.length := by have := HLw.out; omega
    obtain ⟨bb, of, e, _, hc⟩ := ru_some (HV.out wr H.out.2) (by rw [HLw.out]; have := HLw.out; omega)
    cases e
    have hcell := hc Q hQL
    have q0 : (0 : Int) <= (Q : Int) := by omega
    have q1 : (Q : Int) < (Lw : Int) := by have := HLw.out; omega
    have q2 : ¬ (Q : Int) < 0 := by omega
    have m6 : IntKind.u8.wrap (wl.getD Q 0 / 2 ^ d) = bt (wl.getD Q 0) F := by rw [IntKind.wrap_u8', <- hd, <- pow_256, bt]
    have hby : By (bt (wl.getD Q 0) F) := bt_by _ _
    have hsn : rdB wl o (j + 1) = rdB wl o j ++ [bt (wl.getD Q 0) F] := by rw [rdB_snoc, bAt_, hx, hQ, hF]
    have hlen : Hid ((rdB wl o j).length + [bt (wl.getD Q 0) F].length <= 4000) := jz (by rw [rdB_length]; simp only [List.length_singleton]; omega)
    have HS := jz hsn
    have HK2 := jz (And.intro hlt hx)
    generalize bt (wl.getD Q 0) F = y at *
    generalize wl.getD Q 0 = z at *
    have R2 : Hid (RA byE (wr.alloc (.cells #[.int .u8 y] 5)) (.slice (some ⟨wr.heap.size, 0, none⟩) 1 1) [y]) := jz (by_one wr hby).ra
    have O2 : Hid (OwnA byE w.heap.size (wr.alloc (.cells #[.int .u8 y] 5)) lz (rdB wl o j)) := jz (H.out.1.below (bal (Below.refl _ _)))
    have B2 : Hid (Below w.heap.size w (wr.alloc (.cells #[.int .u8 y] 5))) := jz (bal H.out.2)
    rw [hx]
    clear hc hsn hlt hj hby hx hQ hF hd hL1 hL2 hL3 hQL hEE
    go_wp2_with (at_builtin; refine app_by rfl _ _ rfl _ _ _ rfl O2.out _ [y] rfl R2.out hlen B2.out.size ?_)
    intro v' w' ho hg hx
    have HN := jz (show OwnA byE w.heap.size w' v' (rdB wl o (j + 1)) /\ Below w.heap.size w w' from ⟨by rw [HS.out]; exact ho, below_app B2.out B2.out.size O2.out hg⟩)
    clear ho hg hx
    go_wp2
    go_roundw
    case rel => exact ⟨j + 1, _, by have := HK2.out; omega, by have := HK2.out; go_num, rfl, HN⟩
    case measure => have := HK2.out; have := HE.out; simp [intOf]; omega
  . obtain rfl : j = n := by omega
    have j1 : ¬ (x : Int) < (E : Int) := by omega
    have j2 : ¬ x < E := by omega
    rw [hx]
    clear hlt hj hx hEE
    go_wp2
    go_ret2
    exact ⟨⟨_, rfl, H.out.1⟩, H.out.2⟩
theorem rread_is (wl : List Int) (v : Value) (o n : Int) (w : World) (hv : RU w v wl) (hw : ∀ x ∈ wl, Wd x) (ho : -9223372036854775808 <= o /\ o <= 9223372036854775807) (hn : -9223372036854775808 <= n /\ n <= 9223372036854775807) (hL : wl.length <= 1000) :
 Calls Tryz.prog 133 #[v, .int .i64 o, .int .i64 n] w fun e w' => (∃ u, e = .returned (.tuple #[u, .bool (decide (InB wl.length o n))]) /\ OwnA byE w.heap.size w' u (rdL wl o n)) /\ Below w.heap.size w w' := by
 unfold rdL
 by_cases h : InB wl.length o n
 . rw [decide_eq_true h, if_pos h]
   obtain ⟨a, b, rfl, rfl, h1, h2⟩ := h.nat
   exact rread_yes wl v a b w hv hw hL h1 h2
 . rw [decide_eq_false h, if_neg h]
   obtain ⟨p, cap, rfl, _, _, _⟩ := id hv
   have C0 := inside_is o n wl.length ho hn hL w
   rw [decide_eq_false h] at C0
   have C := jz C0
   clear C0 hv hw ho hn h hL
   generalize wl.length = L at *
   go_enter Tryz.func133, Tryz.ntmps133
   go_wp2_with fail
   refine (C.out).mono ?_; rintro e w' ⟨rfl, rfl⟩
   go_wp2_with fail
   go_ret2
   exact ⟨⟨_, rfl, own_nil_a _ _ _⟩, Below.refl _ _⟩
theorem mid_bytes {w : World} {b off n c : Nat} {l : List Int} (h : RA byE w (.slice (some ⟨b, off, none⟩) n c) l) {d e : Nat} (h1 : d < e) (h2 : e <= l.length) : RA byE w (.slice (some ⟨b, off + d, none⟩) (e - d) (c - d)) ((l.take e).drop d) := by
 have a := ra_take h e
 rw [Nat.min_eq_left h2] at a
 have b := ra_drop a (k := d) (by rw [List.length_take]; omega)
 simpa [byE] using b
theorem mid_len_i {l : List Int} {d e : Nat} (h2 : e <= l.length) : ((l.take e).drop d).length = e - d := by rw [List.length_drop, List.length_take]; omega
theorem mid_getD {l : List Int} {d e k : Nat} (h : d + k < e) : ((l.take e).drop d).getD k 0 = l.getD (d + k) 0 := by
 rw [List.getD_eq_getElem?_getD, List.getElem?_drop, List.getElem?_take, if_pos h, List.getD_eq_getElem?_getD]
theorem mid_by {l : List Int} (h : ∀ x ∈ l, By x) (d e : Nat) : ∀ x ∈ (l.take e).drop d, By x := fun x hx => h x (List.mem_of_mem_take (List.mem_of_mem_drop hx))
theorem IsE.word {w bl : List Int} {o D N : Nat} {L : List Ed} (h : IsE w o D (fun k => bl.getD k 0) L) (h0 : D = 0 \/ (o + D) % 8 = 0) (h1 : 1 <= N) (h2 : (o + D) % 8 + N <= 8) (hb : ∀ x ∈ bl, By x) (hD : D + N <= bl.length) (hw : Wd (w.getD ((o + D) / 8) 0)) :
 Wd (puB (w.getD ((o + D) / 8) 0) ((o + D) % 8) ((bl.take (D + N)).drop D)) /\ IsE w o (D + N) (fun k => bl.getD k 0) (L ++ [⟨(((o + D) / 8 : Nat) : Int), puB (w.getD ((o + D) / 8) 0) ((o + D) % 8) ((bl.take (D + N)).drop D)⟩]) := by
 have hl := mid_len_i (l := bl) (d := D) hD
 have hwd := puB_wd ((bl.take (D + N)).drop D) (w.getD ((o + D) / 8) 0) ((o + D) % 8) hw (mid_by hb _ _) (by rw [hl]; omega)
 refine ⟨hwd, h.more h0 h1 h2 hwd fun j hj => ?_⟩
 rw [bt_puB _ _ _ _ (mid_by hb _ _), hl]
 by_cases hin : (o + D) % 8 <= j /\ j < (o + D) % 8 + N
 . rw [if_pos (by omega), if_pos hin, mid_getD (by omega)]
   congr 1; omega
 . rw [if_neg (by omega), if_neg hin]
theorem put_b {v : Value} {l : List Int} {w : World} (x : Int) (f : Nat) (hx : Wd x) (hv : RA byE w v l) (hf : f + l.length <= 8) : Calls Tryz.prog 196 #[.int .u64 x, .int .i64 f, v] w fun e w' => e = .returned (.int .u64 (puB x f l)) /\ Below w.heap.size w w' :=
 (sput_is x f hx hv hf).mono fun e w' ⟨h1, n, h2⟩ => ⟨h1, by subst h2; exact below_drewN (Below.refl _ _) n⟩
structure Eb (wl bl : List Int) (o : Nat) (w1 wr : World) (lv : Value) (k a m : Nat) : Prop where
 sum : a + m = o + bl.length
 ge : o <= a
 al : a = o \/ a % 8 = 0 \/ m = 0
 rest : (pcs o bl.length).drop k = pcs a m
 own : ∃ L, OwnA edE w1.heap.size wr lv L /\ IsE wl o (a - o) (fun k => bl.getD k 0) L /\ L.length <= a - o
 below : Below w1.heap.size w1 wr
theorem edits_yes (wl bl : List Int) (v u : Value) (o : Nat) (w : World) (hv : RU w v wl) (hu : RA byE w u bl) (hw : ∀ x ∈ wl, Wd x) (hL : wl.length <= 1000) (hn : bl.length <= 448) (hon : o + bl.length <= 8 * wl.length) :
 Calls Tryz.prog 171 #[v, .int .i64 o, u] w fun e w' => (∃ x L, e = .returned (.tuple #[x, .bool true]) /\ OwnA edE w.heap.size w' x L /\ IsE wl o bl.length (fun k => bl.getD k 0) L) /\ Below w.heap.size w w' := by
 obtain ⟨p, cap, rfl, _, _, _⟩ := id hv
 obtain ⟨pu, cu, rfl, hlc, hcm⟩ := ra_shape hu
 have C := jz (withinb_yes o bl.length wl.length cap p hn hon hL w)
 have D := jz (parts_is o bl.length (by omega) hn w)
 have HV := jz (fun (w' : World) (hb : Below w.heap.size w w') => ru_below hv hb)
 have HU := jz (fun (w' : World) (hb : Below w.heap.size w w') => ra_below hu hb)
 have HW := jz hw
 have HY := jz (show ∀ x ∈ bl, By x from ra_ok hu)
 have HL := jz (And.intro hL (And.intro hn hon))
 have HC := jz (And.intro hlc hcm)
 clear hv hw hL hn hon hu hlc hcm
 obtain ⟨Lw, hLw⟩ : ∃ Lw, wl.length = Lw := ⟨_, rfl⟩
 rw [hLw] at C HV ⊢
 have HLw := jz hLw
 clear hLw
 obtain ⟨n, hn⟩ : ∃ n, bl.length = n := ⟨_, rfl⟩
 rw [hn] at C D HU ⊢
 have HNn := jz hn
 clear hn
 go_enter Tryz.func171, Tryz.ntmps171
 go_wp2_with fail
 refine (C.out).mono ?_; rintro e w' ⟨rfl, rfl⟩
 go_wp2_with fail
 refine (D.out).mono ?_; rintro e w1 ⟨⟨u1, rfl, o1⟩, b1⟩
 have D1 := jz b1
 have O1 := jz o1
 obtain ⟨g, d, rfl, _, _⟩ := o1.shape
 have hpl := pcs_length n o
 have HP : Hid ((pcs o n).length <= 1000) := jz (by rw [hpl]; have := HL.out; have := HNn.out; unfold cnt; split <;> omega)
 clear b1 D o1 hpl C
 obtain ⟨P, hP⟩ : ∃ P, pcs o n = P := ⟨_, rfl⟩
 rw [hP] at O1 HP ⊢
 have HPe := jz hP
 clear hP
 go_wp2
 go_loopw [8, 9, 23] (fun y x i wr => ∃ (k a m : Nat) (lv : Value), k <= P.length /\ i = .int .i64 k /\ x = .int .i64 ((a - o : Nat) : Int) /\ lv = y /\ Hid (Eb wl bl o w1 wr lv k a m)) (fun _ _ i _ => P.length - (intOf i).toNat)
 case atStart => exact ⟨0, o, n, _, Nat.zero_le _, rfl, by simp, rfl, jz ⟨by rw [HNn.out], Nat.le_refl _, .inl rfl, by rw [HNn.out]; rfl, ⟨[], own_nil_a _ _ _, by rw [Nat.sub_self]; exact IsE.none _ _ _, Nat.zero_le _⟩, Below.refl _ _⟩⟩
 case round =>
  obtain ⟨k, a, m, lv, hk, rfl, rfl, rfl, H⟩ := hrel
  by_cases hlt : k < P.length
  . have hst := pcs_step H.out.rest (by rw [HNn.out, HPe.out]; exact hlt)
    rw [HNn.out, HPe.out] at hst
    obtain ⟨hm0, hg1, hdr⟩ := hst
    obtain ⟨k1, k2, k3, k4⟩ := pcK_le (a := a) hm0
    obtain ⟨b, off, e, hb, hx⟩ := pc_at (ra_below O1.out.ra H.out.below) (by omega)
    cases e
    obtain ⟨hld, _, _, _⟩ := hx k hlt
    rw [hg1] at hld
    obtain ⟨Dn, hDn⟩ : ∃ Dn, a - o = Dn := ⟨_, rfl⟩
    have hsum := H.out.sum
    rw [HNn.out] at hsum
    have hge := H.out.ge
    obtain ⟨hL1, hL2, hL3⟩ := HL.out
    rw [HNn.out] at hL2 hL3
    obtain ⟨L, OL, EL, hLl⟩ := H.out.own
    rw [hDn] at EL hLl
    have hoD : o + Dn = a := by omega
    have hQL : a / 8 < wl.length := by omega
    have EW := EL.word (N := pcK a m) (by rcases H.out.al with h | h | h; exact .inl (by omega); exact .inr (by rw [hoD]; exact h); exact absurd h hm0) k1 (by rw [hoD]; exact k3) HY.out (by rw [HNn.out]; omega) (by rw [hoD]; exact wd_at HW.out hQL)
    rw [hoD] at EW
    obtain ⟨bb, of, e, _, hc⟩ := ru_some (HV.out _ (below_more D1.out H.out.below)) (by rw [HLw.out]; have := HLw.out; omega)
    cases e
    obtain ⟨b2, f2, e, _, _⟩ := byte_at (HU.out w (Below.refl _ _)) (by rw [HNn.out]; omega)
    cases e
    obtain ⟨N, hN⟩ : ∃ N, pcK a m = N := ⟨_, rfl⟩
    rw [hN] at hld k1 k2 k3 hdr EW k4
    obtain ⟨E, hE⟩ : ∃ E, Dn + N = E := ⟨_, rfl⟩
    rw [hE] at EW
    have HM := jz (fun (w' : World) (hb : Below w.heap.size w w') => mid_bytes (HU.out w' hb) (d := Dn) (e := E) (by omega) (by rw [HNn.out]; omega))
    have hwz := wd_at HW.out hQL
    have hcell := hc (a / 8) hQL
    have HPut := jz (fun (w' : World) (hb : Below w.heap.size w w') => put_b (wl.getD (a / 8) 0) (a % 8) hwz (HM.out w' hb) (by rw [mid_len_i (by rw [HNn.out]; omega)]; omega))
    obtain ⟨Q, hQ⟩ : ∃ Q, a / 8 = Q := ⟨_, rfl⟩
    obtain ⟨F, hF⟩ : ∃ F, a % 8 = F := ⟨_, rfl⟩
    rw [hQ] at hld hcell HPut EW
    rw [hF] at hld HPut EW
    obtain ⟨Y, hY⟩ : ∃ Y, puB (wl.getD Q 0) F ((bl.take E).drop Dn) = Y := ⟨_, rfl⟩
    rw [hY] at EW HPut
    obtain ⟨z, hz⟩ : ∃ z, wl.getD Q 0 = z := ⟨_, rfl⟩
    rw [hz] at HPut hcell
    obtain ⟨wo, hwo⟩ : ∃ wo, wo = wr := ⟨_, rfl⟩
    subst hwo
    obtain ⟨W, hW, HWp⟩ := pc_boxed wo ⟨Q, F, N⟩
    have c0 : W.cell? ⟨wo.heap.size, 0, none⟩ = some (.int .i64 Q) := HWp.out.1.c0
    have c1 : W.cell? ⟨wo.heap.size, 1, none⟩ = some (.int .i64 F) := HWp.out.1.c1
    have c2 : W.cell? ⟨wo.heap.size, 2, none⟩ = some (.int .i64 N) := HWp.out.1.c2
    have hBW := below_more H.out.below HWp.out.2
    have hcz : ∀ x, Below w.heap.size w x -> x.cell? ⟨bb, of + Q, none⟩ = some (.int .u64 z) := fun x hx => by
     obtain ⟨_, _, e, _, hc2⟩ := ru_some (HV.out _ hx) (by rw [HLw.out]; have := HLw.out; omega)
     cases e
     rw [<- hz]; exact hc2 Q (by omega)
    have i0 : (0 : Int) <= (k : Int) := by omega
    have i1 : (k : Int) < (P.length : Int) := by omega
    have i2 : ¬ (k : Int) < 0 := by omega
    have i3 : IntKind.i64.wrap ((k : Int) + 1) = ((k + 1 : Nat) : Int) := by rw [show (k : Int) + 1 = ((k + 1 : Nat) : Int) by omega]; exact i64_nat _ (by have := HP.out; omega)
    have i4 : IntKind.i64.wrap ((Dn : Int) + (N : Int)) = (E : Int) := by rw [show (Dn : Int) + (N : Int) = (E : Int) by omega]; exact i64_nat _ (by omega)
    have q0 : (0 : Int) <= (Q : Int) := by omega
    have q1 : (Q : Int) < (Lw : Int) := by have := HLw.out; omega
    have q2 : ¬ (Q : Int) < 0 := by omega
    have hcc := HC.out
    rw [HNn.out] at hcc
    have s1 : (Dn : Int) <= (E : Int) := by omega
    have s2 : (E : Int) <= (n : Int) := by omega
    have s3 : (Dn : Int) <= (cu : Int) := by omega
    have s4 : (E : Int) <= (cu : Int) := by omega
    have s5 : ¬ cu = 0 := by omega
    have s6 : ¬ cu = Dn := by omega
    have HB := jz hBW
    have HO := jz (OL.below HWp.out.2)
    have HPv := jz HWp.out.1
    have HE := jz EW
    have HA := jz (And.intro hge (And.intro hsum (And.intro k1 (And.intro k2 (And.intro hDn (And.intro hE (And.intro hLl (And.intro hL2 k4))))))))
    have HD := jz hdr
    have HK := jz hlt
    have hlen : Hid (L.length + [(⟨(Q : Int), Y⟩ : Ed)].length <= 4000) := jz (by simp only [List.length_singleton]; omega)
    have HNe : Hid (lv.ownBlock ≠ some wo.heap.size) := jz fun e => by have := OL.lt _ e; omega
    have HWf : Hid (Ed.Wf ⟨(Q : Int), Y⟩) := jz (Ed.wf_of (by simp only; omega) (by simp only; omega) EW.1.1 (by have := EW.1.2; simp only; omega))
    rw [hDn]
    clear hx hb hQ hF hN hge hsum hL1 hL2 hL3 hlt hk hm0 hg1 hdr k1 k2 k3 hE HWp H EW hY hz hcell hwz hBW hcc OL EL hLl hoD hDn hQL hc
    have DD := jz ((below_more D1.out HB.out).drew)
    have CZ : Hid (∀ x, Below w.heap.size w x -> x.cell? ⟨bb, of + Q, none⟩ = some (.int .u64 z)) := jz hcz
    have SF : Hid (∀ x, Below W.heap.size W x -> x.cell? ⟨wo.heap.size, 0, none⟩ = some (.int .i64 Q) /\ x.cell? ⟨wo.heap.size, 1, none⟩ = some (.int .i64 F) /\ x.cell? ⟨wo.heap.size, 2, none⟩ = some (.int .i64 N) /\ x.cell? ⟨bb, of + Q, none⟩ = some (.int .u64 z)) := jz fun x hx => ⟨(HPv.out.below hx).c0, (HPv.out.below hx).c1, (HPv.out.below hx).c2, CZ.out x (below_more D1.out (below_more HB.out hx))⟩
    clear hcz
    go_wp2_with fail
    go_region_held3 (fun x => x.cell? ⟨wo.heap.size, 0, none⟩ = some (.int .i64 Q) /\ x.cell? ⟨wo.heap.size, 1, none⟩ = some (.int .i64 F) /\ x.cell? ⟨wo.heap.size, 2, none⟩ = some (.int .i64 N) /\ x.cell? ⟨bb, of + Q, none⟩ = some (.int .u64 z))
     (first
       | exact SG.out
       | exact SF.out _ (Below.refl _ _).drew
       | exact SF.out _ BQ.out
       | exact SF.out _ (bal BQ.out))
     (first
     | (refine step_ed (o := ⟨some 47, _, _, _, _, _⟩) rfl (.tmp 27) (.tmp 46) rfl w1.heap.size _ L (by simp [Act.eval]) OQ.out (.slice (some ⟨wq.heap.size, 0, none⟩) 1 1) [⟨(Q : Int), Y⟩] (by simp [Act.eval]) RQ.out hlen.out BW.out.size ?_
        intro vb wb ob gb _
        have OB := jz ob
        have GB := jz (below_app BW.out BW.out.size OQ.out gb)
        have VB : Hid (Pv wb wo.heap.size ⟨Q, F, N⟩) := jz ((gb.block _ VQ.out.lt (fun e => HNe.out e.symm)).trans VQ.out)
        have SG := jz (And.intro VB.out.c0 (And.intro VB.out.c1 (And.intro VB.out.c2 (CZ.out _ (below_more D1.out GB.out)))))
        clear ob gb)
     | (go_at_call 196; refine (HPut.out _ DD.out).mono ?_; rintro e wq ⟨rfl, bq⟩
        have BQ := jz (show Below W.heap.size W wq from ((Below.refl _ _).drew).trans bq)
        have OQ := jz (HO.out.below (bal (o := .cells (ec ⟨(Q : Int), Y⟩) 105) BQ.out))
        have RQ := jz (ed_one wq HWf.out).ra
        have BW := jz (below_more HB.out (bal (o := .cells (ec ⟨(Q : Int), Y⟩) 105) BQ.out))
        have VQ := jz (HPv.out.below (bal (o := .cells (ec ⟨(Q : Int), Y⟩) 105) BQ.out))
        clear bq))
    have d2 : wb.cell? ⟨wo.heap.size, 2, none⟩ = some (.int .i64 N) := VB.out.c2
    have HN : Hid (Eb wl bl o w1 wb vb (k + 1) (a + N) (m - N) /\ E = a + N - o) := jz (by
     obtain ⟨g1, g2, g3, g4, g5, g6, g7, g8, g9⟩ := HA.out
     refine ⟨⟨by rw [HNn.out]; omega, by omega, by rcases g9 with g9 | g9; exact .inr (.inr (by omega)); exact .inr (.inl g9), by rw [HNn.out, HPe.out]; exact HD.out, ⟨_, OB.out, ?_, by rw [List.length_append, List.length_singleton]; omega⟩, GB.out⟩, by omega⟩
     have := HE.out.2
     rw [show a + N - o = E by omega]
     exact this)
    go_wp2
    exact ⟨⟨k + 1, a + N, m - N, _, by have := HK.out; omega, by go_num, by rw [HN.out.2], rfl, HN.out.1 |> jz⟩, by have := HK.out; simp [intOf]; omega⟩
  . obtain rfl : k = P.length := by omega
    have h0 := H.out.rest
    have hm : m = 0 := by
     rw [HNn.out, HPe.out, List.drop_length] at h0
     rcases Nat.eq_zero_or_pos m with h | h
     . exact h
     . rw [pcs_more (by omega)] at h0; cases h0
    subst hm
    have ha : a - o = n := by have := H.out.sum; rw [HNn.out] at this; omega
    have HR := jz (And.intro H.out.own H.out.below)
    rw [ha] at HR ⊢
    clear h0 ha H
    go_wp2
    go_ret2
    obtain ⟨⟨L, r1, r2, _⟩, r3⟩ := HR.out
    exact ⟨⟨_, L, rfl, r1.mono D1.out.size, r2⟩, below_more D1.out r3⟩
theorem edits_no (o : Int) (bn L c d : Nat) (p q : Option Addr) (_ : -9223372036854775808 <= o /\ o <= 9223372036854775807) (h : ¬ InB L o bn) (hL : L <= 1000) (hbn : bn <= 100000) (w : World) :
 Calls Tryz.prog 171 #[.slice p L c, .int .i64 o, .slice q bn d] w fun e w' => e = .returned (.tuple #[.slice none 0 0, .bool false]) /\ w = w' := by
 have C := jz (withinb_no o bn L c p (by omega) h hL w)
 clear h hL hbn
 go_enter Tryz.func171, Tryz.ntmps171
 go_wp2_with fail
 refine (C.out).mono ?_; rintro e w' ⟨rfl, rfl⟩
 go_wp2_with fail
 go_ret2
 exact ⟨rfl, rfl⟩
theorem redits_yes (wl bl : List Int) (v u : Value) (o : Nat) (w : World) (hv : RU w v wl) (hu : RA byE w u bl) (hw : ∀ x ∈ wl, Wd x) (hL : wl.length <= 1000) (hn : bl.length <= 448) (hon : o + bl.length <= 8 * wl.length) :
 Calls Tryz.prog 94 #[v, .int .i64 o, u] w fun e w' => (∃ x L, e = .returned (.tuple #[x, .bool true]) /\ OwnA edE w.heap.size w' x L /\ IsE wl o bl.length (fun k => bl.getD k 0) L) /\ Below w.heap.size w w' := by
 obtain ⟨p, cap, rfl, _, _, _⟩ := id hv
 obtain ⟨pu, cu, rfl, hlc, hcm⟩ := ra_shape hu
 have C0 := inside_is o bl.length wl.length (by omega) (by omega) hL w
 rw [decide_eq_true (show InB wl.length o bl.length from ⟨by omega, by omega, by omega, by omega⟩)] at C0
 have C := jz C0
 have HV := jz (fun (w' : World) (hb : Below w.heap.size w w') => ru_below hv hb)
 have HU := jz (fun (w' : World) (hb : Below w.heap.size w w') => ra_below hu hb)
 have HW := jz hw
 have HY := jz (show ∀ x ∈ bl, By x from ra_ok hu)
 have HL := jz (And.intro hL (And.intro hn hon))
 clear hv hw hL hn hon hu hlc hcm C0
 obtain ⟨Lw, hLw⟩ : ∃ Lw, wl.length = Lw := ⟨_, rfl⟩
 rw [hLw] at C HV ⊢
 have HLw := jz hLw
 clear hLw
 obtain ⟨n, hn⟩ : ∃ n, bl.length = n := ⟨_, rfl⟩
 rw [hn] at C HU ⊢
 have HNn := jz hn
 clear hn
 go_enter Tryz.func94, Tryz.ntmps94
 go_wp2_with fail
 refine (C.out).mono ?_; rintro e w' ⟨rfl, rfl⟩
 go_wp2
 go_loopw [8, 24] (fun y i wr => ∃ (k : Nat) (lv : Value), k <= n /\ i = .int .i64 k /\ lv = y /\ Hid ((∃ L, OwnA edE w.heap.size wr lv L /\ IsE wl o k (fun k => bl.getD k 0) L) /\ Below w.heap.size w wr)) (fun _ i _ => n - (intOf i).toNat)
 case atStart => exact ⟨0, _, Nat.zero_le _, rfl, rfl, jz ⟨⟨[], own_nil_a _ _ _, IsE.none _ _ _⟩, Below.refl _ _⟩⟩
 case round =>
  obtain ⟨k, lv, hk, rfl, rfl, H⟩ := hrel
  by_cases hlt : k < n
  . obtain ⟨hL1, hL2, hL3⟩ := HL.out
    rw [HNn.out] at hL2 hL3
    obtain ⟨⟨L, OL, EL⟩, BL⟩ := H.out
    obtain ⟨bb, of, e, _, hc⟩ := ru_some (HV.out _ BL) (by rw [HLw.out]; have := HLw.out; omega)
    cases e
    obtain ⟨b2, f2, e, _, hcb⟩ := byte_at (HU.out wr BL) (by rw [HNn.out]; omega)
    cases e
    obtain ⟨cellb, hby0⟩ := hcb k (by rw [HNn.out]; exact hlt)
    obtain ⟨A, hA⟩ : ∃ A, o + k = A := ⟨_, rfl⟩
    obtain ⟨Q, hQ⟩ : ∃ Q, A / 8 = Q := ⟨_, rfl⟩
    obtain ⟨F, hF⟩ : ∃ F, A % 8 = F := ⟨_, rfl⟩
    obtain ⟨d, hdd⟩ : ∃ d, 8 * F = d := ⟨_, rfl⟩
    have hQL : Q < wl.length := by omega
    have cellw := hc Q hQL
    have hwz := wd_at HW.out hQL
    have HLe := EL.len
    have j0 : IntKind.i64.wrap ((k : Int) + 1) = ((k + 1 : Nat) : Int) := by rw [show (k : Int) + 1 = ((k + 1 : Nat) : Int) by omega]; exact i64_nat _ (by omega)
    have i0 : (0 : Int) <= (k : Int) := by omega
    have i1 : (k : Int) < (n : Int) := by omega
    have i2 : ¬ (k : Int) < 0 := by omega
    have m0 : IntKind.i64.wrap ((o : Int) + (k : Int)) = (A : Int) := by rw [show (o : Int) + (k : Int) = (A : Int) by omega]; exact i64_nat _ (by omega)
    have m1 : (A : Int) % 8 = (F : Int) := by omega
    have m2 : IntKind.i64.wrap ((A : Int) / 8) = (Q : Int) := by rw [show (A : Int) / 8 = (Q : Int) by omega]; exact i64_nat _ (by omega)
    have m3 : IntKind.i64.wrap ((F : Int) * 8) = (d : Int) := by rw [show (F : Int) * 8 = (d : Int) by omega]; exact i64_nat _ (by omega)
    have m4 : IntKind.u64.wrap (d : Int) = (d : Int) := by rw [IntKind.wrap_u64]; omega
    have m5 : min d 64 = d := by omega
    have q0 : (0 : Int) <= (Q : Int) := by omega
    have q1 : (Q : Int) < (Lw : Int) := by have := HLw.out; omega
    have q2 : ¬ (Q : Int) < 0 := by omega
    have hd := jz hdd
    have HQ : Hid (Q <= 1000) := jz (by omega)
    have hF8 : Hid (F < 8) := jz (by omega)
    have HK := jz hlt
    have hLen : L.length <= 1000 := by rw [HLe]; unfold cnt; split <;> omega
    by_cases hnew : k = 0 \/ (o + k) % 8 = 0
    . have hmore : ∀ cb, By cb -> (∀ j, j = k -> bl.getD j 0 = cb) -> IsE wl o (k + 1) (fun k => bl.getD k 0) (L ++ [⟨(Q : Int), sb (wl.getD Q 0) F cb⟩]) := fun cb hcb hj => by
       have := EL.more (k := 1) (v := sb (wl.getD Q 0) F cb) hnew (Nat.le_refl _) (by omega) (sb_wd hwz hcb hF8.out) (fun j hj8 => by
        rw [bt_sb hcb, hA, hF, hQ]
        by_cases e : j = F
        . rw [if_pos e, if_pos (by omega)]
          exact (hj _ (by omega)).symm
        . rw [if_neg e, if_neg (by omega)])
       rw [hA, hQ] at this
       exact this
      have HI1 := jz (hmore _ hby0 (fun j hj => by rw [hj]))
      have hby : Hid (By (bl.getD k 0)) := jz hby0
      have hz3 : Hid (Wd (wl.getD Q 0)) := jz hwz
      have O1 := jz OL
      have B1 := jz BL
      have hlen : Hid (L.length + [(⟨(Q : Int), wl.getD Q 0⟩ : Ed)].length <= 4000) := jz (by simp only [List.length_singleton]; omega)
      have HWf : Hid (Ed.Wf ⟨(Q : Int), wl.getD Q 0⟩) := jz (Ed.wf_of (by simp only; omega) (by simp only; omega) hwz.1 (by have := hwz.2; simp only; omega))
      have hlast : Hid (k ≠ 0 -> 0 < L.length /\ ∃ R : Nat, (L.getD (L.length - 1) default).w = (R : Int) /\ R ≠ Q) := jz fun h0 => by
       obtain ⟨a1, a2, _⟩ := EL.last h0
       exact ⟨a1, _, a2, by omega⟩
      have hzero : Hid (k = 0 -> L.length = 0) := jz fun h0 => by rw [HLe, cnt, if_pos h0]
      obtain ⟨cb, hcbe⟩ : ∃ cb, bl.getD k 0 = cb := ⟨_, rfl⟩
      obtain ⟨z3, hz⟩ : ∃ z, wl.getD Q 0 = z := ⟨_, rfl⟩
      rw [hcbe] at cellb hby HI1
      rw [hz] at cellw HI1 hlen HWf hz3
      clear hmore hby0 hwz hcbe hz hA hQ hF hdd hL1 hL2 hL3 hQL HLe EL BL hlt hk hnew hc hcb
      obtain ⟨pl, cl, rfl, hlcl, _⟩ := OL.shape
      obtain ⟨K0, hK0⟩ : ∃ K0, L.length = K0 := ⟨_, rfl⟩
      have R2 : Hid (RA edE (wr.alloc (.cells (ec ⟨(Q : Int), z3⟩) 105)) (.slice (some ⟨wr.heap.size, 0, none⟩) 1 1) [⟨(Q : Int), z3⟩]) := jz (ed_one wr HWf.out).ra
      have O2 := jz (O1.out.below (bal (o := .cells (ec ⟨(Q : Int), z3⟩) 105) (Below.refl _ _)))
      have B2 := jz (bal (o := .cells (ec ⟨(Q : Int), z3⟩) 105) B1.out)
      rw [hK0] at O1 O2 hlen hlast hzero OL hLen hlcl ⊢
      have HK0 := jz hK0
      clear hK0 OL H
      by_cases h0 : k = 0
      . obtain rfl : K0 = 0 := hzero.out h0
        clear h0 hlcl hLen hlast hzero
        go_wp2_with (at_builtin; refine app_ed rfl _ _ rfl _ _ _ rfl O2.out _ [⟨(Q : Int), z3⟩] rfl R2.out (by rw [HK0.out]; exact hlen) B2.out.size ?_)
        intro v' X3 ho hg hx
        have O30 := jz ho
        have B3 := jz (below_app B2.out B2.out.size O2.out hg)
        obtain ⟨g, c3, rfl, _, _, _, _⟩ := ho.block (by simp)
        obtain ⟨L3, hL3⟩ : ∃ L3, L ++ [(⟨(Q : Int), z3⟩ : Ed)] = L3 := ⟨_, rfl⟩
        have hE3 : Hid (∀ M, L3.length = M + 1 -> L3.getD M default = ⟨(Q : Int), z3⟩) := jz fun M hM => by
         rw [<- hL3] at hM ⊢
         rw [List.length_append, List.length_singleton] at hM
         rw [getD_snoc, if_pos (by omega)]
        have HI0 : Hid (∀ M, L3.length = M + 1 -> IsE wl o (k + 1) (fun k => bl.getD k 0) (L3.set M ⟨(Q : Int), sb z3 F cb⟩)) := jz fun M hM => by
         rw [<- hL3] at hM ⊢
         rw [List.length_append, List.length_singleton] at hM
         rw [show M = L.length by omega, List.set_append_right _ _ (Nat.le_refl _), Nat.sub_self]
         exact HI1.out
        rw [hL3] at O30 ⊢
        have O3 := O30
        obtain ⟨K, hK⟩ : ∃ K, L3.length = K := ⟨_, rfl⟩
        have hKp : 0 < K /\ K <= 4001 := by
         rw [<- hK, <- hL3, List.length_append, List.length_singleton]
         have a1 := hlen.out
         have a2 := HK0.out
         simp only [List.length_singleton] at a1
         omega
        rw [hK] at O3 O30 hE3 HI0 ⊢
        clear ho hg hx hL3
        obtain ⟨M, hM⟩ : ∃ M, K = M + 1 := ⟨K - 1, by omega⟩
        have t1 : IntKind.i64.wrap ((K : Int) - 1) = (M : Int) := by rw [show (K : Int) - 1 = (M : Int) by omega]; exact i64_nat _ (by omega)
        have t2 : (0 : Int) <= (M : Int) := by omega
        have t3 : (M : Int) < (K : Int) := by omega
        have t4 : ¬ (M : Int) < 0 := by omega
        obtain ⟨b9, o9, e9, _, hx9⟩ := ed_at O3.out.ra (by rw [hK]; omega)
        cases e9
        have hx9 := hx9 M (by rw [hK]; omega)
        have eM : (L3.getD M default) = ⟨(Q : Int), z3⟩ := hE3.out M hM
        rw [eM] at hx9
        simp only [Nat.zero_add] at hx9
        obtain ⟨_, x0, x1, _⟩ := hx9
        have x2 : X3.frozen? ⟨g, M * 2 + 1, none⟩ = false := OwnA.free O3.out (M * 2 + 1)
        obtain ⟨C0, Cs, Cz, n1, n2, n3, n4, n5⟩ := put_nums (k := F) hz3.out hby.out hF8.out hd.out
        have hY3 := sb_wd (k := F) hz3.out hby.out hF8.out
        have HS : Hid (OwnA edE w.heap.size (X3.setCell ⟨g, M * 2 + 1, none⟩ (.int .u64 (sb z3 F cb))) (.slice (some ⟨g, 0, none⟩) K c3) (L3.set M ⟨(Q : Int), sb z3 F cb⟩)) := jz (OwnA.setCell (E := edE) (k := M) (j := 1) O3.out (by rw [hK]; omega) (by decide) (Ed.wf_of (by simp only; omega) (by have := HQ.out; simp only; omega) hY3.1 (by have := hY3.2; simp only; omega)) (by rw [eM]; rfl))
        have HB3 : Hid (Below w.heap.size w (X3.setCell ⟨g, M * 2 + 1, none⟩ (.int .u64 (sb z3 F cb)))) := jz (B3.out.setCell (p := ⟨g, M * 2 + 1, none⟩) (O3.out.lt _ rfl).1 _)
        have HI : Hid (IsE wl o (k + 1) (fun k => bl.getD k 0) (L3.set M ⟨(Q : Int), sb z3 F cb⟩)) := jz (HI0.out M hM)
        clear eM hY3
        obtain ⟨y, hy⟩ : ∃ y, sb z3 F cb = y := ⟨_, rfl⟩
        rw [hy] at n5 HS HB3 HI
        have hKM := jz (And.intro hK hM)
        clear hy hK
        go_wp2
        go_roundw
        case rel => exact ⟨k + 1, _, by have := HK.out; omega, by go_num, rfl, jz ⟨⟨_, HS.out, HI.out⟩, HB3.out⟩⟩
        case measure => have := HK.out; simp [intOf]; omega
      . obtain ⟨hpos, R, hR, hRQ⟩ := hlast.out h0
        obtain ⟨b8, o8, e8, _, hx8⟩ := ed_at O1.out.ra (by rw [HK0.out]; omega)
        cases e8
        obtain ⟨M0, hM0⟩ : ∃ M, K0 = M + 1 := ⟨K0 - 1, by omega⟩
        have hx8 := (hx8 M0 (by rw [HK0.out]; omega)).2.1
        rw [show K0 - 1 = M0 by omega] at hR
        rw [hR] at hx8
        have s1 : IntKind.i64.wrap ((K0 : Int) - 1) = (M0 : Int) := by rw [show (K0 : Int) - 1 = (M0 : Int) by omega]; exact i64_nat _ (by omega)
        have s2 : (0 : Int) <= (M0 : Int) := by omega
        have s3 : (M0 : Int) < (K0 : Int) := by omega
        have s4 : ¬ (M0 : Int) < 0 := by omega
        have s5 : ¬ K0 = 0 := by omega
        have s8 : ((K0 : Int) == 0) = false := by simp; omega
        have s6 : ¬ R = Q := hRQ
        have s7 : ((R : Int) == (Q : Int)) = false := by simp; omega
        clear hR hpos hRQ h0 hlcl hLen hM0
        go_wp2_with (at_builtin; refine app_ed rfl _ _ rfl _ _ _ rfl O2.out _ [⟨(Q : Int), z3⟩] rfl R2.out (by rw [HK0.out]; exact hlen) B2.out.size ?_)
        intro v' X3 ho hg hx
        have O30 := jz ho
        have B3 := jz (below_app B2.out B2.out.size O2.out hg)
        obtain ⟨g, c3, rfl, _, _, _, _⟩ := ho.block (by simp)
        obtain ⟨L3, hL3⟩ : ∃ L3, L ++ [(⟨(Q : Int), z3⟩ : Ed)] = L3 := ⟨_, rfl⟩
        have hE3 : Hid (∀ M, L3.length = M + 1 -> L3.getD M default = ⟨(Q : Int), z3⟩) := jz fun M hM => by
         rw [<- hL3] at hM ⊢
         rw [List.length_append, List.length_singleton] at hM
         rw [getD_snoc, if_pos (by omega)]
        have HI0 : Hid (∀ M, L3.length = M + 1 -> IsE wl o (k + 1) (fun k => bl.getD k 0) (L3.set M ⟨(Q : Int), sb z3 F cb⟩)) := jz fun M hM => by
         rw [<- hL3] at hM ⊢
         rw [List.length_append, List.length_singleton] at hM
         rw [show M = L.length by omega, List.set_append_right _ _ (Nat.le_refl _), Nat.sub_self]
         exact HI1.out
        rw [hL3] at O30 ⊢
        have O3 := O30
        obtain ⟨K, hK⟩ : ∃ K, L3.length = K := ⟨_, rfl⟩
        have hKp : 0 < K /\ K <= 4001 := by
         rw [<- hK, <- hL3, List.length_append, List.length_singleton]
         have a1 := hlen.out
         have a2 := HK0.out
         simp only [List.length_singleton] at a1
         omega
        rw [hK] at O3 O30 hE3 HI0 ⊢
        clear ho hg hx hL3
        obtain ⟨M, hM⟩ : ∃ M, K = M + 1 := ⟨K - 1, by omega⟩
        have t1 : IntKind.i64.wrap ((K : Int) - 1) = (M : Int) := by rw [show (K : Int) - 1 = (M : Int) by omega]; exact i64_nat _ (by omega)
        have t2 : (0 : Int) <= (M : Int) := by omega
        have t3 : (M : Int) < (K : Int) := by omega
        have t4 : ¬ (M : Int) < 0 := by omega
        obtain ⟨b9, o9, e9, _, hx9⟩ := ed_at O3.out.ra (by rw [hK]; omega)
        cases e9
        have hx9 := hx9 M (by rw [hK]; omega)
        have eM : (L3.getD M default) = ⟨(Q : Int), z3⟩ := hE3.out M hM
        rw [eM] at hx9
        simp only [Nat.zero_add] at hx9
        obtain ⟨_, x0, x1, _⟩ := hx9
        have x2 : X3.frozen? ⟨g, M * 2 + 1, none⟩ = false := OwnA.free O3.out (M * 2 + 1)
        obtain ⟨C0, Cs, Cz, n1, n2, n3, n4, n5⟩ := put_nums (k := F) hz3.out hby.out hF8.out hd.out
        have hY3 := sb_wd (k := F) hz3.out hby.out hF8.out
        have HS : Hid (OwnA edE w.heap.size (X3.setCell ⟨g, M * 2 + 1, none⟩ (.int .u64 (sb z3 F cb))) (.slice (some ⟨g, 0, none⟩) K c3) (L3.set M ⟨(Q : Int), sb z3 F cb⟩)) := jz (OwnA.setCell (E := edE) (k := M) (j := 1) O3.out (by rw [hK]; omega) (by decide) (Ed.wf_of (by simp only; omega) (by have := HQ.out; simp only; omega) hY3.1 (by have := hY3.2; simp only; omega)) (by rw [eM]; rfl))
        have HB3 : Hid (Below w.heap.size w (X3.setCell ⟨g, M * 2 + 1, none⟩ (.int .u64 (sb z3 F cb)))) := jz (B3.out.setCell (p := ⟨g, M * 2 + 1, none⟩) (O3.out.lt _ rfl).1 _)
        have HI : Hid (IsE wl o (k + 1) (fun k => bl.getD k 0) (L3.set M ⟨(Q : Int), sb z3 F cb⟩)) := jz (HI0.out M hM)
        clear eM hY3
        obtain ⟨y, hy⟩ : ∃ y, sb z3 F cb = y := ⟨_, rfl⟩
        rw [hy] at n5 HS HB3 HI
        have hKM := jz (And.intro hK hM)
        clear hy hK
        go_wp2
        go_roundw
        case rel => exact ⟨k + 1, _, by have := HK.out; omega, by go_num, rfl, jz ⟨⟨_, HS.out, HI.out⟩, HB3.out⟩⟩
        case measure => have := HK.out; simp [intOf]; omega
    . have h0 : k ≠ 0 := fun e => hnew (.inl e)
      have h8 : (o + k) % 8 ≠ 0 := fun e => hnew (.inr e)
      obtain ⟨a1, a2, a3⟩ := EL.last h0
      have hb8 := EL.byte h0 h8 hby0
      rw [hA, hF] at hb8
      have hLM : (o + k - 1) / 8 = Q := by omega
      rw [hLM] at a2
      have hby : Hid (By (bl.getD k 0)) := jz hby0
      have B3 := jz BL
      obtain ⟨z3, hz⟩ : ∃ z, (L.getD (L.length - 1) default).v = z := ⟨_, rfl⟩
      rw [hz] at a3 hb8
      rw [a2] at hb8
      have hz3 := jz a3
      have hE3 : Hid (∀ M, L.length = M + 1 -> L.getD M default = ⟨(Q : Int), z3⟩) := jz fun M hM => by
       rw [show L.length - 1 = M by omega] at a2 hz
       cases hx : L.getD M default
       rw [hx] at a2 hz
       simp only at a2 hz
       rw [a2, hz]
      obtain ⟨cb, hcbe⟩ : ∃ cb, bl.getD k 0 = cb := ⟨_, rfl⟩
      rw [hcbe] at cellb hby hb8
      have HI0 : Hid (∀ M, L.length = M + 1 -> IsE wl o (k + 1) (fun k => bl.getD k 0) (L.set M ⟨(Q : Int), sb z3 F cb⟩)) := jz fun M hM => by
       rw [show L.length - 1 = M by omega] at hb8
       exact hb8
      obtain ⟨g, c3, rfl, _, _, _, _⟩ := OL.block a1
      have O3 := jz OL
      obtain ⟨K, hK⟩ : ∃ K, L.length = K := ⟨_, rfl⟩
      have hKp : 0 < K /\ K <= 4001 := by omega
      rw [hK] at O3 hE3 HI0 ⊢
      have s5 : ¬ K = 0 := by omega
      have s8 : ((K : Int) == 0) = false := by simp; omega
      clear hby0 hwz hcbe hz hA hQ hF hdd hL1 hL2 hL3 hQL HLe EL BL hlt hk hnew hc hcb H OL hb8 a2 a3 h0 h8 hLM a1 cellw
      obtain ⟨M, hM⟩ : ∃ M, K = M + 1 := ⟨K - 1, by omega⟩
      have t1 : IntKind.i64.wrap ((K : Int) - 1) = (M : Int) := by rw [show (K : Int) - 1 = (M : Int) by omega]; exact i64_nat _ (by omega)
      have t2 : (0 : Int) <= (M : Int) := by omega
      have t3 : (M : Int) < (K : Int) := by omega
      have t4 : ¬ (M : Int) < 0 := by omega
      obtain ⟨b9, o9, e9, _, hx9⟩ := ed_at O3.out.ra (by rw [hK]; omega)
      cases e9
      have hx9 := hx9 M (by rw [hK]; omega)
      have eM : (L.getD M default) = ⟨(Q : Int), z3⟩ := hE3.out M hM
      rw [eM] at hx9
      simp only [Nat.zero_add] at hx9
      obtain ⟨_, x0, x1, _⟩ := hx9
      have x2 : wr.frozen? ⟨g, M * 2 + 1, none⟩ = false := OwnA.free O3.out (M * 2 + 1)
      obtain ⟨C0, Cs, Cz, n1, n2, n3, n4, n5⟩ := put_nums (k := F) hz3.out hby.out hF8.out hd.out
      have hY3 := sb_wd (k := F) hz3.out hby.out hF8.out
      have HS : Hid (OwnA edE w.heap.size (wr.setCell ⟨g, M * 2 + 1, none⟩ (.int .u64 (sb z3 F cb))) (.slice (some ⟨g, 0, none⟩) K c3) (L.set M ⟨(Q : Int), sb z3 F cb⟩)) := jz (OwnA.setCell (E := edE) (k := M) (j := 1) O3.out (by rw [hK]; omega) (by decide) (Ed.wf_of (by simp only; omega) (by have := HQ.out; simp only; omega) hY3.1 (by have := hY3.2; simp only; omega)) (by rw [eM]; rfl))
      have HB3 : Hid (Below w.heap.size w (wr.setCell ⟨g, M * 2 + 1, none⟩ (.int .u64 (sb z3 F cb)))) := jz (B3.out.setCell (p := ⟨g, M * 2 + 1, none⟩) (O3.out.lt _ rfl).1 _)
      have HI : Hid (IsE wl o (k + 1) (fun k => bl.getD k 0) (L.set M ⟨(Q : Int), sb z3 F cb⟩)) := jz (HI0.out M hM)
      clear eM hY3
      obtain ⟨y, hy⟩ : ∃ y, sb z3 F cb = y := ⟨_, rfl⟩
      rw [hy] at n5 HS HB3 HI
      have hKM := jz (And.intro hK hM)
      clear hy hK hM
      go_wp2
      go_roundw
      case rel => exact ⟨k + 1, _, by have := HK.out; omega, by go_num, rfl, jz ⟨⟨_, HS.out, HI.out⟩, HB3.out⟩⟩
      case measure => have := HK.out; simp [intOf]; omega
  . obtain rfl : k = n := by omega
    obtain ⟨⟨L, OL, EL⟩, BL⟩ := H.out
    have HR := jz (And.intro OL (And.intro EL BL))
    clear OL EL BL H
    go_wp2
    go_ret2
    exact ⟨⟨_, L, rfl, HR.out.1, HR.out.2.1⟩, HR.out.2.2⟩
theorem redits_no (o : Int) (bn L c d : Nat) (p q : Option Addr) (ho : -9223372036854775808 <= o /\ o <= 9223372036854775807) (h : ¬ InB L o bn) (hL : L <= 1000) (hbn : bn <= 100000) (w : World) :
 Calls Tryz.prog 94 #[.slice p L c, .int .i64 o, .slice q bn d] w fun e w' => e = .returned (.tuple #[.slice none 0 0, .bool false]) /\ w = w' := by
 have C0 := inside_is o bn L ho (by omega) hL w
 rw [decide_eq_false h] at C0
 have C := jz C0
 clear C0 h hL hbn ho
 go_enter Tryz.func94, Tryz.ntmps94
 go_wp2_with fail
 refine (C.out).mono ?_; rintro e w' ⟨rfl, rfl⟩
 go_wp2_with fail
 go_ret2
 exact ⟨rfl, rfl⟩
def Tells (wl bl : List Int) (o : Int) (L : List Ed) : Prop := if InB wl.length o bl.length then IsE wl o.toNat bl.length (fun k => bl.getD k 0) L else L = []
theorem Tells.one {wl bl : List Int} {o : Int} {L L' : List Ed} (h : Tells wl bl o L) (h' : Tells wl bl o L') : L = L' := by
 unfold Tells at h h'
 split at h
 . rename_i hi
   rw [if_pos hi] at h'
   exact h.one h' fun _ _ => rfl
 . rename_i hi
   rw [if_neg hi] at h'
   rw [h, h']
theorem edits_is (wl bl : List Int) (v u : Value) (o : Int) (w : World) (hv : RU w v wl) (hu : RA byE w u bl) (hw : ∀ x ∈ wl, Wd x) (ho : -9223372036854775808 <= o /\ o <= 9223372036854775807) (hL : wl.length <= 1000) (hbn : bl.length <= 100000) :
 Calls Tryz.prog 171 #[v, .int .i64 o, u] w fun e w' => (∃ x L, e = .returned (.tuple #[x, .bool (decide (InB wl.length o bl.length))]) /\ OwnA edE w.heap.size w' x L /\ Tells wl bl o L) /\ Below w.heap.size w w' := by
 unfold Tells
 by_cases h : InB wl.length o bl.length
 . rw [decide_eq_true h]
   obtain ⟨a, b, rfl, hb, h1, h2⟩ := h.nat
   have eb : bl.length = b := by omega
   refine (edits_yes wl bl v u a w hv hu hw hL (by omega) (by omega)).mono fun e w' ⟨⟨x, L, r1, r2, r3⟩, r4⟩ => ⟨⟨x, L, r1, r2, ?_⟩, r4⟩
   rw [if_pos h, Int.toNat_natCast]
   exact r3
 . rw [decide_eq_false h]
   obtain ⟨p, cap, rfl, _, _, _⟩ := id hv
   obtain ⟨q, d, rfl, _, _⟩ := ra_shape hu
   exact (edits_no o bl.length _ cap d p q ho h hL hbn w).mono fun e w' ⟨h1, h2⟩ => ⟨⟨_, [], h1, own_nil_a _ _ _, by rw [if_neg h]⟩, h2 ▸ Below.refl _ _⟩
theorem redits_is (wl bl : List Int) (v u : Value) (o : Int) (w : World) (hv : RU w v wl) (hu : RA byE w u bl) (hw : ∀ x ∈ wl, Wd x) (ho : -9223372036854775808 <= o /\ o <= 9223372036854775807) (hL : wl.length <= 1000) (hbn : bl.length <= 100000) :
 Calls Tryz.prog 94 #[v, .int .i64 o, u] w fun e w' => (∃ x L, e = .returned (.tuple #[x, .bool (decide (InB wl.length o bl.length))]) /\ OwnA edE w.heap.size w' x L /\ Tells wl bl o L) /\ Below w.heap.size w w' := by
 unfold Tells
 by_cases h : InB wl.length o bl.length
 . rw [decide_eq_true h]
   obtain ⟨a, b, rfl, hb, h1, h2⟩ := h.nat
   have eb : bl.length = b := by omega
   refine (redits_yes wl bl v u a w hv hu hw hL (by omega) (by omega)).mono fun e w' ⟨⟨x, L, r1, r2, r3⟩, r4⟩ => ⟨⟨x, L, r1, r2, ?_⟩, r4⟩
   rw [if_pos h, Int.toNat_natCast]
   exact r3
 . rw [decide_eq_false h]
   obtain ⟨p, cap, rfl, _, _, _⟩ := id hv
   obtain ⟨q, d, rfl, _, _⟩ := ra_shape hu
   exact (redits_no o bl.length _ cap d p q ho h hL hbn w).mono fun e w' ⟨h1, h2⟩ => ⟨⟨_, [], h1, own_nil_a _ _ _, by rw [if_neg h]⟩, h2 ▸ Below.refl _ _⟩
theorem own_nil_e (B : Nat) (w : World) : OwnA edE B w (.slice none 0 0) [] := own_nil_a _ _ _
theorem blk_ld {w : World} {v : Value} {l : List Bk} (h : RA blkE w v l) {d : Nat} (hd : d < l.length) : ∃ b off c, v = .slice (some ⟨b, off, none⟩) l.length c /\ (blkLoad (.pointer (some ⟨b, off + d * 3, none⟩))).run Tryz.prog w = .ok (.agg (bc (l.getD d default))) w ∧
 w.cell? ⟨b, off + d * 3, none⟩ = some (.int .i64 (l.getD d default).a) /\ w.cell? ⟨b, off + d * 3 + 1, none⟩ = some (.int .i64 (l.getD d default).s) := by
 obtain ⟨p, c, rfl, _, _⟩ := ra_shape h
 obtain ⟨b, off, rfl, _, hx⟩ := blk_at h (by omega)
 exact ⟨b, off, c, rfl, (hx d hd).1, (hx d hd).2.1, (hx d hd).2.2.1⟩
theorem wd_ok {wl : List Int} (h : WordsOk wl) : ∀ x ∈ wl, Wd x := fun x hx => by
 obtain ⟨j, hj, rfl⟩ := List.getElem_of_mem hx
 have := h j hj
 rw [List.getD_eq_getElem?_getD, List.getElem?_eq_getElem hj] at this
 exact ⟨this.1, by have := this.2; simp only [Option.getD_some] at this; omega⟩
theorem al_is (wl : List Int) (n : Int) (cs : List Int) (v u : Value) (w : World) (hv : RU w v wl) (hl : wl.length <= 1000) (hw : WordsOk wl) (hu : RI w u cs) :
 Calls Tryz.prog 140 #[v, .int .i64 n, u] w fun e w' => (∃ x, e = .returned (.tuple #[x, .int .i64 (alR wl n cs).2.1, .int .i64 (alR wl n cs).2.2]) /\ OwnA edE w.heap.size w' x (alR wl n cs).1) /\ Below w.heap.size w w' := by
 have C0 := jz (need_is n w)
 unfold alR
 obtain ⟨N, hN⟩ : ∃ N, needN n = N := ⟨_, rfl⟩
 rw [hN] at C0 ⊢
 by_cases h0 : N = 0
 . rw [if_pos h0]
   have e0 : (N == 0) = true := by rw [h0]; rfl
   clear h0 hv hl hw hu hN
   go_enter Tryz.func140, Tryz.ntmps140
   go_wp2_with fail
   refine (C0.out).mono ?_; rintro e w1 ⟨rfl, rfl⟩
   go_wp2
   go_ret3
   exact ⟨⟨_, rfl, own_nil_e _ _⟩, Below.refl _ _⟩
 . rw [if_neg h0]
   have e0 : (N == 0) = false := beq_eq_false_iff_ne.2 h0
   have hN2 : 2 <= N := by
    unfold needN at hN
    split at hN <;> omega
   cases hB : blkF wl with
   | none =>
     have T := jz (blocks_is wl v none w hv hl hw hB)
     clear h0 hv hl hw hu hN hB hN2
     simp only [Option.isSome_none, Option.getD_none] at T ⊢
     go_enter Tryz.func140, Tryz.ntmps140
     go_wp2_with fail
     refine (C0.out).mono ?_; rintro e w1 ⟨rfl, rfl⟩
     go_wp2_with fail
     refine (T.out).mono ?_; rintro e w1 ⟨⟨v1, rfl, _⟩, b1⟩
     go_wp2
     go_ret3
     exact ⟨⟨_, rfl, own_nil_e _ _⟩, b1⟩
   | some l =>
     have T := jz (blocks_is wl v (some l) w hv hl hw hB)
     obtain ⟨hlen, _⟩ := blkF_len hB
     have hm := blkF_some hB
     have HU := jz (fun (w' : World) (hb : Below w.heap.size w w') => ri_below hu hb)
     simp only [Option.isSome_some, Option.getD_some] at T ⊢
     cases hR : chN N cs l with
     | none =>
       have CC := jz (fun (v1 : Value) (w' : World) (h : RA blkE w' v1 l) (hb : Below w.heap.size w w') => choose_is N cs l v1 u none w' h (HU.out w' hb) (by omega) hR)
       simp only [oi] at CC ⊢
       obtain ⟨y, hy⟩ : ∃ y : Int, (-1 : Int) = y := ⟨_, rfl⟩
       have e1 : (y == -1) = true := by rw [<- hy]; rfl
       rw [hy] at CC
       clear h0 hv hl hw hu hN hB hN2 hlen hm hR hy
       go_enter Tryz.func140, Tryz.ntmps140
       go_wp2_with fail
       refine (C0.out).mono ?_; rintro e w1 ⟨rfl, rfl⟩
       go_wp2_with fail
       refine (T.out).mono ?_; rintro e w1 ⟨⟨v1, rfl, o1⟩, b1⟩
       have D1 := jz b1
       have O1 := jz o1.ra
       clear o1 b1 T
       go_wp2_with fail
       refine (CC.out _ _ O1.out D1.out).mono ?_; rintro e w2 ⟨rfl, b2⟩
       have D2 := jz (below_more D1.out b2)
       clear b2 CC
       go_wp2
       go_ret3
       exact ⟨⟨_, rfl, own_nil_e _ _⟩, D2.out⟩
     | some d =>
       have CC := jz (fun (v1 : Value) (w' : World) (h : RA blkE w' v1 l) (hb : Below w.heap.size w w') => choose_is N cs l v1 u (some d) w' h (HU.out w' hb) (by omega) hR)
       obtain ⟨hd, hcan, _, _, _⟩ := chN_can hm hR hN2
       have CE := jz (fun (v1 : Value) (w' : World) (h : RA blkE w' v1 l) => cedits_is l d N v1 w' h (by omega))
       have LD := jz (fun (v1 : Value) (w' : World) (h : RA blkE w' v1 l) => blk_ld h hd)
       simp only [oi] at CC ⊢
       have CO := jz (fun w' => off_is (l.getD d default) (offB (atL l d)) rfl w')
       have e1 : ((d : Int) == -1) = false := beq_eq_false_iff_ne.2 (by omega)
       have i0 : (d : Int) < (l.length : Int) := by omega
       have i1 : ¬ (d : Int) < 0 := by omega
       have i2 : (0 : Int) <= (d : Int) := by omega
       have HB0 : Hid (w.heap.size <= w.heap.size) := jz (Nat.le_refl _)
       generalize offB (atL l d) = x at *
       generalize cedF l d N = E at *
       clear h0 hv hl hw hu hN hB hN2 hlen hm hR hd hcan
       go_enter Tryz.func140, Tryz.ntmps140
       go_wp2_with fail
       refine (C0.out).mono ?_; rintro e w1 ⟨rfl, rfl⟩
       go_wp2_with fail
       refine (T.out).mono ?_; rintro e w1 ⟨⟨v1, rfl, o1⟩, b1⟩
       have D1 := jz b1
       have O1 := jz o1.ra
       clear o1 b1 T
       go_wp2_with fail
       refine (CC.out _ _ O1.out D1.out).mono ?_; rintro e w2 ⟨rfl, b2⟩
       have D2 := jz (below_more D1.out b2)
       have O2 := jz (ra_below O1.out b2)
       obtain ⟨b, off, c1, rfl, _, _⟩ := LD.out _ _ O2.out
       have ld : ∀ w', Below w2.heap.size w2 w' -> (blkLoad (.pointer (some ⟨b, off + d * 3, none⟩))).run Tryz.prog w' = .ok (.agg (bc (l.getD d default))) w' := fun w' hb => by
        obtain ⟨_, _, _, e, hx, _⟩ := LD.out _ _ (ra_below O2.out hb)
        cases e
        exact hx
       have HO2 := jz (fun w' (hb : Below w2.heap.size w2 w') => ra_below O2.out hb)
       clear b2 CC LD O1 O2
       generalize l.getD d default = X at *
       generalize l.length = L at *
       go_wp2_with fail
       go_region_held3 (fun w' => Below w2.heap.size w2 w')
        (first | assumption | exact (Below.refl _ _).drew | exact below_more ‹Below w2.heap.size w2 _› hby | exact below_more ‹Below w2.heap.size w2 _› hbq)
        (first
          | (go_at_call 158; refine (CE.out _ _ (HO2.out _ (by assumption))).mono ?_; rintro e wy ⟨⟨ue, rfl, oe⟩, hby⟩
             have OE := jz oe
             clear oe)
          | (go_at_call 159; refine (CO.out _).mono ?_; rintro e wq ⟨rfl, hbq⟩))
       go_wp2
       go_ret3
       exact ⟨⟨_, rfl, (OE.out.below hbq).mono (show w.heap.size <= w2.heap.size from D2.out.size)⟩, below_more D2.out (by assumption)⟩
theorem fr_is (wl : List Int) (o : Int) (v : Value) (w : World) (hv : RU w v wl) (hl : wl.length <= 1000) (hw : WordsOk wl) :
 Calls Tryz.prog 142 #[v, .int .i64 o] w fun e w' => (∃ x, e = .returned (.tuple #[x, .int .i64 (frR wl o).2]) /\ OwnA edE w.heap.size w' x (frR wl o).1) /\ Below w.heap.size w w' := by
 unfold frR
 cases hB : blkF wl with
 | none =>
   have T := jz (blocks_is wl v none w hv hl hw hB)
   clear hv hl hw hB
   simp only [Option.isSome_none, Option.getD_none] at T ⊢
   go_enter Tryz.func142, Tryz.ntmps142
   go_wp2_with fail
   refine (T.out).mono ?_; rintro e w1 ⟨⟨v1, rfl, _⟩, b1⟩
   go_wp2
   go_ret2
   exact ⟨⟨_, rfl, own_nil_e _ _⟩, b1⟩
 | some l =>
   have T := jz (blocks_is wl v (some l) w hv hl hw hB)
   obtain ⟨hlen, _⟩ := blkF_len hB
   simp only [Option.isSome_some, Option.getD_some] at T ⊢
   cases hR : isN o l with
   | none =>
     have CU := jz (fun (v1 : Value) (w' : World) (h : RA blkE w' v1 l) => used_is o l v1 none w' h hR)
     have CM := jz (fun (v1 : Value) (w' : World) (h : RA blkE w' v1 l) => medit_is l (-1) v1 w' h (by omega) false (canM_neg l))
     rw [medF_no (canM_neg l)] at CM
     simp only [oi] at CU ⊢
     obtain ⟨y, hy⟩ : ∃ y : Int, (-1 : Int) = y := ⟨_, rfl⟩
     rw [hy] at CU CM
     clear hv hl hw hB hlen hR hy
     go_enter Tryz.func142, Tryz.ntmps142
     go_wp2_with fail
     refine (T.out).mono ?_; rintro e w1 ⟨⟨v1, rfl, o1⟩, b1⟩
     have D1 := jz b1
     have O1 := jz o1.ra
     clear o1 b1 T
     go_wp2_with fail
     refine (CU.out _ _ O1.out).mono ?_; rintro e w2 ⟨rfl, b2⟩
     have D2 := jz (below_more D1.out b2)
     have O2 := jz (ra_below O1.out b2)
     clear b2 CU
     go_wp2_with fail
     refine (CM.out _ _ O2.out).mono ?_; rintro e w3 ⟨rfl, b3⟩
     have D3 := jz (below_more D2.out b3)
     clear b3 CM
     obtain ⟨W, hW, HW⟩ := ed_boxed w3 ⟨0, 0⟩
     have D4 := jz (below_more D3.out HW.out.2)
     go_wp2
     go_ret2
     exact ⟨⟨_, rfl, own_nil_e _ _⟩, D4.out⟩
   | some k =>
     have CU := jz (fun (v1 : Value) (w' : World) (h : RA blkE w' v1 l) => used_is o l v1 (some k) w' h hR)
     have hcan := isN_can hB hR
     have CM := jz (fun (v1 : Value) (w' : World) (h : RA blkE w' v1 l) => medit_is l k v1 w' h (by omega) true hcan)
     have hwf : Hid (medF l k).Wf := jz (by
      rw [medF_yes hcan]
      obtain ⟨g1, g2, g3⟩ := one_in (blkF_some hB) hcan
      obtain ⟨_, h5, _⟩ := (mayL_yes.1 (blkF_some hB)).1
      have := hdB_in (oneB l k).s false
      obtain ⟨g4, _⟩ := g1
      exact Ed.wf_of (by simp only; omega) (by simp only; omega) this.1 this.2)
     simp only [oi] at CU ⊢
     generalize medF l k = E at *
     clear hv hl hw hB hlen hR hcan
     go_enter Tryz.func142, Tryz.ntmps142
     go_wp2_with fail
     refine (T.out).mono ?_; rintro e w1 ⟨⟨v1, rfl, o1⟩, b1⟩
     have D1 := jz b1
     have O1 := jz o1.ra
     clear o1 b1 T
     go_wp2_with fail
     refine (CU.out _ _ O1.out).mono ?_; rintro e w2 ⟨rfl, b2⟩
     have D2 := jz (below_more D1.out b2)
     have O2 := jz (ra_below O1.out b2)
     clear b2 CU
     go_wp2_with fail
     refine (CM.out _ _ O2.out).mono ?_; rintro e w3 ⟨rfl, b3⟩
     have D3 := jz (below_more D2.out b3)
     clear b3 CM
     obtain ⟨W, hW, HW⟩ := ed_boxed w3 E
     have D4 := jz (below_more D3.out HW.out.2)
     have ld := HW.out.1.load
     obtain ⟨V, hV⟩ : ∃ V, W.alloc (.cells (ec E) 105) = V := ⟨_, rfl⟩
     have HV : Hid (OwnA edE W.heap.size V (.slice (some ⟨W.heap.size, 0, none⟩) 1 1) [E] /\ Below W.heap.size W V) := jz ⟨by rw [<- hV]; exact ed_one W hwf.out, by rw [<- hV]; exact bal (Below.refl _ _)⟩
     go_wp2
     go_ret2
     exact ⟨⟨_, rfl, HV.out.1.mono (Nat.le_trans D3.out.size HW.out.2.size)⟩, below_more D4.out HV.out.2⟩
def rdR (wl : List Int) (o n : Int) : List Int := if refF wl o n = 0 then rdL wl o n else []
def WrT (wl bl : List Int) (o : Int) (L : List Ed) : Prop := if refF wl o bl.length = 0 then Tells wl bl o L else L = []
theorem WrT.one {wl bl : List Int} {o : Int} {L L' : List Ed} (h : WrT wl bl o L) (h' : WrT wl bl o L') : L = L' := by
 unfold WrT at h h'
 split at h
 . rename_i c
   rw [if_pos c] at h'
   exact h.one h'
 . rename_i c
   rw [if_neg c] at h'
   rw [h, h']
theorem own_nil_by (B : Nat) (w : World) : OwnA byE B w (.slice none 0 0) [] := own_nil_a _ _ _
theorem rd_is (wl : List Int) (o n : Int) (v : Value) (w : World) (hv : RU w v wl) (hl : wl.length <= 1000) (hw : WordsOk wl) (hn : -9223372036854775808 <= n /\ n <= 9223372036854775807) :
 Calls Tryz.prog 113 #[v, .int .i64 o, .int .i64 n] w fun e w' => (∃ x, e = .returned (.tuple #[x, .int .i64 (refF wl o n)]) /\ OwnA byE w.heap.size w' x (rdR wl o n)) /\ Below w.heap.size w w' := by
 have C := jz (ref_is wl o n v w hv hl hw)
 have CR := jz (fun (w' : World) (hb : Below w.heap.size w w') => read_is wl v o n w' (ru_below hv hb) (wd_ok hw) hn hl)
 unfold rdR
 obtain ⟨r, hr⟩ : ∃ r, refF wl o n = r := ⟨_, rfl⟩
 rw [hr] at C ⊢
 clear hv hl hw hn
 by_cases h0 : r = 0
 . rw [if_pos h0]
   subst h0
   generalize rdL wl o n = B at *
   go_enter Tryz.func113, Tryz.ntmps113
   go_wp2_with fail
   refine (C.out).mono ?_; rintro e w1 ⟨rfl, b1⟩
   have D1 := jz b1
   clear b1 C
   go_wp2_with fail
   refine (CR.out _ D1.out).mono ?_; rintro e w2 ⟨⟨x, rfl, ox⟩, b2⟩
   have D2 := jz (below_more D1.out b2)
   have OX := jz (ox.mono D1.out.size)
   clear b2 CR ox
   go_wp2
   go_ret2
   exact ⟨⟨_, rfl, OX.out⟩, D2.out⟩
 . rw [if_neg h0]
   have e0 : (r != 0) = true := bne_iff_ne.2 h0
   have e1 : (r == 0) = false := beq_eq_false_iff_ne.2 h0
   clear h0
   go_enter Tryz.func113, Tryz.ntmps113
   go_wp2_with fail
   refine (C.out).mono ?_; rintro e w1 ⟨rfl, b1⟩
   go_wp2
   go_ret2
   exact ⟨⟨_, rfl, own_nil_by _ _⟩, b1⟩
theorem wr_is (wl bl : List Int) (o : Int) (v u : Value) (w : World) (hv : RU w v wl) (hu : RA byE w u bl) (hl : wl.length <= 1000) (hbl : bl.length <= 100000) (hw : WordsOk wl) (ho : -9223372036854775808 <= o /\ o <= 9223372036854775807) :
 Calls Tryz.prog 145 #[v, .int .i64 o, u] w fun e w' => (∃ x L, e = .returned (.tuple #[x, .int .i64 (refF wl o bl.length)]) /\ OwnA edE w.heap.size w' x L /\ WrT wl bl o L) /\ Below w.heap.size w w' := by
 have C := jz (ref_is wl o bl.length v w hv hl hw)
 have CR := jz (fun (w' : World) (hb : Below w.heap.size w w') => edits_is wl bl v u o w' (ru_below hv hb) (ra_below hu hb) (wd_ok hw) ho hl hbl)
 have HT : Hid ((∀ X, refF wl o bl.length = 0 -> Tells wl bl o X -> WrT wl bl o X) /\ (refF wl o bl.length ≠ 0 -> WrT wl bl o [])) := jz ⟨fun X h0 h => by unfold WrT; rw [if_pos h0]; exact h, fun h0 => by unfold WrT; rw [if_neg h0]⟩
 obtain ⟨r, hr⟩ : ∃ r, refF wl o bl.length = r := ⟨_, rfl⟩
 rw [hr] at C HT ⊢
 obtain ⟨p, c, rfl, _, _⟩ := ra_shape hu
 clear hv hl hw ho hu hbl
 generalize bl.length = L at *
 by_cases h0 : r = 0
 . have HT1 := jz (fun X => HT.out.1 X h0)
   clear HT
   subst h0
   go_enter Tryz.func145, Tryz.ntmps145
   go_wp2_with fail
   refine (C.out).mono ?_; rintro e w1 ⟨rfl, b1⟩
   have D1 := jz b1
   clear b1 C
   go_wp2_with fail
   refine (CR.out _ D1.out).mono ?_; rintro e w2 ⟨⟨x, X, rfl, ox, tx⟩, b2⟩
   have D2 := jz (below_more D1.out b2)
   have OX := jz (And.intro (ox.mono D1.out.size) tx)
   clear b2 CR ox tx
   go_wp2
   go_ret2
   exact ⟨⟨_, X, rfl, OX.out.1, HT1.out X OX.out.2⟩, D2.out⟩
 . have HT1 := jz (HT.out.2 h0)
   clear HT
   have e0 : (r != 0) = true := bne_iff_ne.2 h0
   have e1 : (r == 0) = false := beq_eq_false_iff_ne.2 h0
   clear h0 CR
   go_enter Tryz.func145, Tryz.ntmps145
   go_wp2_with fail
   refine (C.out).mono ?_; rintro e w1 ⟨rfl, b1⟩
   go_wp2
   go_ret2
   exact ⟨⟨_, [], rfl, own_nil_e _ _, HT1.out⟩, b1⟩
def isB (wl : List Int) (o : Int) : Bool := match blkF wl with
 | none => false
 | some l => (isN o l).isSome
theorem is_is (wl : List Int) (o : Int) (v : Value) (w : World) (hv : RU w v wl) (hl : wl.length <= 1000) (hw : WordsOk wl) :
 Calls Tryz.prog 150 #[v, .int .i64 o] w fun e w' => e = .returned (.bool (isB wl o)) /\ Below w.heap.size w w' := by
 have T := jz (blocks_is wl v (blkF wl) w hv hl hw rfl)
 obtain ⟨R, hR⟩ : ∃ R, isN o ((blkF wl).getD []) = R := ⟨_, rfl⟩
 have hb : isB wl o = (oi R != -1) := by
  unfold isB
  rw [<- hR]
  cases blkF wl with
  | none => rfl
  | some l =>
    simp only [Option.getD_some]
    cases isN o l with
    | none => rfl
    | some k => simp [oi]
 rw [hb]
 have CU := jz (fun (v1 : Value) (w' : World) (h : RA blkE w' v1 ((blkF wl).getD [])) => used_is o _ v1 R w' h hR)
 clear hv hl hw hR hb
 generalize (blkF wl).getD [] = l at *
 generalize (blkF wl).isSome = b at *
 generalize oi R = y at *
 go_enter Tryz.func150, Tryz.ntmps150
 go_wp2_with fail
 refine (T.out).mono ?_; rintro e w1 ⟨⟨v1, rfl, o1⟩, b1⟩
 have D1 := jz b1
 have O1 := jz o1.ra
 clear o1 b1 T
 go_wp2_with fail
 refine (CU.out _ _ O1.out).mono ?_; rintro e w2 ⟨rfl, b2⟩
 have D2 := jz (below_more D1.out b2)
 clear b2 CU
 go_wp2
 go_ret
 exact ⟨rfl, D2.out⟩
def cut (wl : List Int) (b : Bk) : List Int := (wl.drop (b.a.toNat + 1)).take (b.s.toNat - 1)
theorem cut_get (wl : List Int) (b : Bk) (j : Nat) : (cut wl b)[j]? = if j < b.s.toNat - 1 then wl[b.a.toNat + 1 + j]? else none := by
 unfold cut
 rw [List.getElem?_take]
 split
 . rw [List.getElem?_drop]
 . rfl
theorem cut_same {X V : List Int} {b : Bk} (hl : V.length = X.length) (h0 : 0 <= b.a) (h : ∀ j : Nat, b.a < j -> (j : Int) < b.a + b.s -> V.getD j 0 = X.getD j 0) : cut V b = cut X b := by
 refine List.ext_getElem? fun i => ?_
 rw [cut_get, cut_get]
 split
 . have := h (b.a.toNat + 1 + i) (by omega) (by omega)
   rw [List.getD_eq_getElem?_getD, List.getD_eq_getElem?_getD] at this
   by_cases hi : b.a.toNat + 1 + i < X.length
   . rw [List.getElem?_eq_getElem hi, List.getElem?_eq_getElem (by omega)] at this ⊢
     simpa using this
   . rw [List.getElem?_eq_none (by omega), List.getElem?_eq_none (by omega)]
 . rfl
def str8 (L : List Int) : List UInt8 := L.map fun n => UInt8.ofNat n.toNat
def bsR : Value -> Option (DataW Unit × List MemPlace)
 | .agg cs => match cs.toList with
   | [.string s] => some (.lit (.string s.data.toList), [])
   | _ => none
 | _ => none
structure HM (w : World) (b n : Nat) (S : Int -> Option (List Int)) : Prop where
 ex : ∃ D : DataW Unit, w.ownsMap Tryz.prog 3 bsR b n D /\ (∀ x, Maps.has D (.int .i64 x) = (S x).isSome) /\ ∀ x L, S x = some L -> ∀ z, D.atKey (.int .i64 x) z = .lit (.string (str8 L))
section
variable {w w' : World} {b n : Nat} {S : Int -> Option (List Int)}
end
structure RG (w : World) (b r n : Nat) (S : Int -> Option (List Int)) : Prop where
 ex : ∃ (D : DataW Unit) (left : Lit -> Bool) (cnt : Nat), w.ranges Tryz.prog 3 bsR b r n D left cnt /\ (∀ x, Maps.has D (.int .i64 x) = (S x).isSome) /\ ∀ x L, S x = some L -> ∀ z, D.atKey (.int .i64 x) z = .lit (.string (str8 L))
section
variable {w : World} {ops : Array Oper} {rest : List Oper} {o : Oper} {a : Act} {Q : Exit -> Act -> World -> Prop} {b n r cnt : Nat} {D : DataW Unit} {left : Lit -> Bool}
end
theorem lie_apart {n : Int} {l : List Bk} (h : mayL n l = true) {b c : Bk} (hb : b ∈ l) (hc : c ∈ l) (hne : b.a ≠ c.a) : b.a + b.s <= c.a \/ c.a + c.s <= b.a := by
 obtain ⟨i, hi, rfl⟩ := List.getElem_of_mem hb
 obtain ⟨j, hj, rfl⟩ := List.getElem_of_mem hc
 have e1 : l[i] = l.getD i default := by rw [List.getD_eq_getElem?_getD, List.getElem?_eq_getElem hi]; rfl
 have e2 : l[j] = l.getD j default := by rw [List.getD_eq_getElem?_getD, List.getElem?_eq_getElem hj]; rfl
 have hf := (mayL_yes.1 h).2
 rw [e1, e2] at hne ⊢
 rcases Nat.lt_trichotomy i j with c | c | c
 . exact .inl (mayF_apart hf i j c hj)
 . subst c
   exact absurd rfl hne
 . exact .inr (mayF_apart hf j i c hi)
theorem wrote {wl : List Int} {l : List Bk} (hB : blkF wl = some l) (hok : WordsOk wl) {b : Bk} (hb : b ∈ l) {f n : Nat} {c : Nat -> Int} {M : List Ed} (hM : IsE wl (8 * (b.a.toNat + 1) + f) n c M) (hf : f + n <= 8 * (b.s.toNat - 1)) :
 blkF (appF wl M) = some l /\ WordsOk (appF wl M) /\ ∀ x ∈ l, x.a ≠ b.a -> cut (appF wl M) x = cut wl x := by
 have hm := blkF_some hB
 obtain ⟨hn, hF⟩ := mayL_yes.1 hm
 obtain ⟨_, hn5, _⟩ := hn
 obtain ⟨⟨b1, b1'⟩, b2, b3⟩ := mayF_sizes hF b hb
 obtain ⟨v1, v2⟩ := appF_isE hM (wd_ok hok) (by omega)
 have hlen : (appF wl M).length = wl.length := appF_length ..
 have hwd : ∀ {v : List Int} {j : Nat}, (∀ x ∈ v, Wd x) -> j < v.length -> Wd (v.getD j 0) := fun hv hj => by
  rw [List.getD_eq_getElem?_getD, List.getElem?_eq_getElem hj]
  exact hv _ (List.getElem_mem hj)
 have hsame : ∀ j, j < wl.length -> ((j : Int) <= b.a \/ b.a + b.s <= j) -> (appF wl M).getD j 0 = wl.getD j 0 := fun j hj q => by
  refine wd_ext (hwd v1 (by rw [hlen]; exact hj)) (hwd (wd_ok hok) hj) fun k hk => ?_
  have := v2 (8 * j + k) (by omega)
  rw [tgt, if_neg (by omega)] at this
  unfold bAt_ at this
  rwa [show (8 * j + k) / 8 = j by omega, show (8 * j + k) % 8 = k by omega] at this
 refine ⟨blkF_of (by rw [hlen]; exact hm) fun x hx => ?_, fun j hj => ?_, fun x hx hne => ?_⟩
 . obtain ⟨⟨x1, _⟩, x2, x3⟩ := mayF_sizes hF x hx
   rw [hsame _ (by omega) ?_]
   . exact blkF_hd hB x hx
   . by_cases e : x.a = b.a
     . omega
     . rcases lie_apart hm hx hb e with q | q <;> omega
 . have := v1 _ (List.getElem_mem hj)
   rw [List.getD_eq_getElem?_getD, List.getElem?_eq_getElem hj]
   exact ⟨this.1, by have := this.2; simp only [Option.getD_some]; omega⟩
 . obtain ⟨⟨x1, _⟩, x2, x3⟩ := mayF_sizes hF x hx
   refine cut_same hlen x2 fun j j1 j2 => hsame j (by omega) ?_
   rcases lie_apart hm hx hb hne with q | q <;> omega
def tab (n : Nat) (f : Nat -> Value) : Array Value := ((List.range n).map f).toArray
theorem tab_size (n : Nat) (f : Nat -> Value) : (tab n f).size = n := by rw [tab, List.size_toArray, List.length_map, List.length_range]
theorem tab_at (n : Nat) (f : Nat -> Value) (k : Nat) : (tab n f)[k]? = if k < n then some (f k) else none := by
 rw [tab, List.getElem?_toArray, List.getElem?_map]
 by_cases hk : k < n
 . rw [List.getElem?_range hk, if_pos hk]; rfl
 . rw [List.getElem?_eq_none (by rw [List.length_range]; omega), if_neg hk]; rfl
theorem tab_ext {n : Nat} {cs : Array Value} {f : Nat -> Value} (h : ∀ j, cs[j]? = if j < n then some (f j) else none) : cs = tab n f := by
 apply Array.ext_getElem?
 intro j
 rw [h j, tab_at]
theorem Whole.tab1 {w : World} {g n : Nat} {t : TypeId} {f f' : Nat -> Value} (h : Whole w g t (tab n f)) (k : Nat) (v : Value) (hk : k < n) (he : ∀ j, j < n -> f' j = if j = k then v else f j) : Whole (w.setCell ⟨g, k, none⟩ v) g t (tab n f') := by
 have := h.set_ k v
 have e : (tab n f).setIfInBounds k v = tab n f' := tab_ext fun j => by
  rw [Array.getElem?_setIfInBounds, tab_at, tab_size]
  by_cases hj : j < n
  . rw [if_pos hj, if_pos hj, he j hj]
    by_cases e : k = j
    . subst e; simp [hk]
    . rw [if_neg e, if_neg (fun h => e h.symm)]
  . rw [if_neg hj, if_neg hj]
    by_cases e : k = j
    . rw [if_pos e, if_neg (fun hx => hj (e ▸ hx))]
    . rw [if_neg e]
 rw [e] at this
 exact this
theorem Whole.cellAt {w : World} {g n : Nat} {t : TypeId} {f : Nat -> Value} (h : Whole w g t (tab n f)) {k : Nat} (hk : k < n) : w.cell? ⟨g, k, none⟩ = some (f k) := by
 rw [h.at_, tab_at, if_pos hk]
theorem made_tab (z : Array Value) (m : Nat) (f : Nat -> Value) (h : ∀ j, j < m -> z[j % z.size]! = f j) : madeCells z m = tab m f := tab_ext fun j => by
 unfold madeCells
 rw [Array.getElem?_map, Array.getElem?_range]
 by_cases hj : j < m
 . rw [if_pos hj, if_pos hj]; simp only [Option.map_some, h j hj]
 . rw [if_neg hj, if_neg hj]; rfl
structure Ct where
 b : Nat
 n : Nat
 c : Nat -> Nat
 k : Nat -> Nat
def at1 (f : Nat -> Nat) (p x : Nat) : Nat -> Nat := fun q => if q = p then x else f q
def Ct.lag (s : Ct) (p : Nat) : Nat := s.c p - s.k p
def Ct.due (s : Ct) (p : Nat) : Bool := decide (s.b <= s.c p + 1 - s.k p)
def Ct.up (s : Ct) (p : Nat) : Ct := { s with c := at1 s.c p (s.c p + 1) }
def Ct.kept (s : Ct) (p : Nat) : Ct := { s with k := at1 s.k p (s.c p) }
def Ct.note (s : Ct) (p : Nat) : Ct := if s.due p then (s.up p).kept p else s.up p
def Ct.f (s : Ct) (j : Nat) : Value := .int .i64 ((if j % 2 = 0 then s.c (j / 2) else s.k (j / 2) : Nat) : Int)
theorem Ct.f0 (s : Ct) (p : Nat) : s.f (p * 2) = .int .i64 (s.c p : Int) := by
 unfold Ct.f; rw [if_pos (by omega), show p * 2 / 2 = p by omega]
theorem Ct.f1 (s : Ct) (p : Nat) : s.f (p * 2 + 1) = .int .i64 (s.k p : Int) := by
 unfold Ct.f; rw [if_neg (by omega), show (p * 2 + 1) / 2 = p by omega]
structure Ct.Ok (s : Ct) : Prop where
 b : 1 <= s.b
 b2 : s.b <= 100
 n : s.n <= 16
 le : ∀ p, p < s.n -> s.k p <= s.c p
 lag : ∀ p, p < s.n -> s.c p < s.k p + s.b
theorem Ct.Ok.up_kept {s : Ct} (h : s.Ok) {p : Nat} : ((s.up p).kept p).Ok := by
 refine ⟨h.b, h.b2, h.n, fun q hq => ?_, fun q hq => ?_⟩
 . show at1 s.k p (at1 s.c p (s.c p + 1) p) q <= at1 s.c p (s.c p + 1) q
   unfold at1
   by_cases e : q = p
   . subst e; simp
   . rw [if_neg e, if_neg e]; exact h.le q hq
 . show at1 s.c p (s.c p + 1) q < at1 s.k p (at1 s.c p (s.c p + 1) p) q + s.b
   have := h.b
   unfold at1
   by_cases e : q = p
   . subst e; simp; omega
   . rw [if_neg e, if_neg e]; exact h.lag q hq
theorem Ct.Ok.note {s : Ct} (h : s.Ok) {p : Nat} (hp : p < s.n) : (s.note p).Ok := by
 unfold Ct.note
 by_cases d : s.due p = true
 . rw [if_pos d]; exact h.up_kept
 . rw [if_neg d]
   simp only [Ct.due, decide_eq_true_eq] at d
   refine ⟨h.b, h.b2, h.n, fun q hq => ?_, fun q hq => ?_⟩
   . show s.k q <= at1 s.c p (s.c p + 1) q
     unfold at1
     by_cases e : q = p
     . subst e; rw [if_pos rfl]; have := h.le q hq; omega
     . rw [if_neg e]; exact h.le q hq
   . show at1 s.c p (s.c p + 1) q < s.k q + s.b
     unfold at1
     by_cases e : q = p
     . subst e; rw [if_pos rfl]; have := h.le q hq; omega
     . rw [if_neg e]; exact h.lag q hq
structure Cq (w : World) (x g : Nat) (s : Ct) : Prop where
 ne : x ≠ g
 top : Whole w x 146 #[.int .i64 (s.b : Int), .slice (some ⟨g, 0, none⟩) s.n s.n]
 row : Whole w g 148 (tab (s.n * 2) s.f)
theorem Cq.ltx {w : World} {x g : Nat} {s : Ct} (h : Cq w x g s) : x < w.heap.size := h.top.lt
theorem Cq.ltg {w : World} {x g : Nat} {s : Ct} (h : Cq w x g s) : g < w.heap.size := h.row.lt
theorem Cq.of_heap {w w' : World} {x g : Nat} {s : Ct} (h : Cq w x g s) (hx : w'.heap[x]? = w.heap[x]?) (hg : w'.heap[g]? = w.heap[g]?) : Cq w' x g s := ⟨h.ne, hx.trans h.top, hg.trans h.row⟩
theorem Cq.below {w w' : World} {x g : Nat} {s : Ct} (h : Cq w x g s) (hb : Below w.heap.size w w') : Cq w' x g s := h.of_heap (hb.block x h.ltx) (hb.block g h.ltg)
theorem Cq.chg {D : List Nat} {w w' : World} {x g : Nat} {s : Ct} (h : Cq w x g s) (hc : Chg D w w') (hx : x ∉ D) (hg : g ∉ D) : Cq w' x g s := h.of_heap (hc.block x h.ltx hx) (hc.block g h.ltg hg)
theorem Cq.c0 {w : World} {x g : Nat} {s : Ct} (h : Cq w x g s) : w.cell? ⟨x, 0, none⟩ = some (.int .i64 (s.b : Int)) := h.top.at_ 0
theorem Cq.c1 {w : World} {x g : Nat} {s : Ct} (h : Cq w x g s) : w.cell? ⟨x, 1, none⟩ = some (.slice (some ⟨g, 0, none⟩) s.n s.n) := h.top.at_ 1
theorem Cq.p0 {w : World} {x g : Nat} {s : Ct} (h : Cq w x g s) {p : Nat} (hp : p < s.n) : w.cell? ⟨g, p * 2, none⟩ = some (.int .i64 (s.c p : Int)) := by
 rw [h.row.cellAt (k := p * 2) (by omega), s.f0]
theorem Cq.p1 {w : World} {x g : Nat} {s : Ct} (h : Cq w x g s) {p : Nat} (hp : p < s.n) : w.cell? ⟨g, p * 2 + 1, none⟩ = some (.int .i64 (s.k p : Int)) := by
 rw [h.row.cellAt (k := p * 2 + 1) (by omega), s.f1]
theorem Cq.free {w : World} {x g : Nat} {s : Ct} (h : Cq w x g s) (i : Nat) : w.frozen? ⟨g, i, none⟩ = false := h.row.free i
theorem Cq.setc {w : World} {x g : Nat} {s : Ct} (h : Cq w x g s) {p : Nat} (hp : p < s.n) (a : Nat) : Cq (w.setCell ⟨g, p * 2, none⟩ (.int .i64 (a : Int))) x g { s with c := at1 s.c p a } := by
 refine ⟨h.ne, h.top.other (p := ⟨g, p * 2, none⟩) h.ne _, h.row.tab1 (p * 2) _ (by omega) fun j hj => ?_⟩
 by_cases e : j = p * 2
 . subst e; rw [if_pos rfl, Ct.f0]; simp [at1]
 . rw [if_neg e]
   unfold Ct.f
   by_cases o : j % 2 = 0
   . rw [if_pos o, if_pos o]
     show Value.int .i64 ((at1 s.c p a (j / 2) : Nat) : Int) = _
     unfold at1; rw [if_neg (by omega)]
   . rw [if_neg o, if_neg o]
theorem Cq.setk {w : World} {x g : Nat} {s : Ct} (h : Cq w x g s) {p : Nat} (hp : p < s.n) (a : Nat) : Cq (w.setCell ⟨g, p * 2 + 1, none⟩ (.int .i64 (a : Int))) x g { s with k := at1 s.k p a } := by
 refine ⟨h.ne, h.top.other (p := ⟨g, p * 2 + 1, none⟩) h.ne _, h.row.tab1 (p * 2 + 1) _ (by omega) fun j hj => ?_⟩
 by_cases e : j = p * 2 + 1
 . subst e; rw [if_pos rfl, Ct.f1]; simp [at1]
 . rw [if_neg e]
   unfold Ct.f
   by_cases o : j % 2 = 0
   . rw [if_pos o, if_pos o]
   . rw [if_neg o, if_neg o]
     show Value.int .i64 ((at1 s.k p a (j / 2) : Nat) : Int) = _
     unfold at1; rw [if_neg (by omega)]
theorem Cq.up {w : World} {x g : Nat} {s : Ct} (h : Cq w x g s) {p : Nat} (hp : p < s.n) : Cq (w.setCell ⟨g, p * 2, none⟩ (.int .i64 ((s.c p + 1 : Nat) : Int))) x g (s.up p) := h.setc hp _
theorem Cq.kept {w : World} {x g : Nat} {s : Ct} (h : Cq w x g s) {p : Nat} (hp : p < s.n) : Cq (w.setCell ⟨g, p * 2 + 1, none⟩ (.int .i64 (s.c p : Int))) x g (s.kept p) := h.setk hp _
theorem Cq.as {w : World} {x g : Nat} {s s' : Ct} (h : Cq w x g s) (e : s = s') : Cq w x g s' := e ▸ h
def lnR : List Ed -> List Int
 | [] => []
 | e :: r => if 0 <= e.w then e.w / 8 :: lnR r else lnR r
theorem lnR_app : ∀ p q : List Ed, lnR (p ++ q) = lnR p ++ lnR q
 | [], _ => rfl
 | e :: p, q => by
   rw [List.cons_append, lnR, lnR, lnR_app p q]
   split <;> rfl
theorem lnR_take {es : List Ed} {k : Nat} (h : k < es.length) : lnR (es.take (k + 1)) = lnR (es.take k) ++ if 0 <= (es.getD k default).w then [(es.getD k default).w / 8] else [] := by
 rw [List.take_add_one, lnR_app, List.getElem?_eq_getElem h, List.getD_eq_getElem?_getD, List.getElem?_eq_getElem h]
 simp only [Option.toList_some, Option.getD_some, lnR]
theorem lnR_length : ∀ es : List Ed, (lnR es).length <= es.length
 | [] => Nat.le_refl _
 | e :: r => by
   have := lnR_length r
   rw [lnR]
   split <;> simp only [List.length_cons] <;> omega
theorem mem_lnR : ∀ {es : List Ed} {x : Int}, x ∈ lnR es ↔ ∃ e ∈ es, 0 <= e.w /\ x = e.w / 8
 | [], x => by simp [lnR]
 | e :: r, x => by
   rw [lnR]
   by_cases h : 0 <= e.w
   . rw [if_pos h, List.mem_cons, mem_lnR]
     simp only [List.mem_cons, exists_eq_or_imp, h, true_and]
   . rw [if_neg h, mem_lnR]
     simp only [List.mem_cons, exists_eq_or_imp, h, false_and, false_or]
def Up (l : List Int) : Prop := l.Pairwise (· < ·)
structure IsL (es : List Ed) (l : List Int) : Prop where
 up : Up l
 mem : ∀ x, x ∈ l ↔ x ∈ lnR es
theorem compact_up {zs : List Int} (h : zs.Pairwise (· <= ·)) : Up (Lib.compact zs) /\ (∀ x, x ∈ Lib.compact zs ↔ x ∈ zs) /\ (Lib.compact zs).length <= zs.length := by
 have hg : ∀ j, j < zs.length -> zs.toArray[j]! = zs.getD j 0 := fun j hj => by
  rw [getElem!_pos zs.toArray j (by simpa using hj)]
  simp [List.getD_eq_getElem?_getD, hj]
 have hle : ∀ i j, i <= j -> j < zs.length -> zs.getD i 0 <= zs.getD j 0 := fun i j hij hj => by
  by_cases e : i = j
  . subst e; exact Int.le_refl _
  . have := List.pairwise_iff_getElem.1 h i j (by omega) hj (by omega)
    simpa [List.getD_eq_getElem?_getD, hj, show i < zs.length by omega] using this
 refine ⟨?_, fun x => ?_, ?_⟩
 . unfold Up Lib.compact Lib.compactUpTo
   rw [List.pairwise_map, List.pairwise_filter]
   refine List.Pairwise.imp_of_mem ?_ (List.pairwise_lt_range (n := zs.length))
   intro i j hi hj hij _ hkj
   rw [List.mem_range] at hi hj
   simp only [Lib.keeps, decide_eq_true_eq] at hkj
   rcases hkj with hkj | hkj
   . omega
   . rw [hg j hj, hg (j - 1) (by omega)] at hkj
     rw [hg i hi, hg j hj]
     have a := hle i (j - 1) (by omega) (by omega)
     have b := hle (j - 1) j (by omega) hj
     omega
 . unfold Lib.compact Lib.compactUpTo
   rw [List.mem_map]
   constructor
   . rintro ⟨j, hj, rfl⟩
     have hj' := List.mem_range.1 (List.mem_filter.1 hj).1
     rw [hg j hj', List.getD_eq_getElem?_getD, List.getElem?_eq_getElem hj']
     exact List.getElem_mem hj'
   . intro hx
     obtain ⟨j, hj, rfl⟩ := List.getElem_of_mem hx
     have key : ∀ j, j < zs.length -> ∃ a, a ∈ (List.range zs.length).filter (Lib.keeps zs.toArray) /\ zs.toArray[a]! = zs.getD j 0 := by
      intro j
      induction j with
      | zero =>
        intro h0
        exact ⟨0, List.mem_filter.2 ⟨List.mem_range.2 h0, by simp [Lib.keeps]⟩, hg 0 h0⟩
      | succ j ih =>
        intro h0
        by_cases e : zs.getD (j + 1) 0 = zs.getD j 0
        . obtain ⟨a, a1, a2⟩ := ih (by omega)
          exact ⟨a, a1, a2.trans e.symm⟩
        . refine ⟨j + 1, List.mem_filter.2 ⟨List.mem_range.2 h0, ?_⟩, hg _ h0⟩
          simp only [Lib.keeps, decide_eq_true_eq]
          right
          rw [hg _ h0, Nat.add_sub_cancel, hg j (by omega)]
          exact e
     obtain ⟨a, a1, a2⟩ := key j hj
     refine ⟨a, a1, a2.trans ?_⟩
     simp [List.getD_eq_getElem?_getD, hj]
 . unfold Lib.compact Lib.compactUpTo
   rw [List.length_map]
   have := List.length_filter_le (Lib.keeps zs.toArray) (List.range zs.length)
   rw [List.length_range] at this
   exact this
theorem sorted_up (zs : List Int) : (zs.mergeSort fun x y => decide (x <= y)).Pairwise (· <= ·) := by
 have := List.pairwise_mergeSort (le := fun x y : Int => decide (x <= y)) (fun a b c h1 h2 => by simp at *; omega) (fun a b => by simp; omega) zs
 exact this.imp fun h => by simpa using h
theorem lines_are (es : List Ed) : IsL es (Lib.compact ((lnR es).mergeSort fun x y => decide (x <= y))) /\ (Lib.compact ((lnR es).mergeSort fun x y => decide (x <= y))).length <= es.length := by
 obtain ⟨a, b, c⟩ := compact_up (sorted_up (lnR es))
 rw [List.length_mergeSort] at c
 refine ⟨⟨a, fun x => (b x).trans ?_⟩, Nat.le_trans c (lnR_length es)⟩
 exact List.mem_mergeSort
theorem repl_rgh (S : Nat) (a : Int) (d : List Int) {k : Nat} (hk : 19 <= k) : ∀ (n : Nat) (t : List Int) (s : Nv), t.length <= 16 -> (repl S a d n t s).2.rg k = s.rg k
 | 0, _, _, _ => rfl
 | n + 1, t, s, ht => by
   have p : ∀ (i : Int), (s.put i d).rg k = s.rg k := fun i => by rw [Nv.put_rg]
   rw [repl]
   split
   . rename_i hz
     have r : ∀ (z : Nv) (v : Int), (z.set (3 + (zeroT t : Int)) v).rg k = z.rg k := fun z v => z.set_rg _ v (by omega)
     split
     . dsimp only; rw [r, p]
     . split
       . split
         . rw [repl_rgh S a d hk n _ _ (by rw [List.length_set]; exact ht), r, p]
         . dsimp only; rw [r, p]
       . dsimp only; rw [p]
   . rfl
theorem lput_rgh (S P : Nat) (a : Int) (d : List Int) (s : Nv) {k : Nat} (hk : 19 <= k) (hP : P <= 16) : (lput S P a d s).2.rg k = s.rg k := by
 unfold lput
 split
 . split
   . rfl
   . split
     . rw [repl_rgh S a d hk _ _ _ (by rw [Nv.tb_length]; exact hP), Nv.put_rg]
     . dsimp only; rw [Nv.put_rg]
 . rfl
theorem tmove_rgh (n P M : Nat) (s : Nv) {k : Nat} (hk : 19 <= k) (hP : P <= 16) : (tmove n P M s).2.rg k = s.rg k := by
 unfold tmove
 split
 . dsimp only; rw [Nv.set_rg _ _ _ (by omega), lput_rgh _ _ _ _ _ hk hP]
 . exact lput_rgh _ _ _ _ _ hk hP
theorem tput_rgh (n P per p M a : Nat) (d : List Int) (s : Nv) {k : Nat} (hk : 19 <= k) (hP : P <= 16) : (tput n P per p M a d s).2.rg k = s.rg k := by
 unfold tput
 split
 . split
   . rw [lput_rgh _ _ _ _ _ hk hP, tmove_rgh _ _ _ _ hk hP]
   . exact tmove_rgh _ _ _ _ hk hP
 . exact lput_rgh _ _ _ _ _ hk hP
theorem tputs_rgh (n P per : Nat) {k : Nat} (hk : 19 <= k) (hP : P <= 16) : ∀ (l : List (Nat × List Int)) (p : Nat) (s : Nv), (tputs n P per p l s).2.2.rg k = s.rg k
 | [], _, _ => rfl
 | x :: l, p, s => by
   rw [tputs]
   split
   . rw [tputs_rgh n P per hk hP l, tput_rgh _ _ _ _ _ _ _ _ hk hP]
   . exact tput_rgh _ _ _ _ _ _ _ _ hk hP
theorem lfin_rgh (n P per p : Nat) (C : List Hm) (s : Nv) {k : Nat} (hk : 19 <= k) (hP : P <= 16) : (lfin n P per p C s).2.2.rg k = s.rg k := by
 unfold lfin
 split
 . dsimp only; rw [Nv.set_rg _ _ _ (by omega), tputs_rgh n P per hk hP]
 . split
   . exact tputs_rgh n P per hk hP _ _ _
   . exact tputs_rgh n P per hk hP _ _ _
theorem lcom_rgh (n P per p : Nat) (h : List Hm) (s : Nv) {k : Nat} (hk : 19 <= k) (hP : P <= 16) : (lcom n P per p h s).2.2.rg k = s.rg k := by
 unfold lcom
 split
 . split
   . rw [lfin_rgh _ _ _ _ _ _ hk hP, Nv.set_rg _ _ _ (by omega), tputs_rgh n P per hk hP]
   . dsimp only; rw [Nv.set_rg _ _ _ (by omega), tputs_rgh n P per hk hP]
 . exact tputs_rgh n P per hk hP _ _ _
theorem lrec_rgh (n P per p : Nat) (s : Nv) {k : Nat} (hk : 19 <= k) (hP : P <= 16) : (lrec n P per p s).2.2.rg k = s.rg k := by
 unfold lrec
 split
 . rfl
 . exact lfin_rgh _ _ _ _ _ _ hk hP
theorem setk_same {s s' : Nv} {n P k : Nat} {v : Int} (h : s'.rg = upd s.rg k v) (hh : s'.h = s.h) (hk : k = 2 \/ 19 <= k) (hP : P <= 16) : tm s' = tm s /\ lk s' = lk s /\ (∀ b, th s' n P b = th s n P b) /\ s'.tb P = s.tb P /\ s'.rg 0 = s.rg 0 /\ s'.rg 1 = s.rg 1 := by
 have e0 : s'.rg 0 = s.rg 0 := by rw [h, upd_other _ _ (by omega)]
 have e1 : s'.rg 1 = s.rg 1 := by rw [h, upd_other _ _ (by omega)]
 have et : tm s' = tm s := by unfold tm; rw [e0]
 have eb : s'.tb P = s.tb P := by
  refine list_ext (by simp [Nv.tb]) fun i hi => ?_
  rw [Nv.tb_length] at hi
  rw [Nv.tb_getD _ hi, Nv.tb_getD _ hi, h, upd_other _ _ (by omega)]
 exact ⟨et, by unfold lk; rw [e1], fun b => by unfold th thold; rw [et]; exact hold_same eb hh _, eb, e0, e1⟩
theorem LgOk.setk {s s' : Nv} {n P k : Nat} {v : Int} (L : LgOk s n P) (ok : s'.Ok) (hn : s'.n = s.n) (h : s'.rg = upd s.rg k v) (hh : s'.h = s.h) (hk : k = 2 \/ 19 <= k) : LgOk s' n P /\ lk s' = lk s /\ tm s' = tm s /\ ∀ b, view s' n P b = view s n P b := by
 obtain ⟨e1, e2, e3, e4, e5, e6⟩ := setk_same (n := n) h hh hk L.g.pp
 have ef : th s' n P = th s n P := funext e3
 have ec : com s' n P = com s n P := by unfold com; rw [e2, ef]
 exact ⟨⟨L.g.like ok hn e4 e5, L.n17, by rw [e6, e2]; exact L.r1, by rw [e2, ec]; exact L.fo⟩, e2, e1, fun b => by unfold view; rw [ec, ef]⟩
theorem LgOk.set {s : Nv} {n P k : Nat} (L : LgOk s n P) (hk : k = 2 \/ 19 <= k) (v : Int) : LgOk (s.set (k : Int) v) n P /\ lk (s.set (k : Int) v) = lk s /\ tm (s.set (k : Int) v) = tm s /\ (∀ b, view (s.set (k : Int) v) n P b = view s n P b) /\ ((s.set (k : Int) v).rg k = s.rg k \/ (s.set (k : Int) v).rg k = v) /\ ∀ j : Nat, j ≠ k -> (s.set (k : Int) v).rg j = s.rg j := by
 have ho := L.g.ok.set (k : Int) v
 have hr : (s.set (k : Int) v).rg = upd s.rg k v \/ (s.set (k : Int) v).rg = upd s.rg k (s.rg k) := by
  have e : upd s.rg k (s.rg k) = s.rg := funext fun j => by unfold upd; split <;> simp_all
  rw [e]
  unfold Nv.set
  split
  . split
    . exact .inl (by rw [Int.toNat_natCast]; rfl)
    . exact .inr rfl
  . exact .inr rfl
 rcases hr with h | h
 . obtain ⟨a, b, c, d⟩ := L.setk ho (s.set_n _ _) h (s.set_h _ _) hk
   exact ⟨a, b, c, d, .inr (by rw [h, upd_same]), fun j hj => by rw [h, upd_other _ _ hj]⟩
 . obtain ⟨a, b, c, d⟩ := L.setk ho (s.set_n _ _) h (s.set_h _ _) hk
   exact ⟨a, b, c, d, .inl (by rw [h, upd_same]), fun j hj => by rw [h, upd_other _ _ hj]⟩
theorem Nv.set_ok {s : Nv} {k : Nat} (hk : k < 35) (hd : s.dark = false) (v : Int) : (s.setE (k : Int) = 0 /\ (s.set (k : Int) v).rg k = v /\ (s.set (k : Int) v).dark = false) \/ (s.setE (k : Int) = 2 /\ s.comes = true) := by
 have hR : hasR (k : Int) = true := by simp [hasR]; omega
 have hr : s.rdy (hasR (k : Int)) = 0 := by simp [Nv.rdy, hR, hd]
 unfold Nv.setE Nv.set
 rw [if_pos hr, if_pos hr]
 cases hg : s.goes with
 | true =>
   refine .inr ⟨by simp [Nv.told, hg], ?_⟩
   unfold Nv.goes at hg
   rw [Bool.and_eq_true] at hg
   exact hg.1
 | false =>
   refine .inl ⟨by simp [Nv.told, hg], ?_, ?_⟩
   . rw [if_pos (by simp [Nv.by_, hg])]
     simp [Nv.reg, upd]
   . rw [if_pos (by simp [Nv.by_, hg])]
     simp [Nv.reg, Nv.tick, hd, hg]
def lnO (X : List Int) (i : Nat) : List Int := (X.drop (8 * i)).take 8
theorem lnO_length {X : List Int} {N i : Nat} (h : X.length = 8 * N) (hi : i < N) : (lnO X i).length = 8 := by
 unfold lnO
 rw [List.length_take, List.length_drop]
 omega
theorem lnO_take (X : List Int) (i : Nat) : X.take (8 * (i + 1)) = X.take (8 * i) ++ lnO X i := by
 unfold lnO
 rw [show 8 * (i + 1) = 8 * i + 8 by omega, List.take_add]
theorem lnO_getD {X : List Int} (i : Nat) {j : Nat} (hj : j < 8) : (lnO X i).getD j 0 = X.getD (8 * i + j) 0 := by
 unfold lnO
 simp only [List.getD_eq_getElem?_getD]
 rw [List.getElem?_take_of_lt hj, List.getElem?_drop]
theorem lnO_congr {X Y : List Int} {N i : Nat} (hX : X.length = 8 * N) (hY : Y.length = 8 * N) (hi : i < N) (h : ∀ j, j < 8 -> X.getD (8 * i + j) 0 = Y.getD (8 * i + j) 0) : lnO X i = lnO Y i := by
 refine list_ext (by rw [lnO_length hX hi, lnO_length hY hi]) fun j hj => ?_
 rw [lnO_length hX hi] at hj
 rw [lnO_getD i hj, lnO_getD i hj, h j hj]
structure Has (s : Nv) (N P : Nat) (X : List Int) : Prop where
 len : X.length = 8 * N
 at_ : ∀ i, i < N -> view s (16 + N) P (16 + i) = lnO X i
theorem Has.same {s s' : Nv} {N P : Nat} {X : List Int} (H : Has s N P X) (h : ∀ b, 16 <= b -> b < 16 + N -> view s' (16 + N) P b = view s (16 + N) P b) : Has s' N P X :=
 ⟨H.len, fun i hi => (h _ (by omega) (by omega)).trans (H.at_ i hi)⟩
def hms (X : List Int) (L : List Int) : List Hm := L.map fun i => ⟨16 + i, lnO X i.toNat⟩
theorem hms_length (X : List Int) (L : List Int) : (hms X L).length = L.length := by simp [hms]
structure LnOk (N : Nat) (L : List Int) : Prop where
 up : Up L
 lo : 1 <= L.length
 hi : L.length <= 14
 in_ : ∀ x ∈ L, 0 <= x /\ x < N
theorem LnOk.may {N : Nat} {L : List Int} (h : LnOk N L) (X : List Int) : MayH ((16 + N : Nat) : Int) (hms X L) := by
 refine ⟨by omega, by rw [hms_length]; exact h.lo, by rw [hms_length]; exact h.hi, fun x hx => ?_, ?_⟩
 . obtain ⟨i, hi, rfl⟩ := List.mem_map.1 hx
   have := h.in_ i hi
   dsimp only
   omega
 . have e : (hms X L).map (·.i) = L.map fun i => 16 + i := by simp [hms]
   rw [e]
   have hu : L.Pairwise (· < ·) := h.up
   unfold List.Nodup
   rw [List.pairwise_map]
   exact hu.imp fun {a b} hab => by omega
theorem LnOk.wide {N : Nat} {L X : List Int} (h : LnOk N L) (hX : X.length = 8 * N) : Wide (hms X L) := by
 intro x hx
 obtain ⟨i, hi, rfl⟩ := List.mem_map.1 hx
 have := h.in_ i hi
 exact lnO_length hX (by omega)
theorem has_com {s s' : Nv} {N P : Nat} {X X' L : List Int} (H : Has s N P X) (hX : X'.length = 8 * N) (hL : LnOk N L) (hsame : ∀ i, i < N -> (i : Int) ∉ L -> lnO X' i = lnO X i)
 (h : ∀ b, 16 <= b -> b < 16 + N -> view s' (16 + N) P b = hv (hms X' L) (view s (16 + N) P) b) : Has s' N P X' := by
 refine ⟨hX, fun i hi => ?_⟩
 rw [h _ (by omega) (by omega)]
 rcases hv_cases (hms X' L) (view s (16 + N) P) (16 + i) with ⟨x, hx, e, hv⟩ | ⟨hn, hv⟩
 . obtain ⟨k, hk, rfl⟩ := List.mem_map.1 hx
   have := hL.in_ k hk
   dsimp only at e
   rw [hv]
   dsimp only
   rw [show k.toNat = i by omega]
 . rw [hv, H.at_ i hi, hsame i hi fun q => hn ⟨16 + (i : Int), lnO X' (i : Int).toNat⟩ (List.mem_map.2 ⟨_, q, rfl⟩) (by dsimp only; omega)]
structure EdFit (N : Nat) (E : List Ed) : Prop where
 ne : E ≠ []
 win : ∃ a : Int, 0 <= a /\ ∀ e ∈ E, a <= e.w /\ e.w < a + 100 /\ e.w < 8 * N
theorem up_span : ∀ {L : List Int} {m : Int} {k : Nat}, Up L -> (∀ x ∈ L, m <= x /\ x < m + k) -> L.length <= k
 | [], _, _, _, _ => Nat.zero_le _
 | x :: L, m, 0, _, h => by have := h x (List.mem_cons_self ..); omega
 | x :: L, m, k + 1, hu, h => by
   unfold Up at hu
   rw [List.pairwise_cons] at hu
   have hx := h x (List.mem_cons_self ..)
   have := up_span (L := L) (m := m + 1) (k := k) hu.2 fun y hy => by
    have := hu.1 y hy
    have := h y (List.mem_cons_of_mem _ hy)
    omega
   rw [List.length_cons]
   omega
theorem EdFit.lines {N : Nat} {E : List Ed} {L : List Int} (h : EdFit N E) (hL : IsL E L) : LnOk N L := by
 obtain ⟨a, h0, hw⟩ := h.win
 have hin : ∀ x ∈ L, ∃ e ∈ E, 0 <= e.w /\ x = e.w / 8 := fun x hx => mem_lnR.1 ((hL.mem x).1 hx)
 refine ⟨hL.up, ?_, up_span (m := a / 8) (k := 14) hL.up fun x hx => ?_, fun x hx => ?_⟩
 . obtain ⟨e, E', rfl⟩ : ∃ e E', E = e :: E' := by
    cases hE : E with
    | nil => exact absurd hE h.ne
    | cons e E' => exact ⟨e, E', rfl⟩
   have := hw e (List.mem_cons_self ..)
   have hm : e.w / 8 ∈ L := (hL.mem _).2 (mem_lnR.2 ⟨e, List.mem_cons_self .., by omega, rfl⟩)
   exact List.length_pos_of_mem hm
 . obtain ⟨e, he, e0, rfl⟩ := hin x hx
   have := hw e he
   omega
 . obtain ⟨e, he, e0, rfl⟩ := hin x hx
   have := hw e he
   omega
theorem appF_other : ∀ (E : List Ed) (w : List Int) {j : Nat}, (∀ e ∈ E, e.w ≠ (j : Int)) -> (appF w E).getD j 0 = w.getD j 0
 | [], _, _, _ => rfl
 | e :: r, w, j, h => by
   rw [appF, appF_other r _ fun x hx => h x (List.mem_cons_of_mem _ hx)]
   have := h e (List.mem_cons_self ..)
   split
   . simp only [List.getD_eq_getElem?_getD]
     rw [List.getElem?_set_ne (by omega)]
   . rfl
theorem appF_line {X : List Int} {E : List Ed} {L : List Int} {N i : Nat} (hX : X.length = 8 * N) (hL : IsL E L) (hi : i < N) (hn : (i : Int) ∉ L) : lnO (appF X E) i = lnO X i := by
 refine lnO_congr ((appF_length ..).trans hX) hX hi fun j hj => appF_other E X fun e he q => hn ((hL.mem _).2 (mem_lnR.2 ⟨e, he, by omega, by omega⟩))
theorem rise_w : ∀ (vs : List Int) (a : Int), ∀ e ∈ rise a vs, a <= e.w /\ e.w < a + vs.length
 | [], _, _, h => by cases h
 | v :: r, a, e, h => by
   rw [rise] at h
   rw [List.length_cons]
   rcases List.mem_cons.1 h with rfl | h
   . dsimp only; omega
   . have := rise_w r (a + 1) e h
     omega
theorem ced_fit {l : List Bk} {d N : Nat} {n : Int} (hm : mayL ((8 * N : Nat) : Int) l = true) (hc : canC l d n = true) (hn : n <= 57) : EdFit N (cedF l d n) := by
 obtain ⟨_, h0, h1, _, hne⟩ := canC_yes.1 hc
 obtain ⟨hin, hin2, hin3⟩ := mayF_sizes (mayL_yes.1 hm).2 _ (bAt_mem h0 h1)
 rw [cedF, if_pos hc, edF_prt hne]
 have hl := takV_length hne
 obtain ⟨t1, t2, t3, t4⟩ := takN_some hne
 have ht58 : takN (bAt l d).s n <= 58 := by
  unfold takN
  split
  . split <;> omega
  . omega
 have hlen : (takV (bAt l d) n).length <= 60 /\ 1 <= (takV (bAt l d) n).length /\ (((takV (bAt l d) n).length : Nat) : Int) <= (bAt l d).s := by
  split at hl <;> rename_i q <;> omega
 refine ⟨fun q => ?_, _, hin2, fun e he => ?_⟩
 . have := congrArg List.length q
   rw [rise_length, List.length_nil] at this
   omega
 . have := rise_w _ _ e he
   omega
theorem med_fit {l : List Bk} {k N : Nat} (hm : mayL ((8 * N : Nat) : Int) l = true) (hc : canM l k = true) : EdFit N [medF l k] := by
 obtain ⟨h1, h2, h3⟩ := one_in hm hc
 have := h1.1
 refine ⟨by simp, (oneB l k).a, h2, fun e he => ?_⟩
 rw [List.mem_singleton.1 he, medF_yes hc]
 dsimp only
 omega
theorem isE_fit {w : List Int} {o n N : Nat} {c : Nat -> Int} {M : List Ed} (h : IsE w o n c M) (hn : 0 < n) (hn2 : n <= 448) (ho : o + n <= 8 * (8 * N)) : EdFit N M := by
 have hc : cnt o n = (o + n - 1) / 8 - o / 8 + 1 := by rw [cnt, if_neg (by omega)]
 have hl := h.len
 refine ⟨fun q => by rw [q] at hl; simp at hl; omega, (o / 8 : Nat), by omega, fun e he => ?_⟩
 obtain ⟨j, hj, rfl⟩ := List.getElem_of_mem he
 have := (h.at_ j hj).1
 rw [List.getD_eq_getElem?_getD, List.getElem?_eq_getElem hj] at this
 simp only [Option.getD_some] at this
 omega
def nts (ct : Ct) : List Nat -> Ct
 | [] => ct
 | q :: l => nts (ct.note q) l
def pgs (L : List Int) : List Nat := L.map fun i => i.toNat / 4
theorem pgs_length (L : List Int) : (pgs L).length = L.length := by simp [pgs]
theorem Ct.note_n (ct : Ct) (q : Nat) : (ct.note q).n = ct.n := by unfold Ct.note; split <;> rfl
theorem Ct.note_b (ct : Ct) (q : Nat) : (ct.note q).b = ct.b := by unfold Ct.note; split <;> rfl
theorem Ct.note_c (ct : Ct) (q : Nat) : (ct.note q).c = at1 ct.c q (ct.c q + 1) := by unfold Ct.note; split <;> rfl
theorem nts_n : ∀ (l : List Nat) (ct : Ct), (nts ct l).n = ct.n
 | [], _ => rfl
 | q :: l, ct => by rw [nts, nts_n l, Ct.note_n]
theorem nts_b : ∀ (l : List Nat) (ct : Ct), (nts ct l).b = ct.b
 | [], _ => rfl
 | q :: l, ct => by rw [nts, nts_b l, Ct.note_b]
theorem nts_app : ∀ (l m : List Nat) (ct : Ct), nts ct (l ++ m) = nts (nts ct l) m
 | [], _, _ => rfl
 | q :: l, m, ct => by rw [List.cons_append, nts, nts_app l m, nts]
theorem nts_ok : ∀ (l : List Nat) {ct : Ct}, ct.Ok -> (∀ q ∈ l, q < ct.n) -> (nts ct l).Ok
 | [], _, h, _ => h
 | q :: l, ct, h, hl => nts_ok l (h.note (hl q (List.mem_cons_self ..))) fun x hx => by rw [Ct.note_n]; exact hl x (List.mem_cons_of_mem _ hx)
theorem nts_c : ∀ (l : List Nat) (ct : Ct) (q : Nat), (nts ct l).c q = ct.c q + l.count q
 | [], _, _ => rfl
 | x :: l, ct, q => by
   rw [nts, nts_c l, Ct.note_c, List.count_cons]
   unfold at1
   by_cases e : q = x
   . subst e; simp; omega
   . rw [if_neg e, if_neg (by simpa using fun h => e h.symm)]; omega
theorem nts_le (l : List Nat) (ct : Ct) (q : Nat) : (nts ct l).c q <= ct.c q + l.length := by
 rw [nts_c]
 have := List.count_le_length (l := l) (a := q)
 omega
theorem pgs_lt {N : Nat} {L : List Int} (h : LnOk N L) : ∀ q ∈ pgs L, q < (N + 3) / 4 := by
 intro q hq
 obtain ⟨i, hi, rfl⟩ := List.mem_map.1 hq
 have := h.in_ i hi
 omega

def Hm.cells (c : Hm) : List Value := .int .i64 c.i :: c.l.map uv
def hmc (c : Hm) : Array Value := c.cells.toArray
structure Hm.Wf (c : Hm) : Prop where
 len : c.l.length = 8
 wi : (Lit.int .i64 c.i).wf = true
theorem info_home : (Tryz.prog.info? 174).map (·.size) = some 9 := by kernel_rfl
theorem Hm.cells_length {c : Hm} (h : c.l.length = 8) : c.cells.length = 9 := by simp [Hm.cells, h]
theorem hmc_one (c : Hm) : (hmc c).all (·.oneCell') = true := by
 simp [hmc, Hm.cells, uv, Value.oneCell']
def homeE : Elm Tryz.prog Hm where
 t := 160
 e := 174
 size := 9
 bytes := 72
 z := .agg #[.int .i64 0, .int .u64 0, .int .u64 0, .int .u64 0, .int .u64 0, .int .u64 0, .int .u64 0, .int .u64 0, .int .u64 0]
 enc := Hm.cells
 ok := Hm.Wf
 ht := Tryz.underlying160
 hi := by kernel_rfl
 hzs := rfl
 pos := by decide
 bpos := by decide
 len := fun _ h => Hm.cells_length h.len
 one := fun a _ u hu => by
  rcases List.mem_cons.1 hu with rfl | hu
  . rfl
  . obtain ⟨y, _, rfl⟩ := List.mem_map.1 hu; rfl
theorem Hm.cells_l {c : Hm} (h : c.l.length = 8) {j : Nat} (hj : j < 8) : c.cells[1 + j]? = some (.int .u64 (c.l.getD j 0)) := by
 rw [Nat.add_comm]
 simp [Hm.cells, uv, h, hj]
@[go_sem] theorem hmc_ne (c : Hm) : (hmc c = #[]) = False := by simp [hmc, Hm.cells]
theorem hmc_size {c : Hm} (h : c.l.length = 8) : (hmc c).size = 9 := by simp [hmc, Hm.cells_length h]
def Hv (w : World) (g : Nat) (c : Hm) : Prop := Whole w g 174 (hmc c) /\ c.l.length = 8
theorem Hv.chg {D : List Nat} {w w' : World} {g : Nat} {c : Hm} (h : Hv w g c) (hb : Chg D w w') (hg : g ∉ D) : Hv w' g c := ⟨hb.whole h.1 hg, h.2⟩
theorem Hv.new (w : World) {c : Hm} (h : c.l.length = 8) : Hv (w.alloc (.cells (hmc c) 174)) w.heap.size c := ⟨heap_alloc_last w _, h⟩
theorem Hv.at_ {w : World} {g : Nat} {c : Hm} (h : Hv w g c) (k : Nat) : w.cell? ⟨g, k, none⟩ = c.cells[k]? := by
 rw [h.1.at_]; simp [hmc]
theorem Hv.slot {w : World} {g : Nat} {c : Hm} (h : Hv w g c) : w.cell? ⟨g, 0, none⟩ = some (.int .i64 c.i) := by rw [h.at_]; rfl
theorem Hv.line {w : World} {g : Nat} {c : Hm} (h : Hv w g c) : (lineLoad (.pointer (some ⟨g, 1, none⟩))).run Tryz.prog w = .ok (.agg (lc c.l)) w := by
 unfold lineLoad
 exact run_loadAt_mid (P := Tryz.prog) w g 1 110 (c.l.map uv) _ (fun j v hv => by
  have hj : j < 8 := by
   have := (List.getElem?_eq_some_iff.1 hv).1
   simpa [h.2] using this
  rw [h.at_, Hm.cells_l h.2 hj, <- hv]
  simp [uv, h.2, hj]) Tryz.underlying110 rfl (by rw [info_line]; simp [h.2])
def homeLoad (p : Value) : Sem Value := Instr.loadAt 174 p
def homeStore (p v : Value) : Sem Unit := Instr.storeAt 174 p v
@[go_sem ↓] theorem loadAt_home (p : Value) : Instr.loadAt 174 p = homeLoad p := rfl
@[go_sem ↓] theorem storeAt_home (p v : Value) : Instr.storeAt 174 p v = homeStore p v := rfl
theorem run_homeLoad {w : World} {b o : Nat} {c : Hm} (h : w.rangeAt b o c.cells) (hl : c.l.length = 8) : (homeLoad (.pointer (some ⟨b, o, none⟩))).run Tryz.prog w = .ok (.agg (hmc c)) w :=
 run_loadAt_mid (P := Tryz.prog) w b o 174 c.cells _ h Tryz.underlying174 rfl (by rw [info_home, Hm.cells_length hl])
theorem run_homeStore (w : World) {z : Array Value} (hz : z.size = 9) {c : Hm} (hl : c.l.length = 8) :
 (homeStore (.pointer (some ⟨w.heap.size, 0, none⟩)) (.agg (hmc c))).run Tryz.prog (w.alloc (.cells z 174)) = .ok () (w.alloc (.cells (hmc c) 174)) := by
 unfold homeStore
 simp only [Instr.storeAt, Instr.sureAddr, Sem.run_bind, Sem.run_pure, Result.andThen]
 rw [run_storeVar_row _ _ 174 174 z (hmc c) (heap_alloc_last w _) (by rw [info_home, hmc_size hl]) (by rw [hz, hmc_size hl]) (hmc_one c), World.setRow_alloc_new]
@[go_sem] theorem home_store_new (w : World) (c : Hm) (hl : c.l.length = 8) :
   (homeStore (.pointer (some ⟨w.heap.size, 0, none⟩)) (.agg (hmc c))).run Tryz.prog (w.alloc (.cells #[.int .i64 0, .int .u64 0, .int .u64 0, .int .u64 0, .int .u64 0, .int .u64 0, .int .u64 0, .int .u64 0, .int .u64 0] 174)) = .ok () (w.alloc (.cells (hmc c) 174)) :=
  run_homeStore w rfl hl
theorem home_at {w : World} {p : Option Addr} {n cap : Nat} {l : List Hm} (h : RA homeE w (.slice p n cap) l) (h0 : 0 < l.length) :
 ∃ b off, p = some ⟨b, off, none⟩ /\ b < w.heap.size /\ ∀ k, k < l.length -> (homeLoad (.pointer (some ⟨b, off + k * 9, none⟩))).run Tryz.prog w = .ok (.agg (hmc (l.getD k default))) w /\ w.cell? ⟨b, off + k * 9, none⟩ = some (.int .i64 (l.getD k default).i) ∧
  (lineLoad (.pointer (some ⟨b, off + k * 9 + 1, none⟩))).run Tryz.prog w = .ok (.agg (lc (l.getD k default).l)) w /\ (l.getD k default).Wf := by
 obtain ⟨b, off, e, hb, hr⟩ := ra_at h h0
 refine ⟨b, off, e, hb, fun k hk => ?_⟩
 have hw : (l.getD k default).Wf := (ra_ok h).at_ hk
 have hk2 := hr k hk
 refine ⟨run_homeLoad hk2 hw.len, hk2 0 _ rfl, ?_, hw⟩
 unfold lineLoad
 exact run_loadAt_mid (P := Tryz.prog) w b (off + k * 9 + 1) 110 ((l.getD k default).l.map uv) _ (fun j v hv => by
  have := hk2 (1 + j) v (by rw [Nat.add_comm]; exact hv)
  rw [<- Nat.add_assoc] at this; exact this) Tryz.underlying110 rfl (by rw [info_line, List.length_map, hw.len])
def GoodH (n : Int) (l : List Hm) (k : Nat) : Prop := ∀ i, i < k -> (16 <= (l.getD i default).i /\ (l.getD i default).i < n) /\ ∀ j, j < i -> (l.getD i default).i ≠ (l.getD j default).i
theorem getD_memH {α : Type} [Inhabited α] {l : List α} {k : Nat} (hk : k < l.length) : l.getD k default ∈ l := by
 rw [List.getD_eq_getElem?_getD, List.getElem?_eq_getElem hk]; exact List.getElem_mem hk
theorem mem_getD {α : Type} [Inhabited α] {l : List α} {x : α} (hx : x ∈ l) : ∃ k, k < l.length /\ l.getD k default = x := by
 obtain ⟨k, hk, e⟩ := List.getElem_of_mem hx
 exact ⟨k, hk, by rw [List.getD_eq_getElem?_getD, List.getElem?_eq_getElem hk]; exact e⟩
theorem mayH_good {n : Int} {l : List Hm} : MayH n l ↔ 16 <= n /\ 1 <= l.length /\ l.length <= 14 /\ GoodH n l l.length := by
 constructor
 . intro h
   refine ⟨h.n16, h.lo, h.hi, fun i hi => ⟨h.at_ _ (getD_memH hi), fun j hj e => ?_⟩⟩
   have nd := h.nd
   rw [List.nodup_iff_pairwise_ne, List.pairwise_iff_getElem] at nd
   have := nd j i (by simp; omega) (by simpa using hi) hj
   simp only [List.getElem_map] at this
   rw [List.getD_eq_getElem?_getD, List.getElem?_eq_getElem hi, List.getD_eq_getElem?_getD, List.getElem?_eq_getElem (by omega)] at e
   exact this e.symm
 . rintro ⟨h1, h2, h3, h4⟩
   refine ⟨h1, h2, h3, fun x hx => ?_, ?_⟩
   . obtain ⟨k, hk, rfl⟩ := mem_getD hx
     exact (h4 k hk).1
   . rw [List.nodup_iff_pairwise_ne, List.pairwise_iff_getElem]
     intro i j hi hj hij e
     simp only [List.getElem_map] at e
     simp only [List.length_map] at hi hj
     refine (h4 j hj).2 i hij ?_
     have ei : l.getD i default = l[i] := by rw [List.getD_eq_getElem?_getD, List.getElem?_eq_getElem hi]; rfl
     have ej : l.getD j default = l[j] := by rw [List.getD_eq_getElem?_getD, List.getElem?_eq_getElem hj]; rfl
     rw [ei, ej]; exact e.symm
theorem home_boxed (w : World) {c : Hm} (h : c.l.length = 8) : ∃ W, w.alloc (.cells (hmc c) 174) = W /\ Hid (Hv W w.heap.size c /\ Below w.heap.size w W) :=
 ⟨_, rfl, jz ⟨Hv.new w h, bal (Below.refl _ _)⟩⟩
theorem may_yes (n m : Nat) (w : World) (h : 1 <= n) (h2 : n <= 100000) : Calls Tryz.prog 179 #[.int .i64 n, .int .i64 m] w fun e w' => e = .returned (.bool true) /\ w = w' := by
 have c1 : (1 : Int) <= (n : Int) := by omega
 have c2 : (n : Int) <= 100000 := by omega
 have c3 : (0 : Int) <= (m : Int) := by omega
 go_enter Tryz.func179, Tryz.ntmps179
 go_wp2_with fail
 go_ret
 exact ⟨rfl, rfl⟩
theorem may_no (n m : Int) (w : World) (h : n < 1 \/ 100000 < n \/ m < 0) : Calls Tryz.prog 179 #[.int .i64 n, .int .i64 m] w fun e w' => e = .returned (.bool false) /\ w = w' := by
 by_cases c1 : n < 1
 . have d1 : ¬ 1 <= n := by omega
   clear h
   go_enter Tryz.func179, Tryz.ntmps179
   go_wp2_with fail
   go_ret
   exact ⟨rfl, rfl⟩
 . have d1 : 1 <= n := by omega
   by_cases c2 : 100000 < n
   . have d2 : ¬ n <= 100000 := by omega
     clear h
     go_enter Tryz.func179, Tryz.ntmps179
     go_wp2_with fail
     go_ret
     exact ⟨rfl, rfl⟩
   . have d2 : n <= 100000 := by omega
     have d3 : ¬ 0 <= m := by omega
     clear h
     go_enter Tryz.func179, Tryz.ntmps179
     go_wp2_with fail
     go_ret
     exact ⟨rfl, rfl⟩
theorem gp_yes (n m : Nat) (w : World) (h : 1 <= n) (h2 : n <= 100000) : Calls Tryz.prog 181 #[.int .i64 n, .int .i64 m] w fun e w' => e = .returned (.int .i64 (gN n m)) /\ w = w' := by
 obtain ⟨N, hN⟩ : ∃ N, N = n + 1 := ⟨_, rfl⟩
 obtain ⟨r, hr⟩ : ∃ r, r = m % N := ⟨_, rfl⟩
 obtain ⟨g, hg⟩ : ∃ g, g = gN n m := ⟨_, rfl⟩
 have hg2 : g = n - r := by rw [hg, hr, hN]; rfl
 have hrN : r < N := by rw [hr]; exact Nat.mod_lt _ (by omega)
 have k1 : IntKind.i64.wrap ((n : Int) + 1) = (N : Int) := by rw [show (n : Int) + 1 = (N : Int) by omega]; exact i64_nat _ (by omega)
 have k2 : (m : Int).tmod (N : Int) = (r : Int) := by rw [hr]; exact tmod_nat m N
 have k3 : IntKind.i64.wrap (r : Int) = (r : Int) := i64_nat _ (by omega)
 have k4 : IntKind.i64.wrap ((n : Int) - (r : Int)) = (g : Int) := by rw [show (n : Int) - (r : Int) = (g : Int) by omega]; exact i64_nat _ (by omega)
 have k5 : ¬ N = 0 := by omega
 have k6 : ¬ (N : Int) = 0 := by omega
 rw [<- hg]
 clear hg hg2 hr hrN hN
 go_enter Tryz.func181, Tryz.ntmps181
 go_wp2_with fail
 go_ret
 exact ⟨rfl, rfl⟩
theorem shift_yes (n m : Nat) (w : World) (h : 1 <= n) (h2 : n <= 100000) (hm : m < 9223372036854775808) : Calls Tryz.prog 180 #[.int .i64 n, .int .i64 m] w fun e w' => e = .returned (.int .i64 (sN n m)) /\ w = w' := by
 obtain ⟨N, hN⟩ : ∃ N, N = n + 1 := ⟨_, rfl⟩
 obtain ⟨q, hq⟩ : ∃ q, q = m / N := ⟨_, rfl⟩
 obtain ⟨s, hs⟩ : ∃ s, s = sN n m := ⟨_, rfl⟩
 have hs2 : s = q % n := by rw [hs, hq, hN]; rfl
 have hqm : q <= m := by rw [hq]; exact Nat.div_le_self _ _
 have hsn : s < n := by rw [hs]; exact sN_lt (by omega) m
 have k1 : IntKind.i64.wrap ((n : Int) + 1) = (N : Int) := by rw [show (n : Int) + 1 = (N : Int) by omega]; exact i64_nat _ (by omega)
 have k2 : (m : Int).tdiv (N : Int) = (q : Int) := by rw [hq]; exact tdiv_nat m N
 have k3 : IntKind.i64.wrap (q : Int) = (q : Int) := i64_nat _ (by omega)
 have k4 : (q : Int).tmod (n : Int) = (s : Int) := by rw [hs2]; exact tmod_nat q n
 have k5 : IntKind.i64.wrap (s : Int) = (s : Int) := i64_nat _ (by omega)
 have k6 : ¬ N = 0 := by omega
 have k7 : ¬ (N : Int) = 0 := by omega
 have k8 : ¬ n = 0 := by omega
 have k9 : ¬ (n : Int) = 0 := by omega
 rw [<- hs]
 clear hs hs2 hq hqm hN
 go_enter Tryz.func180, Tryz.ntmps180
 go_wp2_with fail
 go_ret
 exact ⟨rfl, rfl⟩
theorem move_yes (n m : Nat) (w : World) (h : 1 <= n) (h2 : n <= 100000) : Calls Tryz.prog 182 #[.int .i64 n, .int .i64 m] w fun e w' => e = .returned (.tuple #[.int .i64 (frN n m), .int .i64 (gN n m)]) /\ w = w' := by
 have C1 := jz fun w => may_yes n m w h h2
 have C2 := jz fun w => gp_yes n m w h h2
 have hgn := gN_le n m
 by_cases h0 : gN n m = 0
 . have e : frN n m = n := if_pos h0
   rw [h0] at C2
   rw [e, h0]
   clear e hgn
   go_enter Tryz.func182, Tryz.ntmps182
   go_wp2_with fail
   refine (C1.out _).mono ?_; rintro e w' ⟨rfl, rfl⟩
   go_wp2_with fail
   refine (C2.out _).mono ?_; rintro e w' ⟨rfl, rfl⟩
   go_wp2_with fail
   go_ret2
   exact ⟨rfl, rfl⟩
 . obtain ⟨f, hf⟩ : ∃ f, frN n m = f := ⟨_, rfl⟩
   have e : f = gN n m - 1 := by rw [<- hf]; exact if_neg h0
   rw [hf]
   generalize gN n m = g at *
   have k1 : IntKind.i64.wrap ((g : Int) - 1) = (f : Int) := by rw [show (g : Int) - 1 = (f : Int) by omega]; exact i64_nat _ (by omega)
   clear e hf hgn
   go_enter Tryz.func182, Tryz.ntmps182
   go_wp2_with fail
   refine (C1.out _).mono ?_; rintro e w' ⟨rfl, rfl⟩
   go_wp2_with fail
   refine (C2.out _).mono ?_; rintro e w' ⟨rfl, rfl⟩
   go_wp2_with fail
   go_ret2
   exact ⟨rfl, rfl⟩
theorem slot_yes (n m l : Nat) (w : World) (h2 : n <= 100000) (hm : m < 9223372036854775808) (hl : l < n) : Calls Tryz.prog 153 #[.int .i64 n, .int .i64 m, .int .i64 l] w fun e w' => e = .returned (.int .i64 (slN n m l)) /\ w = w' := by
 have C1 := jz fun w => may_yes n m w (by omega) h2
 have C2 := jz fun w => shift_yes n m w (by omega) h2 hm
 have C3 := jz fun w => gp_yes n m w (by omega) h2
 have hs := sN_lt (n := n) (by omega) m
 obtain ⟨p, hp⟩ : ∃ p, p = (l + sN n m) % n := ⟨_, rfl⟩
 have hpn : p < n := by rw [hp]; exact Nat.mod_lt _ (by omega)
 have e : slN n m l = if p < gN n m then p else p + 1 := by rw [hp]; rfl
 obtain ⟨t, ht⟩ : ∃ t, t = l + sN n m := ⟨_, rfl⟩
 rw [<- ht] at hp
 generalize sN n m = s at *
 generalize gN n m = g at *
 obtain ⟨r, hr⟩ : ∃ r, slN n m l = r := ⟨_, rfl⟩
 rw [hr] at e
 rw [hr]
 clear hr
 have k0 : ¬ (l : Int) < 0 := by omega
 have k1 : ¬ (n : Int) <= (l : Int) := by omega
 have k2 : IntKind.i64.wrap ((l : Int) + (s : Int)) = (t : Int) := by rw [show (l : Int) + (s : Int) = (t : Int) by omega]; exact i64_nat _ (by omega)
 have k3 : (t : Int).tmod (n : Int) = (p : Int) := by rw [hp]; exact tmod_nat t n
 have k4 : IntKind.i64.wrap (p : Int) = (p : Int) := i64_nat _ (by omega)
 have k5 : ¬ n = 0 := by omega
 have k6 : ¬ (n : Int) = 0 := by omega
 by_cases c : p < g
 . rw [if_pos c] at e
   have k7 : (p : Int) < (g : Int) := by omega
   subst e
   clear hp ht hs
   go_enter Tryz.func153, Tryz.ntmps153
   go_wp2_with fail
   refine (C1.out _).mono ?_; rintro e w' ⟨rfl, rfl⟩
   go_wp2_with fail
   refine (C2.out _).mono ?_; rintro e w' ⟨rfl, rfl⟩
   go_wp2_with fail
   refine (C3.out _).mono ?_; rintro e w' ⟨rfl, rfl⟩
   go_wp2_with fail
   go_ret
   exact ⟨rfl, rfl⟩
 . rw [if_neg c] at e
   have k7 : ¬ (p : Int) < (g : Int) := by omega
   have k8 : IntKind.i64.wrap ((p : Int) + 1) = (r : Int) := by rw [show (p : Int) + 1 = (r : Int) by omega]; exact i64_nat _ (by omega)
   clear hp ht hs e
   go_enter Tryz.func153, Tryz.ntmps153
   go_wp2_with fail
   refine (C1.out _).mono ?_; rintro e w' ⟨rfl, rfl⟩
   go_wp2_with fail
   refine (C2.out _).mono ?_; rintro e w' ⟨rfl, rfl⟩
   go_wp2_with fail
   refine (C3.out _).mono ?_; rintro e w' ⟨rfl, rfl⟩
   go_wp2_with fail
   go_ret
   exact ⟨rfl, rfl⟩
def Tq (w : World) (x g q n per p : Nat) : Prop := Whole w x 141 #[.pointer (some ⟨g, 0, none⟩), .pointer (some ⟨q, 0, none⟩), .int .i64 (n : Int), .int .i64 (per : Int), .int .i64 (p : Int)]
theorem Tq.lt {w : World} {x g q n per p : Nat} (h : Tq w x g q n per p) : x < w.heap.size := Whole.lt h
theorem Tq.below {w w' : World} {x g q n per p : Nat} (h : Tq w x g q n per p) (hb : Below w.heap.size w w') : Tq w' x g q n per p := (hb.block x h.lt).trans h
theorem Tq.chg {D : List Nat} {w w' : World} {x g q n per p : Nat} (h : Tq w x g q n per p) (hc : Chg D w w') (hq : x ∉ D) : Tq w' x g q n per p := hc.whole h hq
theorem Tq.alloc {w : World} {x g q n per p : Nat} (h : Tq w x g q n per p) (o : Obj) : Tq (w.alloc o) x g q n per p := Whole.alloc h o
theorem Tq.c0 {w : World} {x g q n per p : Nat} (h : Tq w x g q n per p) : w.cell? ⟨x, 0, none⟩ = some (.pointer (some ⟨g, 0, none⟩)) := by rw [Whole.at_ h]; rfl
theorem Tq.c1 {w : World} {x g q n per p : Nat} (h : Tq w x g q n per p) : w.cell? ⟨x, 1, none⟩ = some (.pointer (some ⟨q, 0, none⟩)) := by rw [Whole.at_ h]; rfl
theorem Tq.c2 {w : World} {x g q n per p : Nat} (h : Tq w x g q n per p) : w.cell? ⟨x, 2, none⟩ = some (.int .i64 (n : Int)) := by rw [Whole.at_ h]; rfl
theorem Tq.c3 {w : World} {x g q n per p : Nat} (h : Tq w x g q n per p) : w.cell? ⟨x, 3, none⟩ = some (.int .i64 (per : Int)) := by rw [Whole.at_ h]; rfl
theorem Tq.c4 {w : World} {x g q n per p : Nat} (h : Tq w x g q n per p) : w.cell? ⟨x, 4, none⟩ = some (.int .i64 (p : Int)) := by rw [Whole.at_ h]; rfl
theorem Tq.free {w : World} {x g q n per p : Nat} (h : Tq w x g q n per p) (k : Nat) : w.frozen? ⟨x, k, none⟩ = false := Whole.free h k
theorem Tq.count {w : World} {x g q n per p : Nat} (h : Tq w x g q n per p) (p' : Nat) : Tq (w.setCell ⟨x, 4, none⟩ (.int .i64 (p' : Int))) x g q n per p' := Whole.set_ h 4 _
theorem tmoves_is {x g M : Nat} {s : Nv} {w : World} (h0 : w.cell? ⟨x, 0, none⟩ = some (.pointer (some ⟨g, 0, none⟩))) (hN : Nm w g s) (hd : s.dark = false) (hr : s.rg 0 = (M : Int)) (hm : M < 4611686018427387904) :
 Calls Tryz.prog 125 #[.pointer (some ⟨x, 0, none⟩)] w fun e w' => e = .returned (.tuple #[.int .i64 (M : Int), .int .i64 0]) /\ w = w' := by
 have C := jz (reg_yes g s 0 w hN (by simp [Nv.rdy, hasR, hd]))
 rw [hr] at C
 have k1 : IntKind.i64.wrap (M : Int) = (M : Int) := i64_nat _ (by omega)
 have k2 : min (M : Int) 9223372036854775807 = (M : Int) := by omega
 have k3 : (M : Int) < 9223372036854775807 := by omega
 have k4 : (M : Int) <= 9223372036854775807 := by omega
 clear hN hr hm
 go_enter Tryz.func125, Tryz.ntmps125
 go_wp2_with fail
 refine (C.out).mono ?_; rintro e w' ⟨rfl, rfl⟩
 go_wp2
 go_ret2
 exact ⟨rfl, rfl⟩
theorem tlines_is {x g q n per p : Nat} {w : World} (h : Tq w x g q n per p) : Calls Tryz.prog 120 #[.pointer (some ⟨x, 0, none⟩)] w fun e w' => e = .returned (.int .i64 (n : Int)) /\ w = w' := by
 have c := h.c2
 clear h
 go_enter Tryz.func120, Tryz.ntmps120
 go_wp2_with fail
 go_ret
 exact ⟨rfl, rfl⟩
theorem tready_is {x g q n P per p M a : Nat} {s : Nv} {w : World} (H : TOk s n P M) (h : Tq w x g q n per p) (hN : Nm w g s) (ha : a < n) :
 Calls Tryz.prog 151 #[.pointer (some ⟨x, 0, none⟩), .int .i64 (a : Int)] w fun e w' => e = .returned (.tuple #[.int .i64 (M : Int), .int .i64 0]) /\ w = w' := by
 have C := jz (tlines_is h)
 have D := jz (tmoves_is h.c0 hN H.l.live H.rg H.m)
 have i1 : ¬ (a : Int) < 0 := by omega
 have i2 : ¬ (a : Int) >= (n : Int) := by omega
 clear h hN H ha
 go_enter Tryz.func151, Tryz.ntmps151
 go_wp2_with fail
 refine (C.out).mono ?_; rintro e w' ⟨rfl, rfl⟩
 go_wp2_with fail
 refine (D.out).mono ?_; rintro e w' ⟨rfl, rfl⟩
 go_wp2
 go_ret2
 exact ⟨rfl, rfl⟩
theorem due_is {x g q n per p : Nat} {w : World} (h : Tq w x g q n per p) (hp : p < 4611686018427387904) :
 Calls Tryz.prog 154 #[.pointer (some ⟨x, 0, none⟩)] w fun e w' => e = .returned (.bool (decide (per <= p + 1))) /\ Tq w' x g q n per (tp per p) /\ Chg [x] w w' := by
 have c4 := h.c4
 have f4 := h.free 4
 have k1 : IntKind.i64.wrap ((p : Int) + 1) = ((p + 1 : Nat) : Int) := by rw [show (p : Int) + 1 = ((p + 1 : Nat) : Int) by omega]; exact i64_nat _ (by omega)
 have T1 := h.count (p + 1)
 have C1 := (Chg.refl [x] w).setCell (p := ⟨x, 4, none⟩) (.inl (by simp)) (.int .i64 ((p + 1 : Nat) : Int))
 generalize hP : p + 1 = P1 at *
 obtain ⟨W1, hW1⟩ : ∃ W1, w.setCell ⟨x, 4, none⟩ (.int .i64 (P1 : Int)) = W1 := ⟨_, rfl⟩
 rw [hW1] at T1 C1
 have d4 := T1.c4
 have d3 := T1.c3
 have g4 := T1.free 4
 by_cases hd : per <= P1
 . have ht : tp per p = 0 := if_pos (hP ▸ hd)
   have hdd : decide (per <= P1) = true := decide_eq_true hd
   have i1 : ¬ (P1 : Int) < (per : Int) := by omega
   rw [ht, hdd]
   have T2 := T1.count 0
   have TT := jz T2
   have CC := jz C1
   clear h T1 C1 T2 hd ht hdd hP hp
   go_enter Tryz.func154, Tryz.ntmps154
   go_wp2_with fail
   go_quiet (fail)
   go_wp2
   go_ret
   exact ⟨rfl, TT.out, (CC.out.drewN _).setCell (.inl (List.mem_singleton.2 rfl)) _⟩
 . have ht : tp per p = P1 := (if_neg (hP ▸ hd)).trans hP
   have hdd : decide (per <= P1) = false := decide_eq_false hd
   have i1 : (P1 : Int) < (per : Int) := by omega
   rw [ht, hdd]
   have TT := jz T1
   have CC := jz C1
   clear h T1 C1 hd ht hdd hP hp
   go_enter Tryz.func154, Tryz.ntmps154
   go_wp2_with fail
   go_quiet (fail)
   go_wp2
   go_ret
   exact ⟨rfl, TT.out, CC.out.drewN _⟩
theorem tget_is {x g q n P per p M a : Nat} {y : List Int} {s : Nv} {w : World} (hy : thold s n P M a = y) (H : TOk s n P M) (hn2 : n <= 1000) (ha : a < n) (h : Tq w x g q n per p) (hQ : Lq w q g (n + 1) P) (hN : Nm w g s) :
 Calls Tryz.prog 128 #[.pointer (some ⟨x, 0, none⟩), .int .i64 (a : Int)] w fun e w' => e = .returned (.tuple #[.agg (lc y), .int .i64 0]) /\ Below w.heap.size w w' := by
 have h8 : y.length = 8 := by rw [<- hy]; exact H.l.ok.line _
 have hs1 := slN_lt (n := n) (by omega) M a
 obtain ⟨W, hW, H0⟩ := boxed1 w (a := [0, 0, 0, 0, 0, 0, 0, 0]) rfl
 have T1 := jz (h.below (H0.out.2.mono (Nat.le_refl _)))
 have L1 := jz (hQ.below (H0.out.2.mono (Nat.le_refl _)))
 have N1 := jz (hN.below (H0.out.2.mono (Nat.le_refl _)))
 have C := jz (tready_is H T1.out N1.out ha)
 have GC := jz (fun (w' : World) (hq : Lq w' q g (n + 1) P) (hn : Nm w' g s) => lget_is (x := y) hy H.l hs1 hq hn)
 have SC := jz (slot_yes n M a W.drew (by omega) (by have := H.m; omega) ha)
 have x0 : Hid (x ≠ w.heap.size) := jz (Nat.ne_of_lt h.lt)
 have c1 : ∀ w', Chg [w.heap.size] W w' -> w'.cell? ⟨x, 1, none⟩ = some (.pointer (some ⟨q, 0, none⟩)) := fun w' hc => (T1.out.chg hc (by simpa using x0.out)).c1
 have c2 : ∀ w', Chg [w.heap.size] W w' -> w'.cell? ⟨x, 2, none⟩ = some (.int .i64 (n : Int)) := fun w' hc => (T1.out.chg hc (by simpa using x0.out)).c2
 generalize slN n M a = sl at *
 clear h hQ hN H hy hs1 ha
 go_enter Tryz.func128, Tryz.ntmps128
 go_wp2_with fail
 refine (C.out).mono ?_; rintro e w' ⟨rfl, rfl⟩
 have hbd : Below W.heap.size W W.drew := (Below.refl _ _).drew
 go_wp2
 go_region_held3 (fun w' => Chg [w.heap.size] W w')
  (first | assumption | exact (Chg.refl _ _).drew | exact Chg.setRow (by assumption) (.inl (by simp)) _)
  (first
    | (go_at_call 153; refine (SC.out).mono ?_; rintro e wz ⟨rfl, rfl⟩)
    | (go_at_call 152; refine (GC.out _ (L1.out.below hbd) (N1.out.below hbd)).mono ?_; rintro e wy ⟨rfl, hby⟩
       have GY := (H0.out.1.below (hbd.mono (Nat.le_refl _))).below hby
       have hst := GY.store h8
       have FY := jz (GY.put h8)
       have CY := jz ((Chg.of_below hbd [w.heap.size]).trans (Chg.of_below hby [w.heap.size]))
       clear hby GY))
 have BF := jz ((CY.out.setRow (g := w.heap.size) (.inl (by simp)) (lc y)).below H0.out.2 H0.out.2.size (fun k hk => by rw [List.mem_singleton.1 hk]; exact Nat.le_refl _))
 go_wp2
 exact bodyPost_ret (v := .tuple #[.agg (lc y), .int .i64 0]) (results_cell_tmp rfl _ _ _ _ _ _ _ _ rfl rfl FY.out.1 Tryz.underlying110 rfl (by rw [info_line, lc_size, h8])) rfl ⟨rfl, BF.out⟩
def mvV (M : Nat) (e : Int) : Int := if e = 0 then ((M + 1 : Nat) : Int) else 0
theorem u64_same {a : Int} (h0 : 0 <= a) (h1 : a < 18446744073709551616) : IntKind.u64.wrap a = a := by simp [IntKind.wrap, IntKind.signed, IntKind.bits]; omega
theorem tmove_is {x g q n P per p M : Nat} {R : Int × Nv} {s : Nv} {w : World} (hR : tmove n P M s = R) (H : TOk s n P M) (hn : 0 < n) (hn2 : n <= 1000) (hm : M + 1 < 4611686018427387904) (hqg : q ≠ g) (hxg : x ≠ g) (hc : s.c + 500 < 4611686018427387904)
 (h : Tq w x g q n per p) (hQ : Lq w q g (n + 1) P) (hN : Nm w g s) :
 Calls Tryz.prog 155 #[.pointer (some ⟨x, 0, none⟩), .int .i64 (M : Int)] w fun e w' => e = .returned (.tuple #[.int .i64 (mvV M R.1), .int .i64 R.1]) /\ Nm w' g R.2 /\ Chg [g] w w' := by
 unfold tmove at hR
 obtain ⟨y, hy⟩ : ∃ y, hold s (n + 1) P (frN n M) = y := ⟨_, rfl⟩
 have h8 : y.length = 8 := by rw [<- hy]; exact H.l.ok.line _
 have hfr : frN n M < n + 1 := Nat.lt_succ_of_le (frN_le n M)
 obtain ⟨o, oc⟩ := lput_out (a := gN n M) (d := y) H.l h8 (gN_lt M)
 have r0 := lput_rg (n + 1) P (gN n M : Nat) y s (k := 0) (by decide)
 rw [hy] at hR
 have MC := jz (move_yes n M w hn (by omega))
 have hgp := gN_lt (n := n) M
 have GC := jz (lget_is hy H.l hfr hQ hN)
 generalize frN n M = fr at *
 generalize gN n M = gp at *
 obtain ⟨Q, hQe⟩ : ∃ Q, lput (n + 1) P (gp : Int) y s = Q := ⟨_, rfl⟩
 rw [hQe] at hR o oc r0
 rcases Q with ⟨e1, s1⟩
 dsimp only at hR o oc r0
 have c0 := h.c0
 have c1 := h.c1
 have c2 := h.c2
 have KK : Hid (q ≠ g /\ x ≠ g) := jz ⟨hqg, hxg⟩
 have PC := jz (fun (w' : World) (hl : Lq w' q g (n + 1) P) (hn : Nm w' g s) => lput_is hQe H.l h8 hqg (by omega) hl hn)
 have N0 := jz hN
 have L0 := jz hQ
 have T0 := jz h
 have OO := jz o
 have RR := jz (r0.trans H.rg)
 have HC : Hid (s1.c < 4611686018427387904) := jz (by omega)
 have own := o.own
 clear h hN hQ hQe H hy hfr hgp o r0 oc hqg hxg hc
 go_enter Tryz.func155, Tryz.ntmps155
 go_wp2_with fail
 refine (MC.out).mono ?_; rintro e w' ⟨rfl, rfl⟩
 go_wp2_with fail
 refine (GC.out).mono ?_; rintro e w1 ⟨rfl, hb⟩
 obtain ⟨W, hW, H1⟩ := boxed1 w1 h8
 have HB := jz (below_more hb (H1.out.2.mono (Nat.le_refl _)))
 have N1 := jz (N0.out.below HB.out)
 have L1 := jz (L0.out.below HB.out)
 have T1 := jz (T0.out.below HB.out)
 have hbg : Hid (w1.heap.size ∉ [g]) := jz (by have := N0.out.lt; have := hb.size; simp; omega)
 have l0 : ∀ w', Chg [g] W w' -> (lineLoad (.pointer (some ⟨w1.heap.size, 0, none⟩))).run Tryz.prog w' = .ok (.agg (lc y)) w' := fun w' hc => (hc.ln H1.out.1 hbg.out).load
 have d1 : ∀ w', Chg [g] W w' -> w'.cell? ⟨x, 1, none⟩ = some (.pointer (some ⟨q, 0, none⟩)) := fun w' hc => (T1.out.chg hc (by simpa using KK.out.2)).c1
 have hbd : Below W.heap.size W W.drew := (Below.refl _ _).drew
 clear hb c0 c1 c2
 go_wp2
 go_region_held3 (fun w' => Chg [g] W w')
  (first | assumption | exact (Chg.refl _ _).drew)
  (first
    | (go_at_call 156; refine (PC.out _ (L1.out.below hbd) (N1.out.below hbd)).mono ?_; rintro e wy ⟨rfl, hNy, hCy⟩
       have NY := jz hNy
       have CY := jz ((Chg.of_below hbd [g]).trans hCy)
       clear hNy hCy))
 have CW := jz ((Chg.of_below HB.out [g]).trans CY.out)
 have c0 := (T1.out.chg CY.out (by simpa using KK.out.2)).c0
 have TY := jz (T1.out.chg CY.out (by simpa using KK.out.2))
 clear l0 d1 hbd
 rcases own with ⟨rfl, q1, _⟩ | ⟨rfl, _⟩ | ⟨rfl, _⟩
 . rw [if_pos rfl] at hR
   have k1 : IntKind.u64.wrap (M : Int) = (M : Int) := u64_same (by omega) (by omega)
   have k2 : IntKind.u64.wrap ((M : Int) + 1) = ((M + 1 : Nat) : Int) := by rw [show (M : Int) + 1 = ((M + 1 : Nat) : Int) by omega]; exact u64_same (by omega) (by omega)
   have hc2 := set_cases q1 (k := 0) (by decide) ((M + 1 : Nat) : Int)
   obtain ⟨se, hse⟩ : ∃ se, s1.setE ((0 : Nat) : Int) = se := ⟨_, rfl⟩
   obtain ⟨s2, hs2⟩ : ∃ s2, s1.set ((0 : Nat) : Int) ((M + 1 : Nat) : Int) = s2 := ⟨_, rfl⟩
   have SC := set_is hse hs2 NY.out OO.out.ok HC.out
   rw [show ((0 : Nat) : Int) = 0 from rfl] at SC
   have SC := jz SC
   rw [hse, hs2] at hR hc2
   have ER := jz hR
   have hms : Hid (M + 1 < 4611686018427387904) := jz hm
   clear hR hse hs2 q1 hm
   generalize hM1 : M + 1 = M1 at *
   have EM := jz hM1
   clear hM1
   go_wp2_with fail
   refine (SC.out).mono ?_; rintro e wf ⟨rfl, hNf, _, hCf⟩
   have NF := jz hNf
   have CF := jz (CW.out.trans hCf)
   have TF := jz (TY.out.chg hCf (by simpa using KK.out.2))
   clear hNf hCf c0
   rcases hc2 with ⟨rfl, v1, v2⟩ | ⟨rfl, _⟩
   . have MV := jz (tmoves_is (M := M1) TF.out.c0 NF.out v1 (by rw [v2]; exact upd_same _ _ _) hms.out)
     clear v1 v2
     go_wp2_with fail
     refine (MV.out).mono ?_; rintro e w' ⟨rfl, rfl⟩
     go_wp2
     go_ret2
     exact ⟨by rw [<- ER.out]; dsimp only; rw [mvV, if_pos rfl, EM.out]; rfl, by rw [<- ER.out]; exact NF.out, CF.out⟩
   . go_wp2
     go_ret2
     exact ⟨by rw [<- ER.out]; rfl, by rw [<- ER.out]; exact NF.out, CF.out⟩
 . rw [if_neg (by decide)] at hR
   have ER := jz hR
   clear hR
   go_wp2
   go_ret2
   exact ⟨by rw [<- ER.out]; rfl, by rw [<- ER.out]; exact NY.out, CW.out⟩
 . rw [if_neg (by decide)] at hR
   have ER := jz hR
   clear hR
   go_wp2
   go_ret2
   exact ⟨by rw [<- ER.out]; rfl, by rw [<- ER.out]; exact NY.out, CW.out⟩
theorem tput_is {x g q n P per p M a : Nat} {d : List Int} {R : Int × Nv} {s : Nv} {w : World} (hR : tput n P per p M a d s = R) (H : TOk s n P M) (hn2 : n <= 1000) (ha : a < n) (hd8 : d.length = 8) (hm : M + 1 < 4611686018427387904) (hp : p < 4611686018427387904)
 (hqg : q ≠ g) (hxg : x ≠ g) (hxq : x ≠ q) (hc : s.c + 500 < 4611686018427387904) (h : Tq w x g q n per p) (hQ : Lq w q g (n + 1) P) (hN : Nm w g s) :
 Calls Tryz.prog 129 #[.pointer (some ⟨x, 0, none⟩), .int .i64 (a : Int), .agg (lc d)] w fun e w' => e = .returned (.int .i64 R.1) /\ Nm w' g R.2 /\ Tq w' x g q n per (tp per p) /\ Lq w' q g (n + 1) P /\ Chg [g, x] w w' := by
 have hn : 0 < n := by omega
 obtain ⟨W, hW, H0⟩ := boxed1 w hd8
 have T0 := jz (h.below (H0.out.2.mono (Nat.le_refl _)))
 have L0 := jz (hQ.below (H0.out.2.mono (Nat.le_refl _)))
 have N0 := jz (hN.below (H0.out.2.mono (Nat.le_refl _)))
 have KK : Hid (q ≠ g /\ x ≠ g /\ q ≠ x /\ w.heap.size ≠ g /\ w.heap.size ≠ x) := jz ⟨hqg, hxg, fun e => hxq e.symm, by have := hN.lt; omega, by have := h.lt; omega⟩
 have C := jz (tready_is H T0.out N0.out ha)
 have DC := jz (due_is T0.out hp)
 have B0 := jz (Chg.of_below H0.out.2 [g, x])
 have HT := jz H
 have HK : Hid (a < n /\ n <= 1000 /\ M + 1 < 4611686018427387904 /\ s.c + 500 < 4611686018427387904) := jz ⟨ha, hn2, hm, hc⟩
 clear h hQ hN hp hqg hxg hxq
 unfold tput at hR
 by_cases hpp : per <= p + 1
 . rw [if_pos hpp] at hR
   rw [decide_eq_true hpp] at DC
   obtain ⟨Q, hQe⟩ : ∃ Q, tmove n P M s = Q := ⟨_, rfl⟩
   obtain ⟨M', o, oc⟩ := tmove_out H hn
   rw [hQe] at hR o oc
   rcases Q with ⟨e1, s1⟩
   dsimp only at hR o oc
   have QE := jz hQe
   have OO := jz o
   have OC : Hid (s1.c <= s.c + 41) := jz oc
   have HR := jz hR
   clear hpp hQe o oc hR H ha hn2 hm hc
   go_enter Tryz.func129, Tryz.ntmps129
   go_wp2_with fail
   refine (C.out).mono ?_; rintro e w' ⟨rfl, rfl⟩
   go_wp2_with fail
   refine (DC.out).mono ?_; rintro e w1 ⟨rfl, hT, hC⟩
   have N1 := jz (N0.out.chg hC (by simpa using fun e => KK.out.2.1 e.symm))
   have L1 := jz (L0.out.chg hC (by simpa using KK.out.2.2.1))
   have T1 := jz hT
   have C1 := jz (B0.out.trans (hC.mono (by simp)))
   have G1 := jz (hC.ln H0.out.1 (by simpa using KK.out.2.2.2.2))
   clear hT hC
   have MC := jz (tmove_is QE.out HT.out hn HK.out.2.1 HK.out.2.2.1 KK.out.1 KK.out.2.1 HK.out.2.2.2 T1.out L1.out N1.out)
   go_wp2_with fail
   refine (MC.out).mono ?_; rintro e w2 ⟨rfl, hNm, hC⟩
   have N2 := jz hNm
   have L2 := jz (L1.out.chg hC (by simpa using KK.out.1))
   have T2 := jz (T1.out.chg hC (by simpa using KK.out.2.1))
   have C2 := jz (C1.out.trans (hC.mono (by simp)))
   have G2 := jz (hC.ln G1.out (by simpa using KK.out.2.2.2.1))
   clear hNm hC
   by_cases he : e1 = 0
   . subst he
     have hR := HR.out
     rw [if_pos rfl] at hR
     have hmv : mvV M 0 = ((M + 1 : Nat) : Int) := by rw [mvV, if_pos rfl]
     dsimp only
     rw [hmv]
     obtain ⟨d1, hM⟩ : s1.dark = false /\ M' = M + 1 := by rcases OO.out.own with ⟨_, h1, h2⟩ | ⟨h, _⟩ | ⟨h, _⟩ <;> first | exact ⟨h1, h2⟩ | cases h
     subst hM
     have H1 := OO.out.tok HT.out d1 HK.out.2.2.1
     have hs1 := slN_lt (n := n) hn (M + 1) a
     have SC := jz (slot_yes n (M + 1) a w2.drew (by have := HK.out.2.1; omega) (by have := HK.out.2.2.1; omega) HK.out.1)
     have PC := jz (fun (w' : World) (hl : Lq w' q g (n + 1) P) (hn : Nm w' g s1) => lput_is hR H1.l hd8 KK.out.1 (by have := OC.out; have := HK.out.2.2.2; omega) hl hn)
     generalize slN n (M + 1) a = sl at *
     generalize M + 1 = M1 at *
     have l0 : ∀ w', Chg [g] w2 w' -> (lineLoad (.pointer (some ⟨w.heap.size, 0, none⟩))).run Tryz.prog w' = .ok (.agg (lc d)) w' := fun w' hc => (hc.ln G2.out (by simpa using KK.out.2.2.2.1)).load
     have d1 : ∀ w', Chg [g] w2 w' -> w'.cell? ⟨x, 1, none⟩ = some (.pointer (some ⟨q, 0, none⟩)) := fun w' hc => (T2.out.chg hc (by simpa using KK.out.2.1)).c1
     have d2 : ∀ w', Chg [g] w2 w' -> w'.cell? ⟨x, 2, none⟩ = some (.int .i64 (n : Int)) := fun w' hc => (T2.out.chg hc (by simpa using KK.out.2.1)).c2
     have hbd : Below w2.heap.size w2 w2.drew := (Below.refl _ _).drew
     clear hR hmv H1 hs1
     go_wp2
     go_region_held3 (fun w' => Chg [g] w2 w')
      (first | assumption | exact (Chg.refl _ _).drew)
      (first
        | (go_at_call 153; refine (SC.out).mono ?_; rintro e wz ⟨rfl, rfl⟩)
        | (go_at_call 156; refine (PC.out _ (L2.out.below hbd) (N2.out.below hbd)).mono ?_; rintro e wy ⟨rfl, hNy, hCy⟩
           have NY := jz hNy
           have CY := jz ((Chg.of_below hbd [g]).trans hCy)
           clear hNy hCy))
     have TY := jz (T2.out.chg CY.out (by simpa using KK.out.2.1))
     have LY := jz (L2.out.chg CY.out (by simpa using KK.out.1))
     have CW := jz (C2.out.trans (CY.out.mono (by simp)))
     clear l0 d1 d2
     go_wp2
     go_ret
     exact ⟨rfl, NY.out, TY.out, LY.out, CW.out⟩
   . have hR := HR.out
     rw [if_neg he] at hR
     have ER := jz hR
     have t0 : (e1 == 0) = false := by simpa using he
     clear hR he
     go_wp2
     go_ret
     exact ⟨by rw [<- ER.out]; rfl, by rw [<- ER.out]; exact N2.out, T2.out, L2.out, C2.out⟩
 . rw [if_neg hpp] at hR
   rw [decide_eq_false hpp] at DC
   have hs1 := slN_lt (n := n) hn M a
   have SC := jz (fun w' => slot_yes n M a w' (by have := HK.out.2.1; omega) (by have := HK.out.2.2.1; omega) HK.out.1)
   have PC := jz (fun (w' : World) (hl : Lq w' q g (n + 1) P) (hn : Nm w' g s) => lput_is hR H.l hd8 KK.out.1 (by have := HK.out.2.2.2; omega) hl hn)
   generalize slN n M a = sl at *
   clear hpp hR H ha hn2 hm hc hs1
   go_enter Tryz.func129, Tryz.ntmps129
   go_wp2_with fail
   refine (C.out).mono ?_; rintro e w' ⟨rfl, rfl⟩
   go_wp2_with fail
   refine (DC.out).mono ?_; rintro e w2 ⟨rfl, hT, hC⟩
   have N2 := jz (N0.out.chg hC (by simpa using fun e => KK.out.2.1 e.symm))
   have L2 := jz (L0.out.chg hC (by simpa using KK.out.2.2.1))
   have T2 := jz hT
   have C2 := jz (B0.out.trans (hC.mono (by simp)))
   have G2 := jz (hC.ln H0.out.1 (by simpa using KK.out.2.2.2.2))
   clear hT hC
   have l0 : ∀ w', Chg [g] w2 w' -> (lineLoad (.pointer (some ⟨w.heap.size, 0, none⟩))).run Tryz.prog w' = .ok (.agg (lc d)) w' := fun w' hc => (hc.ln G2.out (by simpa using KK.out.2.2.2.1)).load
   have d1 : ∀ w', Chg [g] w2 w' -> w'.cell? ⟨x, 1, none⟩ = some (.pointer (some ⟨q, 0, none⟩)) := fun w' hc => (T2.out.chg hc (by simpa using KK.out.2.1)).c1
   have d2 : ∀ w', Chg [g] w2 w' -> w'.cell? ⟨x, 2, none⟩ = some (.int .i64 (n : Int)) := fun w' hc => (T2.out.chg hc (by simpa using KK.out.2.1)).c2
   have hbd : Below w2.heap.size w2 w2.drew := (Below.refl _ _).drew
   go_wp2
   go_region_held3 (fun w' => Chg [g] w2 w')
    (first | assumption | exact (Chg.refl _ _).drew)
    (first
      | (go_at_call 153; refine (SC.out _).mono ?_; rintro e wz ⟨rfl, rfl⟩)
      | (go_at_call 156; refine (PC.out _ (L2.out.below hbd) (N2.out.below hbd)).mono ?_; rintro e wy ⟨rfl, hNy, hCy⟩
         have NY := jz hNy
         have CY := jz ((Chg.of_below hbd [g]).trans hCy)
         clear hNy hCy))
   have TY := jz (T2.out.chg CY.out (by simpa using KK.out.2.1))
   have LY := jz (L2.out.chg CY.out (by simpa using KK.out.1))
   have CW := jz (C2.out.trans (CY.out.mono (by simp)))
   clear l0 d1 d2
   go_wp2
   go_ret
   exact ⟨rfl, NY.out, TY.out, LY.out, CW.out⟩
theorem tnew_null (n : Nat) (P per : Int) (w : World) (h1 : 1 <= n) : Calls Tryz.prog 119 #[.pointer none, .int .i64 (n : Int), .int .i64 P, .int .i64 per] w fun e w' => e = .returned (.pointer none) /\ w = w' := by
 have i1 : ¬ (n : Int) < 1 := by omega
 have i2 : (n : Int) >= 0 := by omega
 clear h1
 go_enter Tryz.func119, Tryz.ntmps119
 go_wp2_with fail
 refine (lines_nil w).mono ?_; rintro e w' ⟨rfl, rfl⟩
 go_wp2_with fail
 go_ret
 exact ⟨rfl, rfl⟩
theorem Tq.new (w : World) (g q n per : Nat) : Tq (w.alloc (.cells #[.pointer (some ⟨g, 0, none⟩), .pointer (some ⟨q, 0, none⟩), .int .i64 (n : Int), .int .i64 (per : Int), .int .i64 0] 141)) w.heap.size g q n per 0 := heap_alloc_last w _
def Made (v : Value) (w w' : World) (g n P per M : Nat) : Prop :=
 if M <= 1099511627776 then ∃ x q, v = .pointer (some ⟨x, 0, none⟩) /\ w.heap.size <= x /\ w.heap.size <= q /\ x ≠ q /\ Lq w' q g (n + 1) P /\ Tq w' x g q n per 0 else v = .pointer none
theorem tnew_any {g n P per M : Nat} {s : Nv} {w : World} (H : TOk s n P M) (h1 : 1 <= n) (hn2 : n <= 1000) (hp1 : 1 <= per) (hp2 : per <= 1000) (hN : Nm w g s) :
 Calls Tryz.prog 119 #[.pointer (some ⟨g, 0, none⟩), .int .i64 (n : Int), .int .i64 (P : Int), .int .i64 (per : Int)] w fun e w' => (∃ v, e = .returned v /\ Made v w w' g n P per M) /\ Below w.heap.size w w' := by
 have C := jz (lines_any g s w hN)
 have LC := lnew_yes H.l hN
 have hnn := H.l.n
 have i1 : ¬ (n : Int) < 1 := by omega
 have i2 : ¬ (n : Int) >= (s.n : Int) := by omega
 have i3 : ¬ (per : Int) < 1 := by omega
 have i4 : ¬ (per : Int) > 1000 := by omega
 obtain ⟨n1, hn1⟩ : ∃ n1 : Nat, n1 = n + 1 := ⟨_, rfl⟩
 have k1 : IntKind.i64.wrap ((n : Int) + 1) = (n1 : Int) := by rw [show (n : Int) + 1 = (n1 : Int) by omega]; exact i64_nat _ (by omega)
 rw [<- hn1] at LC
 have LC := jz LC
 have HN := jz hN
 have HT := jz H
 have E1 := jz hn1
 clear hN H h1 hn2 hp1 hp2 hnn hn1
 generalize s.n = N at *
 go_enter Tryz.func119, Tryz.ntmps119
 go_wp2_with fail
 refine (C.out).mono ?_; rintro e w' ⟨rfl, rfl⟩
 go_wp2_with fail
 refine (LC.out).mono ?_; rintro e w2 ⟨q, rfl, hq, hQ, hb⟩
 have N2 := HN.out.below hb
 obtain ⟨W, hW⟩ : ∃ W, w2.alloc (.cells #[.pointer (some ⟨g, 0, none⟩), .pointer (some ⟨q, 0, none⟩), .int .i64 (n : Int), .int .i64 (per : Int), .int .i64 0] 141) = W := ⟨_, rfl⟩
 have T3 := Tq.new w2 g q n per
 have Q3 := hQ.alloc (.cells #[.pointer (some ⟨g, 0, none⟩), .pointer (some ⟨q, 0, none⟩), .int .i64 (n : Int), .int .i64 (per : Int), .int .i64 0] 141)
 have N3 := N2.alloc (.cells #[.pointer (some ⟨g, 0, none⟩), .pointer (some ⟨q, 0, none⟩), .int .i64 (n : Int), .int .i64 (per : Int), .int .i64 0] 141)
 have B3 := bal (o := .cells #[.pointer (some ⟨g, 0, none⟩), .pointer (some ⟨q, 0, none⟩), .int .i64 (n : Int), .int .i64 (per : Int), .int .i64 0] 141) hb
 rw [hW] at T3 Q3 N3 B3
 have KK : Hid (w.heap.size <= w2.heap.size /\ w.heap.size <= q /\ w2.heap.size ≠ q) := jz ⟨hb.size, hq, by have := hQ.lt; omega⟩
 have c1 := T3.c1
 have MC := jz (tmoves_is T3.c0 N3 HT.out.l.live HT.out.rg HT.out.m)
 have TT := jz T3
 have QQ := jz Q3
 have BB := jz B3
 clear hb hq hQ N2 T3 Q3 N3 B3
 go_wp2_with fail
 refine (MC.out).mono ?_; rintro e w' ⟨rfl, rfl⟩
 by_cases hM : M <= 1099511627776
 . have i5 : ¬ (M : Int) > 1099511627776 := by omega
   have HM : Hid (M <= 1099511627776) := jz hM
   clear hM
   go_wp2
   go_ret
   exact ⟨⟨_, rfl, by rw [Made, if_pos HM.out]; exact ⟨_, q, rfl, KK.out.1, KK.out.2.1, KK.out.2.2, by rw [<- E1.out]; exact QQ.out, TT.out⟩⟩, BB.out⟩
 . have i5 : (M : Int) > 1099511627776 := by omega
   have HM : Hid (¬ M <= 1099511627776) := jz hM
   clear hM
   go_wp2
   go_ret
   exact ⟨⟨_, rfl, by rw [Made, if_neg HM.out]; rfl⟩, BB.out⟩
theorem tnew_yes {g n P per M : Nat} {s : Nv} {w : World} (H : TOk s n P M) (h1 : 1 <= n) (hn2 : n <= 1000) (hp1 : 1 <= per) (hp2 : per <= 1000) (hM : M <= 1099511627776) (hN : Nm w g s) :
 Calls Tryz.prog 119 #[.pointer (some ⟨g, 0, none⟩), .int .i64 (n : Int), .int .i64 (P : Int), .int .i64 (per : Int)] w fun e w' =>
  ∃ x q, e = .returned (.pointer (some ⟨x, 0, none⟩)) /\ w.heap.size <= x /\ w.heap.size <= q /\ x ≠ q /\ Lq w' q g (n + 1) P /\ Tq w' x g q n per 0 /\ Below w.heap.size w w' := by
 refine (tnew_any H h1 hn2 hp1 hp2 hN).mono ?_
 rintro e w' ⟨⟨v, rfl, hv⟩, hb⟩
 rw [Made, if_pos hM] at hv
 obtain ⟨x, q, rfl, a1, a2, a3, a4, a5⟩ := hv
 exact ⟨x, q, rfl, a1, a2, a3, a4, a5, hb⟩
theorem info_line3 : (Tryz.prog.info? 110).map (fun i => (i.zero, i.size, i.bytes)) = some (some (.agg (lc zeros)), 8, 64) := by kernel_rfl
def wl (f : Nat -> List Int) (k : Nat) : Value := .int .u64 ((f (k / 8)).getD (k % 8) 0)
def Wt (w : World) (g n : Nat) (f : Nat -> List Int) : Prop := Whole w g 110 (tab (n * 8) (wl f)) /\ ∀ i, i < n -> (f i).length = 8
theorem run_make_want (n : Nat) (hn : n <= 200) (w : World) :
 (Instr.makeSlice 219 (.int .i64 (n : Int)) (.int .i64 (n : Int))).run Tryz.prog w = .ok (.slice (some ⟨w.heap.size, 0, none⟩) n n) (w.alloc (.cells (tab (n * 8) (wl fun _ => zeros)) 110)) := by
 obtain ⟨i, hi, hzz⟩ := Option.map_eq_some_iff.1 info_line3
 simp only [Prod.mk.injEq] at hzz
 obtain ⟨hz, hs, hb⟩ := hzz
 have := run_make (P := Tryz.prog) w 219 110 i _ Tryz.underlying219 hi hz .i64 .i64 n n (by omega) (by omega) (by rw [hb]; omega) (by omega)
 rw [Int.toNat_natCast, hs] at this
 rw [this, made_tab _ _ (wl fun _ => zeros)]
 intro j _
 have h8 : (Value.agg (lc zeros)).cells.size = 8 := rfl
 rw [h8]
 have hlt : j % 8 < 8 := Nat.mod_lt _ (by decide)
 have key : ∀ q : Fin 8, (Value.agg (lc zeros)).cells[q.val]! = .int .u64 (zeros.getD q.val 0) := by
  intro q
  rcases q with ⟨q, hq⟩
  rcases (by omega : q = 0 \/ q = 1 \/ q = 2 \/ q = 3 \/ q = 4 \/ q = 5 \/ q = 6 \/ q = 7) with h | h | h | h | h | h | h | h <;> subst h <;> rfl
 exact key ⟨j % 8, hlt⟩
theorem Wt.new (w : World) (n : Nat) : Wt (w.alloc (.cells (tab (n * 8) (wl fun _ => zeros)) 110)) w.heap.size n (fun _ => zeros) := ⟨heap_alloc_last w _, fun _ _ => rfl⟩
def lineE : Elm Tryz.prog (List Int) where
 t := 219
 e := 110
 size := 8
 bytes := 64
 z := .agg #[.int .u64 0, .int .u64 0, .int .u64 0, .int .u64 0, .int .u64 0, .int .u64 0, .int .u64 0, .int .u64 0]
 enc := fun l => l.map uv
 ok := fun l => l.length = 8
 ht := Tryz.underlying219
 hi := by kernel_rfl
 hzs := rfl
 pos := by decide
 bpos := by decide
 len := fun _ h => by simpa using h
 one := fun a _ u hu => by obtain ⟨y, _, rfl⟩ := List.mem_map.1 hu; rfl
theorem line_at {w : World} {p : Option Addr} {n cap : Nat} {l : List (List Int)} (h : RA lineE w (.slice p n cap) l) (h0 : 0 < l.length) :
 ∃ b off, p = some ⟨b, off, none⟩ /\ b < w.heap.size /\ ∀ k, k < l.length -> (lineLoad (.pointer (some ⟨b, off + k * 8, none⟩))).run Tryz.prog w = .ok (.agg (lc (l.getD k default))) w /\ (l.getD k default).length = 8 := by
 obtain ⟨b, off, e, hb, hr⟩ := ra_at h h0
 refine ⟨b, off, e, hb, fun k hk => ?_⟩
 have hw : (l.getD k default).length = 8 := (ra_ok h).at_ hk
 refine ⟨?_, hw⟩
 unfold lineLoad
 exact run_loadAt_mid (P := Tryz.prog) w b (off + k * 8) 110 ((l.getD k default).map uv) _ (hr k hk) Tryz.underlying110 rfl (by rw [info_line, List.length_map, hw])
theorem line_store {B g n c : Nat} {w : World} {l : List (List Int)} (h : OwnA lineE B w (.slice (some ⟨g, 0, none⟩) n c) l) {k : Nat} (hk : k < l.length) {x : List Int} (hx : x.length = 8) :
 (lineStore (.pointer (some ⟨g, k * 8, none⟩)) (.agg (lc x))).run Tryz.prog w = .ok () (w.setCells g (k * 8) (x.map uv)) /\ OwnA lineE B (w.setCells g (k * 8) (x.map uv)) (.slice (some ⟨g, 0, none⟩) n c) (l.set k x) := by
 refine ⟨?_, h.setElem hk hx⟩
 have hr := h.ra
 obtain ⟨b, off, e, _, hc⟩ := ra_at hr (by omega)
 cases e
 have hw : (l.getD k default).length = 8 := (ra_ok hr).at_ hk
 unfold lineStore
 rw [run_storeAt_mid (P := Tryz.prog) w g (k * 8) 110 (lc x) (fun j hj => ?_) (by rw [info_line, lc_size, hx]) (lc_one x)]
 . simp [lc]
 . rw [lc_size, hx] at hj
   refine ⟨?_, h.free _⟩
   have hck := hc k hk
   generalize l.getD k default = y at *
   have := hck j (uv (y.getD j 0)) (by simp [lineE, hw, hj])
   rw [show lineE.size = 8 from rfl, Nat.zero_add] at this
   rw [this]; rfl
def Ol (B : Nat) (w : World) (g n c : Nat) (f : Nat -> List Int) : Prop := OwnA lineE B w (.slice (some ⟨g, 0, none⟩) n c) ((List.range n).map f)
theorem ol_getD {n k : Nat} {f : Nat -> List Int} (hk : k < n) : ((List.range n).map f).getD k default = f k := by simp [hk]
theorem Ol.wide {B : Nat} {w : World} {g n c : Nat} {f : Nat -> List Int} (h : Ol B w g n c f) {k : Nat} (hk : k < n) : (f k).length = 8 := by
 have := h.2.at_ (k := k) (by simpa using hk)
 rw [ol_getD hk] at this; exact this
theorem Ol.load {B : Nat} {w : World} {g n c : Nat} {f : Nat -> List Int} (h : Ol B w g n c f) {k : Nat} (hk : k < n) : (lineLoad (.pointer (some ⟨g, k * 8, none⟩))).run Tryz.prog w = .ok (.agg (lc (f k))) w := by
 obtain ⟨b, off, e, _, hx⟩ := line_at h.ra (by simp; omega)
 cases e
 have := (hx k (by simpa using hk)).1
 rw [ol_getD hk, Nat.zero_add] at this; exact this
theorem Ol.as {B : Nat} {w : World} {g n c : Nat} {f f' : Nat -> List Int} (h : Ol B w g n c f) (he : ∀ i, i < n -> f' i = f i) : Ol B w g n c f' := by
 have e : (List.range n).map f' = (List.range n).map f := List.map_congr_left fun i hi => he i (List.mem_range.1 hi)
 unfold Ol; rw [e]; exact h
theorem Ol.store {B : Nat} {w : World} {g n c : Nat} {f : Nat -> List Int} (h : Ol B w g n c f) {k : Nat} (hk : k < n) {x : List Int} (hx : x.length = 8) :
 (lineStore (.pointer (some ⟨g, k * 8, none⟩)) (.agg (lc x))).run Tryz.prog w = .ok () (w.setCells g (k * 8) (x.map uv)) /\ Ol B (w.setCells g (k * 8) (x.map uv)) g n c (upd f k x) := by
 obtain ⟨a, b⟩ := line_store h (k := k) (by simpa using hk) hx
 refine ⟨a, ?_⟩
 have e : ((List.range n).map f).set k x = (List.range n).map (upd f k x) := by
  refine List.ext_getElem (by simp) fun i h1 h2 => ?_
  rw [List.getElem_set]
  simp only [List.getElem_map, List.getElem_range, upd]
  split
  . rename_i e; rw [if_pos e.symm]
  . rename_i e; rw [if_neg fun q => e q.symm]
 rw [e] at b; exact b
theorem Ol.below {B : Nat} {w w' : World} {g n c : Nat} {f : Nat -> List Int} (h : Ol B w g n c f) (hb : Below w.heap.size w w') : Ol B w' g n c f := OwnA.below h hb
theorem Ol.chg {B : Nat} {D : List Nat} {w w' : World} {g n c : Nat} {f : Nat -> List Int} (h : Ol B w g n c f) (hc : Chg D w w') (hD : g ∉ D) : Ol B w' g n c f := OwnA.chg h hc fun k hk => by cases hk; exact hD
theorem Ol.of_wt {B : Nat} {w : World} {g n : Nat} {f : Nat -> List Int} (h : Wt w g n f) (hB : B <= g) (hn : n <= maxLen) : Ol B w g n n f := by
 have hok : AllOk lineE ((List.range n).map f) := fun x hx => by
  obtain ⟨i, hi, rfl⟩ := List.mem_map.1 hx
  exact h.2 i (List.mem_range.1 hi)
 have hl := flat_length lineE _ hok
 refine ⟨⟨by simpa using hl, .inr ⟨g, n, tab (n * 8) (wl f), by simp, hB, h.1, by simp, hn, by simp [tab]; rfl, ?_⟩⟩, hok⟩
 refine flat_ext lineE hok (by simp [tab]; rfl) fun k j hk hj => ?_
 have hk' : k < n := by simpa using hk
 have hj' : j < 8 := hj
 rw [show lineE.size = 8 from rfl]
 have e1 : (k * 8 + j) / 8 = k := by omega
 have e2 : (k * 8 + j) % 8 = j := by omega
 have h8 := h.2 k hk'
 rw [ol_getD hk']
 have hlt : k * 8 + j < n * 8 := by omega
 simp [tab, wl, lineE, uv, hlt, e1, e2, h8, hj']
def Lgb (w : World) (x g y : Nat) : Prop := Whole w x 159 #[.pointer (some ⟨g, 0, none⟩), .pointer (some ⟨y, 0, none⟩)]
structure Lg (w : World) (x g y q n P per p : Nat) (s : Nv) : Prop where
 lb : Lgb w x g y
 tq : Tq w y g q n per p
 lq : Lq w q g (n + 1) P
 nm : Nm w g s
 qg : q ≠ g
 yg : y ≠ g
 yq : y ≠ q
 xg : x ≠ g
 xy : x ≠ y
theorem Lg.below {w w' : World} {x g y q n P per p : Nat} {s : Nv} (h : Lg w x g y q n P per p s) (hb : Below w.heap.size w w') : Lg w' x g y q n P per p s :=
 ⟨(hb.block x (Whole.lt h.lb)).trans h.lb, h.tq.below hb, h.lq.below hb, h.nm.below hb, h.qg, h.yg, h.yq, h.xg, h.xy⟩
theorem Lg.chg {D : List Nat} {w w' : World} {x g y q n P per p : Nat} {s : Nv} (h : Lg w x g y q n P per p s) (hc : Chg D w w') (hx : x ∉ D) (hg : g ∉ D) (hy : y ∉ D) (hq : q ∉ D) : Lg w' x g y q n P per p s :=
 ⟨hc.whole h.lb hx, h.tq.chg hc hy, h.lq.chg hc hq, hc.whole h.nm hg, h.qg, h.yg, h.yq, h.xg, h.xy⟩
theorem Lg.mem {w w' : World} {x g y q n P per p : Nat} {s s' : Nv} (h : Lg w x g y q n P per p s) (hc : Chg [g] w w') (hN : Nm w' g s') : Lg w' x g y q n P per p s' :=
 ⟨hc.whole h.lb (by simpa using h.xg), h.tq.chg hc (by simpa using h.yg), h.lq.chg hc (by simpa using h.qg), hN, h.qg, h.yg, h.yq, h.xg, h.xy⟩
theorem Lg.xlt {w : World} {x g y q n P per p : Nat} {s : Nv} (h : Lg w x g y q n P per p s) : x < w.heap.size := Whole.lt h.lb
structure Room (n P per p : Nat) (s : Nv) : Prop where
 n : n <= 1000
 p : p + 30 < 4611686018427387904
 m : tm s + 30 < 4611686018427387904
 c : s.c + 20000 < 4611686018427387904
 per : per <= 1000 /\ P <= 16
structure Ctr : Prop where
 new : ∀ (w : World) (g y q n P per p : Nat) (s : Nv), Tq w y g q n per p -> Lq w q g (n + 1) P -> Nm w g s -> q ≠ g -> y ≠ g -> y ≠ q -> 17 <= n →
  Calls Tryz.prog 74 #[.pointer (some ⟨g, 0, none⟩), .pointer (some ⟨y, 0, none⟩)] w fun e w' => ∃ x, e = .returned (.pointer (some ⟨x, 0, none⟩)) /\ w.heap.size <= x /\ Lg w' x g y q n P per p s /\ Below w.heap.size w w'
 may : ∀ (w : World) (n : Int) (v : Value) (h : List Hm) (r : Bool), RA homeE w v h -> (r = true ↔ MayH n h) →
  Calls Tryz.prog 148 #[.int .i64 n, v] w fun e w' => e = .returned (.bool r) /\ Below w.heap.size w w'
 newNil : ∀ (w : World) (g : Nat), Calls Tryz.prog 74 #[.pointer (some ⟨g, 0, none⟩), .pointer none] w fun e w' => e = .returned (.pointer none) /\ Below w.heap.size w w'
 newFew : ∀ (w : World) (g y q n P per p : Nat) (s : Nv), Tq w y g q n per p -> Lq w q g (n + 1) P -> Nm w g s -> n <= 16 →
  Calls Tryz.prog 74 #[.pointer (some ⟨g, 0, none⟩), .pointer (some ⟨y, 0, none⟩)] w fun e w' => e = .returned (.pointer none) /\ Below w.heap.size w w'
 pend : ∀ (w : World) (x g y q n P per p : Nat) (s : Nv), Lg w x g y q n P per p s -> LgOk s n P -> s.dark = false →
  Calls Tryz.prog 58 #[.pointer (some ⟨x, 0, none⟩)] w fun e w' => e = .returned (.bool (decide (lk s ≠ 0))) /\ Below w.heap.size w w'
 get : ∀ (w : World) (x g y q n P per p a : Nat) (s : Nv), Lg w x g y q n P per p s -> LgOk s n P -> s.dark = false -> Room n P per p s -> 16 <= a -> a < n →
  Calls Tryz.prog 104 #[.pointer (some ⟨x, 0, none⟩), .int .i64 (a : Int)] w fun e w' => e = .returned (.tuple #[.agg (lc (view s n P a)), .int .i64 0]) /\ Below w.heap.size w w'
 getOut : ∀ (w : World) (x g y q n P per p : Nat) (a : Int) (s : Nv), Lg w x g y q n P per p s -> ¬ (16 <= a /\ a < (n : Int)) →
  Calls Tryz.prog 104 #[.pointer (some ⟨x, 0, none⟩), .int .i64 a] w fun e w' => e = .returned (.tuple #[.agg (lc zeros), .int .i64 1]) /\ Below w.heap.size w w'
 com : ∀ (w : World) (x g y q n P per p : Nat) (s : Nv) (v : Value) (h : List Hm), Lg w x g y q n P per p s -> LgOk s n P -> s.dark = false -> Room n P per p s -> lk s = 0 -> (∀ w', Chg [g, y] w w' -> RA homeE w' v h) -> MayH n h →
  Calls Tryz.prog 161 #[.pointer (some ⟨x, 0, none⟩), v] w fun e w' => e = .returned (.int .i64 (lcom n P per p h s).1) /\ Lg w' x g y q n P per (lcom n P per p h s).2.1 (lcom n P per p h s).2.2 /\ Chg [g, y] w w'
 comArg : ∀ (w : World) (x g y q n P per p : Nat) (s : Nv) (v : Value) (h : List Hm), Lg w x g y q n P per p s -> n <= 1000 -> RA homeE w v h -> ¬ MayH n h →
  Calls Tryz.prog 161 #[.pointer (some ⟨x, 0, none⟩), v] w fun e w' => e = .returned (.int .i64 1) /\ Below w.heap.size w w'
 comState : ∀ (w : World) (x g y q n P per p : Nat) (s : Nv) (v : Value) (h : List Hm), Lg w x g y q n P per p s -> s.dark = false -> s.rg 1 = (lk s : Int) -> lk s ≠ 0 -> n <= 1000 -> RA homeE w v h -> MayH n h →
  Calls Tryz.prog 161 #[.pointer (some ⟨x, 0, none⟩), v] w fun e w' => e = .returned (.int .i64 5) /\ Below w.heap.size w w'
 recv : ∀ (w : World) (x g y q n P per p : Nat) (s : Nv), Lg w x g y q n P per p s -> LgOk s n P -> s.dark = false -> Room n P per p s →
  Calls Tryz.prog 75 #[.pointer (some ⟨x, 0, none⟩)] w fun e w' => e = .returned (.int .i64 (lrec n P per p s).1) /\ Lg w' x g y q n P per (lrec n P per p s).2.1 (lrec n P per p s).2.2 /\ Chg [g, y] w w'
section
variable {x g y q n P per p : Nat} {s : Nv} {w : World}
theorem Lg.c0 (h : Lg w x g y q n P per p s) : w.cell? ⟨x, 0, none⟩ = some (.pointer (some ⟨g, 0, none⟩)) := by rw [Whole.at_ h.lb]; rfl
theorem Lg.c1 (h : Lg w x g y q n P per p s) : w.cell? ⟨x, 1, none⟩ = some (.pointer (some ⟨y, 0, none⟩)) := by rw [Whole.at_ h.lb]; rfl
theorem llines_is (h : Lg w x g y q n P per p s) : Calls Tryz.prog 138 #[.pointer (some ⟨x, 0, none⟩)] w fun e w' => e = .returned (.int .i64 (n : Int)) /\ w = w' := by
 have c := h.c1
 have C := jz (tlines_is h.tq)
 clear h
 go_enter Tryz.func138, Tryz.ntmps138
 go_wp2_with fail
 refine (C.out).mono ?_; rintro e w' ⟨rfl, rfl⟩
 go_wp2_with fail
 go_ret
 exact ⟨rfl, rfl⟩
theorem lpend_live {v : Int} (h : Lg w x g y q n P per p s) (hd : s.dark = false) (hr : s.rg 1 = v) : Calls Tryz.prog 101 #[.pointer (some ⟨x, 0, none⟩)] w fun e w' => e = .returned (.tuple #[.int .u64 v, .int .i64 0]) /\ w = w' := by
 have C := jz (reg_yes g s 1 w h.nm (by simp [Nv.rdy, hasR, hd]))
 rw [hr] at C
 have c := h.c0
 clear h hd hr
 go_enter Tryz.func101, Tryz.ntmps101
 go_wp2_with fail
 refine (C.out).mono ?_; rintro e w' ⟨rfl, rfl⟩
 go_wp2_with fail
 go_ret2
 exact ⟨rfl, rfl⟩
theorem behind_any (a n : Int) (r : Bool) (hr : r = true ↔ 16 <= a /\ a < n) (w : World) : Calls Tryz.prog 137 #[.int .i64 a, .int .i64 n] w fun e w' => e = .returned (.bool r) /\ w = w' := by
 by_cases h1 : 16 <= a
 . have i1 : a >= 16 := h1
   by_cases h2 : a < n
   . obtain rfl : r = true := hr.2 ⟨h1, h2⟩
     clear hr
     go_enter Tryz.func137, Tryz.ntmps137
     go_wp2_with fail
     go_ret
     exact ⟨rfl, rfl⟩
   . obtain rfl : r = false := by cases r; rfl; exact absurd (hr.1 rfl).2 h2
     clear hr
     go_enter Tryz.func137, Tryz.ntmps137
     go_wp2_with fail
     go_ret
     exact ⟨rfl, rfl⟩
 . have i1 : ¬ a >= 16 := h1
   obtain rfl : r = false := by cases r; rfl; exact absurd (hr.1 rfl).1 h1
   clear hr
   go_enter Tryz.func137, Tryz.ntmps137
   go_wp2_with fail
   go_ret
   exact ⟨rfl, rfl⟩
theorem ixl_nat (k : Nat) (hk : k <= 1000) (w : World) : Calls Tryz.prog 175 #[.int .i64 (k : Int)] w fun e w' => e = .returned (.int .i64 (ixN k : Int)) /\ w = w' := by
 have k1 : IntKind.i64.wrap ((k : Int) + 8) = ((k + 8 : Nat) : Int) := by rw [show (k : Int) + 8 = ((k + 8 : Nat) : Int) by omega]; exact i64_nat _ (by omega)
 have k2 : IntKind.i64.wrap (((k + 8 : Nat) : Int) - 1) = ((k + 7 : Nat) : Int) := by rw [show ((k + 8 : Nat) : Int) - 1 = ((k + 7 : Nat) : Int) by omega]; exact i64_nat _ (by omega)
 have k3 : ((k + 7 : Nat) : Int).tdiv 8 = (ixN k : Int) := by unfold ixN; exact tdiv_nat _ _
 have k4 : IntKind.i64.wrap (ixN k : Int) = (ixN k : Int) := i64_nat _ (by unfold ixN; omega)
 generalize ixN k = j at *
 generalize k + 7 = z at *
 generalize k + 8 = z8 at *
 go_enter Tryz.func175, Tryz.ntmps175
 go_wp2_with fail
 go_ret
 exact ⟨rfl, rfl⟩
theorem lg_new (hT : Tq w y g q n per p) (hQ : Lq w q g (n + 1) P) (hN : Nm w g s) (h1 : q ≠ g) (h2 : y ≠ g) (h3 : y ≠ q) (hn : 17 <= n) :
 Calls Tryz.prog 74 #[.pointer (some ⟨g, 0, none⟩), .pointer (some ⟨y, 0, none⟩)] w fun e w' => ∃ x, e = .returned (.pointer (some ⟨x, 0, none⟩)) /\ w.heap.size <= x /\ Lg w' x g y q n P per p s /\ Below w.heap.size w w' := by
 have C := jz (tlines_is hT)
 have i1 : ¬ (n : Int) <= 16 := by omega
 obtain ⟨W, hW⟩ : ∃ W, w.alloc (.cells #[.pointer (some ⟨g, 0, none⟩), .pointer (some ⟨y, 0, none⟩)] 159) = W := ⟨_, rfl⟩
 have LW : Hid (Lg W w.heap.size g y q n P per p s /\ Below w.heap.size w W) := jz (by
  rw [<- hW]
  exact ⟨⟨heap_alloc_last w _, hT.alloc _, hQ.alloc _, hN.alloc _, h1, h2, h3, by have := hN.lt; omega, by have := hT.lt; omega⟩, bal (Below.refl _ _)⟩)
 clear hT hQ hN h1 h2 h3 hn
 go_enter Tryz.func74, Tryz.ntmps74
 go_wp2_with fail
 refine (C.out).mono ?_; rintro e w' ⟨rfl, rfl⟩
 go_wp2_with fail
 go_ret
 exact ⟨_, rfl, Nat.le_refl _, LW.out⟩
theorem pd_live {v : Int} (r : Bool) (h : Lg w x g y q n P per p s) (hd : s.dark = false) (hr : s.rg 1 = v) (hv : r = true ↔ v ≠ 0) : Calls Tryz.prog 58 #[.pointer (some ⟨x, 0, none⟩)] w fun e w' => e = .returned (.bool r) /\ w = w' := by
 have C := jz (lpend_live h hd hr)
 clear h hd hr
 by_cases h0 : v = 0
 . obtain rfl : r = false := by cases r; rfl; exact absurd h0 (hv.1 rfl)
   subst h0
   clear hv
   go_enter Tryz.func58, Tryz.ntmps58
   go_wp2_with fail
   refine (C.out).mono ?_; rintro e w' ⟨rfl, rfl⟩
   go_wp2_with fail
   go_ret
   exact ⟨rfl, rfl⟩
 . obtain rfl : r = true := hv.2 h0
   have b0 : (v != 0) = true := bne_iff_ne.2 h0
   clear hv
   go_enter Tryz.func58, Tryz.ntmps58
   go_wp2_with fail
   refine (C.out).mono ?_; rintro e w' ⟨rfl, rfl⟩
   go_wp2_with fail
   go_ret
   exact ⟨rfl, rfl⟩
end
theorem same_is {B : Nat} {ci : Int} {x : Hm} {W : World} (hc : W.cell? ⟨B, 0, none⟩ = some (.int .i64 ci)) (h8 : x.l.length = 8) (r : Bool) (hr : r = true ↔ x.i = ci) :
 Calls Tryz.prog 173 #[.agg (hmc x), .pointer (some ⟨B, 0, none⟩)] W fun e w' => e = .returned (.bool r) /\ Below W.heap.size W w' := by
 obtain ⟨W2, hW, H⟩ := home_boxed W h8
 have d0 := H.out.1.slot
 have hB := World.block_lt_of_cell? _ _ hc
 have c1 := (H.out.2.cell (p := ⟨B, 0, none⟩) hB).trans hc
 obtain ⟨xi, hx⟩ : ∃ xi, x.i = xi := ⟨_, rfl⟩
 rw [hx] at d0 hr
 clear hx hc
 by_cases h : xi = ci
 . obtain rfl : r = true := hr.2 h
   subst h
   clear hr
   go_enter Tryz.func173, Tryz.ntmps173
   go_wp2_with fail
   go_ret
   exact ⟨rfl, H.out.2⟩
 . obtain rfl : r = false := by cases r; rfl; exact absurd (hr.1 rfl) h
   have b0 : (xi == ci) = false := beq_eq_false_iff_ne.2 h
   clear hr
   go_enter Tryz.func173, Tryz.ntmps173
   go_wp2_with fail
   go_ret
   exact ⟨rfl, H.out.2⟩
theorem idxf_is {B n cap : Nat} {p : Option Addr} {ci : Int} {l : List Hm} {w : World} (hc : w.cell? ⟨B, 0, none⟩ = some (.int .i64 ci)) (hv : RA homeE w (.slice p n cap) l) :
 Calls Tryz.prog 198 #[.slice p n cap, .func (.func 173) #[] #[.pointer (some ⟨B, 0, none⟩)]] w fun e w' =>
  (∃ i : Int, e = .returned (.int .i64 i) /\ (0 <= i ↔ ∃ x ∈ l, x.i = ci)) /\ Below w.heap.size w w' := by
 obtain ⟨p', cap', e0, hlc, hcm⟩ := ra_shape hv
 cases e0
 unfold maxLen at hcm
 have eg : ∀ args w, (callFunc 173 args).run Tryz.prog w = .ok (.enter 173 args) w := Go.Proofs.enters_of Tryz.func173 (by kernel_rfl) rfl
 have HV := jz hv
 have HC := jz hc
 have HM := jz (And.intro hlc hcm)
 clear hv hc hlc hcm
 go_enter Tryz.func198, Tryz.ntmps198
 go_wp2
 go_loopw [8] (fun i wr => ∃ k : Nat, k <= l.length /\ i = .int .i64 k /\ Hid ((∀ x ∈ l.take k, x.i ≠ ci) /\ Below w.heap.size w wr)) (fun i _ => l.length - (intOf i).toNat)
 case atStart => exact ⟨0, Nat.zero_le _, rfl, jz ⟨fun x hx => by simp at hx, Below.refl _ _⟩⟩
 case round =>
  obtain ⟨k, hk, rfl, H⟩ := hrel
  by_cases hlt : k < l.length
  . obtain ⟨b, off, e, _, hx⟩ := home_at (ra_below HV.out H.out.2) (by omega)
    subst e
    obtain ⟨hl, _, _, hwf⟩ := hx k hlt
    obtain ⟨X, hX⟩ : ∃ X, l.getD k default = X := ⟨_, rfl⟩
    rw [hX] at hl hwf
    have hcw := (H.out.2.cell (p := ⟨B, 0, none⟩) (World.block_lt_of_cell? _ _ HC.out)).trans HC.out
    have i0 : (0 : Int) <= (k : Int) := by omega
    have i3 : (k : Int) < (l.length : Int) := by omega
    have i4 : ¬ (k : Int) < 0 := by omega
    have j0 : IntKind.i64.wrap ((k : Int) + 1) = ((k + 1 : Nat) : Int) := by rw [show (k : Int) + 1 = ((k + 1 : Nat) : Int) by omega]; exact i64_nat _ (by have := HM.out; omega)
    have HK := jz hlt
    have HX : Hid (X ∈ l /\ l.take (k + 1) = l.take k ++ [X]) := jz ⟨by rw [<- hX]; exact getD_memH hlt, by rw [List.take_add_one, <- hX, List.getD_eq_getElem?_getD, List.getElem?_eq_getElem hlt]; rfl⟩
    have h8 := hwf.len
    have KS := jz fun (r : Bool) (hr : r = true ↔ X.i = ci) => same_is hcw h8 r hr
    clear hx hX hwf hlt hk hcw
    by_cases hi : X.i = ci
    . have hcall := KS.out true ⟨fun _ => hi, fun _ => rfl⟩
      have HI := jz hi
      clear hi
      go_wp2_with fail
      refine hcall.mono ?_; rintro e w' ⟨rfl, hb'⟩
      go_wp2
      go_ret
      exact ⟨⟨_, rfl, fun _ => ⟨X, HX.out.1, HI.out⟩, fun _ => by omega⟩, below_more H.out.2 hb'⟩
    . have hcall := KS.out false ⟨fun h => (by cases h), fun h => absurd h hi⟩
      have HI := jz hi
      clear hi
      go_wp2_with fail
      refine hcall.mono ?_; rintro e w' ⟨rfl, hb'⟩
      go_wp2
      have HB := jz (below_more H.out.2 hb')
      clear hb'
      go_roundw
      case rel => exact ⟨k + 1, by have := HK.out; omega, by go_num, jz ⟨fun x hx => by
       rw [HX.out.2, List.mem_append] at hx
       rcases hx with hx | hx
       . exact H.out.1 x hx
       . rw [List.mem_singleton.1 hx]; exact HI.out, HB.out⟩⟩
      case measure => have := HK.out; simp [intOf]; omega
  . obtain rfl : k = l.length := by omega
    go_wp2
    go_ret
    exact ⟨⟨_, rfl, fun h => absurd h (by decide), fun ⟨x, hx, e⟩ => absurd e (H.out.1 x (by rw [List.take_length]; exact hx))⟩, H.out.2⟩
theorem cfn_is {B n cap : Nat} {p : Option Addr} {ci : Int} {l : List Hm} {w : World} (r : Bool) (hr : r = true ↔ ∃ x ∈ l, x.i = ci) (hc : w.cell? ⟨B, 0, none⟩ = some (.int .i64 ci)) (hv : RA homeE w (.slice p n cap) l) :
 Calls Tryz.prog 174 #[.slice p n cap, .func (.func 173) #[] #[.pointer (some ⟨B, 0, none⟩)]] w fun e w' => e = .returned (.bool r) /\ Below w.heap.size w w' := by
 have C := jz (idxf_is hc hv)
 have HR := jz hr
 clear hc hv hr
 go_enter Tryz.func174, Tryz.ntmps174
 go_wp2_with fail
 refine (C.out).mono ?_; rintro e w' ⟨⟨i, rfl, hi⟩, hb⟩
 by_cases h : 0 <= i
 . have i1 : i >= 0 := h
   obtain rfl : r = true := HR.out.2 (hi.1 h)
   clear hi
   go_wp2_with fail
   go_ret
   exact ⟨rfl, hb⟩
 . have i1 : ¬ i >= 0 := h
   have i2 : i < 0 := by omega
   have i3 : decide (0 <= i) = false := decide_eq_false h
   obtain rfl : r = false := by cases r; rfl; exact absurd (hi.2 (HR.out.1 rfl)) h
   clear hi
   go_wp2_with fail
   go_ret
   exact ⟨rfl, hb⟩
theorem lmay_is (n : Int) (v : Value) (l : List Hm) (r : Bool) (w : World) (hv : RA homeE w v l) (hr : r = true ↔ MayH n l) :
 Calls Tryz.prog 148 #[.int .i64 n, v] w fun e w' => e = .returned (.bool r) /\ Below w.heap.size w w' := by
 have hr := hr.trans mayH_good
 obtain ⟨p, cap, rfl, hlc, hcm⟩ := ra_shape hv
 unfold maxLen at hcm
 by_cases h2 : l.length < 1
 . obtain rfl : r = false := by cases r; rfl; have := (hr.1 rfl).2.1; omega
   clear hr
   have i1 : (l.length : Int) < 1 := by omega
   generalize l.length = L at *
   go_enter Tryz.func148, Tryz.ntmps148
   go_wp2_with fail
   go_ret
   exact ⟨rfl, Below.refl _ _⟩
 have i1 : ¬ (l.length : Int) < 1 := by omega
 by_cases h3 : 14 < l.length
 . obtain rfl : r = false := by cases r; rfl; have := (hr.1 rfl).2.2.1; omega
   have i2 : (l.length : Int) > 14 := by omega
   clear hr h2 h3
   generalize l.length = L at *
   go_enter Tryz.func148, Tryz.ntmps148
   go_wp2_with fail
   go_ret
   exact ⟨rfl, Below.refl _ _⟩
 have i2 : ¬ (l.length : Int) > 14 := by omega
 obtain ⟨b, off, rfl, hb, hx⟩ := home_at hv (by omega)
 have HR : Hid (r = true ↔ GoodH n l l.length) := jz ⟨fun h => (hr.1 h).2.2.2, fun h => hr.2 ⟨by have := (h 0 (by omega)).1; omega, by omega, by omega, h⟩⟩
 have HC := jz hlc
 have HL : Hid (l.length <= 14) := jz (by omega)
 have HM := jz hcm
 have HV := jz hv
 clear hr hx hlc hcm hb hv h2 h3
 go_enter Tryz.func148, Tryz.ntmps148
 go_wp2
 go_loopw [18] (fun i wr => ∃ k : Nat, k <= l.length /\ i = .int .i64 k /\ Hid (GoodH n l k /\ Below w.heap.size w wr)) (fun i _ => l.length - (intOf i).toNat)
 case atStart => exact ⟨0, Nat.zero_le _, rfl, jz ⟨fun i hi => by omega, Below.refl _ _⟩⟩
 case round =>
  obtain ⟨k, hk, rfl, H⟩ := hrel
  by_cases hlt : k < l.length
  . obtain ⟨b', off', e, _, hx⟩ := home_at (ra_below HV.out H.out.2) (by omega)
    cases e
    obtain ⟨hl, _, _, hwf⟩ := hx k hlt
    obtain ⟨x, hx0⟩ : ∃ x, l.getD k default = x := ⟨_, rfl⟩
    rw [hx0] at hl hwf
    obtain ⟨W, hW, HW⟩ := home_boxed wr hwf.len
    have c0 := HW.out.1.slot
    have hw8 := hwf.len
    have HBW := jz (below_more H.out.2 HW.out.2)
    have i0 : (0 : Int) <= (k : Int) := by omega
    have i3 : (k : Int) < (l.length : Int) := by omega
    have i4 : ¬ (k : Int) < 0 := by omega
    have j0 : IntKind.i64.wrap ((k : Int) + 1) = ((k + 1 : Nat) : Int) := by rw [show (k : Int) + 1 = ((k + 1 : Nat) : Int) by omega]; exact i64_nat _ (by have := HL.out; omega)
    have KF : Hid (∀ i, l.getD k default = i -> ((16 <= i.i /\ i.i < n) /\ ∀ j, j < k -> i.i ≠ (l.getD j default).i) -> GoodH n l (k + 1)) := jz (by
     rintro i rfl h j hj
     by_cases e : j = k
     . subst e; exact h
     . exact H.out.1 j (by omega))
    have KN : Hid (r = true -> (16 <= x.i /\ x.i < n) /\ ∀ j, j < k -> x.i ≠ (l.getD j default).i) := jz (by
     intro h; have := HR.out.1 h k hlt; rw [hx0] at this; exact this)
    have HX0 := jz hx0
    have HK := jz hlt
    have HT : Hid (RA homeE W (.slice (some ⟨b, off, none⟩) k cap) (l.take k)) := jz (by
     have := ra_take (ra_below HV.out HBW.out) k
     rw [show min k l.length = k by omega] at this; exact this)
    have HTE : Hid (∀ xi, (∃ y ∈ l.take k, y.i = xi) ↔ ∃ j, j < k /\ (l.getD j default).i = xi) := jz fun xi => by
     constructor
     . rintro ⟨y, hy, e⟩
       obtain ⟨j, hj, rfl⟩ := mem_getD hy
       rw [List.length_take] at hj
       refine ⟨j, by omega, ?_⟩
       rw [<- e, List.getD_eq_getElem?_getD, List.getD_eq_getElem?_getD, List.getElem?_take, if_pos (by omega)]
     . rintro ⟨j, hj, e⟩
       refine ⟨l.getD j default, ?_, e⟩
       have : (l.take k).getD j default = l.getD j default := by rw [List.getD_eq_getElem?_getD, List.getD_eq_getElem?_getD, List.getElem?_take, if_pos hj]
       rw [<- this]
       exact getD_memH (by rw [List.length_take]; omega)
    obtain ⟨xi, hxi⟩ : ∃ z, x.i = z := ⟨_, rfl⟩
    rw [hxi] at c0
    have HE := jz hxi
    have i5 : (k : Int) <= (cap : Int) := by have := HC.out; omega
    have i6 : ¬ (cap : Int) < (k : Int) := by omega
    clear hx hwf hx0 hk hxi
    by_cases hbh : 16 <= xi /\ xi < n
    . have BC := jz (behind_any xi n true ⟨fun _ => hbh, fun _ => rfl⟩ W)
      have HBH := jz hbh
      clear hbh
      obtain ⟨rr, hrr⟩ : ∃ rr : Bool, rr = true ↔ ∃ y ∈ l.take k, y.i = xi := by
       by_cases hm : ∃ y ∈ l.take k, y.i = xi
       . exact ⟨true, fun _ => hm, fun _ => rfl⟩
       . exact ⟨false, fun e => (by cases e), fun e => absurd e hm⟩
      have CC := jz (cfn_is rr hrr c0 HT.out)
      have HRR := jz hrr
      clear hrr hlt
      go_wp2_with fail
      refine (BC.out).mono ?_; rintro e w' ⟨rfl, rfl⟩
      go_wp2_with fail
      refine (CC.out).mono ?_; rintro e w2 ⟨rfl, hb2⟩
      have HB2 := jz (below_more HBW.out hb2)
      clear hb2
      cases rr
      . have GK : Hid (GoodH n l (k + 1)) := jz (KF.out x HX0.out ⟨by rw [HE.out]; exact HBH.out, fun j hj e => by
         have := HRR.out.2 ((HTE.out xi).2 ⟨j, hj, e.symm.trans HE.out⟩)
         cases this⟩)
        go_wp2
        go_roundw
        case rel => exact ⟨k + 1, by have := HK.out; omega, by go_num, jz ⟨GK.out, HB2.out⟩⟩
        case measure => have := HK.out; simp [intOf]; omega
      . obtain rfl : r = false := by
         cases r
         . rfl
         . obtain ⟨j, hj, e⟩ := (HTE.out xi).1 (HRR.out.1 rfl)
           exact absurd (HE.out.trans e.symm) ((KN.out rfl).2 j hj)
        go_wp2
        go_ret
        exact ⟨rfl, HB2.out⟩
    . obtain rfl : r = false := by cases r; rfl; exact absurd (by rw [<- HE.out]; exact (KN.out rfl).1) hbh
      have BC := jz (behind_any xi n false ⟨fun h => (by cases h), fun h => absurd h hbh⟩ W)
      clear hbh hlt
      go_wp2_with fail
      refine (BC.out).mono ?_; rintro e w' ⟨rfl, rfl⟩
      go_wp2
      go_ret
      exact ⟨rfl, HBW.out⟩
  . obtain rfl : k = l.length := by omega
    obtain rfl : r = true := HR.out.2 H.out.1
    go_wp2
    go_ret
    exact ⟨rfl, H.out.2⟩
section
variable {P : Program} {α : Type} [Inhabited α]
theorem OwnA.setPart {E : Elm P α} {B g n c : Nat} {w : World} {l : List α} (h : OwnA E B w (.slice (some ⟨g, 0, none⟩) n c) l) {k o : Nat} {x : α} {cs : List Value} (hk : k < l.length) (ho : o + cs.length <= E.size) (hx : E.ok x)
 (he : ∀ j, j < E.size -> (E.enc x)[j]? = if o <= j /\ j < o + cs.length then cs[j - o]? else (E.enc (l.getD k default))[j]?) :
 OwnA E B (w.setCells g (k * E.size + o) cs) (.slice (some ⟨g, 0, none⟩) n c) (l.set k x) := by
 have hok : AllOk E (l.set k x) := fun y hy => by
  rcases List.mem_or_eq_of_mem_set hy with hy | rfl
  . exact h.2 y hy
  . exact hx
 obtain ⟨⟨hl, h0 | ⟨g', cap, cur, e, hb, hg, hnc, hcm, hsz, htk⟩⟩, hal⟩ := h
 . cases h0.1
 cases e
 obtain ⟨cur', w1, w2, w3⟩ := Whole.setCells cs (k * E.size + o) w cur (show Whole w g E.e cur from hg)
 have hlt : (k + 1) * E.size <= l.length * E.size := Nat.mul_le_mul_right _ hk
 have hcap : l.length * E.size <= c * E.size := Nat.mul_le_mul_right _ hnc
 have hcur : cur'.toList.length = c * E.size := by rw [Array.length_toList, w2, hsz]
 rw [Nat.add_mul] at hlt
 refine ⟨⟨by rw [flat_length E _ hok], .inr ⟨g, c, cur', by rw [List.length_set], hb, w1, by rw [List.length_set]; exact hnc, hcm, by rw [w2]; exact hsz, ?_⟩⟩, hok⟩
 rw [List.length_set]
 refine flat_ext E hok (by rw [List.length_take, hcur, List.length_set]; omega) fun k' j' hk' hj' => ?_
 rw [List.length_set] at hk'
 have hlt' : (k' + 1) * E.size <= l.length * E.size := Nat.mul_le_mul_right _ hk'
 rw [Nat.add_mul] at hlt'
 rw [List.getElem?_take, if_pos (by omega), Array.getElem?_toList, w3]
 have old : cur[k' * E.size + j']? = (E.enc (l.getD k' default))[j']? := by rw [<- flat_get E l hal _ _ hk' hj', <- htk, List.getElem?_take, if_pos (by omega), Array.getElem?_toList]
 by_cases hkk : k = k'
 . subst hkk
   have eg : (l.set k x).getD k default = x := by simp [hk]
   rw [eg, he _ hj', old]
   by_cases hr : o <= j' /\ j' < o + cs.length
   . rw [if_pos hr, if_pos (by omega), show k * E.size + j' - (k * E.size + o) = j' - o by omega]
   . rw [if_neg hr, if_neg (by omega)]
 . have eg : (l.set k x).getD k' default = l.getD k' default := by simp [hkk]
   rw [eg, old, if_neg]
   intro q
   rcases Nat.lt_or_gt_of_ne hkk with h1 | h1
   . have : (k + 1) * E.size <= k' * E.size := Nat.mul_le_mul_right _ h1
     rw [Nat.add_mul] at this; omega
   . have : (k' + 1) * E.size <= k * E.size := Nat.mul_le_mul_right _ h1
     rw [Nat.add_mul] at this; omega
end
def Oh (B : Nat) (w : World) (b k c : Nat) (f : Nat -> Hm) : Prop := OwnA homeE B w (.slice (some ⟨b, 0, none⟩) k c) ((List.range k).map f)
theorem oh_getD {k j : Nat} {f : Nat -> Hm} (hj : j < k) : ((List.range k).map f).getD j default = f j := by simp [hj]
section
variable {B b k c : Nat} {w w' : World} {f f' : Nat -> Hm}
theorem Oh.wf (h : Oh B w b k c f) {j : Nat} (hj : j < k) : (f j).Wf := by
 have := h.2.at_ (k := j) (by simpa using hj)
 rw [oh_getD hj] at this; exact this
theorem Oh.as (h : Oh B w b k c f) (he : ∀ i, i < k -> f' i = f i) : Oh B w b k c f' := by
 have e : (List.range k).map f' = (List.range k).map f := List.map_congr_left fun i hi => he i (List.mem_range.1 hi)
 unfold Oh; rw [e]; exact h
theorem Oh.below (h : Oh B w b k c f) (hb : Below w.heap.size w w') : Oh B w' b k c f := OwnA.below h hb
theorem Oh.ra (h : Oh B w b k c f) : RA homeE w (.slice (some ⟨b, 0, none⟩) k c) ((List.range k).map f) := OwnA.ra h
theorem Oh.free (h : Oh B w b k c f) (j : Nat) : w.frozen? ⟨b, j, none⟩ = false := OwnA.free h j
theorem Oh.row (h : Oh B w b k c f) {j : Nat} (hj : j < k) : w.rangeAt b (j * 9) (f j).cells := by
 obtain ⟨b', off, e, _, hx⟩ := ra_at h.ra (by simp; omega)
 cases e
 have := hx j (by simpa using hj)
 rw [oh_getD hj, Nat.zero_add] at this
 exact this
theorem Oh.cell (h : Oh B w b k c f) {j : Nat} (hj : j < k) : w.cell? ⟨b, j * 9, none⟩ = some (.int .i64 (f j).i) := (h.row hj) 0 _ rfl
theorem oh_set {j : Nat} {x : Hm} : ((List.range k).map f).set j x = (List.range k).map (upd f j x) := by
 refine List.ext_getElem (by simp) fun i h1 h2 => ?_
 rw [List.getElem_set]
 simp only [List.getElem_map, List.getElem_range, upd]
 split
 . rename_i e; rw [if_pos e.symm]
 . rename_i e; rw [if_neg fun q => e q.symm]
theorem Oh.num (h : Oh B w b k c f) {j : Nat} (hj : j < k) {v : Int} (hv : (Lit.int .i64 v).wf = true) : Oh B (w.setCell ⟨b, j * 9, none⟩ (.int .i64 v)) b k c (upd f j ⟨v, (f j).l⟩) := by
 have hw := h.wf hj
 have := OwnA.setCell (k := j) (j := 0) (x := ⟨v, (f j).l⟩) (u := .int .i64 v) h (by simpa using hj) (by decide) ⟨hw.len, hv⟩ (by rw [oh_getD hj]; rfl)
 rw [oh_set] at this
 exact this
theorem Oh.line (h : Oh B w b k c f) {j : Nat} (hj : j < k) {l : List Int} (hl : l.length = 8) :
 (lineStore (.pointer (some ⟨b, j * 9 + 1, none⟩)) (.agg (lc l))).run Tryz.prog w = .ok () (w.setCells b (j * 9 + 1) (l.map uv)) /\ Oh B (w.setCells b (j * 9 + 1) (l.map uv)) b k c (upd f j ⟨(f j).i, l⟩) := by
 have hw := h.wf hj
 constructor
 . unfold lineStore
   rw [run_storeAt_mid (P := Tryz.prog) w b (j * 9 + 1) 110 (lc l) (fun i hi => ?_) (by rw [info_line, lc_size, hl]) (lc_one l)]
   . simp [lc]
   . rw [lc_size, hl] at hi
     refine ⟨?_, h.free _⟩
     have := (h.row hj) (1 + i) _ (Hm.cells_l hw.len hi)
     rw [<- Nat.add_assoc] at this
     rw [this]; rfl
 . have := OwnA.setPart (k := j) (o := 1) (x := ⟨(f j).i, l⟩) (cs := l.map uv) h (by simpa using hj) (by rw [List.length_map, hl]; decide) ⟨hl, hw.wi⟩ (fun i hi => by
    rw [oh_getD hj, List.length_map, hl]
    have hi : i < 9 := hi
    match i, hi with
    | 0, _ => rfl
    | i + 1, hi =>
      rw [if_pos (by omega)]
      show (Hm.cells ⟨(f j).i, l⟩)[i + 1]? = _
      simp [Hm.cells])
   rw [oh_set] at this
   exact this
end
theorem run_make_homes (n : Nat) (hn : n <= 200) (kd : IntKind) (w : World) :
 (Instr.makeSlice 160 (.int kd (n : Int)) (.int kd (n : Int))).run Tryz.prog w = .ok (.slice (some ⟨w.heap.size, 0, none⟩) n n) (w.alloc (.cells (madeCells homeE.z.cells (n * 9)) 174)) := by
 obtain ⟨i, hi, hzz⟩ := Option.map_eq_some_iff.1 homeE.hi
 simp only [Prod.mk.injEq] at hzz
 obtain ⟨hz, hs, hb⟩ := hzz
 have e72 : homeE.bytes = 72 := rfl
 have := run_make (P := Tryz.prog) w 160 174 i _ Tryz.underlying160 hi hz kd kd n n (by omega) (by omega) (by rw [hb, e72]; omega) (by omega)
 rw [Int.toNat_natCast, hs] at this
 exact this
theorem oh_made (w : World) (n : Nat) (hn : n <= 200) : Oh w.heap.size (w.alloc (.cells (madeCells homeE.z.cells (n * 9)) 174)) w.heap.size n n (fun _ => ⟨0, zeros⟩) := by
 have := own_made_a homeE w n (by unfold maxLen; omega) (x := ⟨0, zeros⟩) ⟨rfl, by decide⟩ rfl
 unfold Oh
 rw [show (List.range n).map (fun _ => (⟨0, zeros⟩ : Hm)) = List.replicate n ⟨0, zeros⟩ by rw [List.map_const', List.length_range]]
 exact this
def rdI (t : Nat -> List Int) (i j : Nat) : Hm := if j < i then ⟨ixW t j, zeros⟩ else ⟨0, zeros⟩
theorem rdI_step (t : Nat -> List Int) (i j : Nat) : rdI t (i + 1) j = upd (rdI t i) i ⟨ixW t i, zeros⟩ j := by
 unfold rdI upd
 by_cases e : j = i
 . subst e; rw [if_pos (by omega), if_pos rfl]
 . rw [if_neg e]; dsimp only
   by_cases h : j < i
   . rw [if_pos h, if_pos (by omega)]
   . rw [if_neg h, if_neg (by omega)]
theorem ridx_is {x g y q n P per p b k c B : Nat} {s : Nv} {w : World} {t : Nat -> List Int} (ht : th s n P = t) (h : Lg w x g y q n P per p s) (L : LgOk s n P) (hd : s.dark = false) (hn : n <= 1000) (hk14 : k <= 14)
 (hI : ∀ i, i < k -> 16 <= ixW t i /\ ixW t i < n) (ho : Oh B w b k c (fun _ => ⟨0, zeros⟩)) (hne : b ≠ x /\ b ≠ g /\ b ≠ y /\ b ≠ q) :
 Calls Tryz.prog 147 #[.pointer (some ⟨x, 0, none⟩), .slice (some ⟨b, 0, none⟩) k c] w fun e w' => e = .returned (.int .i64 0) /\ Oh B w' b k c (rdI t k) /\ Chg [b] w w' := by
 have n17 := L.n17
 have O0 : Hid (Oh B w b k c (rdI t 0)) := jz (ho.as fun i _ => by unfold rdI; rw [if_neg (by omega)])
 have HL := jz h
 have HT := jz (L.g.tok hd)
 have HE := jz ht
 have HI := jz hI
 have HN : Hid (17 <= n /\ n <= 1000 /\ k <= 14) := jz ⟨n17, hn, hk14⟩
 have NE := jz hne
 clear h L hd hI ho hne n17 ht hn hk14
 go_enter Tryz.func147, Tryz.ntmps147
 go_wp2
 go_loopw [10] (fun i wr => ∃ z : Nat, z <= k /\ i = .int .i64 z /\ Hid (Oh B wr b k c (rdI t z) /\ Chg [b] w wr)) (fun i _ => k - (intOf i).toNat)
 case atStart => exact ⟨0, Nat.zero_le _, rfl, jz ⟨O0.out, Chg.refl _ _⟩⟩
 case round =>
  obtain ⟨z, hz, rfl, H⟩ := hrel
  clear O0
  by_cases hlt : z < k
  . have L1 := jz (HL.out.chg H.out.2 (by simpa using NE.out.1.symm) (by simpa using NE.out.2.1.symm) (by simpa using NE.out.2.2.1.symm) (by simpa using NE.out.2.2.2.symm))
    have c1 := L1.out.c1
    obtain ⟨Y, hY⟩ : ∃ Y, t (z / 8) = Y := ⟨_, rfl⟩
    have h8 : Y.length = 8 := by rw [<- hY, <- HE.out]; exact th_wide HT.out.l.ok _ _ _
    have GC := jz (tget_is (a := z / 8) (y := Y) (by rw [<- hY, <- HE.out]; rfl) HT.out HN.out.2.1 (by have := HN.out; omega) L1.out.tq L1.out.lq L1.out.nm)
    obtain ⟨v, hv⟩ : ∃ v, Y.getD (z % 8) 0 = v := ⟨_, rfl⟩
    have hvi : ixW t z = v := by unfold ixW; rw [hY, hv]
    have hvb := HI.out z hlt
    rw [hvi] at hvb
    have i0 : (0 : Int) <= (z : Int) := by omega
    have i3 : (z : Int) < (k : Int) := by omega
    have i4 : ¬ (z : Int) < 0 := by omega
    have j0 : IntKind.i64.wrap ((z : Int) + 1) = ((z + 1 : Nat) : Int) := by rw [show (z : Int) + 1 = ((z + 1 : Nat) : Int) by omega]; exact i64_nat _ (by have := HN.out; omega)
    have j1 : (z : Int).tdiv 8 = ((z / 8 : Nat) : Int) := tdiv_nat _ _
    have j2 : IntKind.i64.wrap ((z / 8 : Nat) : Int) = ((z / 8 : Nat) : Int) := i64_nat _ (by have := HN.out; omega)
    have j3 : (z : Int).tmod 8 = ((z % 8 : Nat) : Int) := tmod_nat _ _
    have j4 : IntKind.i64.wrap ((z % 8 : Nat) : Int) = ((z % 8 : Nat) : Int) := i64_nat _ (by omega)
    have j5 : (0 : Int) <= ((z % 8 : Nat) : Int) := by omega
    have j6 : ((z % 8 : Nat) : Int) < 8 := by omega
    have j7 : ¬ ((z % 8 : Nat) : Int) < 0 := by omega
    have r8 : z % 8 < 8 := by omega
    have m0 : min v 9223372036854775807 = v := by have := HN.out; omega
    have m1 : v < 9223372036854775807 := by have := HN.out; omega
    have m2 : v <= 9223372036854775807 := by omega
    have m3 : IntKind.i64.wrap v = v := by
     have := HN.out
     rw [show v = ((v.toNat : Nat) : Int) by omega]; exact i64_nat _ (by omega)
    have m4 : (Lit.int .i64 v).wf = true := by
     have := HN.out
     simp [Lit.wf, IntKind.min, IntKind.max, IntKind.signed, IntKind.bits]; omega
    have HK := jz hlt
    have VI := jz hvi
    have ZI : Hid (rdI t z z = ⟨0, zeros⟩) := jz (by unfold rdI; rw [if_neg (by omega)])
    have M4 := jz m4
    clear hY hvi hvb hlt hz m4
    generalize z / 8 = za at *
    generalize hzr : z % 8 = zr at *
    clear hzr
    go_wp2_with fail
    refine (GC.out).mono ?_; rintro e w1 ⟨rfl, hb⟩
    obtain ⟨W, hW, H1⟩ := boxed1 w1 h8
    have OW := jz ((H.out.1.below hb).below H1.out.2)
    have CW := jz ((H.out.2.trans (Chg.of_below hb [b])).trans (Chg.of_below H1.out.2 [b]))
    obtain ⟨d0, _⟩ := H1.out.1.cell r8
    rw [hv] at d0
    have e0 := OW.out.cell HK.out
    rw [ZI.out] at e0
    have f0 := OW.out.free (z * 9)
    obtain ⟨V, hV⟩ : ∃ V, W.setCell ⟨b, z * 9, none⟩ (.int .i64 v) = V := ⟨_, rfl⟩
    have OV : Hid (Oh B V b k c (rdI t (z + 1)) /\ Chg [b] w V) := jz (by
     refine ⟨?_, ?_⟩
     . have := OW.out.num HK.out M4.out
       rw [hV, ZI.out] at this
       refine this.as fun i _ => ?_
       rw [rdI_step, VI.out]
     . rw [<- hV]
       exact CW.out.setCell (.inl (by simp)) _)
    clear hb c1 hv
    go_wp2
    exact ⟨⟨z + 1, by have := HK.out; omega, by go_num, OV⟩, by have := HK.out; simp [intOf]; omega⟩
  . obtain rfl : z = k := by omega
    go_wp2
    go_ret
    exact ⟨rfl, H.out⟩
structure Kept (p : Prop) : Prop where
 out : p
def IsLn (w : World) (g : Nat) : Prop := ∃ l, Ln w g l
theorem size_drew (w : World) : w.drew.heap.size = w.heap.size := rfl
theorem IsLn.new (w : World) {l : List Int} (h : l.length = 8) : IsLn (w.alloc (.cells (lc l) 110)) w.heap.size := ⟨l, Ln.new w h⟩
theorem IsLn.fresh (w : World) (g : Nat) {l : List Int} (e : g = w.heap.size) (h : l.length = 8) : IsLn (w.alloc (.cells (lc l) 110)) g := by subst e; exact IsLn.new w h
theorem IsLn.up {w : World} {g : Nat} (h : IsLn w g) (o : Obj) : IsLn (w.alloc o) g := h.elim fun l h => ⟨l, h.alloc o⟩
theorem IsLn.call {w w' : World} {g : Nat} (hb : Below w.heap.size w w') (h : IsLn w g) : IsLn w' g := h.elim fun l h => ⟨l, h.below hb⟩
theorem IsLn.drew {w : World} {g : Nat} (h : IsLn w g) : IsLn w.drew g := h
theorem IsLn.row {w : World} {g g' : Nat} {c : List Int} (h : IsLn w g) (hc : c.length = 8) : IsLn (w.setRow g' (lc c)) g := by
 obtain ⟨l, h⟩ := h
 by_cases e : g = g'
 . subst e; exact ⟨c, h.put hc⟩
 . exact ⟨l, h.past e⟩
theorem run_store_is {w : World} {g : Nat} {x : List Int} (h : IsLn w g) (hx : x.length = 8) : (lineStore (.pointer (some ⟨g, 0, none⟩)) (.agg (lc x))).run Tryz.prog w = .ok () (w.setRow g (lc x)) :=
 h.elim fun _ h => h.store hx
theorem put_ln {w : World} {g : Nat} {x : List Int} (h : IsLn w g) (hx : x.length = 8) : Ln (w.setRow g (lc x)) g x := h.elim fun _ h => h.put hx
theorem Ln.fresh (w : World) (g : Nat) {l : List Int} (e : g = w.heap.size) (h : l.length = 8) : Ln (w.alloc (.cells (lc l) 110)) g l := by subst e; exact Ln.new w h
theorem put_at {w : World} {g g' : Nat} {x : List Int} (e : g = g') (h : IsLn w g) (hx : x.length = 8) : Ln (w.setRow g' (lc x)) g x := by subst e; exact put_ln h hx
theorem Ln.drew {w : World} {g : Nat} {l : List Int} (h : Ln w g l) : Ln w.drew g l := h
def rdD (t : Nat -> List Int) (k i j : Nat) : Hm := ⟨ixW t j, if j < i then t (ixN k + j) else zeros⟩
theorem rdD_step (t : Nat -> List Int) (k i j : Nat) : rdD t k (i + 1) j = upd (rdD t k i) i ⟨ixW t i, t (ixN k + i)⟩ j := by
 unfold rdD upd
 by_cases e : j = i
 . subst e; rw [if_pos (by omega), if_pos rfl]
 . rw [if_neg e]; dsimp only
   by_cases h : j < i
   . rw [if_pos h, if_pos (by omega)]
   . rw [if_neg h, if_neg (by omega)]
theorem rdat_is {x g y q n P per p b k c B : Nat} {s : Nv} {w : World} {t : Nat -> List Int} (ht : th s n P = t) (h : Lg w x g y q n P per p s) (L : LgOk s n P) (hd : s.dark = false) (hn : n <= 1000) (hk14 : k <= 14)
 (ho : Oh B w b k c (rdI t k)) (hne : b ≠ x /\ b ≠ g /\ b ≠ y /\ b ≠ q) :
 Calls Tryz.prog 149 #[.pointer (some ⟨x, 0, none⟩), .slice (some ⟨b, 0, none⟩) k c] w fun e w' => e = .returned (.int .i64 0) /\ Oh B w' b k c (rdD t k k) /\ Chg [b] w w' := by
 have n17 := L.n17
 have O0 : Hid (Oh B w b k c (rdD t k 0)) := jz (ho.as fun i hi => by unfold rdD rdI; rw [if_neg (by omega), if_pos hi])
 have HL := jz h
 have HT := jz (L.g.tok hd)
 have HE := jz ht
 have HN : Hid (17 <= n /\ n <= 1000 /\ k <= 14) := jz ⟨n17, hn, hk14⟩
 have NE := jz hne
 have IC := jz (ixl_nat k (by omega))
 have XB : Hid (ixN k <= 2) := jz (by unfold ixN; omega)
 clear h L hd ho hne n17 ht hn hk14
 go_enter Tryz.func149, Tryz.ntmps149
 go_wp2
 go_loopw [10] (fun i wr => ∃ z : Nat, z <= k /\ i = .int .i64 z /\ Hid (Oh B wr b k c (rdD t k z) /\ Chg [b] w wr)) (fun i _ => k - (intOf i).toNat)
 case atStart => exact ⟨0, Nat.zero_le _, rfl, jz ⟨O0.out, Chg.refl _ _⟩⟩
 case round =>
  obtain ⟨z, hz, rfl, H⟩ := hrel
  clear O0
  by_cases hlt : z < k
  . have L1 := jz (HL.out.chg H.out.2 (by simpa using NE.out.1.symm) (by simpa using NE.out.2.1.symm) (by simpa using NE.out.2.2.1.symm) (by simpa using NE.out.2.2.2.symm))
    have c1 : ∀ w' : World, Kept (Below wr.heap.size wr w') -> w'.cell? ⟨x, 1, none⟩ = some (.pointer (some ⟨y, 0, none⟩)) := fun w' hb => (L1.out.below hb.out).c1
    obtain ⟨Y, hY⟩ : ∃ Y, t (ixN k + z) = Y := ⟨_, rfl⟩
    have h8 : Y.length = 8 := by rw [<- hY, <- HE.out]; exact th_wide HT.out.l.ok _ _ _
    have GC := jz fun (w' : World) (hb : Kept (Below wr.heap.size wr w')) => tget_is (a := ixN k + z) (y := Y) (by rw [<- hY, <- HE.out]; rfl) HT.out HN.out.2.1 (by have := HN.out; have := XB.out; omega) (L1.out.below hb.out).tq (L1.out.below hb.out).lq (L1.out.below hb.out).nm
    have i0 : (0 : Int) <= (z : Int) := by omega
    have i3 : (z : Int) < (k : Int) := by omega
    have i4 : ¬ (z : Int) < 0 := by omega
    have j0 : IntKind.i64.wrap ((z : Int) + 1) = ((z + 1 : Nat) : Int) := by rw [show (z : Int) + 1 = ((z + 1 : Nat) : Int) by omega]; exact i64_nat _ (by have := HN.out; omega)
    have j1 : IntKind.i64.wrap ((ixN k : Int) + (z : Int)) = ((ixN k + z : Nat) : Int) := by rw [show (ixN k : Int) + (z : Int) = ((ixN k + z : Nat) : Int) by omega]; exact i64_nat _ (by have := HN.out; have := XB.out; omega)
    have HK := jz hlt
    have YE : Hid (∀ i, rdD t k (z + 1) i = upd (rdD t k z) z ⟨ixW t z, Y⟩ i) := jz fun i => by rw [rdD_step, hY]
    have ZI : Hid ((rdD t k z z).i = ixW t z) := jz rfl
    clear hY hlt hz
    generalize ixN k + z = za at *
    generalize hxk : ixN k = xk at *
    go_upto_region 4 with fail
    go_cut [6, 7, 10] from 10 to 34 (fun v6 v7 v10 wx => ∃ g' : Nat, v6 = .pointer (some ⟨g', 0, none⟩) /\ v7 = .int .i64 0 /\ v10 = .int .i64 (z : Int) /\ Hid (Ln wx g' Y /\ Below wr.heap.size wr wx))
    case first =>
     go_region_held3 (fun w' => Kept (Below wr.heap.size wr w'))
      (((refine ⟨?_⟩); (repeat' (with_reducible (first | exact Below.refl _ _ | refine Below.drew ?_ | refine below_more ?_ (by assumption) | refine bal ?_ | refine below_row ?_ ?_ | (simp only [Hid, size_alloc, size_drew] at *; omega))))))
      (first
        | (go_at_call 175; refine (IC.out _).mono ?_; rintro e wq ⟨rfl, rfl⟩)
        | (go_at_call 128; refine (GC.out _ (by first | assumption | ((refine ⟨?_⟩); (repeat' (with_reducible (first | exact Below.refl _ _ | refine Below.drew ?_ | refine below_more ?_ (by assumption) | refine bal ?_)))))).mono ?_; rintro e wq ⟨rfl, hbq⟩; have zq := jz hbq.size)
        | (rw [run_store_is (by (repeat' (first
            | ((with_reducible refine IsLn.fresh _ _ ?_ ?_); (focus (with_reducible rfl)); (focus (first | assumption | rfl)))
            | (with_reducible refine IsLn.up ?_ _) | (with_reducible refine IsLn.drew ?_) | (with_reducible refine IsLn.row ?_ (by assumption)) | (with_reducible refine IsLn.call (by assumption) ?_)))) (by assumption)]))
     all_goals (go_wp2_with fail; go_meet)
     all_goals
      refine ⟨_, rfl, rfl, rfl, jz ⟨?_, Kept.out ‹Kept (Below wr.heap.size wr _)›⟩⟩ <;>
      (repeat' (first
        | ((with_reducible refine Ln.fresh _ _ ?_ ?_); (focus (with_reducible rfl)); (focus (first | assumption | rfl)))
        | ((with_reducible refine put_at ?_ ?_ ?_); (focus (with_reducible rfl)))
        | ((with_reducible refine Ln.past ?_ ?_); rotate_left; (focus (simp only [Hid, size_alloc, size_drew] at *; omega)))
        | (with_reducible refine Ln.alloc ?_ _) | (with_reducible refine Ln.drew ?_)
        | ((with_reducible refine IsLn.fresh _ _ ?_ ?_); (focus (with_reducible rfl)); (focus (first | assumption | rfl)))
        | (with_reducible refine IsLn.up ?_ _) | (with_reducible refine IsLn.drew ?_) | (with_reducible refine IsLn.row ?_ (by assumption)) | (with_reducible refine IsLn.call (by assumption) ?_) | assumption))
    case rest =>
     obtain ⟨g', rfl, rfl, rfl, HC⟩ := hcut
     have OW := jz (H.out.1.below HC.out.2)
     have CW := jz (H.out.2.trans (Chg.of_below HC.out.2 [b]))
     have l0 := HC.out.1.load
     obtain ⟨s0, o0⟩ := OW.out.line HK.out h8
     obtain ⟨V, hV⟩ : ∃ V, wc.setCells b (z * 9 + 1) (Y.map uv) = V := ⟨_, rfl⟩
     rw [hV] at s0 o0
     have OV : Hid (Oh B V b k c (rdD t k (z + 1)) /\ Chg [b] w V) := jz (by
      refine ⟨?_, ?_⟩
      . rw [ZI.out] at o0
        refine o0.as fun i _ => ?_
        exact YE.out i
      . rw [<- hV]
        exact Chg.setCells (.inl (by simp)) _ _ _ CW.out)
     clear o0
     go_wp2
     exact ⟨⟨z + 1, by have := HK.out; omega, by go_num, OV⟩, by have := HK.out; simp [intOf]; omega⟩
  . obtain rfl : z = k := by omega
    go_wp2
    go_ret
    exact ⟨rfl, H.out⟩
theorem mayH_congr {n : Int} {h h' : List Hm} (e : h'.map (·.i) = h.map (·.i)) (M : MayH n h) : MayH n h' := by
 have el : h'.length = h.length := by simpa using congrArg List.length e
 refine ⟨M.n16, by rw [el]; exact M.lo, by rw [el]; exact M.hi, fun x hx => ?_, by rw [e]; exact M.nd⟩
 have : x.i ∈ h'.map (·.i) := List.mem_map.2 ⟨x, hx, rfl⟩
 rw [e] at this
 obtain ⟨y, hy, ey⟩ := List.mem_map.1 this
 rw [<- ey]; exact M.at_ y hy
theorem rdI_i (t : Nat -> List Int) (k : Nat) : ((List.range k).map (rdI t k)).map (·.i) = (logD t k).map (·.i) := by
 unfold logD
 rw [List.map_map, List.map_map]
 refine List.map_congr_left fun i hi => ?_
 have hi := List.mem_range.1 hi
 simp [rdI, hi]
theorem rdD_all (t : Nat -> List Int) (k : Nat) : (List.range k).map (rdD t k k) = logD t k := by
 unfold logD
 refine List.map_congr_left fun i hi => ?_
 have hi := List.mem_range.1 hi
 simp [rdD, hi]
section
variable {x g y q n P per p : Nat} {s : Nv} {w : World}
theorem cm_zero (h : Lg w x g y q n P per p s) (hd : s.dark = false) (hr : s.rg 1 = 0) : Calls Tryz.prog 121 #[.pointer (some ⟨x, 0, none⟩)] w fun e w' => e = .returned (.tuple #[.slice none 0 0, .int .i64 0]) /\ w = w' := by
 have C := jz (lpend_live h hd hr)
 clear h hd hr
 go_enter Tryz.func121, Tryz.ntmps121
 go_wp2_with fail
 refine (C.out).mono ?_; rintro e w' ⟨rfl, rfl⟩
 go_wp2_with fail
 go_ret2
 exact ⟨rfl, rfl⟩
theorem cm_some (h : Lg w x g y q n P per p s) (L : LgOk s n P) (hd : s.dark = false) (hn : n <= 1000) (h0 : lk s ≠ 0) :
 Calls Tryz.prog 121 #[.pointer (some ⟨x, 0, none⟩)] w fun e w' => ∃ v, e = .returned (.tuple #[v, .int .i64 0]) /\ (∀ b, v.ownBlock = some b -> w.heap.size <= b) /\ RA homeE w' v (com s n P) /\ Below w.heap.size w w' := by
 have M := L.fo.resolve_left h0
 obtain ⟨k, hk⟩ : ∃ k, lk s = k := ⟨_, rfl⟩
 obtain ⟨t, ht⟩ : ∃ t, th s n P = t := ⟨_, rfl⟩
 have ec : com s n P = logD t k := by unfold com; rw [ht, hk]
 rw [ec] at M ⊢
 have hk14 : k <= 14 := by have := M.hi; rw [logD_length] at this; exact this
 have hr := L.r1
 rw [hk] at hr h0
 have C := jz (lpend_live h hd hr)
 have b0 : ((k : Int) == 0) = false := beq_eq_false_iff_ne.2 (by omega)
 have b1 : ¬ (k : Int) > 14 := by omega
 have hmk := run_make_homes k (by omega) .u64 w
 have o0 := oh_made w k (by omega)
 obtain ⟨W, hW⟩ : ∃ W, w.alloc (.cells (madeCells homeE.z.cells (k * 9)) 174) = W := ⟨_, rfl⟩
 have hb0 : Below w.heap.size w W := by rw [<- hW]; exact bal (Below.refl _ _)
 rw [hW] at hmk o0
 have LW := h.below hb0
 have NE : Hid (w.heap.size ≠ x /\ w.heap.size ≠ g /\ w.heap.size ≠ y /\ w.heap.size ≠ q) := jz ⟨by have := h.xlt; omega, by have := h.nm.lt; omega, by have := h.tq.lt; omega, by have := h.lq.lt; omega⟩
 have hI : ∀ i, i < k -> 16 <= ixW t i /\ ixW t i < n := fun i hi => M.at_ ⟨ixW t i, t (ixN k + i)⟩ (List.mem_map.2 ⟨i, List.mem_range.2 hi, rfl⟩)
 have RI_ := jz (ridx_is ht LW L hd hn hk14 hI o0 NE.out)
 have HB := jz hb0
 have HL := jz LW
 have HH := jz (And.intro L (And.intro hd (And.intro hn hk14)))
 have HM := jz (mayH_congr (rdI_i t k) M)
 have HT := jz ht
 clear h L hd hn M ht ec hk14 hr o0 hb0 LW hI hk h0
 go_enter Tryz.func121, Tryz.ntmps121
 go_wp2_with fail
 refine (C.out).mono ?_; rintro e w' ⟨rfl, rfl⟩
 go_wp2_with fail
 refine (RI_.out).mono ?_; rintro e w1 ⟨rfl, ho, hc⟩
 have O1 := jz ho
 have L1 := jz (HL.out.chg hc (by simpa using NE.out.1.symm) (by simpa using NE.out.2.1.symm) (by simpa using NE.out.2.2.1.symm) (by simpa using NE.out.2.2.2.symm))
 have B1 := jz (hc.below HB.out HB.out.size (fun j hj => by rw [List.mem_singleton.1 hj]; exact Nat.le_refl _))
 have LC := jz (llines_is L1.out)
 have MC := jz (lmay_is (n : Int) _ _ true w1 O1.out.ra ⟨fun _ => HM.out, fun _ => rfl⟩)
 clear ho hc hmk hW
 go_wp2_with fail
 refine (LC.out).mono ?_; rintro e w' ⟨rfl, rfl⟩
 go_wp2_with fail
 refine (MC.out).mono ?_; rintro e w2 ⟨rfl, hb⟩
 have B2 := jz (below_more B1.out hb)
 have RD := jz (rdat_is HT.out (L1.out.below hb) HH.out.1 HH.out.2.1 HH.out.2.2.1 HH.out.2.2.2 (O1.out.below hb) NE.out)
 clear hb
 go_wp2_with fail
 refine (RD.out).mono ?_; rintro e w3 ⟨rfl, ho, hc⟩
 have B3 := jz (hc.below B2.out B2.out.size (fun j hj => by rw [List.mem_singleton.1 hj]; exact Nat.le_refl _))
 have RR := jz ho.ra
 rw [rdD_all] at RR
 clear ho hc
 go_wp2_with fail
 go_ret2
 exact ⟨_, rfl, fun b hb => (by cases hb; exact Nat.le_refl _), RR.out, B3.out⟩
end
theorem get_from0 {x g y q n P per p a : Nat} {s : Nv} {w : World} {C : List Hm} {Z : List Int} (h : Lg w x g y q n P per p s) (L : GOk s n P) (hd : s.dark = false) (hn : n <= 1000) (ha : 16 <= a) (han : a < n) (nd : (C.map (·.i)).Nodup) (hC14 : C.length <= 14) (hZ : hv C (th s n P) a = Z)
 (CM : ∀ w', Below w.heap.size w w' -> Calls Tryz.prog 121 #[.pointer (some ⟨x, 0, none⟩)] w' fun e w2 => ∃ v, e = .returned (.tuple #[v, .int .i64 0]) /\ RA homeE w2 v C /\ Below w'.heap.size w' w2) :
 Calls Tryz.prog 104 #[.pointer (some ⟨x, 0, none⟩), .int .i64 (a : Int)] w fun e w' => e = .returned (.tuple #[.agg (lc Z), .int .i64 0]) /\ Below w.heap.size w w' := by
 obtain ⟨W, hW, H0⟩ := boxed1 w (a := [0, 0, 0, 0, 0, 0, 0, 0]) rfl
 have HL := jz (h.below H0.out.2)
 have LC := jz (llines_is HL.out)
 have BC := jz (behind_any (a : Int) (n : Int) true ⟨fun _ => ⟨by omega, by omega⟩, fun _ => rfl⟩ W)
 have CC := jz (CM W H0.out.2)
 have HT := jz (L.tok hd)
 have HN : Hid (16 <= a /\ a < n /\ n <= 1000 /\ C.length <= 14) := jz ⟨ha, han, hn, hC14⟩
 have ND := jz nd
 have HZ := jz hZ
 have HG := jz L
 clear h L hd hn ha han nd hZ CM hC14
 go_enter Tryz.func104, Tryz.ntmps104
 go_wp2_with fail
 refine (LC.out).mono ?_; rintro e w' ⟨rfl, rfl⟩
 go_wp2_with fail
 refine (BC.out).mono ?_; rintro e w' ⟨rfl, rfl⟩
 go_wp2_with fail
 refine (CC.out).mono ?_; rintro e w1 ⟨v, rfl, hr, hb⟩
 obtain ⟨pv, cap, rfl, hlc, hcm⟩ := ra_shape hr
 have HR := jz hr
 have L1 := jz (HL.out.below hb)
 have G1 := jz (H0.out.1.below hb)
 have B1 := jz (below_more H0.out.2 hb)
 clear hr hb hlc hcm
 go_wp2
 go_loopw [31] (fun i wr => ∃ z : Nat, z <= C.length /\ i = .int .i64 z /\ Hid ((∀ j, j < z -> (C.getD j default).i ≠ (a : Int)) /\ Below w1.heap.size w1 wr)) (fun i _ => C.length - (intOf i).toNat)
 case atStart => exact ⟨0, Nat.zero_le _, rfl, jz ⟨fun j hj => by omega, Below.refl _ _⟩⟩
 case round =>
  obtain ⟨z, hz, rfl, H⟩ := hrel
  by_cases hlt : z < C.length
  . obtain ⟨b, off, e, _, hx⟩ := home_at (ra_below HR.out H.out.2) (by omega)
    subst e
    obtain ⟨hl, _, _, hwf⟩ := hx z hlt
    obtain ⟨X, hX⟩ : ∃ X, C.getD z default = X := ⟨_, rfl⟩
    rw [hX] at hl hwf
    obtain ⟨V, hV, HV⟩ := home_boxed wr hwf.len
    have d0 := HV.out.1.slot
    have d1 := HV.out.1.line
    have h8 := hwf.len
    have hw8 := hwf.len
    have hXC : X ∈ C := by rw [<- hX]; exact getD_memH hlt
    have HXC := jz hXC
    have BV := jz (below_more H.out.2 HV.out.2)
    have GV := jz (G1.out.below BV.out)
    have i0 : (0 : Int) <= (z : Int) := by omega
    have i3 : (z : Int) < (C.length : Int) := by omega
    have i4 : ¬ (z : Int) < 0 := by omega
    have j0 : IntKind.i64.wrap ((z : Int) + 1) = ((z + 1 : Nat) : Int) := by rw [show (z : Int) + 1 = ((z + 1 : Nat) : Int) by omega]; exact i64_nat _ (by have := HN.out; omega)
    obtain ⟨xi, hxi⟩ : ∃ xi, X.i = xi := ⟨_, rfl⟩
    obtain ⟨xl, hxl⟩ : ∃ xl, X.l = xl := ⟨_, rfl⟩
    rw [hxi] at d0
    rw [hxl] at d1 h8
    have HK := jz hlt
    have XI := jz hxi
    have XL := jz hxl
    have XE := jz hX
    clear hx hwf hX hXC hlt hz hxi hxl
    by_cases he : xi = (a : Int)
    . have hst := GV.out.store h8
      have FY := jz (GV.out.put h8)
      have EZ : Hid (Z = xl) := jz (by rw [<- HZ.out, hv_mem ND.out HXC.out (XI.out.trans he)]; exact XL.out)
      subst he
      have BF := jz (((Chg.of_below (below_more B1.out BV.out) [w.heap.size]).setRow (g := w.heap.size) (.inl (by simp)) (lc xl)).below (Below.refl w.heap.size w) (Nat.le_refl _) (fun k hk => by rw [List.mem_singleton.1 hk]; exact Nat.le_refl _))
      go_wp2
      exact bodyPost_ret (v := .tuple #[.agg (lc xl), .int .i64 0]) (results_cell_tmp rfl _ _ _ _ _ _ _ _ rfl rfl FY.out.1 Tryz.underlying110 rfl (by rw [info_line, lc_size, h8])) rfl ⟨by rw [EZ.out], BF.out⟩
    . have he0 : (xi == (a : Int)) = false := beq_eq_false_iff_ne.2 he
      have NX : Hid (∀ j, j < z + 1 -> (C.getD j default).i ≠ (a : Int)) := jz (fun j hj => by
       by_cases e : j = z
       . subst e; rw [XE.out, XI.out]; exact he
       . exact H.out.1 j (by omega))
      go_wp2
      go_roundw
      case rel => exact ⟨z + 1, by have := HK.out; omega, by go_num, jz ⟨NX.out, BV.out⟩⟩
      case measure => have := HK.out; simp [intOf]; omega
  . obtain rfl : z = C.length := by omega
    have EZ : th s n P a = Z := by
     rw [<- HZ.out]
     refine (hv_not fun X hX => ?_).symm
     obtain ⟨j, hj, rfl⟩ := mem_getD hX
     exact H.out.1 j hj
    have h8 : Z.length = 8 := by rw [<- EZ]; exact th_wide HG.out.ok _ _ _
    have L2 := jz (L1.out.below H.out.2)
    have c1 := L2.out.c1
    have GC := jz (tget_is (a := a) (y := Z) EZ HT.out HN.out.2.2.1 HN.out.2.1 L2.out.tq L2.out.lq L2.out.nm)
    clear EZ
    go_wp2_with fail
    refine (GC.out).mono ?_; rintro e w3 ⟨rfl, hb⟩
    have GV := jz ((G1.out.below H.out.2).below hb)
    have hst := GV.out.store h8
    have FY := jz (GV.out.put h8)
    have BF := jz (((Chg.of_below (below_more (below_more B1.out H.out.2) hb) [w.heap.size]).setRow (g := w.heap.size) (.inl (by simp)) (lc Z)).below (Below.refl w.heap.size w) (Nat.le_refl _) (fun k hk => by rw [List.mem_singleton.1 hk]; exact Nat.le_refl _))
    clear hb
    go_wp2
    exact bodyPost_ret (v := .tuple #[.agg (lc Z), .int .i64 0]) (results_cell_tmp rfl _ _ _ _ _ _ _ _ rfl rfl FY.out.1 Tryz.underlying110 rfl (by rw [info_line, lc_size, h8])) rfl ⟨rfl, BF.out⟩
section
variable {x g y q n P per p a : Nat} {s : Nv} {w : World}
theorem gt_live (h : Lg w x g y q n P per p s) (L : LgOk s n P) (hd : s.dark = false) (hn : n <= 1000) (ha : 16 <= a) (han : a < n) :
 Calls Tryz.prog 104 #[.pointer (some ⟨x, 0, none⟩), .int .i64 (a : Int)] w fun e w' => e = .returned (.tuple #[.agg (lc (view s n P a)), .int .i64 0]) /\ Below w.heap.size w w' := by
 by_cases h0 : lk s = 0
 . have e0 : com s n P = [] := by unfold com; rw [h0]; rfl
   refine get_from0 (C := com s n P) h L.g hd hn ha han (by rw [e0]; exact List.nodup_nil) (by rw [e0]; decide) rfl fun w' hb => (cm_zero (h.below hb) hd (by rw [L.r1, h0]; rfl)).mono ?_
   rintro e w2 ⟨rfl, rfl⟩
   exact ⟨_, rfl, by rw [e0]; exact ra_nil _ _, Below.refl _ _⟩
 . have M := L.fo.resolve_left h0
   refine get_from0 h L.g hd hn ha han M.nd M.hi rfl fun w' hb => (cm_some (h.below hb) L hd hn h0).mono ?_
   rintro e w2 ⟨v, rfl, _, hr, hb2⟩
   exact ⟨v, rfl, hr, hb2⟩
end
def ldF (h : List Hm) (z j : Nat) : List Int :=
 if j < ixN h.length then (List.range 8).map fun i => if 8 * j + i < z then (h.getD (8 * j + i) default).i else 0
 else if j - ixN h.length < z then (h.getD (j - ixN h.length) default).l else zeros
theorem ldF_step {h : List Hm} {z : Nat} (hz : z < h.length) (j : Nat) : ldF h (z + 1) j = upd (upd (ldF h z) (z / 8) ((ldF h z (z / 8)).set (z % 8) (h.getD z default).i)) (ixN h.length + z) (h.getD z default).l j := by
 have hx : z / 8 < ixN h.length := by unfold ixN; omega
 unfold upd
 by_cases e1 : j = ixN h.length + z
 . subst e1
   rw [if_pos rfl]; unfold ldF
   rw [if_neg (by omega), if_pos (by omega), show ixN h.length + z - ixN h.length = z by omega]
 . rw [if_neg e1]
   by_cases e2 : j = z / 8
   . subst e2
     rw [if_pos rfl]
     unfold ldF
     rw [if_pos hx, if_pos hx]
     refine List.ext_getElem (by simp) fun i h1 h2 => ?_
     simp only [List.length_map, List.length_range] at h1
     rw [List.getElem_set]
     simp only [List.getElem_map, List.getElem_range]
     by_cases e3 : z % 8 = i
     . rw [if_pos e3, if_pos (by omega), show 8 * (z / 8) + i = z by omega]
     . rw [if_neg e3]
       by_cases h3 : 8 * (z / 8) + i < z
       . rw [if_pos h3, if_pos (by omega)]
       . rw [if_neg h3, if_neg (by omega)]
   . rw [if_neg e2]; unfold ldF
     by_cases h1 : j < ixN h.length
     . rw [if_pos h1, if_pos h1]
       refine List.map_congr_left fun i hi => ?_
       have := List.mem_range.1 hi
       by_cases h2 : 8 * j + i < z
       . rw [if_pos h2, if_pos (by omega)]
       . rw [if_neg h2, if_neg (by omega)]
     . rw [if_neg h1, if_neg h1]
       by_cases h2 : j - ixN h.length < z
       . rw [if_pos h2, if_pos (by omega)]
       . rw [if_neg h2, if_neg (by omega)]
theorem ldF_none (h : List Hm) (j : Nat) : ldF h 0 j = zeros := by
 unfold ldF
 by_cases h1 : j < ixN h.length
 . rw [if_pos h1]; simp only [Nat.not_lt_zero, if_false]; rfl
 . rw [if_neg h1, if_neg (by omega)]
theorem lgP_at {h : List Hm} {j : Nat} (hj : j < ixN h.length + h.length) : (lgP h)[j]? = some (j, ldF h h.length j) := by
 unfold lgP ldF
 by_cases h1 : j < ixN h.length
 . rw [if_pos h1, List.getElem?_append_left (by simpa [ixP] using h1)]
   have e : idxL h j = (List.range 8).map fun i => if 8 * j + i < h.length then (h.getD (8 * j + i) default).i else 0 := by
    unfold idxL
    refine List.map_congr_left fun i _ => ?_
    by_cases h2 : 8 * j + i < h.length
    . rw [if_pos h2]
    . rw [if_neg h2, List.getD_eq_getElem?_getD, List.getElem?_eq_none (by omega)]; rfl
   rw [<- e]
   simp [ixP, h1]
 . rw [if_neg h1, if_pos (by omega), List.getElem?_append_right (by simp [ixP]; omega)]
   have e : j - (ixP h).length = j - ixN h.length := by simp [ixP]
   have h2 : j - ixN h.length < h.length := by omega
   rw [e]
   simp [daP, h2]
   omega
theorem Ol.cell {B : Nat} {w : World} {g n c : Nat} {f : Nat -> List Int} (h : Ol B w g n c f) {k j : Nat} (hk : k < n) (hj : j < 8) : w.cell? ⟨g, k * 8 + j, none⟩ = some (.int .u64 ((f k).getD j 0)) := by
 obtain ⟨b, off, e, _, hx⟩ := ra_at (OwnA.ra h) (by simp; omega)
 cases e
 have hw := h.wide hk
 have := hx k (by simpa using hk)
 rw [ol_getD hk] at this
 have := this j (uv ((f k).getD j 0)) (by simp [lineE, hw, hj])
 rw [show lineE.size = 8 from rfl, Nat.zero_add] at this
 exact this
theorem Ol.word {B : Nat} {w : World} {g n c : Nat} {f : Nat -> List Int} (h : Ol B w g n c f) {k j : Nat} (hk : k < n) (hj : j < 8) (x : Int) : Ol B (w.setCell ⟨g, k * 8 + j, none⟩ (.int .u64 x)) g n c (upd f k ((f k).set j x)) := by
 have hw := h.wide hk
 have := OwnA.setCell (k := k) (j := j) (x := (f k).set j x) (u := .int .u64 x) h (by simpa using hk) hj (by show ((f k).set j x).length = 8; rw [List.length_set]; exact hw) (by
  rw [ol_getD hk]
  show ((f k).set j x).map uv = ((f k).map uv).set j (uv x)
  rw [List.map_set])
 have e : ((List.range n).map f).set k ((f k).set j x) = (List.range n).map (upd f k ((f k).set j x)) := by
  refine List.ext_getElem (by simp) fun i h1 h2 => ?_
  rw [List.getElem_set]
  simp only [List.getElem_map, List.getElem_range, upd]
  split
  . rename_i e; rw [if_pos e.symm]
  . rename_i e; rw [if_neg fun q => e q.symm]
 rw [e] at this
 exact this
theorem Ol.free {B : Nat} {w : World} {g n c : Nat} {f : Nat -> List Int} (h : Ol B w g n c f) (j : Nat) : w.frozen? ⟨g, j, none⟩ = false := OwnA.free h j
theorem laid_is {n : Nat} {v : Value} {h : List Hm} {w : World} (hv : RA homeE w v h) (M : MayH n h) (hn : n <= 1000) :
 Calls Tryz.prog 213 #[v] w fun e w' => ∃ gw, w.heap.size <= gw /\ e = .returned (.slice (some ⟨gw, 0, none⟩) (ixN h.length + h.length) (ixN h.length + h.length)) ∧
  Ol w.heap.size w' gw (ixN h.length + h.length) (ixN h.length + h.length) (ldF h h.length) /\ Below w.heap.size w w' := by
 obtain ⟨pv, cap, rfl, hlc, hcm⟩ := ra_shape hv
 have h14 := M.hi
 have hlo := M.lo
 have hx2 : ixN h.length <= 2 := by unfold ixN; omega
 have IC := jz (ixl_nat h.length (by omega) w)
 obtain ⟨m, hm⟩ : ∃ m, ixN h.length + h.length = m := ⟨_, rfl⟩
 have jm : IntKind.i64.wrap ((ixN h.length : Int) + (h.length : Int)) = (m : Int) := by rw [show (ixN h.length : Int) + (h.length : Int) = (m : Int) by omega]; exact i64_nat _ (by omega)
 have hmk := run_make_want m (by omega) w
 have W0 := Wt.new w m
 obtain ⟨W, hW⟩ : ∃ W, w.alloc (.cells (tab (m * 8) (wl fun _ => zeros)) 110) = W := ⟨_, rfl⟩
 have C0 : Chg [] w W := by rw [<- hW]; exact Chg.of_below (bal (Below.refl _ _)) _
 have O0 : Ol w.heap.size W w.heap.size m m (ldF h 0) := by
  rw [<- hW]
  exact (Ol.of_wt W0 (Nat.le_refl _) (by unfold maxLen; omega)).as fun i _ => ldF_none _ _
 rw [hW] at hmk
 have KP : Hid (Ol w.heap.size W w.heap.size m m (ldF h 0) /\ Chg [] w W) := jz ⟨O0, C0⟩
 have HV := jz hv
 have HM := jz (And.intro M (And.intro hn (And.intro hm (And.intro h14 hx2))))
 rw [hm]
 clear W0 C0 O0 hv M hn hlc hcm h14 hlo hx2
 generalize hxk : ixN h.length = xk at *
 go_enter Tryz.func213, Tryz.ntmps213
 go_wp2_with fail
 refine (IC.out).mono ?_; rintro e w' ⟨rfl, rfl⟩
 go_wp2
 go_loopw [17] (fun i wr => ∃ z : Nat, z <= h.length /\ i = .int .i64 z /\ Hid (Ol w.heap.size wr w.heap.size m m (ldF h z) /\ Chg [] w wr)) (fun i _ => h.length - (intOf i).toNat)
 case atStart => exact ⟨0, Nat.zero_le _, rfl, KP⟩
 case round =>
  obtain ⟨z, hz, rfl, H⟩ := hrel
  clear KP hmk
  by_cases hlt : z < h.length
  . obtain ⟨b, off, e, _, hx⟩ := home_at (ra_below HV.out (H.out.2.below (Below.refl w.heap.size w) (Nat.le_refl _) (fun k hk => by cases hk))) (by omega)
    subst e
    obtain ⟨hl, _, _, hwf⟩ := hx z hlt
    obtain ⟨X, hX⟩ : ∃ X, h.getD z default = X := ⟨_, rfl⟩
    have hat := HM.out.1.at_ _ (getD_memH hlt)
    rw [hX] at hl hwf hat
    obtain ⟨V, hV, HV2⟩ := home_boxed wr hwf.len
    have hw8 := hwf.len
    obtain ⟨xi, hxi⟩ : ∃ xi, X.i = xi := ⟨_, rfl⟩
    obtain ⟨xl, hxl⟩ : ∃ xl, X.l = xl := ⟨_, rfl⟩
    have h8 : xl.length = 8 := by rw [<- hxl]; exact hw8
    have d0 := HV2.out.1.slot
    rw [hxi] at d0 hat
    have OV : Ol w.heap.size V.drew w.heap.size m m (ldF h z) := H.out.1.below HV2.out.2.drew
    have CV : Chg [] w V.drew := H.out.2.trans (Chg.of_below HV2.out.2.drew [])
    have GE : w.heap.size ≠ wr.heap.size := by obtain ⟨_, _, e, hlt', _⟩ := ra_at (OwnA.ra H.out.1) (by simp; omega); cases e; omega
    have hx2 := HM.out.2.2.2.2
    have hmm := HM.out.2.2.1
    have h14 := HM.out.2.2.2.1
    have hn := HM.out.2.1
    have za : z / 8 < m := by omega
    have zr : z % 8 < 8 := by omega
    have e0 := OV.cell za zr
    have f0 := OV.free (z / 8 * 8 + z % 8)
    have OW := OV.word za zr xi
    have CW : Chg [w.heap.size] V.drew (V.drew.setCell ⟨w.heap.size, z / 8 * 8 + z % 8, none⟩ (.int .u64 xi)) := (Chg.refl _ _).setCell (.inl (by simp)) _
    have CU := CV.setCell (p := ⟨w.heap.size, z / 8 * 8 + z % 8, none⟩) (.inr (Nat.le_refl _)) (.int .u64 xi)
    obtain ⟨U, hU⟩ : ∃ U, V.drew.setCell ⟨w.heap.size, z / 8 * 8 + z % 8, none⟩ (.int .u64 xi) = U := ⟨_, rfl⟩
    rw [hU] at OW CW CU
    have HU := Hv.chg (show Hv V.drew wr.heap.size X from HV2.out.1) CW (by simpa using GE.symm)
    have d1 := HU.line
    rw [hxl] at d1
    obtain ⟨hst, OY⟩ := OW.store (k := xk + z) (by omega) h8
    obtain ⟨Y, hY⟩ : ∃ Y, U.setCells w.heap.size ((xk + z) * 8) (xl.map uv) = Y := ⟨_, rfl⟩
    have CY : Chg [] w (U.setCells w.heap.size ((xk + z) * 8) (xl.map uv)) := Chg.setCells (.inr (Nat.le_refl _)) _ _ _ CU
    rw [hY] at hst OY CY
    have KY : Hid (Ol w.heap.size Y w.heap.size m m (ldF h (z + 1)) /\ Chg [] w Y) := jz ⟨OY.as fun i _ => by rw [ldF_step hlt, hX, hxi, hxl, hxk], CY⟩
    have i0 : (0 : Int) <= (z : Int) := by omega
    have i3 : (z : Int) < (h.length : Int) := by omega
    have i4 : ¬ (z : Int) < 0 := by omega
    have j0 : IntKind.i64.wrap ((z : Int) + 1) = ((z + 1 : Nat) : Int) := by rw [show (z : Int) + 1 = ((z + 1 : Nat) : Int) by omega]; exact i64_nat _ (by omega)
    have j1 : (z : Int).tdiv 8 = ((z / 8 : Nat) : Int) := tdiv_nat _ _
    have j2 : IntKind.i64.wrap ((z / 8 : Nat) : Int) = ((z / 8 : Nat) : Int) := i64_nat _ (by omega)
    have j3 : (z : Int).tmod 8 = ((z % 8 : Nat) : Int) := tmod_nat _ _
    have j4 : IntKind.i64.wrap ((z % 8 : Nat) : Int) = ((z % 8 : Nat) : Int) := i64_nat _ (by omega)
    have j5 : (0 : Int) <= ((z % 8 : Nat) : Int) := by omega
    have j6 : ((z % 8 : Nat) : Int) < 8 := by omega
    have j7 : (0 : Int) <= ((z / 8 : Nat) : Int) := by omega
    have j8 : ((z / 8 : Nat) : Int) < (m : Int) := by omega
    have j9 : IntKind.u64.wrap xi = xi := u64_same (by omega) (by omega)
    have k1 : IntKind.i64.wrap ((xk : Int) + (z : Int)) = ((xk + z : Nat) : Int) := by rw [show (xk : Int) + (z : Int) = ((xk + z : Nat) : Int) by omega]; exact i64_nat _ (by omega)
    have k2 : (0 : Int) <= ((xk + z : Nat) : Int) := by omega
    have k3 : ((xk + z : Nat) : Int) < (m : Int) := by omega
    have HK := jz hlt
    clear hx hX hat hwf OV CV GE hx2 hmm h14 hn OW CW CU HU OY CY hlt hz hxi hxl za zr
    generalize z / 8 = za at *
    generalize z % 8 = zr at *
    generalize xk + z = zx at *
    go_wp2
    refine wp_region_still_tail 10 (by kernel_rfl) (by kernel_rfl) ?_
    simp only [List.take_succ_cons, List.take_zero, List.drop_succ_cons, List.drop_zero]
    change wpStill _ _ (World.drew _) _ _ _
    repeat still_step
    refine wpStill_nil ?_
    change wpList _ _ _ _ _ (World.drew _)
    go_wp2
    exact ⟨⟨z + 1, by have := HK.out; omega, by go_num, KY⟩, by have := HK.out; simp [intOf]; omega⟩
  . obtain rfl : z = h.length := by omega
    go_wp2
    go_ret
    exact ⟨_, Nat.le_refl _, rfl, H.out.1, H.out.2.below (Below.refl w.heap.size w) (Nat.le_refl _) (fun k hk => by cases hk)⟩
structure Stp (n P per p : Nat) (s : Nv) (L : List (Nat × List Int)) (R : Int × Nat × Nv) (j pj : Nat) (sj : Nv) : Prop where
 g : GOk sj n P
 live : sj.dark = false
 tm : tm sj <= tm s + j
 c : sj.c <= s.c + 81 * j
 p : pj <= p + j
 r : R = tputs n P per pj (L.drop j) sj
theorem Stp.start {n P per p : Nat} {s : Nv} {L : List (Nat × List Int)} (g : GOk s n P) (hd : s.dark = false) : Stp n P per p s L (tputs n P per p L s) 0 p s :=
 ⟨g, hd, Nat.le_refl _, by simp, Nat.le_refl _, rfl⟩
theorem Stp.next {n P per p j pj a : Nat} {s sj : Nv} {L : List (Nat × List Int)} {R : Int × Nat × Nv} {d : List Int} {Q : Int × Nv} (h : Stp n P per p s L R j pj sj) (hj : L[j]? = some (a, d)) (hn : 0 < n) (ha : a < n) (hd : d.length = 8) (hm : Go.Proofs.YtjkefcidbcifpaaGreat.tm s + j + 1 < 4611686018427387904)
 (hQ : tput n P per pj (Go.Proofs.YtjkefcidbcifpaaGreat.tm sj) a d sj = Q) : (Q.1 = 0 /\ Stp n P per p s L R (j + 1) (tp per pj) Q.2) \/ (Q.1 ≠ 0 /\ R = (Q.1, tp per pj, Q.2)) := by
 have htm := h.tm
 have u := tput_u per pj h.g h.live hn ha hd (by omega)
 have hlt : j < L.length := (List.getElem?_eq_some_iff.1 hj).1
 have el : L[j] = (a, d) := (List.getElem?_eq_some_iff.1 hj).2
 have ed : L.drop j = (a, d) :: L.drop (j + 1) := by rw [List.drop_eq_getElem_cons hlt, el]
 have er := h.r
 rw [ed, tputs] at er
 dsimp only at er
 rw [hQ] at er u
 have htp := tp_le per pj
 by_cases h0 : Q.1 = 0
 . rw [if_pos h0] at er
   refine .inl ⟨h0, u.g, ?_, by have := u.hi; omega, by have := u.c; have := h.c; push_cast; omega, by have := h.p; omega, er⟩
   rcases u.own with ⟨_, q, _⟩ | ⟨e, _⟩ | ⟨e, _⟩
   . exact q
   . rw [h0] at e; cases e
   . rw [h0] at e; cases e
 . rw [if_neg h0] at er
   exact .inr ⟨h0, er⟩
theorem Stp.done {n P per p pj : Nat} {s sj : Nv} {L : List (Nat × List Int)} {R : Int × Nat × Nv} (h : Stp n P per p s L R L.length pj sj) : R = (0, pj, sj) := by
 have := h.r
 rw [List.drop_length, tputs] at this
 exact this
section
variable {x g y q n P per p : Nat} {s : Nv} {w : World}
theorem lg_put {a : Nat} {d : List Int} {Q : Int × Nv} (hQ : tput n P per p (tm s) a d s = Q) (h : Lg w x g y q n P per p s) (G : GOk s n P) (hd : s.dark = false) (hn : n <= 1000) (ha : a < n) (hd8 : d.length = 8) (hm : tm s + 1 < 4611686018427387904) (hp : p < 4611686018427387904) (hc : s.c + 500 < 4611686018427387904) :
 Calls Tryz.prog 129 #[.pointer (some ⟨y, 0, none⟩), .int .i64 (a : Int), .agg (lc d)] w fun e w' => e = .returned (.int .i64 Q.1) /\ Lg w' x g y q n P per (tp per p) Q.2 /\ Chg [g, y] w w' := by
 refine (tput_is hQ (G.tok hd) hn ha hd8 hm hp h.qg h.yg h.yq hc h.tq h.lq h.nm).mono ?_
 rintro e w' ⟨rfl, h1, h2, h3, h4⟩
 exact ⟨rfl, ⟨h4.whole h.lb (by simpa using ⟨h.xg, h.xy⟩), h2, h3, h1, h.qg, h.yg, h.yq, h.xg, h.xy⟩, h4⟩
theorem lg_set {v : Int} (h : Lg w x g y q n P per p s) (ok : s.Ok) (hc : s.c < 4611686018427387904) :
 Calls Tryz.prog 44 #[.pointer (some ⟨g, 0, none⟩), .int .i64 1, .int .u64 v] w fun e w' => e = .returned (.int .i64 (s.setE ((1 : Nat) : Int))) /\ Lg w' x g y q n P per p (s.set ((1 : Nat) : Int) v) /\ Chg [g, y] w w' := by
 refine (set_is (i := 1) (v := v) rfl rfl h.nm ok hc).mono ?_
 rintro e w' ⟨rfl, h1, _, h3⟩
 exact ⟨rfl, ⟨h3.whole h.lb (by simpa using h.xg), h.tq.chg h3 (by simpa using h.yg), h.lq.chg h3 (by simpa using h.qg), h1, h.qg, h.yg, h.yq, h.xg, h.xy⟩, h3.mono (by simp)⟩
end
def lkeep (n P per p : Nat) (h : List Hm) (s : Nv) : Int × Nat × Nv :=
 if (tputs n P per p (lgP h) s).1 = 0 then ((tputs n P per p (lgP h) s).2.2.setE ((1 : Nat) : Int), (tputs n P per p (lgP h) s).2.1, (tputs n P per p (lgP h) s).2.2.set ((1 : Nat) : Int) (h.length : Int))
 else tputs n P per p (lgP h) s
theorem lcom_keep (n P per p : Nat) (h : List Hm) (s : Nv) : lcom n P per p h s = if (lkeep n P per p h s).1 = 0 then lfin n P per (lkeep n P per p h s).2.1 h (lkeep n P per p h s).2.2 else lkeep n P per p h s := by
 unfold lcom lkeep
 by_cases h0 : (tputs n P per p (lgP h) s).1 = 0
 . rw [if_pos h0, if_pos h0]
 . rw [if_neg h0, if_neg h0, if_neg h0]
theorem keep_is {x g y q n P per p : Nat} {s : Nv} {w : World} {v : Value} {h : List Hm} {R : Int × Nat × Nv} (hR : lkeep n P per p h s = R) (hv : ∀ w', Chg [g, y] w w' -> RA homeE w' v h) (H : Lg w x g y q n P per p s) (G : GOk s n P) (hd : s.dark = false) (rm : Room n P per p s) (M : MayH n h) :
 Calls Tryz.prog 191 #[.pointer (some ⟨x, 0, none⟩), v] w fun e w' => e = .returned (.int .i64 R.1) /\ Lg w' x g y q n P per R.2.1 R.2.2 /\ Chg [g, y] w w' := by
 have hv0 := hv w (Chg.refl _ _)
 obtain ⟨pv, cap, rfl, hlc, hcm⟩ := ra_shape hv0
 have n16 := M.n16
 have h14 := M.hi
 have hw : Wide h := fun x hx => (ra_ok hv0 x hx).len
 have hx2 : ixN h.length <= 2 := by unfold ixN; omega
 have LC := jz (laid_is hv0 M rm.n)
 obtain ⟨m, hm⟩ : ∃ m, ixN h.length + h.length = m := ⟨_, rfl⟩
 rw [hm] at LC
 have hLm : (lgP h).length = m := by rw [lgP_length, hm]
 have HA : Hid (∀ j, j < m -> (lgP h)[j]? = some (j, ldF h h.length j)) := jz fun j hj => lgP_at (by omega)
 have h8 : Hid (∀ j, j < m -> (ldF h h.length j).length = 8) := jz fun j hj => (lgP_pairs (n := n) (by omega) h14 hw).lt (j, ldF h h.length j) (List.mem_of_getElem? (HA.out j hj)) |>.2
 have KK : Hid (m <= 16 /\ 16 <= n /\ h.length <= 14 /\ Room n P per p s) := jz ⟨by omega, by omega, h14, rm⟩
 obtain ⟨T, hT⟩ : ∃ T, tputs n P per p (lgP h) s = T := ⟨_, rfl⟩
 have S0 : Hid (Stp n P per p s (lgP h) T 0 p s) := jz (by rw [<- hT]; exact Stp.start G hd)
 have HR : Hid ((if T.1 = 0 then (T.2.2.setE ((1 : Nat) : Int), T.2.1, T.2.2.set ((1 : Nat) : Int) (h.length : Int)) else T) = R) := jz (by rw [<- hR, lkeep, hT])
 have ju : IntKind.u64.wrap (h.length : Int) = (h.length : Int) := u64_same (by omega) (by omega)
 have HL := jz H
 have GL : Hid (g < w.heap.size /\ y < w.heap.size /\ x < w.heap.size) := jz ⟨H.nm.lt, H.tq.lt, H.xlt⟩
 have HM := jz hLm
 have NEx : Hid (x ≠ g /\ x ≠ y) := jz ⟨H.xg, H.xy⟩
 clear hv hv0 H G hd rm M hR hT hm hw hx2 n16 h14 hLm hlc hcm
 generalize hLL : lgP h = L at *
 generalize ldF h h.length = F at *
 generalize h.length = k at *
 go_enter Tryz.func191, Tryz.ntmps191
 go_wp2_with fail
 refine (LC.out).mono ?_; rintro e w1 ⟨gw, hgw, rfl, ho, hb⟩
 have O1 := jz ho
 have L1 := jz (HL.out.below hb)
 have B1 := jz hb
 have NG : Hid (gw ≠ g /\ gw ≠ y) := jz ⟨by have := GL.out; omega, by have := GL.out; omega⟩
 clear ho hb hgw
 go_wp2
 go_loopw [11] (fun i wr => ∃ j : Nat, j <= m /\ i = .int .i64 j /\ Hid (∃ pj sj, Stp n P per p s L T j pj sj /\ Lg wr x g y q n P per pj sj /\ Chg [g, y] w1 wr)) (fun i _ => m - (intOf i).toNat)
 case atStart => exact ⟨0, Nat.zero_le _, rfl, jz ⟨p, s, S0.out, L1.out, Chg.refl _ _⟩⟩
 case round =>
  obtain ⟨j, hj, rfl, H⟩ := hrel
  obtain ⟨pj, sj, hS, hL, hC⟩ := H.out
  have ST := jz hS
  have LJ := jz hL
  have CJ := jz hC
  clear H hS hL hC
  by_cases hlt : j < m
  . have OJ := O1.out.chg CJ.out (by simpa using NG.out)
    have ll := OJ.load hlt
    have hd8 := h8.out j hlt
    have hat := HA.out j hlt
    obtain ⟨d, hd⟩ : ∃ d, F j = d := ⟨_, rfl⟩
    rw [hd] at ll hd8 hat
    obtain ⟨W, hW, H1⟩ := boxed1 wr hd8
    have LW := jz (LJ.out.below H1.out.2)
    obtain ⟨Q, hQ⟩ : ∃ Q, tput n P per pj (tm sj) j d sj = Q := ⟨_, rfl⟩
    have hst := ST.out
    have kk := KK.out
    have rmm := kk.2.2.2
    have nx := ST.out.next hat (by omega) (by omega) hd8 (by have := rmm.m; omega) hQ
    have PC := jz fun (w' : World) (hb : Below W.heap.size W w') => lg_put hQ (LW.out.below hb) ST.out.g ST.out.live rmm.n (by omega) hd8 (by have := hst.tm; have := rmm.m; omega) (by have := hst.p; have := rmm.p; omega) (by have := hst.c; have := rmm.c; omega)
    have NX := jz nx
    have VN : Hid (wr.heap.size ∉ [g, y]) := jz (by have := LJ.out.nm.lt; have := LJ.out.tq.lt; simp; omega)
    have l0 : ∀ w', Chg [g, y] W w' -> (lineLoad (.pointer (some ⟨wr.heap.size, 0, none⟩))).run Tryz.prog w' = .ok (.agg (lc d)) w' := fun w' hc => (hc.ln H1.out.1 VN.out).load
    have d1 : ∀ w', Chg [g, y] W w' -> w'.cell? ⟨x, 1, none⟩ = some (.pointer (some ⟨y, 0, none⟩)) := fun w' hc => by
     rw [Whole.at_ (hc.whole LW.out.lb (by simpa using NEx.out))]; rfl
    have hbd : Below W.heap.size W W.drew := (Below.refl _ _).drew
    have i0 : (0 : Int) <= (j : Int) := by omega
    have i3 : (j : Int) < (m : Int) := by omega
    have i4 : ¬ (j : Int) < 0 := by omega
    have j0 : IntKind.i64.wrap ((j : Int) + 1) = ((j + 1 : Nat) : Int) := by rw [show (j : Int) + 1 = ((j + 1 : Nat) : Int) by omega]; exact i64_nat _ (by omega)
    have HK := jz hlt
    have CB := jz (Chg.of_below H1.out.2 [g, y])
    clear OJ hat hst rmm nx hlt hj hd hQ kk
    go_wp2
    go_region_held3 (fun w' => Chg [g, y] W w')
     (first | assumption | exact (Chg.refl _ _).drew)
     (first
       | (go_at_call 129; refine (PC.out _ hbd).mono ?_; rintro e wy ⟨rfl, hLy, hCy⟩
          have LY := jz hLy
          have CY := jz ((Chg.of_below hbd [g, y]).trans hCy)
          clear hLy hCy))
    have CZ := jz ((CJ.out.trans CB.out).trans CY.out)
    clear l0 d1 hbd ll
    obtain ⟨e1, s1⟩ := Q
    rcases NX.out with ⟨h0, S1⟩ | ⟨h0, hT⟩
    . dsimp only at h0
      subst h0
      have KN := jz S1
      clear S1
      go_wp2
      exact ⟨⟨j + 1, by have := HK.out; omega, by go_num, jz ⟨_, _, KN.out, LY.out, CZ.out⟩⟩, by have := HK.out; simp [intOf]; omega⟩
    . dsimp only at h0
      have b0 : (e1 != 0) = true := bne_iff_ne.2 h0
      have ER : Hid ((e1, tp per pj, s1) = R) := jz (by rw [<- HR.out, hT, if_neg h0])
      clear h0 hT
      go_wp2
      go_ret
      exact ⟨by rw [<- ER.out]; rfl, by rw [<- ER.out]; exact LY.out, (Chg.of_below B1.out [g, y]).trans CZ.out⟩
  . obtain rfl : j = m := by omega
    have hT := Stp.done (by have := ST.out; rw [<- HM.out] at this; exact this)
    have hst := ST.out
    have kk := KK.out
    have rmm := kk.2.2.2
    have SC := jz (lg_set (v := (k : Int)) LJ.out ST.out.g.ok (by have := hst.c; have := rmm.c; omega))
    have c0 := LJ.out.c0
    have ER : Hid ((sj.setE ((1 : Nat) : Int), pj, sj.set ((1 : Nat) : Int) (k : Int)) = R) := jz (by rw [<- HR.out, hT, if_pos rfl])
    clear hT hst kk rmm hj
    go_wp2_with fail
    refine (SC.out).mono ?_; rintro e w3 ⟨rfl, hL, hC⟩
    have L3 := jz hL
    have C3 := jz (((Chg.of_below B1.out [g, y]).trans CJ.out).trans hC)
    clear hL hC
    go_wp2
    go_ret
    exact ⟨by rw [<- ER.out]; rfl, by rw [<- ER.out]; exact L3.out, C3.out⟩
theorem do_is {x g y q n P per p : Nat} {s : Nv} {w : World} {v : Value} {C : List Hm} {R : Int × Nat × Nv} (hR : lfin n P per p C s = R) (hv : ∀ w', Chg [g, y] w w' -> RA homeE w' v C) (H : Lg w x g y q n P per p s) (G : GOk s n P) (hd : s.dark = false) (hn : n <= 1000) (hp : p + 14 < 4611686018427387904) (hm : tm s + 14 < 4611686018427387904) (hc : s.c + 10000 < 4611686018427387904) (M : MayH n C) :
 Calls Tryz.prog 122 #[.pointer (some ⟨x, 0, none⟩), v] w fun e w' => e = .returned (.int .i64 R.1) /\ Lg w' x g y q n P per R.2.1 R.2.2 /\ Chg [g, y] w w' := by
 have hv0 := hv w (Chg.refl _ _)
 obtain ⟨pv, cap, rfl, hlc, hcm⟩ := ra_shape hv0
 have n16 := M.n16
 have h14 := M.hi
 have KK : Hid (16 <= n /\ n <= 1000 /\ C.length <= 14 /\ p + 14 < 4611686018427387904 /\ tm s + 14 < 4611686018427387904 /\ s.c + 10000 < 4611686018427387904) := jz ⟨by omega, hn, h14, hp, hm, hc⟩
 obtain ⟨T, hT⟩ : ∃ T, tputs n P per p (hmP C) s = T := ⟨_, rfl⟩
 have S0 : Hid (Stp n P per p s (hmP C) T 0 p s) := jz (by rw [<- hT]; exact Stp.start G hd)
 have HR : Hid ((if T.1 = 0 then (T.2.2.setE ((1 : Nat) : Int), T.2.1, T.2.2.set ((1 : Nat) : Int) 0) else if T.1 = 3 then (0, T.2.1, T.2.2) else T) = R) := jz (by rw [<- hR, lfin, hT])
 have HL := jz H
 have HM : Hid (MayH n C /\ (hmP C).length = C.length) := jz ⟨M, hmP_length C⟩
 have HA : Hid (∀ j, j < C.length -> (hmP C)[j]? = some ((C.getD j default).i.toNat, (C.getD j default).l)) := jz fun j hj => by
  unfold hmP
  rw [List.getElem?_map, List.getElem?_eq_getElem hj, List.getD_eq_getElem?_getD, List.getElem?_eq_getElem hj]; rfl
 have NEx : Hid (x ≠ g /\ x ≠ y) := jz ⟨H.xg, H.xy⟩
 have HV := jz hv
 clear hv hv0 H G hd hn hp hm hc M hR hT n16 h14 hlc hcm
 generalize hLL : hmP C = L at *
 go_enter Tryz.func122, Tryz.ntmps122
 go_wp2
 go_loopw [10] (fun i wr => ∃ j : Nat, j <= C.length /\ i = .int .i64 j /\ Hid (∃ pj sj, Stp n P per p s L T j pj sj /\ Lg wr x g y q n P per pj sj /\ Chg [g, y] w wr)) (fun i _ => C.length - (intOf i).toNat)
 case atStart => exact ⟨0, Nat.zero_le _, rfl, jz ⟨p, s, S0.out, HL.out, Chg.refl _ _⟩⟩
 case round =>
  obtain ⟨j, hj, rfl, H⟩ := hrel
  obtain ⟨pj, sj, hS, hL, hC⟩ := H.out
  have ST := jz hS
  have LJ := jz hL
  have CJ := jz hC
  clear H hS hL hC S0 HL
  by_cases hlt : j < C.length
  . obtain ⟨b, off, e, _, hx⟩ := home_at (HV.out _ CJ.out) (by omega)
    subst e
    obtain ⟨hl, _, _, hwf⟩ := hx j hlt
    have hat := HA.out j hlt
    obtain ⟨X, hX⟩ : ∃ X, C.getD j default = X := ⟨_, rfl⟩
    have hbd := HM.out.1.at_ _ (getD_memH hlt)
    rw [hX] at hl hwf hat hbd
    obtain ⟨a, ha⟩ : ∃ a : Nat, X.i = (a : Int) := ⟨X.i.toNat, by omega⟩
    rw [show X.i.toNat = a by omega] at hat
    obtain ⟨d, hd⟩ : ∃ d, X.l = d := ⟨_, rfl⟩
    have hw8 := hwf.len
    have hd8 : d.length = 8 := by rw [<- hd]; exact hw8
    rw [hd] at hat
    obtain ⟨W, hW, H1⟩ := home_boxed wr hw8
    have LW := jz (LJ.out.below H1.out.2)
    obtain ⟨Q, hQ⟩ : ∃ Q, tput n P per pj (tm sj) a d sj = Q := ⟨_, rfl⟩
    have hst := ST.out
    have kk := KK.out
    have nx := ST.out.next hat (by omega) (by omega) hd8 (by omega) hQ
    have PC := jz fun (w' : World) (hb : Below W.heap.size W w') => lg_put hQ (LW.out.below hb) ST.out.g ST.out.live kk.2.1 (by omega) hd8 (by have := hst.tm; omega) (by have := hst.p; omega) (by have := hst.c; omega)
    have NX := jz nx
    have VN : Hid (wr.heap.size ∉ [g, y]) := jz (by have := LJ.out.nm.lt; have := LJ.out.tq.lt; simp; omega)
    have l0 : ∀ w', Chg [g, y] W w' -> w'.cell? ⟨wr.heap.size, 0, none⟩ = some (.int .i64 (a : Int)) := fun w' hc => by rw [(H1.out.1.chg hc VN.out).slot, ha]
    have l1 : ∀ w', Chg [g, y] W w' -> (lineLoad (.pointer (some ⟨wr.heap.size, 1, none⟩))).run Tryz.prog w' = .ok (.agg (lc d)) w' := fun w' hc => by rw [(H1.out.1.chg hc VN.out).line, hd]
    have d1 : ∀ w', Chg [g, y] W w' -> w'.cell? ⟨x, 1, none⟩ = some (.pointer (some ⟨y, 0, none⟩)) := fun w' hc => by
     rw [Whole.at_ (hc.whole LW.out.lb (by simpa using NEx.out))]; rfl
    have hbd : Below W.heap.size W W.drew := (Below.refl _ _).drew
    have i0 : (0 : Int) <= (j : Int) := by omega
    have i3 : (j : Int) < (C.length : Int) := by omega
    have i4 : ¬ (j : Int) < 0 := by omega
    have j0 : IntKind.i64.wrap ((j : Int) + 1) = ((j + 1 : Nat) : Int) := by rw [show (j : Int) + 1 = ((j + 1 : Nat) : Int) by omega]; exact i64_nat _ (by omega)
    have HK := jz hlt
    have CB := jz (Chg.of_below H1.out.2 [g, y])
    clear hx hX hwf hat hst nx hlt hj hd hQ kk ha
    go_wp2
    go_region_held3 (fun w' => Chg [g, y] W w')
     (first | assumption | exact (Chg.refl _ _).drew)
     (first
       | (go_at_call 129; refine (PC.out _ hbd).mono ?_; rintro e wy ⟨rfl, hLy, hCy⟩
          have LY := jz hLy
          have CY := jz ((Chg.of_below hbd [g, y]).trans hCy)
          clear hLy hCy))
    have CZ := jz ((CJ.out.trans CB.out).trans CY.out)
    clear l0 l1 d1 hbd hl
    obtain ⟨e1, s1⟩ := Q
    rcases NX.out with ⟨h0, S1⟩ | ⟨h0, hT⟩
    . dsimp only at h0
      subst h0
      have KN := jz S1
      clear S1
      go_wp2
      exact ⟨⟨j + 1, by have := HK.out; omega, by go_num, jz ⟨_, _, KN.out, LY.out, CZ.out⟩⟩, by have := HK.out; simp [intOf]; omega⟩
    . dsimp only at h0
      by_cases h3 : e1 = 3
      . subst h3
        have ER : Hid ((0, tp per pj, s1) = R) := jz (by rw [<- HR.out, hT, if_neg h0, if_pos rfl])
        clear h0 hT
        go_wp2
        go_ret
        exact ⟨by rw [<- ER.out]; rfl, by rw [<- ER.out]; exact LY.out, CZ.out⟩
      . have b0 : (e1 == 0) = false := beq_eq_false_iff_ne.2 h0
        have b3 : (e1 == 3) = false := beq_eq_false_iff_ne.2 h3
        have ER : Hid ((e1, tp per pj, s1) = R) := jz (by rw [<- HR.out, hT, if_neg h0, if_neg h3])
        clear h0 hT h3
        go_wp2
        go_ret
        exact ⟨by rw [<- ER.out]; rfl, by rw [<- ER.out]; exact LY.out, CZ.out⟩
  . obtain rfl : j = C.length := by omega
    have hT := Stp.done (by have := ST.out; rw [<- HM.out.2] at this; exact this)
    have hst := ST.out
    have kk := KK.out
    have SC := jz (lg_set (v := 0) LJ.out ST.out.g.ok (by have := hst.c; omega))
    have c0 := LJ.out.c0
    have ER : Hid ((sj.setE ((1 : Nat) : Int), pj, sj.set ((1 : Nat) : Int) 0) = R) := jz (by rw [<- HR.out, hT, if_pos rfl])
    clear hT hst kk hj
    go_wp2_with fail
    refine (SC.out).mono ?_; rintro e w3 ⟨rfl, hL, hC⟩
    have L3 := jz hL
    have C3 := jz (CJ.out.trans hC)
    clear hL hC
    go_wp2
    go_ret
    exact ⟨by rw [<- ER.out]; rfl, by rw [<- ER.out]; exact L3.out, C3.out⟩
theorem lkeep_ok {n P per p : Nat} {h : List Hm} {s : Nv} {R : Int × Nat × Nv} (hR : lkeep n P per p h s = R) (G : GOk s n P) (hd : s.dark = false) (M : MayH n h) (hw : Wide h) (hm : tm s + 30 < 4611686018427387904) (h0 : R.1 = 0) :
 GOk R.2.2 n P /\ R.2.2.dark = false /\ tm R.2.2 <= tm s + 16 /\ R.2.2.c <= s.c + 1300 /\ R.2.1 <= p + 16 := by
 have n16 := M.n16
 have h14 := M.hi
 obtain ⟨o, op⟩ := tputs_out (n := n) (P := P) (per := per) (by omega) (lgP h) p s (lgP_pairs (by omega) h14 hw) G hd (by rw [lgP_length]; unfold ixN; omega)
 have hl16 : (lgP h).length <= 16 := by rw [lgP_length]; unfold ixN; omega
 unfold lkeep at hR
 generalize tputs n P per p (lgP h) s = T at *
 have oh := o.hi
 have oc := o.c
 by_cases t0 : T.1 = 0
 . rw [if_pos t0] at hR
   subst hR
   have d1 : T.2.2.dark = false := by rcases o.own with ⟨_, q, _⟩ | ⟨e, _⟩ | ⟨e, _⟩; exact q; rw [t0] at e; cases e; rw [t0] at e; cases e
   obtain ⟨a1, _, _, a4, _, _, a7, a8⟩ := set1 o.g d1 (h.length : Int)
   dsimp only at h0
   refine ⟨a1, ?_, by dsimp only; omega, by dsimp only; omega, by dsimp only; omega⟩
   rcases a8 with ⟨_, q, _⟩ | ⟨e, _⟩
   . exact q
   . rw [h0] at e; cases e
 . rw [if_neg t0] at hR
   subst hR
   exact absurd h0 t0
section
variable {x g y q n P per p : Nat} {s : Nv} {w : World}
theorem cmt_is {v : Value} {h : List Hm} {R : Int × Nat × Nv} (hR : lcom n P per p h s = R) (H : Lg w x g y q n P per p s) (L : LgOk s n P) (hd : s.dark = false) (rm : Room n P per p s) (h0 : lk s = 0) (hv : ∀ w', Chg [g, y] w w' -> RA homeE w' v h) (M : MayH n h) :
 Calls Tryz.prog 161 #[.pointer (some ⟨x, 0, none⟩), v] w fun e w' => e = .returned (.int .i64 R.1) /\ Lg w' x g y q n P per R.2.1 R.2.2 /\ Chg [g, y] w w' := by
 have hv0 := hv w (Chg.refl _ _)
 have hw : Wide h := fun x hx => (ra_ok hv0 x hx).len
 have LC := jz (llines_is H)
 have MC := jz (lmay_is (n : Int) v h true w hv0 ⟨fun _ => M, fun _ => rfl⟩)
 have HL := jz H
 have HD := jz (And.intro hd (show s.rg 1 = 0 by rw [L.r1, h0]; rfl))
 rw [lcom_keep] at hR
 obtain ⟨K, hK⟩ : ∃ K, lkeep n P per p h s = K := ⟨_, rfl⟩
 have KO := lkeep_ok hK L.g hd M hw rm.m
 rw [hK] at hR
 have HR := jz hR
 have HK := jz hK
 have HO := jz KO
 have HA := jz (And.intro L.g (And.intro rm M))
 have HV := jz hv
 clear H hv hv0 M hd hR hK KO rm L h0 hw
 go_enter Tryz.func161, Tryz.ntmps161
 go_wp2_with fail
 refine (LC.out).mono ?_; rintro e w' ⟨rfl, rfl⟩
 go_wp2_with fail
 refine (MC.out).mono ?_; rintro e w1 ⟨rfl, hb⟩
 have L1 := jz (HL.out.below hb)
 have C1 := jz (Chg.of_below hb [g, y])
 have PC := jz (lpend_live L1.out HD.out.1 HD.out.2)
 have KC := jz (keep_is (v := v) HK.out (fun w' hc => HV.out w' (C1.out.trans hc)) L1.out HA.out.1 HD.out.1 HA.out.2.1 HA.out.2.2)
 clear hb
 go_wp2_with fail
 refine (PC.out).mono ?_; rintro e w' ⟨rfl, rfl⟩
 go_wp2_with fail
 refine (KC.out).mono ?_; rintro e w2 ⟨rfl, hL, hC⟩
 have L2 := jz hL
 have C2 := jz (C1.out.trans hC)
 clear hL hC
 obtain ⟨e1, p1, s1⟩ := K
 by_cases h0 : e1 = 0
 . subst h0
   obtain ⟨g1, g2, g3, g4, g5⟩ := HO.out rfl
   have hR := HR.out
   rw [if_pos rfl] at hR
   dsimp only at hR g1 g2 g3 g4 g5
   have rmm := HA.out.2.1
   have DC := jz (do_is (v := v) hR (fun w' hc => HV.out w' (C2.out.trans hc)) L2.out g1 g2 rmm.n (by have := rmm.p; omega) (by have := rmm.m; omega) (by have := rmm.c; omega) HA.out.2.2)
   clear g1 g2 g3 g4 g5 hR rmm
   go_wp2_with fail
   refine (DC.out).mono ?_; rintro e w3 ⟨rfl, hL, hC⟩
   have L3 := jz hL
   have C3 := jz (C2.out.trans hC)
   clear hL hC
   go_wp2
   go_ret
   exact ⟨rfl, L3.out, C3.out⟩
 . have b0 : (e1 != 0) = true := bne_iff_ne.2 h0
   have ER : Hid ((e1, p1, s1) = R) := jz (by rw [<- HR.out, if_neg h0])
   clear h0
   go_wp2
   go_ret
   exact ⟨by rw [<- ER.out]; rfl, by rw [<- ER.out]; exact L2.out, C2.out⟩
theorem rcv_zero (H : Lg w x g y q n P per p s) (hd : s.dark = false) (hr : s.rg 1 = 0) : Calls Tryz.prog 75 #[.pointer (some ⟨x, 0, none⟩)] w fun e w' => e = .returned (.int .i64 0) /\ w = w' := by
 have C := jz (cm_zero H hd hr)
 clear H hd hr
 go_enter Tryz.func75, Tryz.ntmps75
 go_wp2_with fail
 refine (C.out).mono ?_; rintro e w' ⟨rfl, rfl⟩
 go_wp2_with fail
 go_ret
 exact ⟨rfl, rfl⟩
theorem rcv_is {R : Int × Nat × Nv} (hR : lrec n P per p s = R) (H : Lg w x g y q n P per p s) (L : LgOk s n P) (hd : s.dark = false) (rm : Room n P per p s) :
 Calls Tryz.prog 75 #[.pointer (some ⟨x, 0, none⟩)] w fun e w' => e = .returned (.int .i64 R.1) /\ Lg w' x g y q n P per R.2.1 R.2.2 /\ Chg [g, y] w w' := by
 unfold lrec at hR
 by_cases h0 : lk s = 0
 . rw [if_pos h0] at hR
   subst hR
   refine (rcv_zero H hd (by rw [L.r1, h0]; rfl)).mono ?_
   rintro e w' ⟨rfl, rfl⟩
   exact ⟨rfl, H, Chg.refl _ _⟩
 . rw [if_neg h0] at hR
   have M := L.fo.resolve_left h0
   have C := jz (cm_some H L hd rm.n h0)
   have HD := jz (fun (v : Value) (w1 : World) (hv : ∀ w', Chg [g, y] w1 w' -> RA homeE w' v (com s n P)) (hL : Lg w1 x g y q n P per p s) => do_is hR hv hL L.g hd rm.n (by have := rm.p; omega) (by have := rm.m; omega) (by have := rm.c; omega) M)
   have HL := jz H
   have hlo := M.lo
   clear hR L hd rm h0 M H
   generalize com s n P = CC at *
   go_enter Tryz.func75, Tryz.ntmps75
   go_wp2_with fail
   refine (C.out).mono ?_; rintro e w1 ⟨v, rfl, ho, hr, hb⟩
   have L1 := jz (HL.out.below hb)
   have C1 := jz (Chg.of_below hb [g, y])
   have DC := jz (HD.out v w1 (fun w' hc => ra_chg hr hc fun b hb => by have := ho b hb; have := HL.out.nm.lt; have := HL.out.tq.lt; simp; omega) L1.out)
   obtain ⟨pv, cap, rfl, _, _⟩ := ra_shape hr
   have b0 : ((CC.length : Int) == 0) = false := beq_eq_false_iff_ne.2 (by omega)
   clear ho hr hb hlo
   generalize CC.length = k at *
   go_wp2_with fail
   refine (DC.out).mono ?_; rintro e w3 ⟨rfl, hL, hC⟩
   have L3 := jz hL
   have C3 := jz (C1.out.trans hC)
   clear hL hC
   go_wp2
   go_ret
   exact ⟨rfl, L3.out, C3.out⟩
end
theorem ints_same {v u : Value} {l : List Int} {w : World} (hv : RI w v l) (hu : RI w u l) : Calls Tryz.prog 34 #[v, u] w fun e w' => e = .returned (.bool true) /\ ∃ n, w' = w.drewN n := by
 obtain ⟨p, c, rfl, h1, h2, h3⟩ := hv
 obtain ⟨q, d, rfl, g1, g2, g3⟩ := hu
 have HS : Hid (∀ j, j < l.length -> ∃ b off b' off', p = some ⟨b, off, none⟩ /\ q = some ⟨b', off', none⟩ /\ w.cell? ⟨b, off + j, none⟩ = some (.int .i64 (l.getD j 0)) /\ w.cell? ⟨b', off' + j, none⟩ = some (.int .i64 (l.getD j 0))) := jz fun j hj => by
  rcases h3 with h3 | ⟨b, off, rfl, hc⟩
  . subst h3; simp at hj
  . rcases g3 with g3 | ⟨b', off', rfl, gc⟩
    . subst g3; simp at hj
    . exact ⟨b, off, b', off', rfl, rfl, hc j hj, gc j hj⟩
 unfold maxLen at h2
 have HL : Hid (l.length <= 9223372036854775807) := jz (by omega)
 clear h3 g3 g1 g2 h1 h2
 go_enter Tryz.func34, Tryz.ntmps34
 go_wp2
 go_loopw [13] (fun i wr => ∃ k : Nat, k <= l.length /\ i = .int .i64 k /\ Hid (∃ n, wr = w.drewN n)) (fun i _ => l.length - (intOf i).toNat)
 case atStart => exact ⟨0, Nat.zero_le _, rfl, jz ⟨0, rfl⟩⟩
 case round =>
  obtain ⟨k, hk, rfl, HD⟩ := hrel
  by_cases hlt : k < l.length
  . obtain ⟨b, off, b', off', rfl, rfl, c1, c2⟩ := HS.out k hlt
    have j0 : IntKind.i64.wrap ((k : Int) + 1) = ((k + 1 : Nat) : Int) := by rw [show (k : Int) + 1 = ((k + 1 : Nat) : Int) by omega]; exact i64_nat _ (by have := HL.out; omega)
    have i0 : (0 : Int) <= (k : Int) := by omega
    have i1 : (k : Int) < (l.length : Int) := by omega
    have i2 : ¬ (k : Int) < 0 := by omega
    obtain ⟨n, rfl⟩ := HD.out
    have d1 : ∀ m, ((w.drewN n).drewN m).cell? ⟨b, off + k, none⟩ = some (.int .i64 (l.getD k 0)) := fun m => c1
    have d2 : ∀ m, ((w.drewN n).drewN m).cell? ⟨b', off' + k, none⟩ = some (.int .i64 (l.getD k 0)) := fun m => c2
    clear HD HS
    generalize l.getD k 0 = y at *
    generalize l.length = L at *
    go_wp2_with fail
    go_quiet (fail)
    go_wp2
    exact ⟨⟨k + 1, by omega, by go_num, jz ⟨_, rfl⟩⟩, by simp [intOf]; omega⟩
  . obtain rfl : k = l.length := by omega
    go_wp2
    go_ret
    exact ⟨rfl, HD.out⟩
theorem chas_yes {x g : Nat} {s : Ct} {p : Nat} {w : World} (h : Cq w x g s) (hp : p < s.n) : Calls Tryz.prog 214 #[.pointer (some ⟨x, 0, none⟩), .int .i64 (p : Int)] w fun e w' => e = .returned (.bool true) /\ w = w' := by
 have c1 := h.c1
 have i1 : (p : Int) >= 0 := by omega
 have i2 : (p : Int) < (s.n : Int) := by omega
 clear h hp
 generalize s.n = n at *
 go_enter Tryz.func214, Tryz.ntmps214
 go_wp2_with fail
 go_ret
 exact ⟨rfl, rfl⟩
theorem tlag_is (c k l : Int) (w : World) (hl : IntKind.i64.wrap (c - k) = l) : Calls Tryz.prog 215 #[.agg #[.int .i64 c, .int .i64 k]] w fun e w' => e = .returned (.int .i64 l) /\ Below w.heap.size w w' := by
 have B := jz (bal (o := .cells #[.int .i64 c, .int .i64 k] 148) (Below.refl w.heap.size w))
 go_enter Tryz.func215, Tryz.ntmps215
 go_wp2_with fail
 go_ret
 exact ⟨rfl, B.out⟩
theorem cnote_no {v : Value} {p : Int} {w : World} (h : Calls Tryz.prog 214 #[v, .int .i64 p] w fun e w' => e = .returned (.bool false) /\ w = w') : Calls Tryz.prog 192 #[v, .int .i64 p] w fun e w' => e = .returned (.tuple #[.int .i64 0, .bool false]) /\ w = w' := by
 have C := jz h
 clear h
 go_enter Tryz.func192, Tryz.ntmps192
 go_wp2_with fail
 refine (C.out).mono ?_; rintro e w' ⟨rfl, rfl⟩
 go_wp2_with fail
 go_ret2
 exact ⟨rfl, rfl⟩
theorem cnote_yes {x g : Nat} {s : Ct} {p : Nat} {w : World} (h : Cq w x g s) (hk : s.Ok) (hp : p < s.n) (hb : s.c p < 4611686018427387904) :
 Calls Tryz.prog 192 #[.pointer (some ⟨x, 0, none⟩), .int .i64 (p : Int)] w fun e w' => e = .returned (.tuple #[.int .i64 ((s.c p + 1 : Nat) : Int), .bool (s.due p)]) /\ Cq w' x g (s.note p) /\ Chg [g] w w' := by
 have C := jz (chas_yes h hp)
 have c1 := h.c1
 have p0 := h.p0 hp
 have f0 := h.free (p * 2)
 have i1 : (0 : Int) <= (p : Int) := by omega
 have i2 : (p : Int) < (s.n : Int) := by omega
 have i3 : ¬ (p : Int) < 0 := by omega
 have j0 : IntKind.i64.wrap ((s.c p : Int) + 1) = ((s.c p + 1 : Nat) : Int) := by rw [show (s.c p : Int) + 1 = ((s.c p + 1 : Nat) : Int) by omega]; exact i64_nat _ (by omega)
 obtain ⟨W, hW⟩ : ∃ W, w.setCell ⟨g, p * 2, none⟩ (.int .i64 ((s.c p + 1 : Nat) : Int)) = W := ⟨_, rfl⟩
 have H1 := h.up hp
 have CW : Chg [g] w W := by rw [<- hW]; exact (Chg.refl _ _).setCell (.inl (by simp)) _
 rw [hW] at H1
 have q0 := fun (w' : World) (hb : Below W.heap.size W w') => (H1.below hb).c0
 have r0 := fun (w' : World) (hb : Below W.heap.size W w') => (H1.below hb).p0 (p := p) hp
 have r1 := fun (w' : World) (hb : Below W.heap.size W w') => (H1.below hb).p1 (p := p) hp
 have eu : (s.up p).c p = s.c p + 1 := by simp [Ct.up, at1]
 rw [eu] at r0
 obtain ⟨d, hd⟩ : ∃ d, s.c p + 1 - s.k p = d := ⟨_, rfl⟩
 have T := jz (fun w => tlag_is ((s.c p + 1 : Nat) : Int) (s.k p : Int) (d : Int) w (by
  have := hk.le p hp; have := hk.lag p hp; have := hk.b2
  rw [show ((s.c p + 1 : Nat) : Int) - (s.k p : Int) = (d : Int) by omega]; exact i64_nat _ (by omega)))
 have ek : (s.up p).k p = s.k p := rfl
 have eb : (s.up p).b = s.b := rfl
 rw [ek] at r1
 rw [eb] at q0
 have HH := jz H1
 have HC := jz CW
 have HP := jz hp
 have hbd : Below W.heap.size W W.drew := (Below.refl _ _).drew
 obtain ⟨D, hD⟩ : ∃ D, s.due p = D := ⟨_, rfl⟩
 have HD := jz hD
 have hdue : D = decide (s.b <= d) := by rw [<- hD, <- hd]; rfl
 have KN := fun (w' : World) (hw : Below W.heap.size W w') => (H1.below hw).kept (p := p) hp
 rw [eu] at KN
 have HK := jz KN
 have fr := fun (w' : World) (hw : Below W.heap.size W w') => (H1.below hw).free (p * 2 + 1)
 clear h hk H1 CW hd eu ek eb KN hp hD
 rw [HD.out]
 have EN : Hid (s.note p = if D then (s.up p).kept p else s.up p) := jz (by unfold Ct.note; rw [HD.out])
 rw [EN.out]
 generalize s.c p + 1 = c1' at *
 generalize s.c p = cc at *
 generalize s.k p = kk at *
 generalize s.b = bb at *
 generalize s.n = n at *
 by_cases hl : (d : Int) < (bb : Int)
 . obtain rfl : D = false := by rw [hdue]; simp; omega
   clear hdue
   go_enter Tryz.func192, Tryz.ntmps192
   go_wp2_with fail
   refine (C.out).mono ?_; rintro e w' ⟨rfl, rfl⟩
   go_wp2
   go_region_held3 (fun w' => Below W.heap.size W w')
    (first | assumption | exact (Below.refl _ _).drew | exact below_more ‹Below W.heap.size W _› hbq)
    ((go_at_call 215; refine (T.out _).mono ?_; rintro e wq ⟨rfl, hbq⟩))
   have hbw := ‹Below W.heap.size W wq›
   have s0 := r0 wq hbw
   have HF := jz hbw
   go_wp2
   go_ret2
   exact ⟨rfl, HH.out.below HF.out, HC.out.trans (Chg.of_below HF.out _)⟩
 . obtain rfl : D = true := by rw [hdue]; simp; omega
   clear hdue
   go_enter Tryz.func192, Tryz.ntmps192
   go_wp2_with fail
   refine (C.out).mono ?_; rintro e w' ⟨rfl, rfl⟩
   go_wp2
   go_region_held3 (fun w' => Below W.heap.size W w')
    (first | assumption | exact (Below.refl _ _).drew | exact below_more ‹Below W.heap.size W _› hbq)
    ((go_at_call 215; refine (T.out _).mono ?_; rintro e wq ⟨rfl, hbq⟩))
   have hbw := ‹Below W.heap.size W wq›
   have s0 := r0 wq hbw
   have s1 := fr wq hbw
   have HF := jz hbw
   obtain ⟨V, hV⟩ : ∃ V, wq.setCell ⟨g, p * 2 + 1, none⟩ (.int .i64 (c1' : Int)) = V := ⟨_, rfl⟩
   have K2 := HK.out wq hbw
   rw [hV] at K2
   have KV := jz K2
   have s2 : V.cell? ⟨g, p * 2, none⟩ = some (.int .i64 (c1' : Int)) := by
    rw [<- hV]; exact (World.cell?_setCell_other _ _ _ _ (by simp)).trans s0
   have CV := jz (show Chg [g] W V by rw [<- hV]; exact (Chg.of_below hbw _).setCell (.inl (by simp)) _)
   clear K2
   go_wp2
   go_ret2
   exact ⟨rfl, KV.out, HC.out.trans CV.out⟩
theorem page_is (l : Nat) (hl : l < 9223372036854775808) (w : World) : Calls Tryz.prog 61 #[.int .i64 (l : Int)] w fun e w' => e = .returned (.int .i64 ((l / 4 : Nat) : Int)) /\ w = w' := by
 by_cases h : l = 0
 . subst h
   go_enter Tryz.func61, Tryz.ntmps61
   go_wp2_with fail
   go_ret
   exact ⟨rfl, rfl⟩
 . have t : (l : Int).tdiv 4 = ((l / 4 : Nat) : Int) := tdiv_nat l 4
   have k : IntKind.i64.wrap ((l / 4 : Nat) : Int) = ((l / 4 : Nat) : Int) := i64_nat _ (by omega)
   generalize l / 4 = m at *
   have i2 : (0 : Int) <= (l : Int) := by omega
   have i5 : (0 : Int) < (l : Int) := by omega
   have i6 : ¬ (l : Int) <= 0 := by omega
   have i7 : ¬ (l : Int) < 0 := by omega
   clear h hl
   go_enter Tryz.func61, Tryz.ntmps61
   go_wp2_with fail
   go_ret
   exact ⟨rfl, rfl⟩
def br (k : Int) : Nat := if k <= 0 then 0 else if 1099511627776 <= k then 1099511627776 else k.toNat
theorem bring_is (k : Int) (w : World) : Calls Tryz.prog 124 #[.int .i64 k] w fun e w' => e = .returned (.int .i64 (br k : Int)) /\ w = w' := by
 by_cases h1 : k <= 0
 . have e : (br k : Int) = 0 := by unfold br; rw [if_pos h1]; rfl
   rw [e]
   by_cases h0 : k < 0
   . have i1 : ¬ k >= 0 := by omega
     have i2 : ¬ 0 <= k := by omega
     go_enter Tryz.func124, Tryz.ntmps124
     go_wp2_with fail
     go_ret
     exact ⟨rfl, rfl⟩
   . obtain rfl : k = 0 := by omega
     go_enter Tryz.func124, Tryz.ntmps124
     go_wp2_with fail
     go_ret
     exact ⟨rfl, rfl⟩
 . by_cases h2 : 1099511627776 <= k
   . have e : (br k : Int) = 1099511627776 := by unfold br; rw [if_neg h1, if_pos h2]; rfl
     rw [e]
     have i2 : 0 <= k := by omega
     by_cases h3 : k = 1099511627776
     . subst h3
       clear h1 h2 e i2
       go_enter Tryz.func124, Tryz.ntmps124
       go_wp2_with fail
       go_ret
       exact ⟨rfl, rfl⟩
     . have i3 : 1099511627776 < k := by omega
       have i4 : ¬ k <= 1099511627776 := by omega
       have i5 : 0 < k := by omega
       clear h3
       go_enter Tryz.func124, Tryz.ntmps124
       go_wp2_with fail
       go_ret
       exact ⟨rfl, rfl⟩
   . have e : (br k : Int) = k := by unfold br; rw [if_neg h1, if_neg h2]; omega
     rw [e]
     have i2 : 0 <= k := by omega
     have i3 : k < 1099511627776 := by omega
     have i4 : k <= 1099511627776 := by omega
     have i5 : 0 < k := by omega
     go_enter Tryz.func124, Tryz.ntmps124
     go_wp2_with fail
     go_ret
     exact ⟨rfl, rfl⟩
end Go.Proofs.YtjkefcidbcifpaaGreat
