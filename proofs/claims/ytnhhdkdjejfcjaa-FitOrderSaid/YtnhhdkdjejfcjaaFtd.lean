/-
  Contracts of package fit: the lowest size, the places of those that fit.
-/
import Derived.Test.YtnhhdkdjejfcjaaFtc
namespace Go.Proofs.Ytnhhdkdjejfcjaa
set_option maxRecDepth 100000
open Go.RowKit

theorem tgS_no {n m : Int} {b : Bk} {r : List Bk} (h : fitB n b = false) : tgS n m (b :: r) = tgS n m r := by rw [tgS, if_neg (by rw [h]; simp)]
theorem tgS_take {n m : Int} {b : Bk} {r : List Bk} (h : fitB n b = true) (h2 : m = 0 ∨ b.s < m) : tgS n m (b :: r) = tgS n b.s r := by rw [tgS, if_pos ⟨h, h2⟩]
theorem tgS_keep {n m : Int} {b : Bk} {r : List Bk} (h : ¬ (m = 0 ∨ b.s < m)) : tgS n m (b :: r) = tgS n m r := by rw [tgS, if_neg (fun g => h g.2)]

set_option maxHeartbeats 1000000 in
theorem tight_is (n : Int) (l : List Bk) (v : Value) (r : Int) (w : World) (hv : RA blkE w v l) (hr : tgS n 0 l = r) :
    Calls Try.prog 15 #[v, .int .i64 n] w fun e w' => e = .returned (.int .i64 r) ∧ Below w.heap.size w w' := by
  obtain ⟨p, cap, rfl, hlc, hcm⟩ := ra_shape hv
  unfold maxLen at hcm
  have HL : Hid (l.length ≤ 9223372036854775807) := Lib.hid (by omega)
  have HV := Lib.hid hv
  have HR := Lib.hid hr
  clear hr hcm hlc hv
  go_enter Try.func15, Try.ntmps15
  go_wp2
  go_loopw [5, 10] (fun z i wr => ∃ (k : Nat) (m : Int), k ≤ l.length ∧ i = .int .i64 k ∧ z = .int .i64 m ∧ Hid (tgS n m (l.drop k) = r ∧ Below w.heap.size w wr)) (fun _ i _ => l.length - (intOf i).toNat)
  case atStart => exact ⟨0, 0, Nat.zero_le _, rfl, rfl, Lib.hid ⟨HR.out, Below.refl _ _⟩⟩
  case round =>
    obtain ⟨k, m, hk, rfl, rfl, H⟩ := hrel
    by_cases hlt : k < l.length
    · obtain ⟨b, off, rfl, hb, hx⟩ := blk_at (ra_below HV.out H.out.2) (by omega)
      obtain ⟨hld, _, _, _, hwf⟩ := hx k hlt
      have hF := H.out.1
      rw [getD_cut hlt] at hF
      generalize l.getD k default = y at *
      obtain ⟨a, s, u⟩ := y
      obtain ⟨W, hW, HW⟩ := blk_boxed wr ⟨a, s, u⟩
      have c1 : W.cell? ⟨wr.heap.size, 1, none⟩ = some (.int .i64 s) := HW.out.1.c1
      have c2 : W.cell? ⟨wr.heap.size, 2, none⟩ = some (.bool u) := HW.out.1.c2
      have HB := Lib.hid (below_more H.out.2 HW.out.2)
      have i0 : (0 : Int) ≤ (k : Int) := by omega
      have i1 : (k : Int) < (l.length : Int) := by omega
      have i2 : ¬ (k : Int) < 0 := by omega
      have i3 : IntKind.i64.wrap ((k : Int) + 1) = ((k + 1 : Nat) : Int) := by rw [show (k : Int) + 1 = ((k + 1 : Nat) : Int) by omega]; exact i64_nat _ (by have := HL.out; omega)
      have HK := Lib.hid hlt
      have hws : (Lit.int .i64 s).wf = true := hwf.ws
      obtain ⟨t, ht⟩ : ∃ t, takN s n = t := ⟨_, rfl⟩
      have C := Lib.hid (takes_is s n t hws ht W)
      clear hx hk hb hwf hws
      cases u
      · cases hf : fitB n ⟨a, s, false⟩
        · rw [tgS_no hf] at hF
          have t0 : (t == 0) = true := by
            have : ¬ (2 ≤ n ∧ n ≤ s) := fun h => by rw [fitB_iff.2 ⟨rfl, h.1, h.2⟩] at hf; cases hf
            rw [← ht, takN_zero.2 this]; rfl
          have HF := Lib.hid hF
          clear hF hf ht
          go_wp2_with fail
          refine (C.out).mono ?_; rintro e w' ⟨rfl, rfl⟩
          go_wp2
          go_roundw
          case rel => exact ⟨k + 1, m, by have := HK.out; omega, by go_num, rfl, Lib.hid ⟨HF.out, HB.out⟩⟩
          case measure => have := HK.out; simp [intOf]; omega
        · have t0 : (t == 0) = false := by
            obtain ⟨_, h1, h2⟩ := fitB_iff.1 hf
            rw [beq_eq_false_iff_ne, ← ht, Ne, takN_zero]
            exact fun h => h ⟨h1, h2⟩
          by_cases hm0 : m = 0
          · rw [tgS_take hf (.inl hm0)] at hF
            have m0 : (m == 0) = true := by rw [hm0]; rfl
            have HF := Lib.hid hF
            clear hF hf ht hm0
            go_wp2_with fail
            refine (C.out).mono ?_; rintro e w' ⟨rfl, rfl⟩
            go_wp2
            go_roundw
            case rel => exact ⟨k + 1, s, by have := HK.out; omega, by go_num, rfl, Lib.hid ⟨HF.out, HB.out⟩⟩
            case measure => have := HK.out; simp [intOf]; omega
          · have m0 : (m == 0) = false := beq_eq_false_iff_ne.2 hm0
            by_cases hms : s < m
            · rw [tgS_take hf (.inr hms)] at hF
              have HF := Lib.hid hF
              clear hF hf ht hm0
              go_wp2_with fail
              refine (C.out).mono ?_; rintro e w' ⟨rfl, rfl⟩
              go_wp2
              go_roundw
              case rel => exact ⟨k + 1, s, by have := HK.out; omega, by go_num, rfl, Lib.hid ⟨HF.out, HB.out⟩⟩
              case measure => have := HK.out; simp [intOf]; omega
            · rw [tgS_keep (fun h => h.elim hm0 hms)] at hF
              have HF := Lib.hid hF
              clear hF hf ht hm0
              go_wp2_with fail
              refine (C.out).mono ?_; rintro e w' ⟨rfl, rfl⟩
              go_wp2
              go_roundw
              case rel => exact ⟨k + 1, m, by have := HK.out; omega, by go_num, rfl, Lib.hid ⟨HF.out, HB.out⟩⟩
              case measure => have := HK.out; simp [intOf]; omega
      · rw [tgS_no (by simp [fitB])] at hF
        have HF := Lib.hid hF
        clear hF ht C
        go_wp2
        go_roundw
        case rel => exact ⟨k + 1, m, by have := HK.out; omega, by go_num, rfl, Lib.hid ⟨HF.out, HB.out⟩⟩
        case measure => have := HK.out; simp [intOf]; omega
    · obtain rfl : k = l.length := by omega
      have hF := H.out.1
      rw [List.drop_length, tgS] at hF
      subst hF
      go_wp2
      go_ret
      exact ⟨rfl, H.out.2⟩

/-- places being gathered -/
structure Gth (z : Int) (l : List Bk) (w0 wr : World) (lv : Value) (k : Nat) : Prop where
  ex : ∃ pre : List Nat, OwnI w0.heap.size wr lv (ins pre) ∧ pre ++ plS z k (l.drop k) = plS z 0 l ∧ pre.length ≤ k
  up : Below w0.heap.size w0 wr
theorem ownI_nil' (B : Nat) (w : World) : OwnI B w (.slice none 0 0) [] := World.ownsRow_nil _ _ _ _
theorem own_below_i' {B : Nat} {w w' : World} {v : Value} {l : List Int} (h : OwnI B w v l) (hb : Below w.heap.size w w') : OwnI B w' v l := by
  refine ⟨h.1, h.2.imp id ?_⟩
  rintro ⟨g, cap, cur, hv, h1, hg, r⟩
  exact ⟨g, cap, cur, hv, h1, (hb.block g (Array.getElem?_eq_some_iff.1 hg).1).trans hg, r⟩
theorem ins_app (f : List Nat) (i : Nat) : ins (f ++ [i]) = ins f ++ [(i : Int)] := by simp [ins]
theorem ins_length (f : List Nat) : (ins f).length = f.length := by simp [ins]
theorem Gth.start {z : Int} {l : List Bk} {w : World} : Gth z l w w (.slice none 0 0) 0 := ⟨⟨[], ownI_nil' _ _, rfl, Nat.le_refl _⟩, Below.refl _ _⟩
theorem Gth.skip {z : Int} {l : List Bk} {w0 wr w' : World} {lv : Value} {k : Nat} (h : Gth z l w0 wr lv k) (hk : k < l.length) (hn : hasS z (l.getD k default) = false) (hb : Below wr.heap.size wr w') : Gth z l w0 w' lv (k + 1) := by
  obtain ⟨pre, h1, h2, h3⟩ := h.ex
  refine ⟨⟨pre, own_below_i' h1 hb, ?_, by omega⟩, below_more h.up hb⟩
  rw [← h2, getD_cut hk, plS, hn, if_neg Bool.false_ne_true]
theorem Gth.more {z : Int} {l : List Bk} {w0 wr W : World} {lv : Value} {k : Nat} (h : Gth z l w0 wr lv k) (hk : k < l.length) (hy : hasS z (l.getD k default) = true) (hb : Below wr.heap.size wr W) (hl : l.length ≤ 1000) :
    ∃ pre, OwnI w0.heap.size (W.alloc (.cells #[.int .i64 (k : Int)] 3)) lv (ins pre) ∧ Hid ((ins pre).length + 1 ≤ 1000000) ∧ w0.heap.size ≤ (W.alloc (.cells #[.int .i64 (k : Int)] 3)).heap.size ∧
      ∀ v' w', OwnI w0.heap.size w' v' (ins pre ++ [(k : Int)]) → (W.alloc (.cells #[.int .i64 (k : Int)] 3)).grownBy w' lv.ownBlock → Gth z l w0 w' v' (k + 1) := by
  obtain ⟨pre, h1, h2, h3⟩ := h.ex
  have hB := below_more h.up hb
  have h1' := own_below_i' h1 hb
  refine ⟨pre, World.ownsRow.alloc h1' _, Lib.hid (by rw [ins_length]; omega), by rw [size_alloc]; exact Nat.le_succ_of_le hB.size, fun v' w' ho hg => ⟨⟨pre ++ [k], by rw [ins_app]; exact ho, ?_, by simp; omega⟩, Below.grown (bal hB) hg (by rw [size_alloc]; exact Nat.le_succ_of_le hB.size) (fun q hq => (World.ownsRow.lt h1 q hq).1)⟩⟩
  rw [← h2, getD_cut hk, plS, hy, if_pos rfl]
  simp

set_option maxHeartbeats 1000000 in
theorem fits_is (n : Int) (l : List Bk) (v : Value) (w : World) (hv : RA blkE w v l) (hl : l.length ≤ 1000) :
    Calls Try.prog 9 #[v, .int .i64 n] w fun e w' => (∃ u, e = .returned u ∧ OwnI w.heap.size w' u (ins (fitN n l))) ∧ Below w.heap.size w w' := by
  obtain ⟨z, hz⟩ : ∃ z, tgS n 0 l = z := ⟨_, rfl⟩
  have T := Lib.hid (tight_is n l v z w hv hz)
  rw [fitN, hz]
  obtain ⟨p, cap, rfl, hlc, hcm⟩ := ra_shape hv
  have HL := Lib.hid hl
  have HV := Lib.hid hv
  clear hcm hlc hv hl hz
  by_cases h0 : z = 0
  · rw [if_pos h0]
    have z0 : (z == 0) = true := by rw [h0]; rfl
    clear h0
    generalize l.length = L at *
    go_enter Try.func9, Try.ntmps9
    go_wp2_with fail
    refine (T.out).mono ?_; rintro e w1 ⟨rfl, b1⟩
    go_wp2
    go_ret
    exact ⟨⟨_, rfl, ownI_nil' _ _⟩, b1⟩
  · rw [if_neg h0]
    have z0 : (z == 0) = false := beq_eq_false_iff_ne.2 h0
    clear h0
    go_enter Try.func9, Try.ntmps9
    go_wp2_with fail
    refine (T.out).mono ?_; rintro e w1 ⟨rfl, b1⟩
    have D1 := Lib.hid b1
    have HS : Hid (w.heap.size ≤ w1.heap.size) := Lib.hid b1.size
    have HV1 := Lib.hid (ra_below HV.out b1)
    clear b1 T
    go_wp2
    go_loopw [6, 16] (fun y i wr => ∃ (k : Nat) (lv : Value), k ≤ l.length ∧ i = .int .i64 k ∧ y = lv ∧ Hid (Gth z l w1 wr lv k)) (fun _ i _ => l.length - (intOf i).toNat)
    case atStart => exact ⟨0, _, Nat.zero_le _, rfl, rfl, Lib.hid Gth.start⟩
    case round =>
      obtain ⟨k, lv, hk, rfl, rfl, H⟩ := hrel
      by_cases hlt : k < l.length
      · obtain ⟨b, off, rfl, hb, hx⟩ := blk_at (ra_below HV1.out H.out.up) (by omega)
        obtain ⟨hld, _, _, _, hwf⟩ := hx k hlt
        have i0 : (0 : Int) ≤ (k : Int) := by omega
        have i1 : (k : Int) < (l.length : Int) := by omega
        have i2 : ¬ (k : Int) < 0 := by omega
        have i3 : IntKind.i64.wrap ((k : Int) + 1) = ((k + 1 : Nat) : Int) := by rw [show (k : Int) + 1 = ((k + 1 : Nat) : Int) by omega]; exact i64_nat _ (by have := HL.out; omega)
        have HK := Lib.hid hlt
        have HSK := Lib.hid (fun hn W (hb : Below wr.heap.size wr W) => H.out.skip hlt hn hb)
        have HMO := Lib.hid (fun hy W (hb : Below wr.heap.size wr W) => H.out.more hlt hy hb HL.out)
        generalize l.getD k default = y at *
        obtain ⟨a, s, u⟩ := y
        obtain ⟨W, hW, HW⟩ := blk_boxed wr ⟨a, s, u⟩
        have c1 : W.cell? ⟨wr.heap.size, 1, none⟩ = some (.int .i64 s) := HW.out.1.c1
        have c2 : W.cell? ⟨wr.heap.size, 2, none⟩ = some (.bool u) := HW.out.1.c2
        have HB := Lib.hid HW.out.2
        clear hx hk hb hwf
        cases u
        · by_cases hs : s = z
          · have s0 : (s == z) = true := by rw [hs]; simp
            obtain ⟨pre, o1, hlen, hB, hmore⟩ := HMO.out (hasS_iff.2 ⟨rfl, hs⟩) W HB.out
            have O1 := Lib.hid o1
            have HB1 := Lib.hid hB
            have HM := Lib.hid hmore
            clear hs o1 hB hmore HSK HMO
            go_wp2_with (at_builtin; refine list_app_int (o := ⟨some 33, _, _, _, _, _⟩) rfl (.tmp 30) (.tmp 32) rfl w1.heap.size _ (ins pre) rfl O1.out _ [(k : Int)] rfl (ri_one _ _) hlen.out HB1.out ?_; intro v1 w2 hown hg _)
            have HN := Lib.hid (HM.out _ _ hown hg)
            clear hown hg
            go_wp2
            go_roundw
            case rel => exact ⟨k + 1, _, by have := HK.out; omega, by go_num, rfl, HN⟩
            case measure => have := HK.out; simp [intOf]; omega
          · have s0 : (s == z) = false := beq_eq_false_iff_ne.2 hs
            have HN := Lib.hid (HSK.out (by rw [Bool.eq_false_iff, Ne, hasS_iff]; exact fun h => hs h.2) W HB.out)
            clear hs HSK HMO
            go_wp2
            go_roundw
            case rel => exact ⟨k + 1, _, by have := HK.out; omega, by go_num, rfl, HN⟩
            case measure => have := HK.out; simp [intOf]; omega
        · have HN := Lib.hid (HSK.out (by simp [hasS]) W HB.out)
          clear HSK HMO
          go_wp2
          go_roundw
          case rel => exact ⟨k + 1, _, by have := HK.out; omega, by go_num, rfl, HN⟩
          case measure => have := HK.out; simp [intOf]; omega
      · obtain rfl : k = l.length := by omega
        obtain ⟨pre, h1, h2, _⟩ := H.out.ex
        rw [List.drop_length, plS, List.append_nil] at h2
        rw [h2] at h1
        have HO := Lib.hid (h1.mono HS.out)
        have HB := Lib.hid (below_more D1.out H.out.up)
        clear h1 h2
        go_wp2
        go_ret
        exact ⟨⟨_, rfl, HO.out⟩, HB.out⟩
end Go.Proofs.Ytnhhdkdjejfcjaa
