/-
  Contracts of package chain, and of the reference's of the same: blocks that words are read as.
-/
import Derived.Test.YtlpbdnfecnochaaBkd
import Derived.Test.YtlpbdnfecnochaaRu
namespace Go.Proofs.Ytlpbdnfecnochaa
set_option maxRecDepth 100000
open Go.RowKit

/-- words that a uint64 can hold -/
def WordsOk (l : List Int) : Prop := ∀ j, j < l.length → 0 ≤ l.getD j 0 ∧ l.getD j 0 ≤ 18446744073709551615
theorem words_ok {l : List Int} (hw : ∀ n ∈ l, (Lit.int .u64 n).wf = true) : WordsOk l := fun j hj => by
  rw [List.getD_eq_getElem?_getD, List.getElem?_eq_getElem hj]
  exact u64_in (hw _ (List.getElem_mem hj))
theorem reads_of (x : Int) (h : MayB (x / 2)) : Reads x (x / 2) (decide (x % 2 = 1)) true := by
  refine .inl ⟨rfl, h, ?_⟩
  by_cases c : x % 2 = 1
  · rw [decide_eq_true c]; simp only [useB, if_true]; omega
  · rw [decide_eq_false c]; simp [useB]; omega
theorem ru_at {w : World} {p : Option Addr} {n cap : Nat} {l : List Int} (h : RU w (.slice p n cap) l) (h0 : 0 < l.length) : ∃ b off, p = some ⟨b, off, none⟩ ∧ ∀ i, i < l.length → w.cell? ⟨b, off + i, none⟩ = some (.int .u64 (l.getD i 0)) := by
  obtain ⟨p', cap', e, _, _, h | ⟨b, off, rfl, hc⟩⟩ := h
  · subst h; simp at h0
  · cases e; exact ⟨b, off, rfl, hc⟩

/-- the state of the loop: what is read so far, and the rest, is what all is read as -/
structure Rd (l : List Int) (w0 w : World) (v : Value) (a : Nat) (R : Option (List Bk)) : Prop where
  ex : ∃ p k, OwnA blkE w0.heap.size w v p ∧ (rdF l k a).map (p ++ ·) = R ∧ l.length ≤ a + k ∧ 2 * p.length ≤ a
  up : Below w0.heap.size w0 w
theorem Rd.start (l : List Int) (w : World) : Rd l w w (.slice none 0 0) 0 (rdF l l.length 0) :=
  ⟨⟨[], l.length, own_nil_a _ _ _, by simp, by omega, by simp⟩, Below.refl _ _⟩
theorem Rd.none_ {l : List Int} {w0 w : World} {v : Value} {a : Nat} {R : Option (List Bk)} (h : Rd l w0 w v a R) (ha : a < l.length) (hx : ¬ MayB (l.getD a 0 / 2)) : R = none := by
  obtain ⟨p, k, _, h2, _⟩ := h.ex
  rw [← h2, rdF_no ha hx]; rfl
theorem Rd.end_ {l : List Int} {w0 w : World} {v : Value} {a : Nat} {R : Option (List Bk)} (h : Rd l w0 w v a R) (ha : l.length ≤ a) : ∃ p, OwnA blkE w0.heap.size w v p ∧ R = some p ∧ 2 * p.length ≤ a := by
  obtain ⟨p, k, h1, h2, _, h4⟩ := h.ex
  exact ⟨p, h1, by rw [← h2, rdF_end ha, Option.map_some, List.append_nil], h4⟩
/-- one more: what its append needs, and what it leaves -/
theorem Rd.more {l : List Int} {w0 w W : World} {v : Value} {a n : Nat} {u : Bool} {R : Option (List Bk)} (h : Rd l w0 w v a R) (hl : l.length ≤ 1000) (ha : a < l.length) (hn : l.getD a 0 / 2 = n) (hm : MayB n) (hu : decide (l.getD a 0 % 2 = 1) = u)
    (hW : w.alloc (.cells (bc ⟨a, n, u⟩) 35) = W) :
    ∃ p, OwnA blkE w0.heap.size W v p ∧ RA blkE W (.slice (some ⟨w.heap.size, 0, none⟩) 1 1) [⟨a, n, u⟩] ∧ Hid (p.length + [(⟨a, n, u⟩ : Bk)].length ≤ 2000) ∧ w0.heap.size ≤ W.heap.size ∧
      ∀ v' w', OwnA blkE w0.heap.size w' v' (p ++ [⟨a, n, u⟩]) → W.grownBy w' v.ownBlock → Rd l w0 w' v' (a + n) R := by
  obtain ⟨p, k, h1, h2, h3, h4⟩ := h.ex
  have hB : Below w0.heap.size w0 W := by rw [← hW]; exact bal h.up
  have hO : OwnA blkE w0.heap.size W v p := by rw [← hW]; exact h1.alloc _
  have hm2 := hm
  obtain ⟨n1, n2⟩ := hm2
  refine ⟨p, hO, ?_, Lib.hid (by simp; omega), hB.size, fun v' w' ho hg => ⟨⟨p ++ [⟨a, n, u⟩], k - 1, ho, ?_, by omega, by simp; omega⟩, below_app hB hB.size hO hg⟩⟩
  · rw [← hW]; exact (blk_one w (c := ⟨a, n, u⟩) (Bk.wf_of (by simp only; omega) (by simp only; omega) (by simp only; omega) (by simp only; omega))).ra
  · obtain ⟨j, rfl⟩ : ∃ j, k = j + 1 := ⟨k - 1, by omega⟩
    rw [← h2, Nat.add_sub_cancel, rdF, if_pos ha, hn, if_pos hm, hu, Int.toNat_natCast, Option.map_map]
    congr 1
    funext r
    simp

set_option maxHeartbeats 2000000 in
theorem blocks_main (l : List Int) (v : Value) (R : Option (List Bk)) (w : World) (hv : RU w v l) (hl : l.length ≤ 1000) (hw : WordsOk l) (hr : blkF l = R) (hm : Mw l.length) :
    Calls Try.prog 15 #[v] w fun e w' => (∃ u, e = .returned (.tuple #[u, .bool R.isSome]) ∧ OwnA blkE w.heap.size w' u (R.getD [])) ∧ Below w.heap.size w w' := by
  have C0 := Lib.hid (mayw_is l.length w)
  rw [decide_eq_true hm] at C0
  clear hm
  have HV := Lib.hid hv
  obtain ⟨p, cap, rfl, hlc, hcm, _⟩ := hv
  have HL := Lib.hid hl
  have HW := Lib.hid hw
  have HR := Lib.hid hr
  clear hl hw hr hlc hcm
  go_enter Try.func15, Try.ntmps15
  go_wp2_with fail
  refine (C0.out).mono ?_; rintro e w' ⟨rfl, rfl⟩
  go_wp2
  go_loopw [4, 5] (fun y a wr => ∃ (z : Nat) (lv : Value), y = lv ∧ a = .int .i64 z ∧ z ≤ l.length + 512 ∧ Hid (Rd l w wr lv z (rdF l l.length 0))) (fun _ a _ => l.length - (intOf a).toNat)
  case atStart => exact ⟨0, _, rfl, rfl, Nat.zero_le _, Lib.hid (Rd.start l w)⟩
  case round =>
    obtain ⟨z, lv, rfl, rfl, hz, H⟩ := hrel
    by_cases hlt : z < l.length
    · obtain ⟨b, off, rfl, hx⟩ := ru_at (ru_below HV.out H.out.up) (by omega)
      have c1 := hx z hlt
      obtain ⟨x0, x1⟩ := HW.out z hlt
      have i0 : (0 : Int) ≤ (z : Int) := by omega
      have i1 : (z : Int) < (l.length : Int) := by omega
      have i2 : ¬ (z : Int) < 0 := by omega
      have HK := Lib.hid hlt
      have HZ := Lib.hid hz
      by_cases hm : MayB (l.getD z 0 / 2)
      · have P := Lib.hid (fun w => parse_is (l.getD z 0) _ _ _ (reads_of _ hm) x0 x1 w)
        obtain ⟨n, hn⟩ : ∃ n : Nat, l.getD z 0 / 2 = n := ⟨(l.getD z 0 / 2).toNat, by obtain ⟨h, _⟩ := hm; omega⟩
        obtain ⟨u, hu⟩ : ∃ u, decide (l.getD z 0 % 2 = 1) = u := ⟨_, rfl⟩
        obtain ⟨W, hW⟩ : ∃ W, wr.alloc (.cells (bc ⟨z, n, u⟩) 35) = W := ⟨_, rfl⟩
        obtain ⟨pre, o1, r1, hlen, hB, hmore⟩ := H.out.more HL.out hlt hn (hn ▸ hm) hu hW
        rw [hn, hu] at P
        have HN : Hid (2 ≤ n ∧ n ≤ 512) := Lib.hid (by rw [hn] at hm; obtain ⟨a, b⟩ := hm; omega)
        have j0 : IntKind.i64.wrap ((z : Int) + (n : Int)) = ((z + n : Nat) : Int) := by rw [show (z : Int) + (n : Int) = ((z + n : Nat) : Int) by omega]; exact i64_nat _ (by have := HL.out; have := HN.out; omega)
        have O1 := Lib.hid o1
        have R1 := Lib.hid r1
        have HB := Lib.hid hB
        have HM := Lib.hid hmore
        clear hx hm hn hu x0 x1 hz o1 r1 hB hmore
        generalize l.getD z 0 = x at *
        go_wp2_with fail
        refine (P.out _).mono ?_; rintro e w' ⟨rfl, rfl⟩
        go_wp2_with (at_builtin; refine app_blk (o := ⟨some 34, _, _, _, _, _⟩) rfl (.tmp 28) (.tmp 33) rfl w.heap.size _ pre rfl O1.out _ [⟨z, n, u⟩] rfl R1.out hlen HB.out ?_)
        intro v' w2 o2 g2 _
        have HN2 := Lib.hid (HM.out v' w2 o2 g2)
        clear o2 g2
        go_wp2
        go_roundw
        case rel => exact ⟨z + n, _, rfl, rfl, by have := HK.out; have := HN.out; omega, HN2⟩
        case measure => have := HK.out; have := HN.out; simp [intOf]; omega
      · have P := Lib.hid (fun w => parse_no (l.getD z 0) x0 x1 hm w)
        have hR : R = none := by rw [← HR.out, blkF, H.out.none_ hlt hm]; rfl
        subst hR
        have HB := Lib.hid H.out.up
        clear hx hm x0 x1 hz
        generalize l.getD z 0 = x at *
        go_wp2_with fail
        refine (P.out _).mono ?_; rintro e w' ⟨rfl, rfl⟩
        go_wp2
        go_ret2
        exact ⟨⟨_, rfl, own_nil_a _ _ _⟩, HB.out⟩
    · obtain ⟨pre, o1, hp, hlen⟩ := H.out.end_ (by omega)
      have M := Lib.hid (may_is l.length pre _ _ wr o1.ra (by have := HL.out; omega) rfl)
      have i3 : ¬ (z : Int) < (l.length : Int) := by omega
      have HB := Lib.hid H.out.up
      have hR := HR.out
      rw [blkF, hp, Option.bind_some] at hR
      have O1 := Lib.hid o1
      clear hp o1 hz hlen
      cases hmm : mayL l.length pre
      · rw [hmm] at M
        rw [hmm, if_neg Bool.false_ne_true] at hR
        subst hR
        clear hmm
        go_wp2_with fail
        refine (M.out).mono ?_; rintro e w2 ⟨rfl, hb⟩
        have HB2 := Lib.hid (below_more HB.out hb)
        clear hb
        go_wp2
        go_ret2
        exact ⟨⟨_, rfl, own_nil_a _ _ _⟩, HB2.out⟩
      · rw [hmm] at M
        rw [hmm, if_pos rfl] at hR
        subst hR
        clear hmm
        go_wp2_with fail
        refine (M.out).mono ?_; rintro e w2 ⟨rfl, hb⟩
        have O2 := Lib.hid (O1.out.below hb)
        have HB2 := Lib.hid (below_more HB.out hb)
        clear hb
        go_wp2
        go_ret2
        exact ⟨⟨_, rfl, O2.out⟩, HB2.out⟩

theorem blkF_no {l : List Int} (h : ¬ Mw l.length) : blkF l = none := by
  rw [blkF]
  cases rdF l l.length 0 with
  | none => rfl
  | some p => rw [Option.bind_some, if_neg]; intro k; exact h (mayL_yes.1 k).1
theorem blocks_is (l : List Int) (v : Value) (R : Option (List Bk)) (w : World) (hv : RU w v l) (hl : l.length ≤ 1000) (hw : WordsOk l) (hr : blkF l = R) :
    Calls Try.prog 15 #[v] w fun e w' => (∃ u, e = .returned (.tuple #[u, .bool R.isSome]) ∧ OwnA blkE w.heap.size w' u (R.getD [])) ∧ Below w.heap.size w w' := by
  by_cases hm : Mw l.length
  · exact blocks_main l v R w hv hl hw hr hm
  · have C := Lib.hid (mayw_is l.length w)
    rw [decide_eq_false hm] at C
    obtain rfl : R = none := by rw [← hr, blkF_no hm]
    obtain ⟨p, cap, rfl, hlc, hcm, _⟩ := hv
    clear hm hr hw hl hlc hcm
    go_enter Try.func15, Try.ntmps15
    go_wp2_with fail
    refine (C.out).mono ?_; rintro e w' ⟨rfl, rfl⟩
    go_wp2_with fail
    go_ret2
    exact ⟨⟨_, rfl, own_nil_a _ _ _⟩, Below.refl _ _⟩
end Go.Proofs.Ytlpbdnfecnochaa
