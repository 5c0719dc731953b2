/-
  The statements' 'same': a model, and the reference's of the same words, tell the same.
-/
import Derived.Test.YtlhpcimbigfmkaaMrc
import Derived.Test.YtlhpcimbigfmkaaZma
import Derived.Deep.RegionHeld3
namespace Go.Proofs.Ytlhpcimbigfmkaa
set_option maxRecDepth 100000
open Go.ChangeShapes Go.WideShapes Go.ChangeAt Go.RowKit

/-- all that may be read of a used block with one call -/
theorem all_of {wl : List Int} {l : List Bk} (hB : blkF wl = some l) {b : Bk} (hb : b ∈ l) (hu : b.u = true) : ∃ x s s1 s8 : Nat, offB b.a = (x : Int) ∧ b.s = (s : Int) ∧ IntKind.i64.wrap ((s : Int) - 1) = (s1 : Int) ∧ IntKind.i64.wrap ((s1 : Int) * 8) = (s8 : Int) ∧ refF wl x (if s8 < 448 then s8 else 448 : Nat) = 0 ∧ s8 ≤ 4096 := by
  have hm := blkF_some hB
  obtain ⟨⟨_, h5, _⟩, hF⟩ := mayL_yes.1 hm
  obtain ⟨⟨b1, _⟩, b2, b3⟩ := mayF_sizes hF b hb
  have ho := offB_at b2 (by omega)
  refine ⟨(offB b.a).toNat, b.s.toNat, b.s.toNat - 1, 8 * (b.s.toNat - 1), by omega, by omega, ?_, ?_, ?_, by omega⟩
  · rw [show ((b.s.toNat : Nat) : Int) - 1 = ((b.s.toNat - 1 : Nat) : Int) by omega]; exact i64_nat _ (by omega)
  · rw [show ((b.s.toNat - 1 : Nat) : Int) * 8 = ((8 * (b.s.toNat - 1) : Nat) : Int) by omega]; exact i64_nat _ (by omega)
  · unfold refF
    rw [hB]
    simp only
    rw [if_pos (inL_yes.2 ⟨?_, b, hb, hu, ?_, ?_⟩)]
    · split <;> omega
    · omega
    · split <;> omega

set_option maxHeartbeats 4000000 in
theorem same_models {D : List Nat} {g x : Nat} {wl : List Int} {l : List Bk} {r : Int} (w : World) (h : Mo w D g wl l r) (h' : Rm w D x wl l r) :
    Calls Try.prog 14 #[.pointer (some ⟨g, 0, none⟩), .pointer (some ⟨x, 0, none⟩)] w fun e w' => e = .returned (.bool true) ∧ Below w.heap.size w w' := by
  have hlen := h.len.1
  have HM := Lib.hid (fun w' (hb : Below w.heap.size w w') => h.below hb)
  have HR := Lib.hid (fun w' (hb : Below w.heap.size w w') => h'.below hb)
  have HB := Lib.hid h.hB
  have HL := Lib.hid hlen
  obtain ⟨v, hW, _⟩ := h'.rows
  have c1 : ∀ w', Below w.heap.size w w' → w'.cell? ⟨x, 1, none⟩ = some (.int .i64 r) := fun w' hb => by rw [hb.cell (p := ⟨x, 1, none⟩) hW.lt, Whole.at_ hW]; rfl
  clear h h' hlen hW
  go_enter Try.func14, Try.ntmps14
  go_wp2_with fail
  go_region_held3 (fun w' => Below w.heap.size w w')
    (first | assumption | exact (Below.refl _ _).drew)
    (first
      | (go_at_call 21; refine (mroot_is _ (HM.out _ (by assumption))).mono ?_; rintro e wz ⟨rfl, rfl⟩)
      | (go_at_call 22; refine (mobl_is _ (HM.out _ (by assumption))).mono ?_; rintro e wy ⟨⟨vy, rfl, oy⟩, by_⟩
         have BY := below_more (‹Below w.heap.size w _›) by_
         have OY := Lib.hid oy.ra
         clear oy by_)
      | (go_at_call 36; refine (rmblk_is _ (HR.out _ (by assumption))).mono ?_; rintro e wq ⟨⟨vq, rfl, oq⟩, bq⟩
         have BQ := below_more (‹Below w.heap.size w _›) bq
         have OQ := Lib.hid (And.intro (ra_below OY.out bq) oq.ra)
         clear oq bq)
      | (go_at_call 35; refine (blks_same OQ.out.1 OQ.out.2).mono ?_; rintro e ws ⟨rfl, nn, rfl⟩
         have BS := below_drewN ‹Below w.heap.size w wq› nn))
  have BV := Lib.hid BS
  clear BS
  generalize wq.drewN nn = V at *
  have C2 := Lib.hid (rmblk_is V (HR.out V BV.out))
  clear BY BQ c1
  go_wp2_with fail
  refine (C2.out).mono ?_; rintro e w2 ⟨⟨v2, rfl, o2⟩, b2⟩
  have D2 := Lib.hid (below_more BV.out b2)
  have O2 := Lib.hid o2.ra
  obtain ⟨p2, q2, rfl, _, _⟩ := ra_shape o2.ra
  clear b2 o2 C2
  go_wp2
  go_loopw [30] (fun i wr => ∃ k : Nat, k ≤ l.length ∧ i = .int .i64 k ∧ Hid (Below w2.heap.size w2 wr)) (fun i _ => l.length - (intOf i).toNat)
  case atStart => exact ⟨0, Nat.zero_le _, rfl, Lib.hid (Below.refl _ _)⟩
  case round =>
    obtain ⟨k, hk, rfl, H⟩ := hrel
    by_cases hlt : k < l.length
    · obtain ⟨b, off, rfl, _, hx⟩ := blk_at (ra_below O2.out H.out) (by omega)
      obtain ⟨hld, _, _, _, _⟩ := hx k hlt
      have i0 : (0 : Int) ≤ (k : Int) := by omega
      have i1 : (k : Int) < (l.length : Int) := by omega
      have i2 : ¬ (k : Int) < 0 := by omega
      have i3 : IntKind.i64.wrap ((k : Int) + 1) = ((k + 1 : Nat) : Int) := by rw [show (k : Int) + 1 = ((k + 1 : Nat) : Int) by omega]; exact i64_nat _ (by have := HL.out; omega)
      have HK := Lib.hid hlt
      have hmem := getD_mem hlt
      have AL := Lib.hid (fun hu => all_of HB.out hmem hu)
      clear hx hk hlt hmem
      generalize l.getD k default = X at *
      obtain ⟨a, s, u⟩ := X
      obtain ⟨W, hW, HW⟩ := blk_boxed wr ⟨a, s, u⟩
      have HBW := Lib.hid (below_more H.out HW.out.2)
      have c2 : W.cell? ⟨wr.heap.size, 2, none⟩ = some (.bool u) := HW.out.1.c2
      cases u
      · clear AL
        go_wp2
        go_roundw
        case rel => exact ⟨k + 1, by have := HK.out; omega, by go_num, HBW⟩
        case measure => have := HK.out; simp [intOf]; omega
      · obtain ⟨y, s', s1, s8, e1, e2, e3, e4, e5, e6⟩ := AL.out rfl
        simp only at e1 e2
        subst e2
        have c1 : W.cell? ⟨wr.heap.size, 1, none⟩ = some (.int .i64 (s' : Int)) := HW.out.1.c1
        obtain ⟨n, hn⟩ : ∃ n : Nat, (if s8 < 448 then s8 else 448) = n := ⟨_, rfl⟩
        rw [hn] at e5
        have hn2 : n ≤ 448 := by rw [← hn]; split <;> omega
        have CO := Lib.hid (fun w => roff_is ⟨a, s', true⟩ y e1 w)
        have C5 := Lib.hid (fun w' (hb : Below W.heap.size W w') => mread_is y n w' (HM.out w' (below_more D2.out (below_more HBW.out hb))))
        have hy : (y : Int) ≤ 4104 := by
          rw [← e1]
          unfold offB
          split <;> omega
        have C6 := Lib.hid (fun w' (hb : Below W.heap.size W w') => rmread_is y n w' (HR.out w' (below_more D2.out (below_more HBW.out hb))) ⟨by omega, by omega⟩ ⟨by omega, by omega⟩)
        rw [e5] at C5 C6
        generalize rdR wl y n = B at *
        have ld : ∀ w', Below W.heap.size W w' → (blkLoad (.pointer (some ⟨wr.heap.size, 0, none⟩))).run Try.prog w' = .ok (.agg (bc ⟨a, s', true⟩)) w' := fun w' hb => (HW.out.1.below hb).load
        have LD := Lib.hid ld
        have l0 := ld W (Below.refl _ _)
        clear e1 e5 e6 hn2 hy AL ld
        by_cases h8 : s8 < 448
        · rw [if_pos h8] at hn
          subst hn
          have t8 : (s8 : Int) < 448 := by omega
          go_wp2_with fail
          refine (CO.out _).mono ?_; rintro e w3 ⟨rfl, b3⟩
          have B3 := Lib.hid b3
          clear b3
          go_wp2_with fail
          refine (C5.out _ B3.out).mono ?_; rintro e w4 ⟨⟨v4, rfl, o4⟩, b4⟩
          have B4 := Lib.hid (below_more B3.out b4)
          have O4 := Lib.hid o4.ra
          have l4 := LD.out w4 B4.out
          clear b4 o4 l0
          go_wp2_with fail
          refine (CO.out _).mono ?_; rintro e w5 ⟨rfl, b5⟩
          have B5 := Lib.hid (below_more B4.out b5)
          have O5 := Lib.hid (ra_below O4.out b5)
          clear b5 l4
          go_wp2_with fail
          refine (C6.out _ B5.out).mono ?_; rintro e w6 ⟨⟨v6, rfl, o6⟩, b6⟩
          have B6 := Lib.hid (below_more HBW.out (below_more B5.out b6))
          have s1 := run_strConv (ra_below O5.out b6)
          have s2 := run_strConv o6.ra
          clear b6 o6
          generalize strOfNums B = str at *
          go_wp2
          go_roundw
          case rel => exact ⟨k + 1, by have := HK.out; omega, by go_num, B6⟩
          case measure => have := HK.out; simp [intOf]; omega
        · rw [if_neg h8] at hn
          subst hn
          have t8 : ¬ (s8 : Int) < 448 := by omega
          go_wp2_with fail
          refine (CO.out _).mono ?_; rintro e w3 ⟨rfl, b3⟩
          have B3 := Lib.hid b3
          clear b3
          go_wp2_with fail
          refine (C5.out _ B3.out).mono ?_; rintro e w4 ⟨⟨v4, rfl, o4⟩, b4⟩
          have B4 := Lib.hid (below_more B3.out b4)
          have O4 := Lib.hid o4.ra
          have l4 := LD.out w4 B4.out
          clear b4 o4 l0
          go_wp2_with fail
          refine (CO.out _).mono ?_; rintro e w5 ⟨rfl, b5⟩
          have B5 := Lib.hid (below_more B4.out b5)
          have O5 := Lib.hid (ra_below O4.out b5)
          clear b5 l4
          go_wp2_with fail
          refine (C6.out _ B5.out).mono ?_; rintro e w6 ⟨⟨v6, rfl, o6⟩, b6⟩
          have B6 := Lib.hid (below_more HBW.out (below_more B5.out b6))
          have s1 := run_strConv (ra_below O5.out b6)
          have s2 := run_strConv o6.ra
          clear b6 o6
          generalize strOfNums B = str at *
          go_wp2
          go_roundw
          case rel => exact ⟨k + 1, by have := HK.out; omega, by go_num, B6⟩
          case measure => have := HK.out; simp [intOf]; omega
    · obtain rfl : k = l.length := by omega
      have HF := Lib.hid (below_more D2.out H.out)
      go_wp2
      go_ret
      exact ⟨rfl, HF.out⟩
end Go.Proofs.Ytlhpcimbigfmkaa
