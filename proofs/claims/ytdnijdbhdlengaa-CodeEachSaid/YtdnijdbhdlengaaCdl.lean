/-
  Contracts of the reference: are lists of operations alike; which may be; Encode.
-/
import Derived.Test.YtdnijdbhdlengaaCdj
import Derived.Test.YtdnijdbhdlengaaCdk
namespace Go.Proofs.Ytdnijdbhdlengaa
set_option maxRecDepth 100000
open Go.RowKit

theorem map_take_next {l : List Px} {k : Nat} (hk : k < l.length) : (l.take (k + 1)).map toC = (l.take k).map toC ++ [toC (l.getD k default)] := by
  rw [px_next hk, List.map_append]; rfl
set_option maxHeartbeats 2000000 in
theorem sameops_is (l r : List Px) (v u : Value) (w : World) (hv : RO w v l) (hu : RO w u r) (hl : l.length ≤ 1000000) (b : Bool) (hb : b = true ↔ l.map toC = r.map toC) :
    Calls Try.prog 13 #[v, u] w fun e w' => e = .returned (.bool b) ∧ Below w.heap.size w w' := by
  obtain ⟨p, c, rfl, _⟩ := hv.shape
  obtain ⟨p2, c2, rfl, _⟩ := hu.shape
  by_cases hn : l.length = r.length
  · have HV := Lib.hid (fun (w' : World) (hb : Below w.heap.size w w') => hv.below hb)
    have HU := Lib.hid (fun (w' : World) (hb : Below w.heap.size w w') => hu.below hb)
    obtain ⟨N, hN⟩ : ∃ N, l.length = N := ⟨_, rfl⟩
    have hr : r.length = N := by omega
    have HN := Lib.hid (And.intro hN hr)
    have HE := Lib.hid hb
    rw [hN] at hl HV ⊢
    rw [hr] at HU ⊢
    have HL := Lib.hid hl
    clear hv hu hb hN hr hn hl
    go_enter Try.func13, Try.ntmps13
    go_wp2
    go_loopw [13] (fun i wr => ∃ k : Nat, k ≤ N ∧ i = .int .i64 k ∧ Hid ((l.take k).map toC = (r.take k).map toC ∧ Below w.heap.size w wr)) (fun i _ => N - (intOf i).toNat)
    case atStart => exact ⟨0, Nat.zero_le _, rfl, Lib.hid ⟨rfl, Below.refl _ _⟩⟩
    case round =>
      obtain ⟨k, hkN, rfl, H⟩ := hrel
      by_cases hk : k < N
      · have hk1 : k < l.length := by rw [HN.out.1]; exact hk
        have hk2 : k < r.length := by rw [HN.out.2]; exact hk
        obtain ⟨q, off, rfl, _, hx⟩ := ro_at (HV.out _ H.out.2) (by omega)
        obtain ⟨q2, off2, rfl, _, hy⟩ := ro_at (HU.out _ H.out.2) (by omega)
        have C := Lib.hid (show Calls Try.prog 16 #[.agg (pxc (l.getD k default)), .agg (pxc (r.getD k default))] wr.drew _ from sameop_is (w := wr.drew) (x := l.getD k default) (y := r.getD k default) (hx k hk1).2.2.2.2.2 (hy k hk2).2.2.2.2.2)
        have ld1 : ∀ w', Below wr.heap.size wr w' → (pxLoad (.pointer (some ⟨q, off + k * 5, none⟩))).run Try.prog w' = .ok (.agg (pxc (l.getD k default))) w' := fun w' hb => by
          obtain ⟨_, _, e, _, hx⟩ := ro_at (HV.out _ (below_more H.out.2 hb)) (by omega)
          cases e
          exact (hx k hk1).1
        have ld2 : ∀ w', Below wr.heap.size wr w' → (pxLoad (.pointer (some ⟨q2, off2 + k * 5, none⟩))).run Try.prog w' = .ok (.agg (pxc (r.getD k default))) w' := fun w' hb => by
          obtain ⟨_, _, e, _, hx⟩ := ro_at (HU.out _ (below_more H.out.2 hb)) (by omega)
          cases e
          exact (hx k hk2).1
        have HS1 : Hid ((l.take (k + 1)).map toC = (l.take k).map toC ++ [toC (l.getD k default)] ∧ (r.take (k + 1)).map toC = (r.take k).map toC ++ [toC (r.getD k default)]) := Lib.hid ⟨map_take_next hk1, map_take_next hk2⟩
        have HI : Hid (l.map toC = r.map toC → toC (l.getD k default) = toC (r.getD k default)) := Lib.hid (fun e => by
          have := congrArg (fun z => z.getD k (toC default)) e
          simpa [List.getD_eq_getElem?_getD, hk1, hk2] using this)
        generalize l.getD k default = x at *
        generalize r.getD k default = y at *
        have i0 : (0 : Int) ≤ (k : Int) := by omega
        have i1 : (k : Int) < (N : Int) := by omega
        have i2 : ¬ (k : Int) < 0 := by omega
        have i3 : IntKind.i64.wrap ((k : Int) + 1) = ((k + 1 : Nat) : Int) := by rw [show (k : Int) + 1 = ((k + 1 : Nat) : Int) by omega]; exact i64_nat _ (by have := HL.out; omega)
        have hbd : Below wr.heap.size wr wr.drew := (Below.refl _ _).drew
        clear hx hy hk1 hk2
        by_cases he : toC x = toC y
        · rw [decide_eq_true he] at C
          have HEq := Lib.hid he
          clear he
          go_wp2
          go_region_held3 (fun w' => Below wr.heap.size wr w')
            (first | assumption | exact (Below.refl _ _).drew | exact hbd.trans ‹Below wr.drew.heap.size wr.drew _›)
            (first
              | (go_at_call 16; refine (C.out).mono ?_; rintro e wz ⟨rfl, hbz⟩
                 have HZ := Lib.hid (hbd.trans hbz)))
          have HS : Hid ((l.take (k + 1)).map toC = (r.take (k + 1)).map toC ∧ Below w.heap.size w wz) := Lib.hid ⟨by rw [HS1.out.1, HS1.out.2, H.out.1, HEq.out], below_more H.out.2 HZ.out⟩
          go_wp2
          go_roundw
          case rel => exact ⟨k + 1, by omega, by go_num, HS⟩
          case measure => simp [intOf]; omega
        · obtain rfl : b = false := by
            cases b
            · rfl
            · exact absurd (HI.out (HE.out.1 rfl)) he
          rw [decide_eq_false he] at C
          clear he
          go_wp2
          go_region_held3 (fun w' => Below wr.heap.size wr w')
            (first | assumption | exact (Below.refl _ _).drew | exact hbd.trans ‹Below wr.drew.heap.size wr.drew _›)
            (first
              | (go_at_call 16; refine (C.out).mono ?_; rintro e wz ⟨rfl, hbz⟩
                 have HZ := Lib.hid (hbd.trans hbz)))
          have HS := Lib.hid (below_more H.out.2 HZ.out)
          go_wp2
          go_ret
          exact ⟨rfl, HS.out⟩
      · obtain rfl : k = N := by omega
        have t1 : l.take k = l := List.take_of_length_le (by rw [HN.out.1]; exact Nat.le_refl _)
        have t2 : r.take k = r := List.take_of_length_le (by rw [HN.out.2]; exact Nat.le_refl _)
        have e := H.out.1
        rw [t1, t2] at e
        obtain rfl : b = true := HE.out.2 e
        have HF := Lib.hid H.out.2
        clear t1 t2 e
        go_wp2
        go_ret
        exact ⟨rfl, HF.out⟩
  · obtain rfl : b = false := by
      cases b
      · rfl
      · exact absurd (by have := congrArg List.length (hb.1 rfl); simpa using this) hn
    have i1 : ((l.length : Int) != (r.length : Int)) = true := by simpa using (by omega : ¬ (l.length : Int) = r.length)
    clear hv hu hb hl
    generalize l.length = N at *
    generalize r.length = M at *
    have i2 : ((N : Int) == (M : Int)) = false := beq_eq_false_iff_ne.2 (by omega)
    go_enter Try.func13, Try.ntmps13
    go_wp2_with fail
    go_ret
    exact ⟨rfl, Below.refl _ _⟩
end Go.Proofs.Ytdnijdbhdlengaa
