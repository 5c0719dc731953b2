/-
  Contracts of package carve: the blocks behind the taking, the words that are written.
-/
import Derived.Test.YtlpbdnfecnochaaCrf
import Derived.Lib.BufferMore
namespace Go.Proofs.Ytlpbdnfecnochaa
set_option maxRecDepth 100000
open Go.RowKit

@[go_sem] theorem eql_nil_nil (w : World) : (binOp .eql 22 (.slice none 0 0) (.slice none 0 0)).run Try.prog w = .ok (.bool true) w := Lib.run_eql_slice_nil_nil w _ _ Try.underlying22
@[go_sem] theorem eql_some_nil (w : World) (a : Addr) (n c : Nat) : (binOp .eql 22 (.slice (some a) n c) (.slice none 0 0)).run Try.prog w = .ok (.bool false) w := Lib.run_eql_slice_some_nil w _ _ _ Try.underlying22
def browSlice (n : Nat) (ps : Array (Nat × Value)) : Sem Value := Instr.buildSlice 58 n ps
@[go_sem ↓] theorem slice_brow (n : Nat) (ps : Array (Nat × Value)) : Instr.buildSlice 58 n ps = browSlice n ps := rfl
@[go_sem] theorem run_browSlice3 (w : World) (p p' p2 : Option Addr) (n n' n2 c c' c2 : Nat) : (browSlice 3 #[(0, .slice p n c), (1, .slice p' n' c'), (2, .slice p2 n2 c2)]).run Try.prog w = .ok (.slice (some ⟨w.heap.size, 0, none⟩) 3 3) (w.alloc (.cells #[.slice p n c, .slice p' n' c', .slice p2 n2 c2] 22)) := by
  unfold browSlice Instr.buildSlice
  simp [run_underlying Try.underlying58, Instr.fill, go_sem]
theorem rows3 {w : World} {x y z : Value} {l1 l2 l3 : List Bk} (h1 : RA blkE w x l1) (h2 : RA blkE w y l2) (h3 : RA blkE w z l3) : RAs blkE browE (w.alloc (.cells #[x, y, z] 22)) (.slice (some ⟨w.heap.size, 0, none⟩) 3 3) [l1, l2, l3] := by
  have hb : Below w.heap.size w (w.alloc (.cells #[x, y, z] 22)) := bal (Below.refl _ _)
  have one : ∀ {u : Value} {l : List Bk}, RA blkE w u l → u.oneCell' = true := fun h => by
    obtain ⟨_, _, rfl, _⟩ := ra_shape h
    rfl
  have O := own_lit_a browE w (l := [x, y, z]) (fun u hu => by
    simp only [List.mem_cons, List.not_mem_nil, or_false] at hu
    rcases hu with rfl | rfl | rfl
    · exact one h1
    · exact one h2
    · exact one h3) (by unfold maxLen; simp)
  refine ⟨[x, y, z], O.ra, rfl, fun k hk => ?_⟩
  have hk : k < 3 := hk
  rcases k with _ | _ | _ | k
  · exact ra_below h1 hb
  · exact ra_below h2 hb
  · exact ra_below h3 hb
  · omega

theorem crvF_no {l : List Bk} {i n : Int} (h : canC l i n = false) : crvF l i n = [] := by rw [crvF, h]; rfl
theorem cedF_no {l : List Bk} {i n : Int} (h : canC l i n = false) : cedF l i n = [] := by rw [cedF, h]; rfl

set_option maxHeartbeats 1000000 in
theorem cblocks_is (l : List Bk) (i n : Int) (v : Value) (w : World) (hv : RA blkE w v l) (hl : l.length ≤ 1000) (r : Bool) (h : canC l i n = r) :
    Calls Try.prog 14 #[v, .int .i64 i, .int .i64 n] w fun e w' => (∃ u, e = .returned (.tuple #[u, .bool r]) ∧ OwnA blkE w.heap.size w' u (crvF l i n)) ∧ Below w.heap.size w w' := by
  cases r with
  | false =>
    have C1 := Lib.hid (parts_no l i n v w hv hl h)
    rw [crvF_no h]
    obtain ⟨p, cap, rfl, _⟩ := ra_shape hv
    generalize l.length = L at *
    clear hv hl h
    go_enter Try.func14, Try.ntmps14
    go_wp2_with fail
    refine (C1.out).mono ?_; rintro e w1 ⟨rfl, b1⟩
    have D1 := Lib.hid b1
    clear b1
    go_wp2_with fail
    go_ret2
    exact ⟨⟨_, rfl, own_nil_a _ _ _⟩, D1.out⟩
  | true =>
    have C1 := Lib.hid (parts_yes l i n v w hv hl h)
    obtain ⟨hm, h0, h1, hu, ht⟩ := canC_yes.1 h
    obtain ⟨K, rfl⟩ : ∃ k : Nat, i = k := ⟨i.toNat, by omega⟩
    have hc : crvF l K n = l.take K ++ (prtB (bAt l K) n ++ l.drop (K + 1)) := by rw [crvF, if_pos h, Int.toNat_natCast]
    rw [hc]
    have H0 := Lib.hid (fun (w' : World) (hb : Below w.heap.size w w') => ra_below hv hb)
    obtain ⟨b, off, e0, _, _⟩ : ∃ b off, (∃ L c, v = .slice (some ⟨b, off, none⟩) L c ∧ L = l.length ∧ l.length ≤ c ∧ c ≤ maxLen) ∧ True ∧ True := by
      obtain ⟨p, cap, rfl, g1, g2⟩ := ra_shape hv
      obtain ⟨b, off, rfl, _⟩ := blk_at hv (by omega)
      exact ⟨b, off, ⟨_, _, rfl, rfl, g1, g2⟩, trivial, trivial⟩
    obtain ⟨L, c, rfl, rfl, hlc, hcm⟩ := e0
    unfold maxLen at hcm
    obtain ⟨K1, hK1⟩ : ∃ k, K + 1 = k := ⟨_, rfl⟩
    rw [hK1]
    have j1 : IntKind.i64.wrap ((K : Int) + 1) = (K1 : Int) := by rw [show (K : Int) + 1 = (K1 : Int) by omega]; exact i64_nat _ (by omega)
    have i1 : (K1 : Int) ≤ (l.length : Int) := by omega
    have i2 : (K : Int) ≤ (c : Int) := by omega
    have i3 : (K1 : Int) ≤ (c : Int) := by omega
    have i4 : ¬ c = 0 := by omega
    obtain ⟨q, hq⟩ : ∃ q : Addr, q = if c = K1 then ⟨b, off, none⟩ else ⟨b, off + K1 * 3, none⟩ := ⟨_, rfl⟩
    have HP : Hid (∀ w', Below w.heap.size w w' → RA blkE w' (.slice (some ⟨b, off, none⟩) K c) (l.take K) ∧ RA blkE w' (.slice (some q) (l.length - K1) (c - K1)) (l.drop K1)) := Lib.hid fun w' hb => by
      refine ⟨?_, ?_⟩
      · have := ra_take (H0.out w' hb) K
        rwa [Nat.min_eq_left (by omega)] at this
      · by_cases hlt : K1 < l.length
        · have := ra_drop (H0.out w' hb) hlt
          rw [if_neg (by omega)] at hq
          rw [hq]; exact this
        · rw [List.drop_eq_nil_of_le (by omega), show l.length - K1 = 0 by omega]
          exact ⟨_, _, rfl, Nat.zero_le _, by unfold maxLen; omega, (fun _ h => by cases h), .inl rfl⟩
    have HL : Hid (l.length ≤ 1000 ∧ K < l.length ∧ K + 1 = K1) := Lib.hid ⟨hl, by omega, hK1⟩
    have hp : (prtB (bAt l K) n).length ≤ 2 ∧ 0 < (prtB (bAt l K) n).length := by
      unfold prtB
      split <;> simp
    have HQ := Lib.hid hp
    clear hv hl h hm h0 h1 hu ht hc hK1 hlc hcm hp
    generalize prtB (bAt l K) n = P at *
    have C2 : Hid (∀ (w1 : World) (u : Value), Below w.heap.size w w1 → OwnA blkE w.heap.size w1 u P → Calls Try.prog 21 #[.slice (some ⟨w1.heap.size, 0, none⟩) 3 3] (w1.alloc (.cells #[.slice (some ⟨b, off, none⟩) K c, u, .slice (some q) (l.length - K1) (c - K1)] 22)).drew fun e w' =>
        (∃ u, e = .returned u ∧ OwnA blkE w.heap.size w' u (l.take K ++ (P ++ l.drop K1))) ∧ Below w.heap.size w w') := Lib.hid fun w1 u hb hu => by
      obtain ⟨g1, g2⟩ := HP.out w1 hb
      have h3 := ras_below (rows3 g1 hu.ra g2) ((Below.refl _ _).drew)
      have hbb : Below w.heap.size w (w1.alloc (.cells #[.slice (some ⟨b, off, none⟩) K c, u, .slice (some q) (l.length - K1) (c - K1)] 22)).drew := (bal hb).drew
      refine (concat_is [l.take K, P, l.drop K1] _ _ h3 (by simp) (by
        have := HL.out; have := HQ.out
        simp only [lens, List.map_cons, List.map_nil, List.sum_cons, List.sum_nil, List.length_take, List.length_drop]
        omega)).mono ?_
      rintro e w' ⟨⟨v, rfl, ho⟩, hb'⟩
      refine ⟨⟨v, rfl, ?_⟩, below_more hbb hb'⟩
      have := ho.mono hbb.size
      simpa using this
    clear HP HL H0
    generalize l.length = L at *
    go_enter Try.func14, Try.ntmps14
    go_wp2_with fail
    refine (C1.out).mono ?_; rintro e w1 ⟨⟨u1, rfl, o1⟩, b1⟩
    obtain ⟨g, d, rfl, _, _, _, _⟩ := o1.block HQ.out.2
    have C3 := Lib.hid (C2.out w1 _ b1 o1)
    clear b1 o1 C1 C2 HQ
    generalize P.length = Y at *
    by_cases e : c = K1
    · rw [if_pos e] at hq
      subst hq
      have e2 : K1 = c := e.symm
      subst e2
      rw [Nat.sub_self] at C3
      go_wp2_with fail
      go_region_law (first
        | (go_simp; go_at_call 21; refine (C3.out).mono ?_; rintro e wq ⟨⟨uq, rfl, oq⟩, bq⟩))
      all_goals
        go_wp2
        go_ret2
        exact ⟨⟨_, rfl, oq⟩, bq⟩
    · rw [if_neg e] at hq
      subst hq
      go_wp2_with fail
      go_region_law (first
        | (go_simp; go_at_call 21; refine (C3.out).mono ?_; rintro e wq ⟨⟨uq, rfl, oq⟩, bq⟩))
      all_goals
        go_wp2
        go_ret2
        exact ⟨⟨_, rfl, oq⟩, bq⟩
end Go.Proofs.Ytlpbdnfecnochaa
