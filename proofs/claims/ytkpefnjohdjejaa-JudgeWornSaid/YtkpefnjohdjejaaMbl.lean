/-
  Contracts of package model: the free block between two words; the used blocks and the free ones between them.
-/
import Derived.Test.YtkpefnjohdjejaaMcg
namespace Go.Proofs.Ytkpefnjohdjejaa
set_option maxRecDepth 100000
open Go.RowKit

theorem btw_is (x y : Int) (hx : 0 ≤ x ∧ x ≤ 1000) (hy : 0 ≤ y ∧ y ≤ 1000) (w : World) : Calls Try.prog 59 #[.int .i64 x, .int .i64 y] w fun e w' => (∃ v, e = .returned v ∧ OwnA blkE w.heap.size w' v (btw x y)) ∧ Below w.heap.size w w' := by
  by_cases h : x = y
  · subst h
    rw [btw, if_pos rfl]
    clear hx hy
    have e1 : (x == x) = true := by simp
    go_enter Try.func59, Try.ntmps59
    go_wp2_with fail
    go_ret
    exact ⟨⟨_, rfl, own_nil_a _ _ _⟩, Below.refl _ _⟩
  · rw [btw, if_neg h]
    have e1 : (x == y) = false := beq_eq_false_iff_ne.2 h
    obtain ⟨d, hd⟩ : ∃ d, y - x = d := ⟨_, rfl⟩
    have e2 : IntKind.i64.wrap (y - x) = d := by rw [← hd]; exact IntWalk.i64_in _ (by omega)
    have hO := Lib.hid (blk_one w (c := ⟨x, d, false⟩) (Bk.wf_of (by simp only; omega) (by simp only; omega) (by simp only; omega) (by simp only; omega)))
    rw [hd]
    clear hd
    clear h hx hy
    go_enter Try.func59, Try.ntmps59
    go_wp2_with fail
    go_ret
    exact ⟨⟨_, rfl, hO.out⟩, bal (Below.refl _ _)⟩

theorem own_ne {P : Program} {α : Type} [Inhabited α] {E : Elm P α} {B : Nat} {w w' : World} {v : Value} {l : List α} (h : OwnA E B w v l) (hs : w.heap.size ≤ w'.heap.size) : some w'.heap.size ≠ v.ownBlock := fun e => by
  have := (h.lt _ e.symm).2
  omega
theorem mobl_nil (w : World) : Calls Try.prog 36 #[.pointer none] w fun e w' => e = .returned (.slice none 0 0) ∧ w = w' := by
  go_enter Try.func36, Try.ntmps36
  go_wp2_with fail
  go_ret
  exact ⟨rfl, rfl⟩
set_option maxHeartbeats 2000000 in
theorem mobl_is {D : List Nat} {g : Nat} {wl : List Int} {l : List Bk} {r : Int} (w : World) (h : Mo w D g wl l r) :
    Calls Try.prog 36 #[.pointer (some ⟨g, 0, none⟩)] w fun e w' => (∃ v, e = .returned v ∧ OwnA blkE w.heap.size w' v l) ∧ Below w.heap.size w w' := by
  obtain ⟨hlen, hwl, hm⟩ := h.len
  obtain ⟨v, us, hW, hR, hF, hU, _⟩ := h.rows
  obtain ⟨p, cap, rfl, hlc, hcm⟩ := ra_shape hR
  have c1 : w.cell? ⟨g, 1, none⟩ = some (.slice p us.length cap) := by rw [Whole.at_ hW]; rfl
  have HC := Lib.hid (fun (w' : World) (hb : Below w.heap.size w w') => (show w'.cell? ⟨g, 0, none⟩ = some (.int .i64 (wl.length : Int)) by rw [hb.cell (p := ⟨g, 0, none⟩) hW.lt, Whole.at_ hW]; rfl))
  have HV := Lib.hid hR
  have HU := Lib.hid (And.intro hU.map (hU.len ▸ Nat.le_trans (usd_len l) hlen))
  have HM := Lib.hid hm
  have HL := Lib.hid (And.intro hlen hwl)
  clear hlen hwl hm hW hR hF hU hlc hcm h
  go_enter Try.func36, Try.ntmps36
  go_wp2
  go_loopw [3, 4, 14] (fun lv z i wr => ∃ (k : Nat) (c : List Bk) (e : Int), k ≤ us.length ∧ i = .int .i64 k ∧ z = .int .i64 e ∧ Hid (OwnA blkE w.heap.size wr lv c ∧ c ++ bls wl.length e ((usd l).drop k) = l ∧ 0 ≤ e ∧ e ≤ 512 ∧ Below w.heap.size w wr)) (fun _ _ i _ => us.length - (intOf i).toNat)
  case atStart => exact ⟨0, [], 0, Nat.zero_le _, rfl, rfl, Lib.hid ⟨own_nil_a _ _ _, by rw [List.drop_zero, List.nil_append]; exact bls_is HM.out, by omega, by omega, Below.refl _ _⟩⟩
  case round =>
    obtain ⟨k, c, e, hk, rfl, rfl, H⟩ := hrel
    by_cases hlt : k < us.length
    · obtain ⟨b, off, rfl, _, hx⟩ := ex_at (ra_below HV.out H.out.2.2.2.2) (by omega)
      obtain ⟨hl, _, hwf⟩ := hx k hlt
      have hbb : (us.getD k default).b = (usd l).getD k default := by
        rw [← HU.out.1, List.getD_eq_getElem?_getD, List.getD_eq_getElem?_getD, List.getElem?_map, List.getElem?_eq_getElem hlt]; rfl
      have hku : k < (usd l).length := by rw [← HU.out.1, List.length_map]; exact hlt
      obtain ⟨_, bu, b2, b3, b4, b5, _⟩ := usd_in HM.out (getD_mem hku)
      have hF := H.out.2.1
      rw [getD_cut hku, bls, ← hbb] at hF
      rw [← hbb] at bu b2 b3 b4
      obtain ⟨X, hX⟩ : ∃ X, us.getD k default = X := ⟨_, rfl⟩
      rw [hX] at hl hwf hF bu b2 b3 b4
      obtain ⟨W, hW, hst, HW⟩ := ex_boxed wr X hwf.one
      obtain ⟨⟨a, s, u⟩, xv, ws⟩ := X
      simp only at bu b2 b3 b4 hF
      subst bu
      have c0 : W.cell? ⟨wr.heap.size, 0, none⟩ = some (.int .i64 a) := HW.out.1.c0
      have C := Lib.hid (fun w' => btw_is e a ⟨H.out.2.2.1, by have := H.out.2.2.2.1; omega⟩ ⟨by omega, by omega⟩ w')
      have i0 : (0 : Int) ≤ (k : Int) := by omega
      have i3 : (k : Int) < (us.length : Int) := by omega
      have i4 : ¬ (k : Int) < 0 := by omega
      have j0 : IntKind.i64.wrap ((k : Int) + 1) = ((k + 1 : Nat) : Int) := by rw [show (k : Int) + 1 = ((k + 1 : Nat) : Int) by omega]; exact i64_nat _ (by have := HU.out.2; omega)
      have j1 : IntKind.i64.wrap (a + s) = a + s := IntWalk.i64_in _ (by omega)
      have HK := Lib.hid (show k < us.length ∧ 2 ≤ s ∧ 0 ≤ a ∧ a + s ≤ wl.length ∧ (wl.length : Int) ≤ 512 from ⟨hlt, b2, b3, b4, b5⟩)
      have HF := Lib.hid hF
      have hcl : Hid (c.length + (btw e a).length ≤ 2000 ∧ (c ++ btw e a).length + 1 ≤ 2000) := Lib.hid (by
        have h1 := congrArg List.length hF
        have h2 := btw_len e a
        rw [List.length_append] at h1
        have := HL.out.1
        rw [List.length_append]
        omega)
      have HWF := Lib.hid hwf.wb
      have HB := Lib.hid (below_more H.out.2.2.2.2 HW.out.2)
      clear hx hX hlt hk hF hbb hku b2 b3 b4 b5 hwf
      go_wp2_with fail
      refine (C.out _).mono ?_; rintro e' w1 ⟨⟨v1, rfl, o1⟩, b1⟩
      have O1 := Lib.hid o1.ra
      have B1 := Lib.hid b1
      have X1 := Lib.hid (HW.out.1.below b1)
      clear o1 b1
      obtain ⟨p1, q1, rfl, _, _⟩ := ra_shape O1.out
      go_wp2_with (at_builtin; refine app_blk rfl _ _ rfl _ _ _ rfl (H.out.1.below (below_more HW.out.2 B1.out)) _ _ rfl O1.out (Lib.hid hcl.out.1) (below_more HB.out B1.out).size ?_)
      intro v2 w2 o2 g2 x2
      have O2 := Lib.hid o2
      have B2 := Lib.hid (below_app (below_more HB.out B1.out) (below_more HB.out B1.out).size (H.out.1.below (below_more HW.out.2 B1.out)) g2)
      have X2 := Lib.hid (show Xv w2 wr.heap.size ⟨⟨a, s, true⟩, xv, ws⟩ from Whole.grown X1.out g2 (own_ne H.out.1 (Nat.le_refl _)))
      have N2 : Hid (some wr.heap.size ≠ v2.ownBlock) := Lib.hid (fun q => by
        rcases x2 with x2 | x2
        · rw [x2] at q; exact own_ne H.out.1 (Nat.le_refl _) q
        · rw [x2] at q
          have q2 := Option.some.inj q
          have := X1.out.lt
          omega)
      have l2 := X2.out.block
      simp only at l2
      clear o2 g2 x2
      go_wp2_with (at_builtin; refine app_blk rfl _ _ rfl _ _ _ rfl (O2.out.alloc _) _ _ rfl (blk_one w2 HWF.out).ra (Lib.hid hcl.out.2) (bal B2.out).size ?_)
      intro v3 w3 o3 g3 x3
      have X3 := Lib.hid (show Xv w3 wr.heap.size ⟨⟨a, s, true⟩, xv, ws⟩ from Whole.grown (Whole.alloc X2.out _) g3 N2.out)
      have B3 := Lib.hid (below_app (bal B2.out) (bal B2.out).size (O2.out.alloc _) g3)
      have O3 := Lib.hid o3
      have d0 : w3.cell? ⟨wr.heap.size, 0, none⟩ = some (.int .i64 a) := X3.out.c0
      have d1 : w3.cell? ⟨wr.heap.size, 1, none⟩ = some (.int .i64 s) := X3.out.c1
      clear o3 g3 x3
      go_wp2
      go_roundw
      case rel => exact ⟨k + 1, _, a + s, by have := HK.out; omega, by go_num, rfl, Lib.hid ⟨O3.out, by have := HF.out; simpa using this, by have := HK.out; have := H.out; omega, by have := HK.out; omega, B3.out⟩⟩
      case measure => have := HK.out; simp [intOf]; omega
    · obtain rfl : k = us.length := by omega
      have hF := H.out.2.1
      rw [List.drop_eq_nil_of_le (by rw [← HU.out.1, List.length_map]; exact Nat.le_refl _), bls] at hF
      have cn := HC.out wr H.out.2.2.2.2
      have C := Lib.hid (fun w' => btw_is e wl.length ⟨H.out.2.2.1, by have := H.out.2.2.2.1; omega⟩ ⟨by omega, by have := HL.out.2; omega⟩ w')
      have hcl : Hid (c.length + (btw e wl.length).length ≤ 2000) := Lib.hid (by
        have h1 := congrArg List.length hF
        rw [List.length_append] at h1
        have := HL.out.1
        omega)
      have HF := Lib.hid hF
      clear hF hlt hk
      generalize wl.length = N at *
      go_wp2_with fail
      refine (C.out _).mono ?_; rintro e' w1 ⟨⟨v1, rfl, o1⟩, b1⟩
      have O1 := Lib.hid o1.ra
      have B1 := Lib.hid b1
      clear o1 b1
      go_wp2_with (at_builtin; refine app_blk rfl _ _ rfl _ _ _ rfl (H.out.1.below B1.out) _ _ rfl O1.out hcl (below_more H.out.2.2.2.2 B1.out).size ?_)
      intro v2 w2 o2 g2 x2
      have O2 := Lib.hid o2
      have B2 := Lib.hid (below_app (below_more H.out.2.2.2.2 B1.out) (below_more H.out.2.2.2.2 B1.out).size (H.out.1.below B1.out) g2)
      clear o2 g2 x2
      go_wp2
      go_ret
      exact ⟨⟨_, rfl, by rw [HF.out] at O2; exact O2.out⟩, B2.out⟩
end Go.Proofs.Ytkpefnjohdjejaa
