/-
  Contract of package span's Lines.
-/
import Derived.Test.YtnlhjppjgjobkaaEls
import Derived.Test.YtnlhjppjgjobkaaEde
namespace Go.Proofs.Ytnlhjppjgjobkaa
set_option maxRecDepth 100000
open Go.RowKit

theorem own_nil_i (B : Nat) (w : World) : OwnI B w (.slice none 0 0) [] := World.ownsRow_nil _ _ _ _
theorem own_up_i {B : Nat} {w w' : World} {v : Value} {l : List Int} (h : OwnI B w v l) (hb : Below w.heap.size w w') : OwnI B w' v l := by
  refine ⟨h.1, h.2.imp id ?_⟩
  rintro ⟨g, cap, cur, hv, h1, hg, r⟩
  exact ⟨g, cap, cur, hv, h1, (hb.block g (Array.getElem?_eq_some_iff.1 hg).1).trans hg, r⟩
theorem below_app_i {B : Nat} {w w1 w2 : World} {v : Value} {l : List Int} (h : Below B w w1) (hB : B ≤ w1.heap.size) (ho : OwnI B w1 v l) (hg : w1.grownBy w2 v.ownBlock) : Below B w w2 := h.grown hg hB (fun k hk => (World.ownsRow.lt ho k hk).1)
set_option maxHeartbeats 1000000 in
theorem lines_is (es : List Ed) (u : Value) (w : World) (hu : RA edE w u es) (hel : es.length ≤ 4000) :
    Calls Try.prog 20 #[u] w fun e w' => (∃ x, e = .returned x ∧ OwnI w.heap.size w' x (Lib.compact ((lnR es).mergeSort fun x y => decide (x ≤ y)))) ∧ Below w.heap.size w w' := by
  obtain ⟨p, c, rfl, _, _⟩ := ra_shape hu
  have HE := Lib.hid (fun (w' : World) (hb : Below w.heap.size w w') => ra_below hu hb)
  have HL := Lib.hid hel
  clear hu hel
  go_enter Try.func20, Try.ntmps20
  go_wp2
  go_loopw [3, 5, 8] (fun y x i wr => ∃ (k : Nat) (lv : Value), k ≤ es.length ∧ i = .int .i64 k ∧ lv = y ∧ Hid (OwnI w.heap.size wr lv (lnR (es.take k)) ∧ Below w.heap.size w wr)) (fun _ _ i _ => es.length - (intOf i).toNat)
  case atStart => exact ⟨0, _, Nat.zero_le _, rfl, rfl, Lib.hid ⟨own_nil_i _ _, Below.refl _ _⟩⟩
  case round =>
    obtain ⟨k, lv, hk, rfl, rfl, H⟩ := hrel
    by_cases hlt : k < es.length
    · obtain ⟨b, off, rfl, hb, hx⟩ := ed_at (HE.out _ H.out.2) (by omega)
      obtain ⟨hld, _, _, hwf⟩ := hx k hlt
      have hF := lnR_take hlt
      have hl1 := lnR_length (es.take k)
      rw [List.length_take] at hl1
      generalize es.getD k default = y at *
      obtain ⟨a, x⟩ := y
      obtain ⟨W, hW, HW⟩ := ed_boxed wr ⟨a, x⟩
      have c0 : W.cell? ⟨wr.heap.size, 0, none⟩ = some (.int .i64 a) := HW.out.1.c0
      have HB := Lib.hid (below_more H.out.2 HW.out.2)
      have HO := Lib.hid (own_up_i H.out.1 HW.out.2)
      have i0 : (0 : Int) ≤ (k : Int) := by omega
      have i1 : (k : Int) < (es.length : Int) := by omega
      have i2 : ¬ (k : Int) < 0 := by omega
      have i3 : IntKind.i64.wrap ((k : Int) + 1) = ((k + 1 : Nat) : Int) := by rw [show (k : Int) + 1 = ((k + 1 : Nat) : Int) by omega]; exact i64_nat _ (by have := HL.out; omega)
      have HK := Lib.hid hlt
      have hwa := i64_wf hwf.ww
      simp only at hF hwa
      by_cases h1 : 0 ≤ a
      · rw [if_pos h1] at hF
        obtain ⟨z, rfl⟩ : ∃ z : Nat, a = z := ⟨a.toNat, by omega⟩
        obtain ⟨Q, hQ⟩ : ∃ Q, z / 8 = Q := ⟨_, rfl⟩
        have i4 : (z : Int) ≥ 0 := by omega
        have m2 : IntKind.i64.wrap ((z : Int) / 8) = (Q : Int) := by rw [show (z : Int) / 8 = (Q : Int) by omega]; exact i64_nat _ (by omega)
        have eQ : (z : Int) / 8 = (Q : Int) := by omega
        rw [eQ] at hF
        have HF := Lib.hid hF
        have hlen : Hid ((lnR (es.take k)).length + [(Q : Int)].length ≤ 1000000) := Lib.hid (by have := HL.out; simp only [List.length_singleton]; omega)
        have O2 : Hid (OwnI w.heap.size (W.alloc (.cells #[.int .i64 (Q : Int)] 3)) lv (lnR (es.take k))) := Lib.hid (own_up_i HO.out (bal (Below.refl _ _)))
        have B2 : Hid (Below w.heap.size w (W.alloc (.cells #[.int .i64 (Q : Int)] 3))) := Lib.hid (bal HB.out)
        clear hx hF hb hk hlt h1 hwf hwa hQ hl1 eQ
        go_wp2_with (at_builtin; refine list_app_int (o := ⟨some 20, _, _, _, _, _⟩) rfl (.tmp 15) (.tmp 19) rfl w.heap.size _ (lnR (es.take k)) rfl O2.out _ [(Q : Int)] rfl (ri_one _ _) hlen.out B2.out.size ?_)
        intro v' w' ho hg hx
        have HN : Hid (OwnI w.heap.size w' v' (lnR (es.take (k + 1))) ∧ Below w.heap.size w w') := Lib.hid ⟨by rw [HF.out]; exact ho, below_app_i B2.out B2.out.size O2.out hg⟩
        clear ho hg hx
        go_wp2
        go_roundw
        case rel => exact ⟨k + 1, _, by have := HK.out; omega, by go_num, rfl, HN⟩
        case measure => have := HK.out; simp [intOf]; omega
      · rw [if_neg h1, List.append_nil] at hF
        have i4 : ¬ a ≥ 0 := h1
        have HN : Hid (OwnI w.heap.size W lv (lnR (es.take (k + 1))) ∧ Below w.heap.size w W) := Lib.hid ⟨by rw [hF]; exact HO.out, HB.out⟩
        clear hx hF hb hk hlt h1 hwf hwa hl1
        go_wp2
        go_roundw
        case rel => exact ⟨k + 1, _, by have := HK.out; omega, by go_num, rfl, HN⟩
        case measure => have := HK.out; simp [intOf]; omega
    · obtain rfl : k = es.length := by omega
      have hF := H.out
      rw [List.take_length] at hF
      have hl1 := lnR_length es
      have S1 := Lib.hid (sort_own hF.1 (by have := HL.out; omega))
      have HF := Lib.hid hF
      clear hF H hk hlt
      go_wp2_with fail
      refine (S1.out).mono ?_; rintro e w2 ⟨rfl, o2, g2⟩
      have B2 := Lib.hid (below_app_i HF.out.2 HF.out.2.size HF.out.1 g2)
      have S2 := Lib.hid (compact_own o2 (by rw [List.length_mergeSort]; have := HL.out; omega))
      have O2 := Lib.hid o2
      clear o2 g2 S1
      go_wp2_with fail
      refine (S2.out).mono ?_; rintro e w3 ⟨⟨u3, rfl, o3⟩, g3⟩
      have R3 := Lib.hid (And.intro o3 (below_app_i B2.out B2.out.size O2.out g3))
      clear o3 g3 S2
      go_wp2
      go_ret
      exact ⟨⟨_, rfl, R3.out.1⟩, R3.out.2⟩
end Go.Proofs.Ytnlhjppjgjobkaa
