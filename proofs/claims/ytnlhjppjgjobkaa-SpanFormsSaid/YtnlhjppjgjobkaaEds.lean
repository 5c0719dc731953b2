/-
  Contracts of the reference: whether edits are the same, edits written into words.
-/
import Derived.Test.YtnlhjppjgjobkaaEde
import Derived.Test.YtnlhjppjgjobkaaRu
import Derived.BigQuiet
namespace Go.Proofs.Ytnlhjppjgjobkaa
set_option maxRecDepth 100000
open Go.RowKit

set_option maxHeartbeats 1000000 in
theorem edits_same {v u : Value} {l : List Ed} {w : World} (hv : RA edE w v l) (hu : RA edE w u l) : Calls Try.prog 15 #[v, u] w fun e w' => e = .returned (.bool true) ∧ ∃ n, w' = w.drewN n := by
  obtain ⟨p, c, rfl, hlc, hcm⟩ := ra_shape hv
  obtain ⟨q, d, rfl, _, _⟩ := ra_shape hu
  have HS : Hid (∀ wr, (∃ n, wr = w.drewN n) → ∀ j, j < l.length → ∃ b off b' off', p = some ⟨b, off, none⟩ ∧ q = some ⟨b', off', none⟩ ∧ (∀ m, (edLoad (.pointer (some ⟨b, off + j * 2, none⟩))).run Try.prog (wr.drewN m) = .ok (.agg (ec (l.getD j default))) (wr.drewN m)) ∧ ∀ m, (edLoad (.pointer (some ⟨b', off' + j * 2, none⟩))).run Try.prog (wr.drewN m) = .ok (.agg (ec (l.getD j default))) (wr.drewN m)) := Lib.hid fun wr hwr j hj => by
    obtain ⟨n, rfl⟩ := hwr
    obtain ⟨b, off, rfl, _, _⟩ := ed_at hv (by omega)
    obtain ⟨b', off', rfl, _, _⟩ := ed_at hu (by omega)
    refine ⟨b, off, b', off', rfl, rfl, fun m => ?_, fun m => ?_⟩
    · obtain ⟨_, _, e, _, hx⟩ := ed_at (w := (w.drewN n).drewN m) hv (by omega)
      cases e
      exact (hx j hj).1
    · obtain ⟨_, _, e, _, hx⟩ := ed_at (w := (w.drewN n).drewN m) hu (by omega)
      cases e
      exact (hx j hj).1
  unfold maxLen at hcm
  have HL : Hid (l.length ≤ 9223372036854775807) := Lib.hid (by omega)
  clear hv hu hlc hcm
  go_enter Try.func15, Try.ntmps15
  go_wp2
  go_loopw [13] (fun i wr => ∃ k : Nat, k ≤ l.length ∧ i = .int .i64 k ∧ Hid (∃ n, wr = w.drewN n)) (fun i _ => l.length - (intOf i).toNat)
  case atStart => exact ⟨0, Nat.zero_le _, rfl, Lib.hid ⟨0, rfl⟩⟩
  case round =>
    obtain ⟨k, hk, rfl, HD⟩ := hrel
    by_cases hlt : k < l.length
    · obtain ⟨b, off, b', off', rfl, rfl, d1, d2⟩ := HS.out wr HD.out k hlt
      have j0 : IntKind.i64.wrap ((k : Int) + 1) = ((k + 1 : Nat) : Int) := by rw [show (k : Int) + 1 = ((k + 1 : Nat) : Int) by omega]; exact i64_nat _ (by have := HL.out; omega)
      have i0 : (0 : Int) ≤ (k : Int) := by omega
      have i1 : (k : Int) < (l.length : Int) := by omega
      have i2 : ¬ (k : Int) < 0 := by omega
      clear HS
      generalize l.getD k default = y at *
      generalize l.length = L at *
      have hy := eqE_self y
      go_wp2_with fail
      go_quiet (fail)
      go_wp2
      exact ⟨⟨k + 1, by omega, by go_num, Lib.hid (by obtain ⟨n, e⟩ := HD.out; subst e; exact ⟨_, World.drewN_drewN ..⟩)⟩, by simp [intOf]; omega⟩
    · obtain rfl : k = l.length := by omega
      go_wp2
      go_ret
      exact ⟨rfl, HD.out⟩

theorem edits_same_b {v u : Value} {l : List Ed} {w : World} (hv : RA edE w v l) (hu : RA edE w u l) : Calls Try.prog 15 #[v, u] w fun e w' => e = .returned (.bool true) ∧ Below w.heap.size w w' :=
  (edits_same hv hu).mono fun e w' ⟨h1, n, h2⟩ => ⟨h1, by subst h2; exact below_drewN (Below.refl _ _) n⟩
theorem appF_take {l : List Int} {es : List Ed} {k : Nat} (h : k < es.length) : appF l (es.take (k + 1)) = if 0 ≤ (es.getD k default).w ∧ (es.getD k default).w < (appF l (es.take k)).length then (appF l (es.take k)).set (es.getD k default).w.toNat (es.getD k default).v else appF l (es.take k) := by
  rw [List.take_add_one, appF_app, List.getElem?_eq_getElem h, List.getD_eq_getElem?_getD, List.getElem?_eq_getElem h]
  rfl
set_option maxHeartbeats 1000000 in
theorem rapply_is (l : List Int) (es : List Ed) (v u : Value) (w : World) (hv : RU w v l) (hu : RA edE w u es) (h0 : 0 < l.length) (hl : l.length ≤ 1000) (hel : es.length ≤ 4000) :
    Calls Try.prog 18 #[v, u] w fun e w' => (∃ x, e = .returned x ∧ OwnU w.heap.size w' x (appF l es)) ∧ Below w.heap.size w w' := by
  obtain ⟨p, c, rfl, _, _⟩ := ra_shape hu
  obtain ⟨p2, c2, rfl, _, _, _⟩ := id hv
  have HE := Lib.hid (fun (w' : World) (hb : Below w.heap.size w w') => ra_below hu hb)
  have HV := Lib.hid hv
  have HL := Lib.hid (And.intro h0 (And.intro hl hel))
  clear hu hv h0 hl hel
  go_enter Try.func18, Try.ntmps18
  go_wp2_with (at_builtin; refine list_app_u64 rfl _ _ rfl w.heap.size (.slice none 0 0) [] rfl (own_nil_u _ _) _ l rfl HV.out (by have := HL.out; simp; omega) (Nat.le_refl _) ?_)
  intro v' w1 ho hg _
  have hb1 := below_app_u (Below.refl _ _) (Nat.le_refl _) (own_nil_u w.heap.size w) hg
  obtain ⟨g, d, rfl, hgg, _, _⟩ := ho.block (HL.out.1)
  have HG := Lib.hid hgg
  have O1 := Lib.hid ho
  have D1 := Lib.hid hb1
  clear ho hg hb1 hgg
  go_wp2
  go_loopw [7, 12] (fun x i wr => ∃ k : Nat, k ≤ es.length ∧ i = .int .i64 k ∧ Hid (OwnU w.heap.size wr (.slice (some ⟨g, 0, none⟩) l.length d) (appF l (es.take k)) ∧ Below w.heap.size w wr)) (fun _ i _ => es.length - (intOf i).toNat)
  case atStart => exact ⟨0, Nat.zero_le _, rfl, Lib.hid ⟨O1.out, D1.out⟩⟩
  case round =>
    obtain ⟨k, hk, rfl, H⟩ := hrel
    by_cases hlt : k < es.length
    · obtain ⟨b, off, rfl, hb, hx⟩ := ed_at (HE.out _ H.out.2) (by omega)
      obtain ⟨hld, _, _, hwf⟩ := hx k hlt
      have hF := appF_take (l := l) hlt
      rw [appF_length] at hF
      generalize es.getD k default = y at *
      obtain ⟨a, x⟩ := y
      simp only at hF
      obtain ⟨W, hW, HW⟩ := ed_boxed wr ⟨a, x⟩
      have c0 : W.cell? ⟨wr.heap.size, 0, none⟩ = some (.int .i64 a) := HW.out.1.c0
      have c1 : W.cell? ⟨wr.heap.size, 1, none⟩ = some (.int .u64 x) := HW.out.1.c1
      have hB := below_more H.out.2 HW.out.2
      have hO := H.out.1.below HW.out.2
      have i0 : (0 : Int) ≤ (k : Int) := by omega
      have i1 : (k : Int) < (es.length : Int) := by omega
      have i2 : ¬ (k : Int) < 0 := by omega
      have i3 : IntKind.i64.wrap ((k : Int) + 1) = ((k + 1 : Nat) : Int) := by rw [show (k : Int) + 1 = ((k + 1 : Nat) : Int) by omega]; exact i64_nat _ (by have := HL.out; omega)
      have HK := Lib.hid hlt
      by_cases h1 : 0 ≤ a
      · by_cases h2 : a < (l.length : Int)
        · rw [if_pos ⟨h1, h2⟩] at hF
          obtain ⟨z, rfl⟩ : ∃ z : Nat, a = z := ⟨a.toNat, by omega⟩
          rw [Int.toNat_natCast] at hF
          have i4 : (z : Int) ≥ 0 := by omega
          have i5 : ¬ (z : Int) < 0 := by omega
          have i6 : ¬ (l.length : Int) ≤ (z : Int) := by omega
          obtain ⟨_, z3⟩ := OwnU.cells hO (j := z) (by rw [appF_length]; omega)
          obtain ⟨c3, _⟩ := OwnU.cells hO (j := z) (by rw [appF_length]; omega)
          generalize (appF l (es.take k)).getD z 0 = y at c3
          have HN : Hid (OwnU w.heap.size (W.setCell ⟨g, z, none⟩ (.int .u64 x)) (.slice (some ⟨g, 0, none⟩) l.length d) (appF l (es.take (k + 1))) ∧ Below w.heap.size w (W.setCell ⟨g, z, none⟩ (.int .u64 x))) := Lib.hid ⟨by rw [hF]; exact OwnU.stored hO z x, hB.setCell (p := ⟨g, z, none⟩) HG.out _⟩
          clear hx hF hB hO hb hk hlt h1 hwf
          go_wp2
          go_roundw
          case rel => exact ⟨k + 1, by have := HK.out; omega, by go_num, HN⟩
          case measure => have := HK.out; simp [intOf]; omega
        · rw [if_neg (by omega)] at hF
          have HN := Lib.hid (And.intro hO hB)
          rw [← hF] at HN
          clear hx hF hB hO hb hk hlt hwf
          go_wp2
          go_roundw
          case rel => exact ⟨k + 1, by have := HK.out; omega, by go_num, HN⟩
          case measure => have := HK.out; simp [intOf]; omega
      · rw [if_neg (by omega)] at hF
        have HN := Lib.hid (And.intro hO hB)
        rw [← hF] at HN
        clear hx hF hB hO hb hk hlt hwf
        go_wp2
        go_roundw
        case rel => exact ⟨k + 1, by have := HK.out; omega, by go_num, HN⟩
        case measure => have := HK.out; simp [intOf]; omega
    · obtain rfl : k = es.length := by omega
      have hF := H.out
      rw [List.take_length] at hF
      have HF := Lib.hid hF
      clear hF
      go_wp2
      go_ret
      exact ⟨⟨_, rfl, HF.out.1⟩, HF.out.2⟩
end Go.Proofs.Ytnlhjppjgjobkaa
