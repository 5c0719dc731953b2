/-
  Contracts of package span's Apply, and of the reference's at no words.
-/
import Derived.Test.YtnlhjppjgjobkaaEds
import Derived.Laws.CopyOwn
namespace Go.Proofs.Ytnlhjppjgjobkaa
set_option maxRecDepth 100000
open Go.RowKit

theorem made_words (n : Nat) : (madeCells #[.int .u64 0] n).toList = List.replicate n (.int .u64 0) := by rw [toList_madeCells_one]
theorem size_u64 : (Try.prog.info? 41).map (·.size) = some 1 := by kernel_rfl
theorem appF_nil : ∀ es : List Ed, appF [] es = []
  | [] => rfl
  | e :: r => by rw [appF, if_neg (by simp only [List.length_nil]; omega), appF_nil r]
set_option maxHeartbeats 1000000 in
theorem apply_is (l : List Int) (es : List Ed) (v u : Value) (w : World) (hv : RU w v l) (hu : RA edE w u es) (hl : l.length ≤ 1000) (hel : es.length ≤ 4000) :
    Calls Try.prog 17 #[v, u] w fun e w' => (∃ x, e = .returned x ∧ OwnU w.heap.size w' x (appF l es)) ∧ Below w.heap.size w w' := by
  obtain ⟨p, c, rfl, _, _⟩ := ra_shape hu
  obtain ⟨p2, c2, rfl, _, _, _⟩ := id hv
  have hmk := run_make_row' (P := Try.prog) 22 41 (.int .u64 0) 8 Try.underlying22 info_u64 rfl .i64 .i64 l.length (by omega) (by omega)
  obtain ⟨W, hW⟩ : ∃ W, w.alloc (.cells (madeCells #[.int .u64 0] l.length) 41) = W := ⟨_, rfl⟩
  have hB : Below w.heap.size w W := by rw [← hW]; exact bal (Below.refl _ _)
  have hg : W.heap[w.heap.size]? = some (.cells (List.replicate l.length (.int .u64 0)).toArray 41 (0, 0)) := by
    rw [← hW, ← made_words, Array.toArray_toList]; exact heap_alloc_new w _
  have HG := Lib.hid hg
  have HBW := Lib.hid hB
  have HE := Lib.hid (fun (w' : World) (hb : Below w.heap.size w w') => ra_below hu hb)
  have HV := Lib.hid (ru_below hv hB)
  have HL := Lib.hid (And.intro hl hel)
  have CS : Hid ((l.map uv).length = Nat.min l.length l.length) := Lib.hid (by simp)
  have CF : Hid (0 + (l.map uv).length ≤ (List.replicate l.length (Value.int .u64 0)).length) := Lib.hid (by simp)
  have CP : Hid (0 < (l.map uv).length → some (⟨w.heap.size, 0, none⟩ : Addr) = some ⟨w.heap.size, 0, none⟩ ∧ ∃ ad, p2 = some ad ∧ ∀ j v, (l.map uv)[j]? = some v → W.cell? (ad.add j) = some v) := Lib.hid fun h0 => by
    obtain ⟨b, off, rfl, _, hc⟩ := ru_some HV.out (by simpa using h0)
    refine ⟨rfl, _, rfl, fun j v hj => ?_⟩
    have hj' : j < l.length := by have := (List.getElem?_eq_some_iff.1 hj).1; simpa using this
    have e : (⟨b, off, none⟩ : Addr).add j = ⟨b, off + j, none⟩ := Go.WideShapes.add_plain ..
    rw [e, hc j hj']
    simp [hj', uv] at hj ⊢
    exact hj
  have FIN : Hid (∀ w', w'.heap[w.heap.size]? = some (.cells (splice (List.replicate l.length (Value.int .u64 0)) 0 (l.map uv)).toArray 41 (0, 0)) → OwnU w.heap.size w' (.slice (some ⟨w.heap.size, 0, none⟩) l.length l.length) l) := Lib.hid fun w' h => by
    have es : splice (List.replicate l.length (Value.int .u64 0)) 0 (l.map uv) = l.map uv := by simp [splice]
    rw [es] at h
    refine ⟨by simp, .inr ⟨w.heap.size, l.length, _, rfl, Nat.le_refl _, h, Nat.le_refl _, by unfold maxLen; omega, by simp, by simp [List.take_of_length_le]⟩⟩
  clear hu hv hl hel hB hg
  obtain ⟨R0, hR0⟩ : ∃ R0, List.replicate l.length (Value.int .u64 0) = R0 := ⟨_, rfl⟩
  obtain ⟨C0, hC0⟩ : ∃ C0, l.map uv = C0 := ⟨_, rfl⟩
  rw [hR0] at HG CF FIN
  rw [hC0] at CS CF CP FIN
  have CO : Hid (∀ v ∈ C0, v.oneCell' = true) := Lib.hid (by rw [← hC0]; exact uv_one l)
  clear hR0 hC0
  go_enter Try.func17, Try.ntmps17
  go_wp2_with (refine wpList_copy_splice (o := ⟨some 13, _, _, _, _, _⟩) rfl (.tmp 11) (.tmp 12) 22 22 rfl 41 Try.underlying22 size_u64 _ _ _ _ _ _ rfl rfl w.heap.size 0 R0 41 HG.out C0 CS.out CP.out CF.out CO.out w.heap.size w HBW.out (Nat.le_refl _) ?_)
  intro w1 hg1 hb1
  have O1 := Lib.hid (FIN.out _ hg1.out)
  have D1 := Lib.hid hb1
  clear hg1 hb1 FIN CP CF CO HG CS
  go_wp2
  go_loopw [7, 16] (fun x i wr => ∃ k : Nat, k ≤ es.length ∧ i = .int .i64 k ∧ Hid (OwnU w.heap.size wr (.slice (some ⟨w.heap.size, 0, none⟩) l.length l.length) (appF l (es.take k)) ∧ Below w.heap.size w wr)) (fun _ i _ => es.length - (intOf i).toNat)
  case atStart => exact ⟨0, Nat.zero_le _, rfl, Lib.hid ⟨O1.out, D1.out⟩⟩
  case round =>
    obtain ⟨k, hk, rfl, H⟩ := hrel
    by_cases hlt : k < es.length
    · obtain ⟨b, off, rfl, hb, hx⟩ := ed_at (HE.out _ H.out.2) (by omega)
      obtain ⟨hld, _, _, hwf⟩ := hx k hlt
      have hF := appF_take (l := l) hlt
      rw [appF_length] at hF
      generalize es.getD k default = y at *
      obtain ⟨a, x⟩ := y
      simp only at hF
      obtain ⟨W, hW, HW⟩ := ed_boxed wr ⟨a, x⟩
      have c0 : W.cell? ⟨wr.heap.size, 0, none⟩ = some (.int .i64 a) := HW.out.1.c0
      have c1 : W.cell? ⟨wr.heap.size, 1, none⟩ = some (.int .u64 x) := HW.out.1.c1
      have hB := below_more H.out.2 HW.out.2
      have hO := H.out.1.below HW.out.2
      have i0 : (0 : Int) ≤ (k : Int) := by omega
      have i1 : (k : Int) < (es.length : Int) := by omega
      have i2 : ¬ (k : Int) < 0 := by omega
      have i3 : IntKind.i64.wrap ((k : Int) + 1) = ((k + 1 : Nat) : Int) := by rw [show (k : Int) + 1 = ((k + 1 : Nat) : Int) by omega]; exact i64_nat _ (by have := HL.out; omega)
      have HK := Lib.hid hlt
      by_cases h1 : 0 ≤ a
      · by_cases h2 : a < (l.length : Int)
        · rw [if_pos ⟨h1, h2⟩] at hF
          obtain ⟨z, rfl⟩ : ∃ z : Nat, a = z := ⟨a.toNat, by omega⟩
          rw [Int.toNat_natCast] at hF
          have i4 : (z : Int) ≥ 0 := by omega
          have i5 : ¬ (z : Int) < 0 := by omega
          have i6 : ¬ (l.length : Int) ≤ (z : Int) := by omega
          obtain ⟨_, z3⟩ := OwnU.cells hO (j := z) (by rw [appF_length]; omega)
          obtain ⟨c3, _⟩ := OwnU.cells hO (j := z) (by rw [appF_length]; omega)
          generalize (appF l (es.take k)).getD z 0 = y at c3
          have HN : Hid (OwnU w.heap.size (W.setCell ⟨w.heap.size, z, none⟩ (.int .u64 x)) (.slice (some ⟨w.heap.size, 0, none⟩) l.length l.length) (appF l (es.take (k + 1))) ∧ Below w.heap.size w (W.setCell ⟨w.heap.size, z, none⟩ (.int .u64 x))) := Lib.hid ⟨by rw [hF]; exact OwnU.stored hO z x, hB.setCell (p := ⟨w.heap.size, z, none⟩) (Nat.le_refl _) _⟩
          clear hx hF hB hO hb hk hlt h1 hwf
          go_wp2
          go_roundw
          case rel => exact ⟨k + 1, by have := HK.out; omega, by go_num, HN⟩
          case measure => have := HK.out; simp [intOf]; omega
        · rw [if_neg (by omega)] at hF
          have HN := Lib.hid (And.intro hO hB)
          rw [← hF] at HN
          clear hx hF hB hO hb hk hlt hwf
          go_wp2
          go_roundw
          case rel => exact ⟨k + 1, by have := HK.out; omega, by go_num, HN⟩
          case measure => have := HK.out; simp [intOf]; omega
      · rw [if_neg (by omega)] at hF
        have HN := Lib.hid (And.intro hO hB)
        rw [← hF] at HN
        clear hx hF hB hO hb hk hlt hwf
        go_wp2
        go_roundw
        case rel => exact ⟨k + 1, by have := HK.out; omega, by go_num, HN⟩
        case measure => have := HK.out; simp [intOf]; omega
    · obtain rfl : k = es.length := by omega
      have hF := H.out
      rw [List.take_length] at hF
      have HF := Lib.hid hF
      clear hF
      go_wp2
      go_ret
      exact ⟨⟨_, rfl, HF.out.1⟩, HF.out.2⟩
set_option maxHeartbeats 1000000 in
theorem rapply_nil (es : List Ed) (v u : Value) (w : World) (hv : RU w v []) (hu : RA edE w u es) (hel : es.length ≤ 4000) :
    Calls Try.prog 18 #[v, u] w fun e w' => (∃ x, e = .returned x ∧ OwnU w.heap.size w' x []) ∧ Below w.heap.size w w' := by
  obtain ⟨p, c, rfl, _, _⟩ := ra_shape hu
  obtain ⟨p2, c2, rfl, _, _, _⟩ := id hv
  have HE := Lib.hid (fun (w' : World) (hb : Below w.heap.size w w') => ra_below hu hb)
  have HV := Lib.hid hv
  have HL := Lib.hid hel
  clear hu hv hel
  go_enter Try.func18, Try.ntmps18
  go_wp2_with (at_builtin; refine list_app_u64 rfl _ _ rfl w.heap.size (.slice none 0 0) [] rfl (own_nil_u _ _) _ [] rfl HV.out (by simp) (Nat.le_refl _) ?_)
  intro v' w1 ho hg _
  have hb1 := below_app_u (Below.refl _ _) (Nat.le_refl _) (own_nil_u w.heap.size w) hg
  have ho : OwnU w.heap.size w1 v' [] := ho
  obtain ⟨q, d, e⟩ := ho.shape
  subst e
  have O1 := Lib.hid ho
  have D1 := Lib.hid hb1
  clear ho hg hb1
  go_wp2
  go_loopw [7, 12] (fun x i wr => ∃ k : Nat, k ≤ es.length ∧ i = .int .i64 k ∧ Hid (OwnU w.heap.size wr (.slice q 0 d) [] ∧ Below w.heap.size w wr)) (fun _ i _ => es.length - (intOf i).toNat)
  case atStart => exact ⟨0, Nat.zero_le _, rfl, Lib.hid ⟨O1.out, D1.out⟩⟩
  case round =>
    obtain ⟨k, hk, rfl, H⟩ := hrel
    by_cases hlt : k < es.length
    · obtain ⟨b, off, rfl, hb, hx⟩ := ed_at (HE.out _ H.out.2) (by omega)
      obtain ⟨hld, _, _, _⟩ := hx k hlt
      generalize es.getD k default = y at *
      obtain ⟨a, x⟩ := y
      obtain ⟨W, hW, HW⟩ := ed_boxed wr ⟨a, x⟩
      have c0 : W.cell? ⟨wr.heap.size, 0, none⟩ = some (.int .i64 a) := HW.out.1.c0
      have HN := Lib.hid (And.intro (H.out.1.below HW.out.2) (below_more H.out.2 HW.out.2))
      have i0 : (0 : Int) ≤ (k : Int) := by omega
      have i1 : (k : Int) < (es.length : Int) := by omega
      have i2 : ¬ (k : Int) < 0 := by omega
      have i3 : IntKind.i64.wrap ((k : Int) + 1) = ((k + 1 : Nat) : Int) := by rw [show (k : Int) + 1 = ((k + 1 : Nat) : Int) by omega]; exact i64_nat _ (by have := HL.out; omega)
      have HK := Lib.hid hlt
      clear hx hb hk hlt
      by_cases h1 : 0 ≤ a
      · have h2 : ¬ a < 0 := by omega
        go_wp2
        go_roundw
        case rel => exact ⟨k + 1, by have := HK.out; omega, by go_num, HN⟩
        case measure => have := HK.out; simp [intOf]; omega
      · go_wp2
        go_roundw
        case rel => exact ⟨k + 1, by have := HK.out; omega, by go_num, HN⟩
        case measure => have := HK.out; simp [intOf]; omega
    · obtain rfl : k = es.length := by omega
      go_wp2
      go_ret
      exact ⟨⟨_, rfl, H.out.1⟩, H.out.2⟩
theorem rapply_any (l : List Int) (es : List Ed) (v u : Value) (w : World) (hv : RU w v l) (hu : RA edE w u es) (hl : l.length ≤ 1000) (hel : es.length ≤ 4000) :
    Calls Try.prog 18 #[v, u] w fun e w' => (∃ x, e = .returned x ∧ OwnU w.heap.size w' x (appF l es)) ∧ Below w.heap.size w w' := by
  by_cases h0 : 0 < l.length
  · exact rapply_is l es v u w hv hu h0 hl hel
  · obtain rfl : l = [] := List.eq_nil_of_length_eq_zero (by omega)
    rw [appF_nil]
    exact rapply_nil es v u w hv hu hel
end Go.Proofs.Ytnlhjppjgjobkaa
