/-
  Contracts of the reference: what an operation is written as; are operations alike; which may be; Encode.
-/
import Derived.Test.YtdnijdbhdlengaaCdg
import Derived.Test.YtdnijdbhdlengaaCdi
namespace Go.Proofs.Ytdnijdbhdlengaa
set_option maxRecDepth 100000
open Go.RowKit

set_option maxHeartbeats 4000000 in
theorem opbytes_is (d o n m : Int) (p : Option Addr) (c : Nat) (bl : List Int) (w : World) (h : RA byE w (.slice p bl.length c) bl) (hl : bl.length ≤ 255) :
    Calls Try.prog 20 #[.agg (pxc ⟨d, o, n, m, .slice p bl.length c, bl⟩)] w fun e w' => (∃ u, e = .returned u ∧ OwnA byE w.heap.size w' u (opB ⟨d, o, n, m, bl⟩)) ∧ Below w.heap.size w w' := by
  obtain ⟨W, hW⟩ : ∃ W, w.alloc (.cells (pxc ⟨d, o, n, m, .slice p bl.length c, bl⟩) 26) = W := ⟨_, rfl⟩
  have V0 : Pxv W w.heap.size ⟨d, o, n, m, .slice p bl.length c, bl⟩ := by rw [← hW]; exact Pxv.new w _
  have B0 : Below w.heap.size w W := by rw [← hW]; exact bal (Below.refl _ _)
  have HB := Lib.hid B0
  have HV := Lib.hid V0
  have HR := Lib.hid h
  have HL := Lib.hid hl
  have c0 := V0.c0
  have c1 := V0.c1
  have c2 := V0.c2
  have c3 := V0.c3
  have c4 := V0.c4
  dsimp only at c0 c1 c2 c3 c4
  clear V0 B0 h
  rcases kinds d with rfl | rfl | rfl | rfl | rfl | rfl | rfl | rfl | ⟨hk, e1, e2, e3, e4, e5, e6, e7, e8⟩
  · have eo : opB ⟨1, o, n, m, bl⟩ = [1, n % 256, n / 256 % 256, 0] ++ bl := rfl
    obtain ⟨A, hA⟩ : ∃ A, n % 256 = A := ⟨_, rfl⟩
    obtain ⟨Q, hQ⟩ : ∃ Q, n / 256 = Q := ⟨_, rfl⟩
    obtain ⟨Q2, hQ2⟩ : ∃ Q2, Q % 256 = Q2 := ⟨_, rfl⟩
    rw [hA, hQ, hQ2] at eo
    have u1 : IntKind.u8.wrap n = A := by simp [IntKind.wrap, IntKind.signed, IntKind.bits]; omega
    have u2 : IntKind.u8.wrap Q = Q2 := by simp [IntKind.wrap, IntKind.signed, IntKind.bits]; omega
    have hby : ∀ x ∈ ([1, A, Q2, 0] : List Int), By x := fun x hx => by
        unfold By
        simp only [List.mem_cons, List.not_mem_nil, or_false] at hx
        rcases hx with rfl | rfl | rfl | rfl <;> omega
    rw [eo]
    clear eo hA hQ2
    obtain ⟨Wq, hWq⟩ : ∃ Wq, W = Wq := ⟨_, rfl⟩
    subst hWq
    have BQ : Below W.heap.size W W := Below.refl _ _
    obtain ⟨W4, hW4⟩ : ∃ W4, W.alloc (.cells #[.int .u8 1, .int .u8 A, .int .u8 Q2, .int .u8 0] 5) = W4 := ⟨_, rfl⟩
    have hsl : (bySlice 4 #[(0, .int .u8 1), (1, .int .u8 A), (2, .int .u8 Q2), (3, .int .u8 0)]).run Try.prog W = .ok (.slice (some ⟨W.heap.size, 0, none⟩) 4 4) W4 := by rw [← hW4]; exact built_by4 W 1 A Q2 0
    have B4 : Below W.heap.size W W4 := by rw [← hW4]; exact bal (Below.refl _ _)
    have BW := Lib.hid (HB.out.trans ((below_more BQ B4).mono HB.out.size))
    have L1 : Hid (OwnA byE w.heap.size W4 (.slice (some ⟨W.heap.size, 0, none⟩) 4 4) [1, A, Q2, 0]) := Lib.hid (by
        have := own_lit_a byE W (l := [1, A, Q2, 0]) hby (by unfold maxLen; simp)
        rw [← hW4]
        exact (by simpa [byE] using this : OwnA byE W.heap.size _ _ _).mono (Nat.le_trans HB.out.size BQ.size))
    have c4 := (HV.out.below (below_more BQ B4)).c4
    dsimp only at c4
    have R4 := Lib.hid (ra_below HR.out BW.out)
    have hl1 : Hid (([1, A, Q2, 0] : List Int).length + bl.length ≤ 140737488355328) := Lib.hid (by have := HL.out; simp; omega)
    clear hW4 B4 hby BQ
    go_enter Try.func20, Try.ntmps20
    go_wp2_with (at_builtin; refine app_bys rfl _ _ rfl _ _ _ rfl L1.out _ bl rfl R4.out hl1 BW.out.size ?_)
    intro v5 w5 ho hg hx
    have B5 := Lib.hid (below_app BW.out BW.out.size L1.out hg)
    obtain ⟨p5, c5, rfl, _⟩ := ho.shape
    have O5 := Lib.hid ho
    clear ho hg hx
    go_wp2
    go_ret
    exact ⟨⟨_, rfl, O5.out⟩, B5.out⟩
  · have eo : opB ⟨2, o, n, m, bl⟩ = [2, o % 256, o / 256 % 256, 0] ++ bl := rfl
    obtain ⟨A, hA⟩ : ∃ A, o % 256 = A := ⟨_, rfl⟩
    obtain ⟨Q, hQ⟩ : ∃ Q, o / 256 = Q := ⟨_, rfl⟩
    obtain ⟨Q2, hQ2⟩ : ∃ Q2, Q % 256 = Q2 := ⟨_, rfl⟩
    rw [hA, hQ, hQ2] at eo
    have u1 : IntKind.u8.wrap o = A := by simp [IntKind.wrap, IntKind.signed, IntKind.bits]; omega
    have u2 : IntKind.u8.wrap Q = Q2 := by simp [IntKind.wrap, IntKind.signed, IntKind.bits]; omega
    have hby : ∀ x ∈ ([2, A, Q2, 0] : List Int), By x := fun x hx => by
        unfold By
        simp only [List.mem_cons, List.not_mem_nil, or_false] at hx
        rcases hx with rfl | rfl | rfl | rfl <;> omega
    rw [eo]
    clear eo hA hQ2
    obtain ⟨Wq, hWq⟩ : ∃ Wq, W = Wq := ⟨_, rfl⟩
    subst hWq
    have BQ : Below W.heap.size W W := Below.refl _ _
    obtain ⟨W4, hW4⟩ : ∃ W4, W.alloc (.cells #[.int .u8 2, .int .u8 A, .int .u8 Q2, .int .u8 0] 5) = W4 := ⟨_, rfl⟩
    have hsl : (bySlice 4 #[(0, .int .u8 2), (1, .int .u8 A), (2, .int .u8 Q2), (3, .int .u8 0)]).run Try.prog W = .ok (.slice (some ⟨W.heap.size, 0, none⟩) 4 4) W4 := by rw [← hW4]; exact built_by4 W 2 A Q2 0
    have B4 : Below W.heap.size W W4 := by rw [← hW4]; exact bal (Below.refl _ _)
    have BW := Lib.hid (HB.out.trans ((below_more BQ B4).mono HB.out.size))
    have L1 : Hid (OwnA byE w.heap.size W4 (.slice (some ⟨W.heap.size, 0, none⟩) 4 4) [2, A, Q2, 0]) := Lib.hid (by
        have := own_lit_a byE W (l := [2, A, Q2, 0]) hby (by unfold maxLen; simp)
        rw [← hW4]
        exact (by simpa [byE] using this : OwnA byE W.heap.size _ _ _).mono (Nat.le_trans HB.out.size BQ.size))
    have c4 := (HV.out.below (below_more BQ B4)).c4
    dsimp only at c4
    have R4 := Lib.hid (ra_below HR.out BW.out)
    have hl1 : Hid (([2, A, Q2, 0] : List Int).length + bl.length ≤ 140737488355328) := Lib.hid (by have := HL.out; simp; omega)
    clear hW4 B4 hby BQ
    go_enter Try.func20, Try.ntmps20
    go_wp2_with (at_builtin; refine app_bys rfl _ _ rfl _ _ _ rfl L1.out _ bl rfl R4.out hl1 BW.out.size ?_)
    intro v5 w5 ho hg hx
    have B5 := Lib.hid (below_app BW.out BW.out.size L1.out hg)
    obtain ⟨p5, c5, rfl, _⟩ := ho.shape
    have O5 := Lib.hid ho
    clear ho hg hx
    go_wp2
    go_ret
    exact ⟨⟨_, rfl, O5.out⟩, B5.out⟩
  · have eo : opB ⟨3, o, n, m, bl⟩ = [3, o % 256, o / 256 % 256, n % 256] ++ bl := rfl
    obtain ⟨A, hA⟩ : ∃ A, o % 256 = A := ⟨_, rfl⟩
    obtain ⟨Q, hQ⟩ : ∃ Q, o / 256 = Q := ⟨_, rfl⟩
    obtain ⟨Q2, hQ2⟩ : ∃ Q2, Q % 256 = Q2 := ⟨_, rfl⟩
    rw [hA, hQ, hQ2] at eo
    have u1 : IntKind.u8.wrap o = A := by simp [IntKind.wrap, IntKind.signed, IntKind.bits]; omega
    have u2 : IntKind.u8.wrap Q = Q2 := by simp [IntKind.wrap, IntKind.signed, IntKind.bits]; omega
    obtain ⟨Z2, hZ2⟩ : ∃ Z2, n % 256 = Z2 := ⟨_, rfl⟩
    rw [hZ2] at eo
    have u3 : IntKind.u8.wrap n = Z2 := by simp [IntKind.wrap, IntKind.signed, IntKind.bits]; omega
    have hby : ∀ x ∈ ([3, A, Q2, Z2] : List Int), By x := fun x hx => by
        unfold By
        simp only [List.mem_cons, List.not_mem_nil, or_false] at hx
        rcases hx with rfl | rfl | rfl | rfl <;> omega
    rw [eo]
    clear eo hA hQ2 hZ2
    go_enter Try.func20, Try.ntmps20
    go_wp2_with fail
    go_quiet (fail)
    obtain ⟨Wq, hWq⟩ : ∃ Wq, W.drewN nq = Wq := ⟨_, rfl⟩
    have BQ : Below W.heap.size W Wq := by rw [← hWq]; exact below_drewN (Below.refl _ _) nq
    rw [hWq]
    have c0 := (HV.out.below BQ).c0
    have c4 := (HV.out.below BQ).c4
    dsimp only at c0 c4
    obtain ⟨W4, hW4⟩ : ∃ W4, Wq.alloc (.cells #[.int .u8 3, .int .u8 A, .int .u8 Q2, .int .u8 Z2] 5) = W4 := ⟨_, rfl⟩
    have hsl : (bySlice 4 #[(0, .int .u8 3), (1, .int .u8 A), (2, .int .u8 Q2), (3, .int .u8 Z2)]).run Try.prog Wq = .ok (.slice (some ⟨Wq.heap.size, 0, none⟩) 4 4) W4 := by rw [← hW4]; exact built_by4 Wq 3 A Q2 Z2
    have B4 : Below Wq.heap.size Wq W4 := by rw [← hW4]; exact bal (Below.refl _ _)
    have BW := Lib.hid (HB.out.trans ((below_more BQ B4).mono HB.out.size))
    have L1 : Hid (OwnA byE w.heap.size W4 (.slice (some ⟨Wq.heap.size, 0, none⟩) 4 4) [3, A, Q2, Z2]) := Lib.hid (by
        have := own_lit_a byE Wq (l := [3, A, Q2, Z2]) hby (by unfold maxLen; simp)
        rw [← hW4]
        exact (by simpa [byE] using this : OwnA byE Wq.heap.size _ _ _).mono (Nat.le_trans HB.out.size BQ.size))
    have c4 := (HV.out.below (below_more BQ B4)).c4
    dsimp only at c4
    have R4 := Lib.hid (ra_below HR.out BW.out)
    have hl1 : Hid (([3, A, Q2, Z2] : List Int).length + bl.length ≤ 140737488355328) := Lib.hid (by have := HL.out; simp; omega)
    clear hW4 B4 hby BQ
    go_wp2_with (at_builtin; refine app_bys rfl _ _ rfl _ _ _ rfl L1.out _ bl rfl R4.out hl1 BW.out.size ?_)
    intro v5 w5 ho hg hx
    have B5 := Lib.hid (below_app BW.out BW.out.size L1.out hg)
    obtain ⟨p5, c5, rfl, _⟩ := ho.shape
    have O5 := Lib.hid ho
    clear ho hg hx
    go_wp2
    go_ret
    exact ⟨⟨_, rfl, O5.out⟩, B5.out⟩
  · have eo : opB ⟨4, o, n, m, bl⟩ = [4, o % 256, o / 256 % 256, (bl.length : Int) % 256] ++ bl := rfl
    obtain ⟨A, hA⟩ : ∃ A, o % 256 = A := ⟨_, rfl⟩
    obtain ⟨Q, hQ⟩ : ∃ Q, o / 256 = Q := ⟨_, rfl⟩
    obtain ⟨Q2, hQ2⟩ : ∃ Q2, Q % 256 = Q2 := ⟨_, rfl⟩
    rw [hA, hQ, hQ2] at eo
    have u1 : IntKind.u8.wrap o = A := by simp [IntKind.wrap, IntKind.signed, IntKind.bits]; omega
    have u2 : IntKind.u8.wrap Q = Q2 := by simp [IntKind.wrap, IntKind.signed, IntKind.bits]; omega
    obtain ⟨Z2, hZ2⟩ : ∃ Z2, (bl.length : Int) % 256 = Z2 := ⟨_, rfl⟩
    rw [hZ2] at eo
    have u3 : IntKind.u8.wrap (bl.length : Int) = Z2 := by simp [IntKind.wrap, IntKind.signed, IntKind.bits]; omega
    have hby : ∀ x ∈ ([4, A, Q2, Z2] : List Int), By x := fun x hx => by
        unfold By
        simp only [List.mem_cons, List.not_mem_nil, or_false] at hx
        rcases hx with rfl | rfl | rfl | rfl <;> omega
    rw [eo]
    clear eo hA hQ2 hZ2
    go_enter Try.func20, Try.ntmps20
    go_wp2_with fail
    go_quiet (fail)
    obtain ⟨Wq, hWq⟩ : ∃ Wq, W.drewN nq = Wq := ⟨_, rfl⟩
    have BQ : Below W.heap.size W Wq := by rw [← hWq]; exact below_drewN (Below.refl _ _) nq
    rw [hWq]
    have c0 := (HV.out.below BQ).c0
    have c4 := (HV.out.below BQ).c4
    dsimp only at c0 c4
    obtain ⟨W4, hW4⟩ : ∃ W4, Wq.alloc (.cells #[.int .u8 4, .int .u8 A, .int .u8 Q2, .int .u8 Z2] 5) = W4 := ⟨_, rfl⟩
    have hsl : (bySlice 4 #[(0, .int .u8 4), (1, .int .u8 A), (2, .int .u8 Q2), (3, .int .u8 Z2)]).run Try.prog Wq = .ok (.slice (some ⟨Wq.heap.size, 0, none⟩) 4 4) W4 := by rw [← hW4]; exact built_by4 Wq 4 A Q2 Z2
    have B4 : Below Wq.heap.size Wq W4 := by rw [← hW4]; exact bal (Below.refl _ _)
    have BW := Lib.hid (HB.out.trans ((below_more BQ B4).mono HB.out.size))
    have L1 : Hid (OwnA byE w.heap.size W4 (.slice (some ⟨Wq.heap.size, 0, none⟩) 4 4) [4, A, Q2, Z2]) := Lib.hid (by
        have := own_lit_a byE Wq (l := [4, A, Q2, Z2]) hby (by unfold maxLen; simp)
        rw [← hW4]
        exact (by simpa [byE] using this : OwnA byE Wq.heap.size _ _ _).mono (Nat.le_trans HB.out.size BQ.size))
    have c4 := (HV.out.below (below_more BQ B4)).c4
    dsimp only at c4
    have R4 := Lib.hid (ra_below HR.out BW.out)
    have hl1 : Hid (([4, A, Q2, Z2] : List Int).length + bl.length ≤ 140737488355328) := Lib.hid (by have := HL.out; simp; omega)
    clear hW4 B4 hby BQ
    go_wp2_with (at_builtin; refine app_bys rfl _ _ rfl _ _ _ rfl L1.out _ bl rfl R4.out hl1 BW.out.size ?_)
    intro v5 w5 ho hg hx
    have B5 := Lib.hid (below_app BW.out BW.out.size L1.out hg)
    obtain ⟨p5, c5, rfl, _⟩ := ho.shape
    have O5 := Lib.hid ho
    clear ho hg hx
    go_wp2
    go_ret
    exact ⟨⟨_, rfl, O5.out⟩, B5.out⟩
  · have eo : opB ⟨5, o, n, m, bl⟩ = [5, o % 256, o / 256 % 256, 0] ++ bl := rfl
    obtain ⟨A, hA⟩ : ∃ A, o % 256 = A := ⟨_, rfl⟩
    obtain ⟨Q, hQ⟩ : ∃ Q, o / 256 = Q := ⟨_, rfl⟩
    obtain ⟨Q2, hQ2⟩ : ∃ Q2, Q % 256 = Q2 := ⟨_, rfl⟩
    rw [hA, hQ, hQ2] at eo
    have u1 : IntKind.u8.wrap o = A := by simp [IntKind.wrap, IntKind.signed, IntKind.bits]; omega
    have u2 : IntKind.u8.wrap Q = Q2 := by simp [IntKind.wrap, IntKind.signed, IntKind.bits]; omega
    have hby : ∀ x ∈ ([5, A, Q2, 0] : List Int), By x := fun x hx => by
        unfold By
        simp only [List.mem_cons, List.not_mem_nil, or_false] at hx
        rcases hx with rfl | rfl | rfl | rfl <;> omega
    rw [eo]
    clear eo hA hQ2
    obtain ⟨Wq, hWq⟩ : ∃ Wq, W = Wq := ⟨_, rfl⟩
    subst hWq
    have BQ : Below W.heap.size W W := Below.refl _ _
    obtain ⟨W4, hW4⟩ : ∃ W4, W.alloc (.cells #[.int .u8 5, .int .u8 A, .int .u8 Q2, .int .u8 0] 5) = W4 := ⟨_, rfl⟩
    have hsl : (bySlice 4 #[(0, .int .u8 5), (1, .int .u8 A), (2, .int .u8 Q2), (3, .int .u8 0)]).run Try.prog W = .ok (.slice (some ⟨W.heap.size, 0, none⟩) 4 4) W4 := by rw [← hW4]; exact built_by4 W 5 A Q2 0
    have B4 : Below W.heap.size W W4 := by rw [← hW4]; exact bal (Below.refl _ _)
    have BW := Lib.hid (HB.out.trans ((below_more BQ B4).mono HB.out.size))
    have L1 : Hid (OwnA byE w.heap.size W4 (.slice (some ⟨W.heap.size, 0, none⟩) 4 4) [5, A, Q2, 0]) := Lib.hid (by
        have := own_lit_a byE W (l := [5, A, Q2, 0]) hby (by unfold maxLen; simp)
        rw [← hW4]
        exact (by simpa [byE] using this : OwnA byE W.heap.size _ _ _).mono (Nat.le_trans HB.out.size BQ.size))
    have c4 := (HV.out.below (below_more BQ B4)).c4
    dsimp only at c4
    have R4 := Lib.hid (ra_below HR.out BW.out)
    have hl1 : Hid (([5, A, Q2, 0] : List Int).length + bl.length ≤ 140737488355328) := Lib.hid (by have := HL.out; simp; omega)
    clear hW4 B4 hby BQ
    go_enter Try.func20, Try.ntmps20
    go_wp2_with (at_builtin; refine app_bys rfl _ _ rfl _ _ _ rfl L1.out _ bl rfl R4.out hl1 BW.out.size ?_)
    intro v5 w5 ho hg hx
    have B5 := Lib.hid (below_app BW.out BW.out.size L1.out hg)
    obtain ⟨p5, c5, rfl, _⟩ := ho.shape
    have O5 := Lib.hid ho
    clear ho hg hx
    go_wp2
    go_ret
    exact ⟨⟨_, rfl, O5.out⟩, B5.out⟩
  · have eo : opB ⟨6, o, n, m, bl⟩ = [6, 0, 0, 0] ++ bl := rfl
    have hby : ∀ x ∈ ([6, 0, 0, 0] : List Int), By x := fun x hx => by
        unfold By
        simp only [List.mem_cons, List.not_mem_nil, or_false] at hx
        rcases hx with rfl | rfl | rfl | rfl <;> omega
    rw [eo]
    clear eo
    obtain ⟨Wq, hWq⟩ : ∃ Wq, W = Wq := ⟨_, rfl⟩
    subst hWq
    have BQ : Below W.heap.size W W := Below.refl _ _
    obtain ⟨W4, hW4⟩ : ∃ W4, W.alloc (.cells #[.int .u8 6, .int .u8 0, .int .u8 0, .int .u8 0] 5) = W4 := ⟨_, rfl⟩
    have hsl : (bySlice 4 #[(0, .int .u8 6), (1, .int .u8 0), (2, .int .u8 0), (3, .int .u8 0)]).run Try.prog W = .ok (.slice (some ⟨W.heap.size, 0, none⟩) 4 4) W4 := by rw [← hW4]; exact built_by4 W 6 0 0 0
    have B4 : Below W.heap.size W W4 := by rw [← hW4]; exact bal (Below.refl _ _)
    have BW := Lib.hid (HB.out.trans ((below_more BQ B4).mono HB.out.size))
    have L1 : Hid (OwnA byE w.heap.size W4 (.slice (some ⟨W.heap.size, 0, none⟩) 4 4) [6, 0, 0, 0]) := Lib.hid (by
        have := own_lit_a byE W (l := [6, 0, 0, 0]) hby (by unfold maxLen; simp)
        rw [← hW4]
        exact (by simpa [byE] using this : OwnA byE W.heap.size _ _ _).mono (Nat.le_trans HB.out.size BQ.size))
    have c4 := (HV.out.below (below_more BQ B4)).c4
    dsimp only at c4
    have R4 := Lib.hid (ra_below HR.out BW.out)
    have hl1 : Hid (([6, 0, 0, 0] : List Int).length + bl.length ≤ 140737488355328) := Lib.hid (by have := HL.out; simp; omega)
    clear hW4 B4 hby BQ
    go_enter Try.func20, Try.ntmps20
    go_wp2_with (at_builtin; refine app_bys rfl _ _ rfl _ _ _ rfl L1.out _ bl rfl R4.out hl1 BW.out.size ?_)
    intro v5 w5 ho hg hx
    have B5 := Lib.hid (below_app BW.out BW.out.size L1.out hg)
    obtain ⟨p5, c5, rfl, _⟩ := ho.shape
    have O5 := Lib.hid ho
    clear ho hg hx
    go_wp2
    go_ret
    exact ⟨⟨_, rfl, O5.out⟩, B5.out⟩
  · have eo : opB ⟨7, o, n, m, bl⟩ = [7, n % 256, n / 256 % 256, m % 256] ++ bl := rfl
    obtain ⟨A, hA⟩ : ∃ A, n % 256 = A := ⟨_, rfl⟩
    obtain ⟨Q, hQ⟩ : ∃ Q, n / 256 = Q := ⟨_, rfl⟩
    obtain ⟨Q2, hQ2⟩ : ∃ Q2, Q % 256 = Q2 := ⟨_, rfl⟩
    rw [hA, hQ, hQ2] at eo
    have u1 : IntKind.u8.wrap n = A := by simp [IntKind.wrap, IntKind.signed, IntKind.bits]; omega
    have u2 : IntKind.u8.wrap Q = Q2 := by simp [IntKind.wrap, IntKind.signed, IntKind.bits]; omega
    obtain ⟨Z2, hZ2⟩ : ∃ Z2, m % 256 = Z2 := ⟨_, rfl⟩
    rw [hZ2] at eo
    have u3 : IntKind.u8.wrap m = Z2 := by simp [IntKind.wrap, IntKind.signed, IntKind.bits]; omega
    have hby : ∀ x ∈ ([7, A, Q2, Z2] : List Int), By x := fun x hx => by
        unfold By
        simp only [List.mem_cons, List.not_mem_nil, or_false] at hx
        rcases hx with rfl | rfl | rfl | rfl <;> omega
    rw [eo]
    clear eo hA hQ2 hZ2
    go_enter Try.func20, Try.ntmps20
    go_wp2_with fail
    go_quiet (fail)
    obtain ⟨Wq, hWq⟩ : ∃ Wq, W.drewN nq = Wq := ⟨_, rfl⟩
    have BQ : Below W.heap.size W Wq := by rw [← hWq]; exact below_drewN (Below.refl _ _) nq
    rw [hWq]
    have c0 := (HV.out.below BQ).c0
    have c4 := (HV.out.below BQ).c4
    dsimp only at c0 c4
    obtain ⟨W4, hW4⟩ : ∃ W4, Wq.alloc (.cells #[.int .u8 7, .int .u8 A, .int .u8 Q2, .int .u8 Z2] 5) = W4 := ⟨_, rfl⟩
    have hsl : (bySlice 4 #[(0, .int .u8 7), (1, .int .u8 A), (2, .int .u8 Q2), (3, .int .u8 Z2)]).run Try.prog Wq = .ok (.slice (some ⟨Wq.heap.size, 0, none⟩) 4 4) W4 := by rw [← hW4]; exact built_by4 Wq 7 A Q2 Z2
    have B4 : Below Wq.heap.size Wq W4 := by rw [← hW4]; exact bal (Below.refl _ _)
    have BW := Lib.hid (HB.out.trans ((below_more BQ B4).mono HB.out.size))
    have L1 : Hid (OwnA byE w.heap.size W4 (.slice (some ⟨Wq.heap.size, 0, none⟩) 4 4) [7, A, Q2, Z2]) := Lib.hid (by
        have := own_lit_a byE Wq (l := [7, A, Q2, Z2]) hby (by unfold maxLen; simp)
        rw [← hW4]
        exact (by simpa [byE] using this : OwnA byE Wq.heap.size _ _ _).mono (Nat.le_trans HB.out.size BQ.size))
    have c4 := (HV.out.below (below_more BQ B4)).c4
    dsimp only at c4
    have R4 := Lib.hid (ra_below HR.out BW.out)
    have hl1 : Hid (([7, A, Q2, Z2] : List Int).length + bl.length ≤ 140737488355328) := Lib.hid (by have := HL.out; simp; omega)
    clear hW4 B4 hby BQ
    go_wp2_with (at_builtin; refine app_bys rfl _ _ rfl _ _ _ rfl L1.out _ bl rfl R4.out hl1 BW.out.size ?_)
    intro v5 w5 ho hg hx
    have B5 := Lib.hid (below_app BW.out BW.out.size L1.out hg)
    obtain ⟨p5, c5, rfl, _⟩ := ho.shape
    have O5 := Lib.hid ho
    clear ho hg hx
    go_wp2
    go_ret
    exact ⟨⟨_, rfl, O5.out⟩, B5.out⟩
  · have eo : opB ⟨8, o, n, m, bl⟩ = [8, 0, 0, 0] ++ bl := rfl
    have hby : ∀ x ∈ ([8, 0, 0, 0] : List Int), By x := fun x hx => by
        unfold By
        simp only [List.mem_cons, List.not_mem_nil, or_false] at hx
        rcases hx with rfl | rfl | rfl | rfl <;> omega
    rw [eo]
    clear eo
    obtain ⟨Wq, hWq⟩ : ∃ Wq, W = Wq := ⟨_, rfl⟩
    subst hWq
    have BQ : Below W.heap.size W W := Below.refl _ _
    obtain ⟨W4, hW4⟩ : ∃ W4, W.alloc (.cells #[.int .u8 8, .int .u8 0, .int .u8 0, .int .u8 0] 5) = W4 := ⟨_, rfl⟩
    have hsl : (bySlice 4 #[(0, .int .u8 8), (1, .int .u8 0), (2, .int .u8 0), (3, .int .u8 0)]).run Try.prog W = .ok (.slice (some ⟨W.heap.size, 0, none⟩) 4 4) W4 := by rw [← hW4]; exact built_by4 W 8 0 0 0
    have B4 : Below W.heap.size W W4 := by rw [← hW4]; exact bal (Below.refl _ _)
    have BW := Lib.hid (HB.out.trans ((below_more BQ B4).mono HB.out.size))
    have L1 : Hid (OwnA byE w.heap.size W4 (.slice (some ⟨W.heap.size, 0, none⟩) 4 4) [8, 0, 0, 0]) := Lib.hid (by
        have := own_lit_a byE W (l := [8, 0, 0, 0]) hby (by unfold maxLen; simp)
        rw [← hW4]
        exact (by simpa [byE] using this : OwnA byE W.heap.size _ _ _).mono (Nat.le_trans HB.out.size BQ.size))
    have c4 := (HV.out.below (below_more BQ B4)).c4
    dsimp only at c4
    have R4 := Lib.hid (ra_below HR.out BW.out)
    have hl1 : Hid (([8, 0, 0, 0] : List Int).length + bl.length ≤ 140737488355328) := Lib.hid (by have := HL.out; simp; omega)
    clear hW4 B4 hby BQ
    go_enter Try.func20, Try.ntmps20
    go_wp2_with (at_builtin; refine app_bys rfl _ _ rfl _ _ _ rfl L1.out _ bl rfl R4.out hl1 BW.out.size ?_)
    intro v5 w5 ho hg hx
    have B5 := Lib.hid (below_app BW.out BW.out.size L1.out hg)
    obtain ⟨p5, c5, rfl, _⟩ := ho.shape
    have O5 := Lib.hid ho
    clear ho hg hx
    go_wp2
    go_ret
    exact ⟨⟨_, rfl, O5.out⟩, B5.out⟩
  · rw [show opB ⟨d, o, n, m, bl⟩ = [] from if_neg hk.out]
    go_enter Try.func20, Try.ntmps20
    go_wp2_with fail
    go_ret
    exact ⟨⟨_, rfl, own_nil_a _ _ _⟩, HB.out⟩
end Go.Proofs.Ytdnijdbhdlengaa
