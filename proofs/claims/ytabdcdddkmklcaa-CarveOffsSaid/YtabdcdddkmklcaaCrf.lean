/-
  Contracts of package carve: noughts behind a header, the words that are written, the blocks behind the taking.
-/
import Derived.Test.YtabdcdddkmklcaaCre
import Derived.Deep.RegionLaw
namespace Go.Proofs.Ytabdcdddkmklcaa
set_option maxRecDepth 100000
open Go.RowKit

theorem rise_more (a : Int) (k : Nat) (x : Int) : rise a (List.replicate (k + 1) x) = rise a (List.replicate k x) ++ [⟨a + k, x⟩] := by
  rw [List.replicate_succ', rise_app, List.length_replicate]
  rfl
set_option maxHeartbeats 1000000 in
theorem noughts_is (b : Bk) (w : World) (h1 : 0 ≤ b.a) (h2 : b.a ≤ 512) (h3 : 2 ≤ b.s) (h4 : b.s ≤ 512) :
    Calls Try.prog 28 #[.agg (bc b)] w fun e w' => (∃ u, e = .returned u ∧ OwnA edE w.heap.size w' u (rise (b.a + 1) (List.replicate (b.s - 1).toNat 0))) ∧ Below w.heap.size w w' := by
  obtain ⟨⟨a, s, u⟩, hb⟩ : ∃ c, c = b := ⟨b, rfl⟩
  subst hb
  obtain ⟨W, hW, HW⟩ := blk_boxed w ⟨a, s, u⟩
  have c0 : W.cell? ⟨w.heap.size, 0, none⟩ = some (.int .i64 a) := HW.out.1.c0
  simp only at h1 h2 h3 h4 ⊢
  obtain ⟨z, rfl⟩ : ∃ z : Nat, a = z := ⟨a.toNat, by omega⟩
  obtain ⟨n, rfl⟩ : ∃ n : Nat, s = ((n + 1 : Nat) : Int) := ⟨(s - 1).toNat, by omega⟩
  have en : (((n + 1 : Nat) : Int) - 1).toNat = n := by omega
  rw [en]
  have HZ : Hid (z ≤ 512 ∧ n + 1 ≤ 512) := Lib.hid (by omega)
  have j0 : IntKind.i64.wrap ((z : Int) + 1) = ((z + 1 : Nat) : Int) := by rw [show (z : Int) + 1 = ((z + 1 : Nat) : Int) by omega]; exact i64_nat _ (by omega)
  have j1 : IntKind.i64.wrap ((z : Int) + ((n + 1 : Nat) : Int)) = ((z + (n + 1) : Nat) : Int) := by rw [show (z : Int) + ((n + 1 : Nat) : Int) = ((z + (n + 1) : Nat) : Int) by omega]; exact i64_nat _ (by omega)
  clear h1 h2 h3 h4 en
  obtain ⟨Z, hZ⟩ : ∃ Z, z + 1 = Z := ⟨_, rfl⟩
  obtain ⟨M, hM⟩ : ∃ M, n + 1 = M := ⟨_, rfl⟩
  rw [hZ] at j0
  rw [hM] at j1 hW HW
  obtain ⟨E, hE⟩ : ∃ E, z + M = E := ⟨_, rfl⟩
  rw [hE] at j1
  have eZ : (z : Int) + 1 = (Z : Int) := by omega
  rw [hM, eZ]
  have HM : Hid (z + 1 = Z ∧ n + 1 = M ∧ z + M = E) := Lib.hid ⟨hZ, hM, hE⟩
  clear hZ hM hE eZ
  go_enter Try.func28, Try.ntmps28
  go_wp2
  go_loopw [3, 4] (fun e x wr => ∃ k : Nat, k ≤ n ∧ x = .int .i64 ((Z + k : Nat) : Int) ∧ Hid (OwnA edE (w.heap.size + 1) wr e (rise (Z : Int) (List.replicate k 0)) ∧ Bv wr w.heap.size ⟨z, M, u⟩ ∧ Below w.heap.size w wr)) (fun _ x _ => E - (intOf x).toNat)
  case atStart => exact ⟨0, Nat.zero_le _, rfl, Lib.hid ⟨own_nil_a _ _ _, HW.out⟩⟩
  case round =>
    obtain ⟨k, hk, rfl, H⟩ := hrel
    have d0 : wr.cell? ⟨w.heap.size, 0, none⟩ = some (.int .i64 z) := H.out.2.1.c0
    have d1 : wr.cell? ⟨w.heap.size, 1, none⟩ = some (.int .i64 M) := H.out.2.1.c1
    by_cases hlt : k < n
    · have i1 : ((Z + k : Nat) : Int) < (E : Int) := by have := HM.out; omega
      have i3 : IntKind.i64.wrap (((Z + k : Nat) : Int) + 1) = ((Z + (k + 1) : Nat) : Int) := by rw [show ((Z + k : Nat) : Int) + 1 = ((Z + (k + 1) : Nat) : Int) by omega]; exact i64_nat _ (by have := HZ.out; have := HM.out; omega)
      obtain ⟨x, hx⟩ : ∃ x, Z + k = x := ⟨_, rfl⟩
      obtain ⟨y, hy⟩ : ∃ x, Z + (k + 1) = x := ⟨_, rfl⟩
      rw [hx] at i1 i3 ⊢
      rw [hy] at i3
      obtain ⟨W2, hW2, HW2⟩ := ed_boxed wr ⟨x, 0⟩
      have hB2 := Lib.hid (below_more H.out.2.2 HW2.out.2)
      have O2 := Lib.hid (H.out.1.below HW2.out.2)
      have V2 := Lib.hid (H.out.2.1.below HW2.out.2)
      have R2 : Hid (RA edE W2 (.slice (some ⟨wr.heap.size, 0, none⟩) 1 1) [⟨x, 0⟩]) := Lib.hid (by rw [← hW2]; exact (ed_one wr (c := ⟨x, 0⟩) (Ed.wf_of (by simp only; omega) (by have := HZ.out; have := HM.out; simp only; omega) (by simp only; omega) (by simp only; omega))).ra)
      have hlen : Hid ((rise (Z : Int) (List.replicate k 0)).length + [(⟨x, 0⟩ : Ed)].length ≤ 4000) := Lib.hid (by rw [rise_length, List.length_replicate]; simp; have := HZ.out; omega)
      have hR := rise_more (Z : Int) k 0
      rw [show (Z : Int) + k = (x : Int) by omega] at hR
      have HR := Lib.hid hR
      have HK := Lib.hid (And.intro hlt (And.intro hx hy))
      clear hlt hk hx hy hR
      go_wp2_with (at_builtin; refine app_ed rfl _ _ rfl _ _ _ rfl O2.out _ [⟨x, 0⟩] rfl R2.out hlen V2.out.lt ?_)
      intro v' w' ho hg hx
      have HN : Hid (OwnA edE (w.heap.size + 1) w' v' (rise (Z : Int) (List.replicate (k + 1) 0)) ∧ Bv w' w.heap.size ⟨z, M, u⟩ ∧ Below w.heap.size w w') := Lib.hid ⟨by rw [HR.out]; exact ho, (hg.block _ V2.out.lt (fun e => by have := (O2.out.lt _ e.symm).1; omega)).trans V2.out, below_app hB2.out hB2.out.size (O2.out.mono (Nat.le_succ _)) hg⟩
      clear ho hg hx
      go_wp2
      go_roundw
      case rel => exact ⟨k + 1, by have := HK.out; omega, by have := HK.out; go_num, HN⟩
      case measure => have := HK.out; have := HM.out; simp [intOf]; omega
    · obtain rfl : k = n := by omega
      have i1 : ¬ ((Z + k : Nat) : Int) < (E : Int) := by have := HM.out; omega
      generalize Z + k = x at *
      go_wp2
      go_ret
      exact ⟨⟨_, rfl, H.out.1.mono (Nat.le_succ _)⟩, H.out.2.2⟩
end Go.Proofs.Ytabdcdddkmklcaa
