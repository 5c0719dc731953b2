/-
  Headers of blocks written into words: what the statements write.
-/
import Derived.Test.YtlpbdnfecnochaaBka
import Derived.Test.YtlpbdnfecnochaaRu
import Derived.Deep.RegionLaw
namespace Go.Proofs.Ytlpbdnfecnochaa
set_option maxRecDepth 100000
open Go.RowKit

theorem wrF_take (w : List Int) {l : List Bk} {k : Nat} (hk : k < l.length) : wrF w (l.take (k + 1)) = (wrF w (l.take k)).set (l.getD k default).a.toNat (hdB (l.getD k default).s (l.getD k default).u) := by
  rw [List.take_add_one, wrF_app, List.getD_eq_getElem?_getD, List.getElem?_eq_getElem hk]
  rfl
theorem OwnU.drew {B : Nat} {w : World} {v : Value} {l : List Int} (h : OwnU B w v l) : OwnU B w.drew v l := h

set_option maxHeartbeats 1000000 in
theorem headers_is (n : Nat) (l : List Bk) (v : Value) (w : World) (hv : RA blkE w v l) (hm : mayL n l = true) :
    Calls Try.prog 17 #[v, .int .i64 n] w fun e w' => (∃ c, e = .returned (.slice (some ⟨w.heap.size, 0, none⟩) n c) ∧ OwnU w.heap.size w' (.slice (some ⟨w.heap.size, 0, none⟩) n c) (wrF (List.replicate n 0) l)) ∧ Below w.heap.size w w' := by
  obtain ⟨hmw, hf⟩ := mayL_yes.1 hm
  obtain ⟨h1, h2, _⟩ := hmw
  have h3 : n ≤ 512 := by omega
  have h4 : 8 ≤ n := by omega
  have he := mayF_end hf
  have hlen : l.length ≤ 512 := by omega
  have hmk := run_make_row' (P := Try.prog) 40 28 (.int .u64 0) 8 Try.underlying40 info_u64 rfl .i64 .i64 n (by omega) (by omega)
  obtain ⟨W, hW⟩ : ∃ W, w.alloc (.cells (madeCells #[.int .u64 0] n) 28) = W := ⟨_, rfl⟩
  have O := own_made_u w n (by unfold maxLen; omega)
  have B := bal (o := .cells (madeCells #[.int .u64 0] n) 28) (Below.refl w.heap.size w)
  rw [hW] at O B
  obtain ⟨p, cap, rfl, hlc, hcm⟩ := ra_shape hv
  have HO := Lib.hid O
  have HB := Lib.hid B
  have HV := Lib.hid hv
  have HF := Lib.hid hf
  have HL := Lib.hid hlen
  have j1 : ¬ (512 : Int) < (n : Int) := by omega
  have j2 : (0 : Int) < (n : Int) := by omega
  clear hv hm hf O B hlc hcm he hlen h1 h2
  go_enter Try.func17, Try.ntmps17
  go_wp2
  go_loopw [14] (fun i wr => ∃ k : Nat, k ≤ l.length ∧ i = .int .i64 k ∧ Hid (OwnU w.heap.size wr (.slice (some ⟨w.heap.size, 0, none⟩) n n) (wrF (List.replicate n 0) (l.take k)) ∧ Below w.heap.size w wr)) (fun i _ => l.length - (intOf i).toNat)
  case atStart => exact ⟨0, Nat.zero_le _, rfl, Lib.hid ⟨HO.out, HB.out⟩⟩
  case round =>
    obtain ⟨k, hk, rfl, H⟩ := hrel
    clear hmk hW
    by_cases hlt : k < l.length
    · obtain ⟨b, off, rfl, hb, hx⟩ := blk_at (ra_below HV.out H.out.2) (by omega)
      obtain ⟨hld, _, _, _, _⟩ := hx k hlt
      have hF : MayB (l.getD k default).s ∧ 0 ≤ (l.getD k default).a ∧ (l.getD k default).a + (l.getD k default).s ≤ n := mayF_sizes HF.out _ (by rw [List.getD_eq_getElem?_getD, List.getElem?_eq_getElem hlt]; exact List.getElem_mem hlt)
      have hT := wrF_take (List.replicate n 0) hlt
      generalize l.getD k default = x at *
      obtain ⟨xa, xs, xu⟩ := x
      obtain ⟨⟨f1, f2⟩, f3, f4⟩ := hF
      simp only at f1 f2 f3 f4
      obtain ⟨z, rfl⟩ : ∃ z : Nat, xa = z := ⟨xa.toNat, by omega⟩
      obtain ⟨W2, hW2, HW⟩ := blk_boxed wr ⟨z, xs, xu⟩
      have c0 : W2.cell? ⟨wr.heap.size, 0, none⟩ = some (.int .i64 z) := HW.out.1.c0
      have c1 : W2.cell? ⟨wr.heap.size, 1, none⟩ = some (.int .i64 xs) := HW.out.1.c1
      have c2 : W2.cell? ⟨wr.heap.size, 2, none⟩ = some (.bool xu) := HW.out.1.c2
      have hB2 := below_more H.out.2 HW.out.2
      have O2 := H.out.1.below HW.out.2
      obtain ⟨c3, z3⟩ := OwnU.cells O2.drew (j := z) (by rw [wrF_length, List.length_replicate]; omega)
      have own2 := OwnU.stored O2.drew z (hdB xs xu)
      have B3 : Below w.heap.size w (W2.drew.setCell ⟨w.heap.size, z, none⟩ (.int .u64 (hdB xs xu))) := hB2.drew.setCell (p := ⟨w.heap.size, z, none⟩) (Nat.le_refl _) _
      simp only [Int.toNat_natCast] at hT
      rw [← hT] at own2
      have H3 := Lib.hid (And.intro own2 B3)
      have C := Lib.hid (fun w => rwordb_is xs xu w)
      generalize hdB xs xu = hd at *
      generalize (wrF (List.replicate n 0) (l.take k)).getD z 0 = y at c3
      have i0 : (0 : Int) ≤ (k : Int) := by omega
      have i1 : (k : Int) < (l.length : Int) := by omega
      have i2 : ¬ (k : Int) < 0 := by omega
      have i3 : IntKind.i64.wrap ((k : Int) + 1) = ((k + 1 : Nat) : Int) := by rw [show (k : Int) + 1 = ((k + 1 : Nat) : Int) by omega]; exact i64_nat _ (by have := HL.out; omega)
      have i4 : (z : Int) ≥ 0 := by omega
      have i5 : (z : Int) < (n : Int) := by omega
      have i6 : ¬ (z : Int) < 0 := by omega
      have HK := Lib.hid hlt
      clear hx hk hb f1 f2 f3 f4 hB2 O2 own2 B3 hT
      go_wp2_with fail
      go_region_law (first
        | (go_simp; go_at_call 12; refine (C.out _).mono ?_; rintro e wq ⟨rfl, rfl⟩))
      all_goals
        go_wp2
        go_roundw
        case rel => exact ⟨k + 1, by have := HK.out; omega, by go_num, H3⟩
        case measure => have := HK.out; simp [intOf]; omega
    · obtain rfl : k = l.length := by omega
      have hF := H.out.1
      rw [List.take_length] at hF
      have HF := Lib.hid hF
      clear hF
      go_wp2
      go_ret
      exact ⟨⟨_, rfl, HF.out⟩, H.out.2⟩
end Go.Proofs.Ytlpbdnfecnochaa
