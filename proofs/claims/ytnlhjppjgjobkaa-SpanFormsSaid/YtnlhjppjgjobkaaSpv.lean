/-
  What every program must know of package span: the call of awake of darninglaw18.
-/
import Derived.Test.YtnlhjppjgjobkaaSpf
namespace Go.Proofs.Ytnlhjppjgjobkaa
set_option maxRecDepth 100000
open Go.RowKit

theorem pcs_six : pcs 6 4 = [⟨0, 6, 2⟩, ⟨1, 0, 2⟩] := by
  rw [pcs_more (by decide), show pcK 6 4 = 2 by decide, pcs_more (by decide), show pcK (6 + 2) (4 - 2) = 2 by decide, pcs_zero]
theorem rd_three : rdB [578437695752307201] 2 3 = [3, 4, 5] := by kernel_rfl
theorem str_three : strOfNums [3, 4, 5] = ⟨#[3, 4, 5]⟩ := by kernel_rfl
theorem ise_one {L : List Ed} (h : IsE [0] 1 1 (fun k => [(5 : Int)].getD k 0) L) : L = [⟨0, 1280⟩] := by
  refine h.one (c' := fun k => [(5 : Int)].getD k 0) ⟨by decide, fun j hj => ?_⟩ (fun _ _ => rfl)
  obtain rfl : j = 0 := by simpa using hj
  refine ⟨rfl, ⟨by decide, by decide⟩, fun k hk => ?_⟩
  rcases (by omega : k = 0 ∨ k = 1 ∨ k = 2 ∨ k = 3 ∨ k = 4 ∨ k = 5 ∨ k = 6 ∨ k = 7) with rfl | rfl | rfl | rfl | rfl | rfl | rfl | rfl <;> decide
theorem word_one (w : World) (x : Int) : ∃ W, w.alloc (.cells #[.int .u64 x] 41) = W ∧ Hid (RU W (.slice (some ⟨w.heap.size, 0, none⟩) 1 1) [x] ∧ Below w.heap.size w W) :=
  ⟨_, rfl, Lib.hid ⟨ru_one w x, bal (Below.refl _ _)⟩⟩
theorem byte_one (w : World) {x : Int} (h : By x) : ∃ W, w.alloc (.cells #[.int .u8 x] 5) = W ∧ Hid (RA byE W (.slice (some ⟨w.heap.size, 0, none⟩) 1 1) [x] ∧ Below w.heap.size w W) :=
  ⟨_, rfl, Lib.hid ⟨(by_one w h).ra, bal (Below.refl _ _)⟩⟩
set_option maxHeartbeats 2000000 in
theorem awake_any (w : World) : Calls Try.prog 8 #[] w fun e w' => e = .returned (.bool true) ∧ Below w.heap.size w w' := by
  have C1 := Lib.hid (pieces_yes 6 4 (by decide) (by decide) w)
  rw [pcs_six] at C1
  go_enter Try.func8, Try.ntmps8
  go_wp2_with fail
  refine (C1.out).mono ?_; rintro e w1 ⟨⟨v1, rfl, o1⟩, b1⟩
  obtain ⟨g1, k1, rfl, _, _, _, _⟩ := o1.block (by decide)
  have O1 := Lib.hid o1
  have D1 := Lib.hid b1
  clear o1 b1 C1
  obtain ⟨W1, hW1, H1⟩ := word_one w1 578437695752307201
  have C2 := Lib.hid (read_yes _ _ 2 3 W1 H1.out.1 (fun x hx => by obtain rfl := List.mem_singleton.1 hx; exact ⟨by decide, by decide⟩) (by decide) (by decide) (by decide))
  rw [rd_three] at C2
  go_wp2_with fail
  refine (C2.out).mono ?_; rintro e w2 ⟨⟨v2, rfl, o2⟩, b2⟩
  have O2 := Lib.hid o2
  have D2 := Lib.hid (below_more H1.out.2 b2)
  clear o2 b2 C2
  obtain ⟨W2, hW2, H2⟩ := word_one w2 0
  obtain ⟨W3, hW3, H3⟩ := byte_one W2 (x := 5) ⟨by decide, by decide⟩
  have C3 := Lib.hid (edits_yes [0] [5] _ _ 1 W3 (ru_below H2.out.1 H3.out.2) H3.out.1 (fun x hx => by obtain rfl := List.mem_singleton.1 hx; exact ⟨by decide, by decide⟩) (by decide) (by decide) (by decide))
  have hsz : W2.heap.size = w2.heap.size + 1 := by rw [← hW2]; simp
  rw [hsz] at C3
  go_wp2_with fail
  refine (C3.out).mono ?_; rintro e w3 ⟨⟨v3, L, rfl, o3, i3⟩, b3⟩
  obtain rfl := ise_one i3
  obtain ⟨g3, k3, rfl, _, _, _, _⟩ := o3.block (by decide)
  have B23 := Lib.hid (below_more H2.out.2 (below_more H3.out.2 b3))
  have D3 := Lib.hid (below_more D2.out B23.out)
  obtain ⟨_, _, e1, _, hp⟩ := pc_at (ra_below O1.out.ra D3.out) (by decide)
  cases e1
  have ld0 : (pcLoad (.pointer (some ⟨g1, 0, none⟩))).run Try.prog w3 = .ok (.agg (pc ⟨0, 6, 2⟩)) w3 := (hp 0 (by decide)).1
  have ld1 : (pcLoad (.pointer (some ⟨g1, 3, none⟩))).run Try.prog w3 = .ok (.agg (pc ⟨1, 0, 2⟩)) w3 := (hp 1 (by decide)).1
  have hs := run_strConv (ra_below O2.out.ra B23.out)
  rw [str_three] at hs
  obtain ⟨_, _, e3, _, he⟩ := ed_at o3.ra (by decide)
  cases e3
  have z3 : w3.cell? ⟨g3, 1, none⟩ = some (.int .u64 1280) := (he 0 (by decide)).2.2.1
  have q1 : eqP ⟨0, 6, 2⟩ ⟨0, 6, 2⟩ = true := by decide
  have q2 : eqP ⟨1, 0, 2⟩ ⟨1, 0, 2⟩ = true := by decide
  have DD := Lib.hid (below_more D1.out D3.out)
  clear o3 i3 b3 C3 hp he
  go_wp2_with fail
  go_ret
  exact ⟨rfl, DD.out⟩
end Go.Proofs.Ytnlhjppjgjobkaa
