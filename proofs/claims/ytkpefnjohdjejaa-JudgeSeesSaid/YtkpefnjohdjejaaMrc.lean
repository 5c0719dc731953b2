/-
  Contract of the reference's model: a copy.
-/
import Derived.Test.YtkpefnjohdjejaaMra
namespace Go.Proofs.Ytkpefnjohdjejaa
set_option maxRecDepth 100000
open Go.ChangeShapes Go.WideShapes Go.ChangeAt Go.RowKit

set_option maxHeartbeats 2000000 in
theorem rclone_is {D : List Nat} {g : Nat} {wl : List Int} {l : List Bk} {r : Int} (w : World) (h : Rm w D g wl l r) : Calls Try.prog 28 #[.pointer (some ⟨g, 0, none⟩)] w fun e w' =>
    (∃ x, e = .returned (.pointer (some ⟨x, 0, none⟩)) ∧ w.heap.size ≤ x ∧ x < w'.heap.size ∧ Rm w' (x :: D) x wl l r) ∧ Below w.heap.size w w' := by
  obtain ⟨_, hwl, _⟩ := h.len
  obtain ⟨v, hW, hv, _⟩ := h.rows
  obtain ⟨p, c, rfl, _, _, _⟩ := id hv
  have c0 : ∀ w', Below w.heap.size w w' → w'.cell? ⟨g, 0, none⟩ = some (.slice p wl.length c) := fun w' hb => by rw [hb.cell (p := ⟨g, 0, none⟩) hW.lt, Whole.at_ hW]; rfl
  have c1 : ∀ w', Below w.heap.size w w' → w'.cell? ⟨g, 1, none⟩ = some (.int .i64 r) := fun w' hb => by rw [hb.cell (p := ⟨g, 1, none⟩) hW.lt, Whole.at_ hW]; rfl
  have HV := Lib.hid (fun w' (hb : Below w.heap.size w w') => ru_below hv hb)
  have HL : Hid (([] : List Int).length + wl.length ≤ 1000000) := Lib.hid (by simp; omega)
  have FIN : Hid (∀ (wq : World) (uq : Value), Below w.heap.size w wq → OwnU w.heap.size wq uq wl → Rm (wq.alloc (.cells #[uq, .int .i64 r] 43)) (wq.heap.size :: D) wq.heap.size wl l r) := Lib.hid fun wq uq hb ho => by
    refine ⟨h.hB, h.ok, List.mem_cons_self .., fun k hk => ?_, uq, heap_alloc_new _ _, ru_below ho.ru (bal (Below.refl _ _)), ?_⟩
    · rw [size_alloc]
      rcases List.mem_cons.1 hk with rfl | hk
      · omega
      · have := h.dlt k hk
        have := hb.size
        omega
    · exact Far.more (D := D) (far_own_u ho h.dlt) (by rw [size_alloc]; omega) (Nat.le_refl _)
  clear hW hv hwl h
  go_enter Try.func28, Try.ntmps28
  go_wp2_with fail
  go_region_held3 (fun w' => Below w.heap.size w w')
    (first | assumption | exact (Below.refl _ _).drew | exact GB.out | exact bal (by assumption))
    (first
      | (refine step_app_u64 (o := ⟨some 7, _, _, _, _, _⟩) rfl (.const (.slice none 0 0)) (.tmp 6) rfl w.heap.size _ [] (by simp [Act.eval]) (own_nil_u _ _) (.slice p wl.length c) wl (by simp [Act.eval]) (HV.out _ (by assumption)) HL.out (Below.size (w := w) (B := w.heap.size) (by assumption)) ?_
         intro vb wb ob gb _
         rw [List.nil_append] at ob
         have OB := Lib.hid ob
         have GB := Lib.hid (below_app_u (B := w.heap.size) (by assumption) (Below.size (w := w) (B := w.heap.size) (by assumption)) (own_nil_u _ _) gb)
         obtain ⟨pb, cb, rfl⟩ := ob.shape
         clear ob gb))
  have FQ := Lib.hid (FIN.out wb _ GB.out OB.out)
  have BQ := Lib.hid (show Below w.heap.size w (wb.alloc (.cells #[.slice pb wl.length cb, .int .i64 r] 43)) from bal GB.out)
  have hs : w.heap.size ≤ wb.heap.size ∧ wb.heap.size < (wb.alloc (.cells #[.slice pb wl.length cb, .int .i64 r] 43)).heap.size := ⟨GB.out.size, by rw [size_alloc]; omega⟩
  have HS := Lib.hid hs
  clear hs
  go_wp2
  go_ret
  exact ⟨⟨_, rfl, HS.out.1, HS.out.2, FQ.out⟩, BQ.out⟩
end Go.Proofs.Ytkpefnjohdjejaa
