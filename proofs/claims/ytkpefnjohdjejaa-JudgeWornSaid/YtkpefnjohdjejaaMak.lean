/-
  Contracts of package model: a block is taken where one is told.
-/
import Derived.Test.YtkpefnjohdjejaaMal
namespace Go.Proofs.Ytkpefnjohdjejaa
set_option maxRecDepth 100000
open Go.ChangeShapes Go.WideShapes Go.ChangeAt Go.RowKit

theorem fit_can {N : Int} {l : List Bk} {m : Int} (hm : mayL m l = true) {d : Nat} (hd : d ∈ fitN N l) : d < l.length ∧ canC l d N = true ∧ (l.getD d default).u = false ∧ N ≤ (l.getD d default).s ∧ 2 ≤ N := by
  obtain ⟨h1, h2, _⟩ := fitN_mem hd
  obtain ⟨hu, h3, h4⟩ := fitB_iff.1 h2
  refine ⟨h1, ?_, hu, h4, h3⟩
  rw [can_at hm h1 h3, hu, decide_eq_true h4]
  rfl
/-- which block is taken where one at that offset is asked for; what the words, the blocks are then -/
def alQ (N : Int) (l : List Bk) (o : Int) : Option Nat := (fitN N l).find? fun d => decide (offB (l.getD d default).a = o)
def alW (wl : List Int) (N : Int) (l : List Bk) (o : Int) : List Int := match alQ N l o with
  | none => wl
  | some d => appF wl (cedF l d N)
def alB (N : Int) (l : List Bk) (o : Int) : List Bk := match alQ N l o with
  | none => l
  | some d => crvF l d N
theorem malloc_nil (n o : Int) (w : World) : Calls Try.prog 43 #[.pointer none, .int .i64 n, .int .i64 o] w fun e w' => e = .returned (.bool false) ∧ Below w.heap.size w w' := by
  have C0 := Lib.hid (fun w => need_is n w)
  have C1 := Lib.hid (mfit_nil (needN n) w)
  generalize needN n = N at *
  go_enter Try.func43, Try.ntmps43
  go_wp2_with fail
  refine (C0.out _).mono ?_; rintro e w1 ⟨rfl, rfl⟩
  go_wp2_with fail
  refine (C1.out).mono ?_; rintro e w2 ⟨rfl, b2⟩
  have D2 := Lib.hid b2
  clear b2
  go_wp2
  go_loopw [16] (fun i wr => i = .int .i64 0 ∧ wr = w2) (fun _ _ => 0)
  case atStart => exact ⟨rfl, rfl⟩
  case round =>
    obtain ⟨rfl, rfl⟩ := hrel
    go_wp2
    go_ret
    exact ⟨rfl, D2.out⟩
set_option maxHeartbeats 2000000 in
theorem malloc_is {D : List Nat} {g : Nat} {wl : List Int} {l : List Bk} {r : Int} (n o : Int) (w : World) (h : Mo w D g wl l r) :
    Calls Try.prog 43 #[.pointer (some ⟨g, 0, none⟩), .int .i64 n, .int .i64 o] w fun e w' => e = .returned (.bool (alQ (needN n) l o).isSome) ∧ Mo w' D g (alW wl (needN n) l o) (alB (needN n) l o) r ∧ Chg [g] w w' := by
  obtain ⟨hlen, _, hm⟩ := h.len
  have hfl := fbl_len (needN n) l
  have C0 := Lib.hid (fun w => need_is n w)
  have C1 := Lib.hid (mfit_is (needN n) w h)
  generalize needN n = N at *
  obtain ⟨R, hR⟩ : ∃ R, alQ N l o = R := ⟨_, rfl⟩
  rw [hR]
  have NONE : Hid (R = none → ∀ w', Below w.heap.size w w' → Mo w' D g (alW wl N l o) (alB N l o) r ∧ Chg [g] w w') := Lib.hid fun hn w' hb => by
    rw [hn] at hR
    unfold alW alB
    rw [hR]
    exact ⟨h.below hb, Chg.of_below hb _⟩
  have SOME : Hid (∀ d, R = some d → ∃ z t : Nat, (l.getD d default).a = z ∧ takN (l.getD d default).s N = t ∧ (Lit.int .i64 (l.getD d default).s).wf = true ∧ ∀ w', Below w.heap.size w w' → Calls Try.prog 66 #[.pointer (some ⟨g, 0, none⟩), .int .i64 z, .int .i64 t] w' fun e w'' => e = .returned (.tuple #[]) ∧ Mo w'' D g (alW wl N l o) (alB N l o) r ∧ Chg [g] w' w'') := Lib.hid fun d hd => by
    rw [hd] at hR
    have hmem := List.mem_of_find?_eq_some hR
    obtain ⟨g1, g2, g3, g4, g5⟩ := fit_can hm hmem
    obtain ⟨_, z, t, m, e1, e2, _, _, _⟩ := taken h.hB h.ok g2
    have e1a : (l.getD d default).a = z := by rw [e1]
    have e1s : takN (l.getD d default).s N = t := by rw [e1]; exact e2
    obtain ⟨⟨q1, q2⟩, _⟩ := at_in hm g1
    refine ⟨z, t, e1a, e1s, i64_of (by omega) (by omega), fun w' hb => ?_⟩
    unfold alW alB
    rw [hR]
    exact mtake_is w' (h.below hb) g2 e1a e1s
  have HG := Lib.hid (show g < w.heap.size from h.dlt g h.gD)
  unfold alQ at hR
  unfold fbl at C1 hfl
  generalize fitN N l = F at *
  have HR := Lib.hid hR
  have HL := Lib.hid (show F.length ≤ 256 by rw [List.length_map] at hfl; omega)
  clear hlen hfl h hR hm
  go_enter Try.func43, Try.ntmps43
  go_wp2_with fail
  refine (C0.out _).mono ?_; rintro e w1 ⟨rfl, rfl⟩
  go_wp2_with fail
  refine (C1.out).mono ?_; rintro e w1 ⟨⟨v1, rfl, o1⟩, b1⟩
  have D1 := Lib.hid b1
  have O1 := Lib.hid o1.ra
  obtain ⟨pf, cf, rfl, _, _⟩ := ra_shape O1.out
  clear b1 o1 C1
  rw [List.length_map] at O1 ⊢
  go_wp2
  go_loopw [16] (fun i wr => ∃ (k : Nat), k ≤ F.length ∧ i = .int .i64 k ∧ Hid ((F.drop k).find? (fun d => decide (offB (l.getD d default).a = o)) = R ∧ Below w1.heap.size w1 wr)) (fun i _ => F.length - (intOf i).toNat)
  case atStart => exact ⟨0, Nat.zero_le _, rfl, Lib.hid ⟨by rw [List.drop_zero]; exact HR.out, Below.refl _ _⟩⟩
  case round =>
    obtain ⟨k, hk, rfl, H⟩ := hrel
    by_cases hlt : k < F.length
    · obtain ⟨b, off, rfl, _, hx⟩ := blk_at (ra_below O1.out H.out.2) (by rw [List.length_map]; omega)
      obtain ⟨hld, _, _, _, _⟩ := hx k (by rw [List.length_map]; exact hlt)
      have hF := H.out.1
      rw [getD_cut_n hlt, List.find?_cons] at hF
      rw [show (F.map fun i => l.getD i default).getD k default = l.getD (F.getD k 0) default by
        rw [List.getD_eq_getElem?_getD, List.getElem?_map, List.getD_eq_getElem?_getD (l := F), List.getElem?_eq_getElem hlt]; rfl] at hld
      have i0 : (0 : Int) ≤ (k : Int) := by omega
      have i1 : (k : Int) < (F.length : Int) := by omega
      have i2 : ¬ (k : Int) < 0 := by omega
      have i3 : IntKind.i64.wrap ((k : Int) + 1) = ((k + 1 : Nat) : Int) := by rw [show (k : Int) + 1 = ((k + 1 : Nat) : Int) by omega]; exact i64_nat _ (by have := HL.out; omega)
      have HK := Lib.hid hlt
      clear hk hx hlt
      generalize F.getD k 0 = I at *
      obtain ⟨X, hX⟩ : ∃ X, l.getD I default = X := ⟨_, rfl⟩
      obtain ⟨W, hW, HW⟩ := blk_boxed wr X
      have l0 := HW.out.1.load
      obtain ⟨x, hx⟩ : ∃ x, offB X.a = x := ⟨_, rfl⟩
      have C := Lib.hid (off_is X x hx W)
      rw [hX] at hF hld
      rw [hx] at hF
      clear hx
      by_cases hxo : x = o
      · rw [decide_eq_true hxo] at hF
        have e1 : (x == o) = true := by rw [hxo]; simp
        obtain ⟨z, t, ha, hs, hwf, ht⟩ := SOME.out I hF.symm
        rw [hX] at ha hs hwf
        have HT := Lib.hid ht
        have hne : Hid (wr.heap.size ∉ [g]) := Lib.hid (fun q => by
          have := List.mem_singleton.1 q
          have := HG.out
          have := D1.out.size
          have := H.out.2.size
          omega)
        obtain ⟨XX, s, u⟩ := X
        simp only at ha hs hwf
        subst ha
        have CTk := Lib.hid (fun w => takes_is s N t hwf hs w)
        subst hF
        clear hxo ht SOME hs hwf
        go_wp2_with fail
        refine (C.out).mono ?_; rintro e w2 ⟨rfl, b2⟩
        have B2 := Lib.hid (below_more D1.out (below_more H.out.2 (below_more HW.out.2 b2)))
        have V2 := Lib.hid (HW.out.1.below b2)
        have c0 : ∀ w', Chg [g] w2 w' → w'.cell? ⟨wr.heap.size, 0, none⟩ = some (.int .i64 (z : Int)) := fun w' hc => (V2.out.chg hc hne.out).c0
        have c1 : ∀ w', Chg [g] w2 w' → w'.cell? ⟨wr.heap.size, 1, none⟩ = some (.int .i64 s) := fun w' hc => (V2.out.chg hc hne.out).c1
        clear b2
        go_wp2_with fail
        go_region_held3 (fun w' => Chg [g] w2 w')
          (first | assumption | exact (Chg.refl _ _).drew)
          (first
            | (go_at_call 67; refine (CTk.out _).mono ?_; rintro e wz ⟨rfl, rfl⟩)
            | (go_at_call 66; refine (HT.out _ B2.out.drew).mono ?_; rintro e wy ⟨rfl, hM, hC⟩
               have HMO := Lib.hid hM
               have SC := hC.from_drew
               clear hM hC))
        have HCC := Lib.hid ((Chg.of_below B2.out [g]).trans SC)
        go_wp2
        go_ret
        exact ⟨rfl, HMO.out, HCC.out⟩
      · rw [decide_eq_false hxo] at hF
        have e1 : (x == o) = false := beq_eq_false_iff_ne.2 hxo
        have HF := Lib.hid hF
        clear hF hxo
        go_wp2_with fail
        refine (C.out).mono ?_; rintro e w2 ⟨rfl, b2⟩
        have B2 := Lib.hid (below_more H.out.2 (below_more HW.out.2 b2))
        clear b2
        go_wp2
        go_roundw
        case rel => exact ⟨k + 1, by have := HK.out; omega, by go_num, Lib.hid ⟨HF.out, B2.out⟩⟩
        case measure => have := HK.out; simp [intOf]; omega
    · obtain rfl : k = F.length := by omega
      have hF := H.out.1
      rw [List.drop_length, List.find?_nil] at hF
      subst hF
      have FN := Lib.hid (NONE.out rfl wr (below_more D1.out H.out.2))
      go_wp2
      go_ret
      exact ⟨rfl, FN.out⟩
end Go.Proofs.Ytkpefnjohdjejaa
