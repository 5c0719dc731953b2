/-
  Contract of the reference's Run.
-/
import Derived.Test.YtlgjfhjnfimahaaCas
import Derived.Deep.RegionLaw
import Derived.BigQuiet
namespace Go.Proofs.Ytlgjfhjnfimahaa
open Go.RowKit

/-- what is known of the world once the stack is copied: the copy tv, in w3 -/
structure Cp (wr w3 : World) (tv sv rv : Value) (row t : List Int) (kk nn : Int) : Prop where
  own : OwnI (wr.heap.size + 1) w3 tv t.reverse
  below : Below wr.heap.size wr w3
  size : wr.heap.size + 1 ≤ w3.heap.size
  s : RI w3 sv t.reverse
  row : RI w3 rv row
  k : w3.cell? ⟨wr.heap.size, 0, none⟩ = some (.int .i64 kk)
  n : w3.cell? ⟨wr.heap.size, 1, none⟩ = some (.int .i64 nn)

theorem cp_of {wr w3 : World} {B : Nat} {tv sv rv : Value} {row t : List Int} {kk nn : Int} (hs : OwnI B wr sv t.reverse) (hr : RI wr rv row)
    (ho : OwnI (wr.heap.size + 1) w3 tv ([] ++ t.reverse)) (hg : (wr.alloc (.cells #[.int .i64 kk, .int .i64 nn] 37)).grownBy w3 (Value.slice none 0 0).ownBlock) : Cp wr w3 tv sv rv row t kk nn := by
  have hb : Below wr.heap.size wr w3 := (bal (Below.refl _ _)).grown hg (by simp) (by intro k hk; cases hk)
  have hw : Whole (wr.alloc (.cells #[.int .i64 kk, .int .i64 nn] 37)) wr.heap.size 37 #[.int .i64 kk, .int .i64 nn] := heap_alloc_new wr _
  have hw3 := hw.grown hg (by simp [Value.ownBlock])
  exact ⟨by simpa using ho, hb, by have := hg.size; simpa using this, ri_below hs.ri hb, ri_below hr hb, by rw [hw3.at_]; rfl, by rw [hw3.at_]; rfl⟩

section
variable {wr w3 w4 : World} {tv sv rv : Value} {row t : List Int} {kk nn : Int}
theorem Cp.shape (h : Cp wr w3 tv sv rv row t kk nn) {N : Nat} (hN : t.length = N) : ∃ p c, tv = .slice p N c ∧ N ≤ c ∧ c ≤ maxLen := by
  obtain ⟨p, c, e, h1, h2, _⟩ := h.own.ri
  rw [List.length_reverse, hN] at e h1
  exact ⟨p, c, e, h1, h2⟩
theorem Cp.app (h : Cp wr w3 tv sv rv row t kk nn) {n : Nat} {v : Value} {o : Obj} {m : Nat} {xs : List Value} (hg : ((w3.drewN n).alloc o).grownBy w4 v.ownBlock) (ho : w3.ownsRow (wr.heap.size + 1) 3 1 v m xs) : Below wr.heap.size wr w4 := by
  have h1 : Below wr.heap.size wr ((w3.drewN n).alloc o) := bal (below_drewN h.below n)
  exact h1.grown hg h1.size (fun k hk => by have := (World.ownsRow.lt ho k hk).1; omega)
/-- the one on top of the stack, the two on top -/
theorem Cp.one {b : Int} {r : List Int} {p : Option Addr} {N c : Nat} (h : Cp wr w3 tv (.slice p N c) rv row (b :: r) kk nn) : ∃ g off, p = some ⟨g, off, none⟩ ∧ w3.cell? ⟨g, off + r.length, none⟩ = some (.int .i64 b) := by
  obtain ⟨g, off, rfl, _, hc⟩ := ri_some h.s (by simp)
  exact ⟨g, off, rfl, by rw [hc _ (by simp), rev_at0]⟩
theorem Cp.two {a b : Int} {r : List Int} {p : Option Addr} {N c : Nat} (h : Cp wr w3 tv (.slice p N c) rv row (b :: a :: r) kk nn) :
    ∃ g off, p = some ⟨g, off, none⟩ ∧ w3.cell? ⟨g, off + r.length, none⟩ = some (.int .i64 a) ∧ w3.cell? ⟨g, off + (r.length + 1), none⟩ = some (.int .i64 b) := by
  obtain ⟨g, off, rfl, _, hc⟩ := ri_some h.s (by simp)
  refine ⟨g, off, rfl, ?_, ?_⟩
  · rw [hc _ (by simp), rev_at1]
  · rw [hc _ (by simp), show r.length + 1 = (a :: r).length from rfl, rev_at0]
theorem Cp.upto {N R c : Nat} {p : Option Addr} {r : List Int} (h : Cp wr w3 (.slice p N c) sv rv row t kk nn) (ht : t.reverse.take R = r.reverse) (hle : R ≤ t.length) : OwnI (wr.heap.size + 1) w3 (.slice p R c) r.reverse := by
  have := h.own.upto (k := R) (by rw [List.length_reverse]; exact hle)
  rw [ht] at this; exact this
end

set_option maxRecDepth 100000 in
set_option maxHeartbeats 16000000 in
theorem rrun_walk (rv lv : Value) (row : List Int) (l : List (Int × Int)) (w : World) (hr : RI w rv row) (hl : RL w lv l) (hsm : l.length ≤ 1000000) :
    Calls Try.prog 14 #[rv, lv] w fun e w' => ∃ v, e = .returned (.tuple #[v, .int .i64 ((run row [] 0 l).2.1 : Nat), .bool (run row [] 0 l).2.2]) ∧ OwnI w.heap.size w' v (run row [] 0 l).1.reverse ∧ Below w.heap.size w w' := by
  have HR := Lib.hid hr
  have HL := Lib.hid hl
  obtain ⟨q, cl, rfl, _⟩ := hr
  obtain ⟨q2, cl2, rfl, hl2, _⟩ := hl
  obtain ⟨B, hB⟩ : ∃ B, B = w.heap.size := ⟨_, rfl⟩
  have HE := Lib.hid hB
  rw [← hB]
  have R0 : Hid (Below B w w) := Lib.hid (Below.refl _ _)
  clear hB
  go_enter Try.func14, Try.ntmps14
  go_wp2
  go_loopw [7, 15] (fun s i wr => ∃ (k : Nat) (t : List Int), k ≤ l.length ∧ i = .int .i64 k ∧ OwnI B wr s t.reverse ∧ t.length ≤ 1000 ∧ Below B w wr ∧ run row [] 0 l = run row t k (l.drop k)) (fun _ i _ => l.length - (intOf i).toNat)
  case atStart => exact ⟨0, [], Nat.zero_le _, rfl, own_nil _ _, by simp, R0.out, rfl⟩
  case round =>
    clear R0
    obtain ⟨k, t, hk, rfl, hown, hlen, hbel, hrun⟩ := hrel
    have hsz : B ≤ wr.heap.size := by have := hbel.size; rw [← HE.out] at this; exact this
    have HRW := Lib.hid (ri_below HR.out (by rw [← HE.out]; exact hbel))
    have HBel := Lib.hid hbel
    obtain ⟨p, c, hsv⟩ := hown.shape
    obtain ⟨N, hN⟩ : ∃ N, t.length = N := ⟨_, rfl⟩
    have HN := Lib.hid hN
    rw [List.length_reverse, hN] at hsv
    subst hsv
    have HO := Lib.hid hown
    by_cases hlt : k < l.length
    · obtain ⟨q', cl', e', _, _, h' | ⟨b0, off0, rfl, hc⟩⟩ := rl_below HL.out (by rw [← HE.out]; exact hbel)
      · subst h'; simp at hlt
      obtain ⟨rfl, rfl⟩ : q2 = some ⟨b0, off0, none⟩ ∧ cl2 = cl' := by cases e'; exact ⟨rfl, rfl⟩
      obtain ⟨hc1, hc2'⟩ := hc k hlt
      have hc2 : wr.cell? ⟨b0, off0 + k * 2 + 1, none⟩ = some (.int .i64 (l.getD k (0, 0)).2) := hc2'
      have LB : Hid (([] : List Int).length + t.reverse.length ≤ 1000000) := Lib.hid (by simp; omega)
      have hcase := stp_case row t (l.getD k (0, 0)).1 (l.getD k (0, 0)).2 hlen
      have hkl : k + 1 ≤ l.length := hlt
      have HTL := Lib.hid fun t' (h : stp row t (l.getD k (0, 0)).1 (l.getD k (0, 0)).2 = some t') => stp_length h hlen
      rw [hN] at hlen
      cases hs : stp row t (l.getD k (0, 0)).1 (l.getD k (0, 0)).2 with
      | none =>
        have HRN := Lib.hid (hrun.trans (run_none hlt hs))
        rw [hs] at hcase
        generalize (l.getD k (0, 0)).2 = nn at *
        obtain ⟨kk, hkk⟩ : ∃ kk, (l.getD k (0, 0)).1 = kk := ⟨_, rfl⟩
        rw [hkk] at hc1 hcase
        clear hown hbel hrun hs hc e' hc2' hkk hN HTL
        cases hcase with
        | full h =>
          obtain rfl : N = 1000 := by rw [← HN.out]; exact h
          clear h
          have LB2 : Hid (t.reverse.length + [nn].length ≤ 1000000) := Lib.hid (by have := HN.out; simp; omega)
          go_wp2_with (first
            | (at_builtin
               refine list_app_int (o := ⟨some 23, _, _, _, _, _⟩) rfl (.const (.slice none 0 0)) (.tmp 22) rfl (wr.heap.size + 1) (.slice none 0 0) [] rfl (own_nil _ _) _ (t).reverse rfl (ri_below HO.out.ri (bal (Below.refl _ _))) LB.out (by simp) ?_
               intro tv w3 ot gt _
               have CP := Lib.hid (cp_of HO.out HRW.out ot gt)
               obtain ⟨p3, c3, rfl, hc3, hm3⟩ := CP.out.shape HN.out
               unfold maxLen at hm3
               have k0 := CP.out.k
               have n0 := CP.out.n
               clear ot gt)
            | (at_builtin
               refine list_app_int (o := ⟨some 32, _, _, _, _, _⟩) rfl (.tmp 28) (.tmp 31) rfl (wr.heap.size + 1) (.slice p3 1000 c3) t.reverse rfl (World.ownsRow.alloc CP.out.own _) _ [nn] rfl (ri_one (w3.drewN 0) (nn)) LB2.out (by have := CP.out.size; simp; omega) ?_
               intro tv2 w4 o4 g4 _
               have HW := Lib.hid (CP.out.app (n := 0) g4 CP.out.own)
               have O4 := Lib.hid o4
               have g5 := o4.shape
               obtain ⟨p5, c5, rfl⟩ := g5
               clear o4 g4))
          go_ret3
          rw [HRN.out]
          exact ⟨_, rfl, HO.out.below HW.out, HBel.out.trans (HW.out.mono hsz)⟩
        | add_short h =>
          have hN1 : N < 2 := by rw [← HN.out]; exact h
          have hN2 : ¬ (2 : Int) ≤ (N : Int) := by omega
          clear h
          go_wp2_with (first
            | (at_builtin
               refine list_app_int (o := ⟨some 23, _, _, _, _, _⟩) rfl (.const (.slice none 0 0)) (.tmp 22) rfl (wr.heap.size + 1) (.slice none 0 0) [] rfl (own_nil _ _) _ (t).reverse rfl (ri_below HO.out.ri (bal (Below.refl _ _))) LB.out (by simp) ?_
               intro tv w3 ot gt _
               have CP := Lib.hid (cp_of HO.out HRW.out ot gt)
               obtain ⟨p3, c3, rfl, hc3, hm3⟩ := CP.out.shape HN.out
               unfold maxLen at hm3
               have k0 := CP.out.k
               have n0 := CP.out.n
               clear ot gt))
          have HW := Lib.hid CP.out.below
          go_ret3
          rw [HRN.out]
          exact ⟨_, rfl, HO.out.below HW.out, HBel.out.trans (HW.out.mono hsz)⟩
        | div_short h =>
          have hN1 : N < 2 := by rw [← HN.out]; exact h
          have hN2 : ¬ (2 : Int) ≤ (N : Int) := by omega
          clear h
          go_wp2_with (first
            | (at_builtin
               refine list_app_int (o := ⟨some 23, _, _, _, _, _⟩) rfl (.const (.slice none 0 0)) (.tmp 22) rfl (wr.heap.size + 1) (.slice none 0 0) [] rfl (own_nil _ _) _ (t).reverse rfl (ri_below HO.out.ri (bal (Below.refl _ _))) LB.out (by simp) ?_
               intro tv w3 ot gt _
               have CP := Lib.hid (cp_of HO.out HRW.out ot gt)
               obtain ⟨p3, c3, rfl, hc3, hm3⟩ := CP.out.shape HN.out
               unfold maxLen at hm3
               have k0 := CP.out.k
               have n0 := CP.out.n
               clear ot gt))
          have HW := Lib.hid CP.out.below
          go_ret3
          rw [HRN.out]
          exact ⟨_, rfl, HO.out.below HW.out, HBel.out.trans (HW.out.mono hsz)⟩
        | place_nil h =>
          subst h
          obtain rfl : N = 0 := HN.out.symm
          go_wp2_with (first
            | (at_builtin
               refine list_app_int (o := ⟨some 23, _, _, _, _, _⟩) rfl (.const (.slice none 0 0)) (.tmp 22) rfl (wr.heap.size + 1) (.slice none 0 0) [] rfl (own_nil _ _) _ (([] : List Int)).reverse rfl (ri_below HO.out.ri (bal (Below.refl _ _))) LB.out (by simp) ?_
               intro tv w3 ot gt _
               have CP := Lib.hid (cp_of HO.out HRW.out ot gt)
               obtain ⟨p3, c3, rfl, hc3, hm3⟩ := CP.out.shape HN.out
               unfold maxLen at hm3
               have k0 := CP.out.k
               have n0 := CP.out.n
               clear ot gt))
          have HW := Lib.hid CP.out.below
          go_ret3
          rw [HRN.out]
          exact ⟨_, rfl, HO.out.below HW.out, HBel.out.trans (HW.out.mono hsz)⟩
        | drop_nil h =>
          subst h
          obtain rfl : N = 0 := HN.out.symm
          go_wp2_with (first
            | (at_builtin
               refine list_app_int (o := ⟨some 23, _, _, _, _, _⟩) rfl (.const (.slice none 0 0)) (.tmp 22) rfl (wr.heap.size + 1) (.slice none 0 0) [] rfl (own_nil _ _) _ (([] : List Int)).reverse rfl (ri_below HO.out.ri (bal (Below.refl _ _))) LB.out (by simp) ?_
               intro tv w3 ot gt _
               have CP := Lib.hid (cp_of HO.out HRW.out ot gt)
               obtain ⟨p3, c3, rfl, hc3, hm3⟩ := CP.out.shape HN.out
               unfold maxLen at hm3
               have k0 := CP.out.k
               have n0 := CP.out.n
               clear ot gt))
          have HW := Lib.hid CP.out.below
          go_ret3
          rw [HRN.out]
          exact ⟨_, rfl, HO.out.below HW.out, HBel.out.trans (HW.out.mono hsz)⟩
        | other h1 h2 h3 h4 h5 =>
          go_wp2_with (first
            | (at_builtin
               refine list_app_int (o := ⟨some 23, _, _, _, _, _⟩) rfl (.const (.slice none 0 0)) (.tmp 22) rfl (wr.heap.size + 1) (.slice none 0 0) [] rfl (own_nil _ _) _ (t).reverse rfl (ri_below HO.out.ri (bal (Below.refl _ _))) LB.out (by simp) ?_
               intro tv w3 ot gt _
               have CP := Lib.hid (cp_of HO.out HRW.out ot gt)
               obtain ⟨p3, c3, rfl, hc3, hm3⟩ := CP.out.shape HN.out
               unfold maxLen at hm3
               have k0 := CP.out.k
               have n0 := CP.out.n
               clear ot gt))
          have HW := Lib.hid CP.out.below
          go_ret3
          rw [HRN.out]
          exact ⟨_, rfl, HO.out.below HW.out, HBel.out.trans (HW.out.mono hsz)⟩
        | div0 a r h =>
          subst h
          obtain ⟨R, hR⟩ : ∃ R, r.length = R := ⟨_, rfl⟩
          obtain ⟨K, hK⟩ : ∃ K, r.length + 1 = K := ⟨_, rfl⟩
          have hx : N = K + 1 ∧ K = R + 1 := by have := HN.out; simp only [List.length_cons] at this; omega
          have e1 : (N : Int) - 1 = (K : Int) := by omega
          have e2 : (N : Int) - 2 = (R : Int) := by omega
          have b1 : R < N := by omega
          have b2 : (R : Int) < (N : Int) := by omega
          have b3 : (2 : Int) ≤ (N : Int) := by omega
          have b4 : (K : Int) < (N : Int) := by omega
          have b5 : K < N := by omega
          have e3 : IntKind.i64.wrap (R : Int) = (R : Int) := IntWalk.i64_in _ (by omega)
          have e4 : IntKind.i64.wrap (K : Int) = (K : Int) := IntWalk.i64_in _ (by omega)
          have HRR := Lib.hid hR
          have HKK := Lib.hid hK
          have HXX := Lib.hid hx
          clear hR hK hx
          go_wp2_with (first
            | (at_builtin
               refine list_app_int (o := ⟨some 23, _, _, _, _, _⟩) rfl (.const (.slice none 0 0)) (.tmp 22) rfl (wr.heap.size + 1) (.slice none 0 0) [] rfl (own_nil _ _) _ (0 :: a :: r).reverse rfl (ri_below HO.out.ri (bal (Below.refl _ _))) LB.out (by simp) ?_
               intro tv w3 ot gt _
               have CP := Lib.hid (cp_of HO.out HRW.out ot gt)
               obtain ⟨p3, c3, rfl, hc3, hm3⟩ := CP.out.shape HN.out
               unfold maxLen at hm3
               have k0 := CP.out.k
               have n0 := CP.out.n
               obtain ⟨g, off, hp, ca, cb⟩ := CP.out.two
               rw [HKK.out] at cb
               rw [HRR.out] at ca
               subst hp
               clear ot gt))
          have HW := Lib.hid CP.out.below
          go_ret3
          rw [HRN.out]
          exact ⟨_, rfl, HO.out.below HW.out, HBel.out.trans (HW.out.mono hsz)⟩
        | place_low b r h hb =>
          subst h
          obtain ⟨R, hR⟩ : ∃ R, r.length = R := ⟨_, rfl⟩
          have hx : N = R + 1 := by have := HN.out; simp only [List.length_cons] at this; omega
          have e1 : (N : Int) - 1 = (R : Int) := by omega
          have b1 : R < N := by omega
          have b2 : (R : Int) < (N : Int) := by omega
          have b3 : (1 : Int) ≤ (N : Int) := by omega
          have e3 : IntKind.i64.wrap (R : Int) = (R : Int) := IntWalk.i64_in _ (by omega)
          have HRR := Lib.hid hR
          have HXX := Lib.hid hx
          clear hR hx
          have hb2 : ¬ (0 : Int) ≤ b := by omega
          go_wp2_with (first
            | (at_builtin
               refine list_app_int (o := ⟨some 23, _, _, _, _, _⟩) rfl (.const (.slice none 0 0)) (.tmp 22) rfl (wr.heap.size + 1) (.slice none 0 0) [] rfl (own_nil _ _) _ (b :: r).reverse rfl (ri_below HO.out.ri (bal (Below.refl _ _))) LB.out (by simp) ?_
               intro tv w3 ot gt _
               have CP := Lib.hid (cp_of HO.out HRW.out ot gt)
               obtain ⟨p3, c3, rfl, hc3, hm3⟩ := CP.out.shape HN.out
               unfold maxLen at hm3
               have k0 := CP.out.k
               have n0 := CP.out.n
               obtain ⟨g, off, hp, cb⟩ := CP.out.one
               rw [HRR.out] at cb
               subst hp
               clear ot gt))
          have HW := Lib.hid CP.out.below
          go_ret3
          rw [HRN.out]
          exact ⟨_, rfl, HO.out.below HW.out, HBel.out.trans (HW.out.mono hsz)⟩
        | place_high b r h hb =>
          subst h
          obtain ⟨R, hR⟩ : ∃ R, r.length = R := ⟨_, rfl⟩
          have hx : N = R + 1 := by have := HN.out; simp only [List.length_cons] at this; omega
          have e1 : (N : Int) - 1 = (R : Int) := by omega
          have b1 : R < N := by omega
          have b2 : (R : Int) < (N : Int) := by omega
          have b3 : (1 : Int) ≤ (N : Int) := by omega
          have e3 : IntKind.i64.wrap (R : Int) = (R : Int) := IntWalk.i64_in _ (by omega)
          have HRR := Lib.hid hR
          have HXX := Lib.hid hx
          clear hR hx
          have hb2 : ¬ b < (row.length : Int) := by omega
          have hb3 : (0 : Int) ≤ b := by omega
          go_wp2_with (first
            | (at_builtin
               refine list_app_int (o := ⟨some 23, _, _, _, _, _⟩) rfl (.const (.slice none 0 0)) (.tmp 22) rfl (wr.heap.size + 1) (.slice none 0 0) [] rfl (own_nil _ _) _ (b :: r).reverse rfl (ri_below HO.out.ri (bal (Below.refl _ _))) LB.out (by simp) ?_
               intro tv w3 ot gt _
               have CP := Lib.hid (cp_of HO.out HRW.out ot gt)
               obtain ⟨p3, c3, rfl, hc3, hm3⟩ := CP.out.shape HN.out
               unfold maxLen at hm3
               have k0 := CP.out.k
               have n0 := CP.out.n
               obtain ⟨g, off, hp, cb⟩ := CP.out.one
               rw [HRR.out] at cb
               subst hp
               clear ot gt))
          have HW := Lib.hid CP.out.below
          go_ret3
          rw [HRN.out]
          exact ⟨_, rfl, HO.out.below HW.out, HBel.out.trans (HW.out.mono hsz)⟩
      | some t' =>
        have HRS := Lib.hid (hrun.trans (run_some hlt hs))
        have HTL' := Lib.hid (HTL.out _ hs)
        rw [hs] at hcase
        generalize (l.getD k (0, 0)).2 = nn at *
        obtain ⟨kk, hkk⟩ : ∃ kk, (l.getD k (0, 0)).1 = kk := ⟨_, rfl⟩
        rw [hkk] at hc1 hcase
        clear hown hbel hrun hs hc e' hc2' hkk hN HTL
        cases hcase with
        | push h =>
          have hN1 : N < 1000 := by rw [← HN.out]; exact h
          have hN2 : (N : Int) < 1000 := by omega
          clear h
          have LB2 : Hid (t.reverse.length + [nn].length ≤ 1000000) := Lib.hid (by have := HN.out; simp; omega)
          go_wp2_with (first
            | (at_builtin
               refine list_app_int (o := ⟨some 23, _, _, _, _, _⟩) rfl (.const (.slice none 0 0)) (.tmp 22) rfl (wr.heap.size + 1) (.slice none 0 0) [] rfl (own_nil _ _) _ (t).reverse rfl (ri_below HO.out.ri (bal (Below.refl _ _))) LB.out (by simp) ?_
               intro tv w3 ot gt _
               have CP := Lib.hid (cp_of HO.out HRW.out ot gt)
               obtain ⟨p3, c3, rfl, hc3, hm3⟩ := CP.out.shape HN.out
               unfold maxLen at hm3
               have k0 := CP.out.k
               have n0 := CP.out.n
               clear ot gt)
            | (at_builtin
               refine list_app_int (o := ⟨some 32, _, _, _, _, _⟩) rfl (.tmp 28) (.tmp 31) rfl (wr.heap.size + 1) (.slice p3 N c3) t.reverse rfl (World.ownsRow.alloc CP.out.own _) _ [nn] rfl (ri_one (w3.drewN 0) (nn)) LB2.out (by have := CP.out.size; simp; omega) ?_
               intro tv2 w4 o4 g4 _
               have HW := Lib.hid (CP.out.app (n := 0) g4 CP.out.own)
               have O4 := Lib.hid o4
               have g5 := o4.shape
               obtain ⟨p5, c5, rfl⟩ := g5
               clear o4 g4))
          go_roundw
          case rel => exact ⟨k + 1, _, by omega, by go_num, (by simpa using O4.out.mono (show B ≤ wr.heap.size + 1 by omega)), HTL'.out, HBel.out.trans (HW.out.mono hsz), HRS.out⟩
          case measure => simp [intOf]; omega
        | add b a r h =>
          subst h
          obtain ⟨R, hR⟩ : ∃ R, r.length = R := ⟨_, rfl⟩
          obtain ⟨K, hK⟩ : ∃ K, r.length + 1 = K := ⟨_, rfl⟩
          have hx : N = K + 1 ∧ K = R + 1 := by have := HN.out; simp only [List.length_cons] at this; omega
          have e1 : (N : Int) - 1 = (K : Int) := by omega
          have e2 : (N : Int) - 2 = (R : Int) := by omega
          have b1 : R < N := by omega
          have b2 : (R : Int) < (N : Int) := by omega
          have b3 : (2 : Int) ≤ (N : Int) := by omega
          have b4 : (K : Int) < (N : Int) := by omega
          have b5 : K < N := by omega
          have e3 : IntKind.i64.wrap (R : Int) = (R : Int) := IntWalk.i64_in _ (by omega)
          have e4 : IntKind.i64.wrap (K : Int) = (K : Int) := IntWalk.i64_in _ (by omega)
          have HRR := Lib.hid hR
          have HKK := Lib.hid hK
          have HXX := Lib.hid hx
          clear hR hK hx
          have wr1 : IntKind.i64.wrap (a + b) = wrapI (a + b) := IntKind.wrap_i64 _
          have LB2 : Hid (r.reverse.length + [wrapI (a + b)].length ≤ 1000000) := Lib.hid (by have := HRR.out; simp; omega)
          go_wp2_with (first
            | (at_builtin
               refine list_app_int (o := ⟨some 23, _, _, _, _, _⟩) rfl (.const (.slice none 0 0)) (.tmp 22) rfl (wr.heap.size + 1) (.slice none 0 0) [] rfl (own_nil _ _) _ (b :: a :: r).reverse rfl (ri_below HO.out.ri (bal (Below.refl _ _))) LB.out (by simp) ?_
               intro tv w3 ot gt _
               have CP := Lib.hid (cp_of HO.out HRW.out ot gt)
               obtain ⟨p3, c3, rfl, hc3, hm3⟩ := CP.out.shape HN.out
               unfold maxLen at hm3
               have k0 := CP.out.k
               have n0 := CP.out.n
               obtain ⟨g, off, hp, ca, cb⟩ := CP.out.two
               rw [HKK.out] at cb
               rw [HRR.out] at ca
               subst hp
               clear ot gt))
          have HU := Lib.hid (CP.out.upto (R := R) (r := r) (by rw [← HRR.out, rev_take1]) (by have := HRR.out; simp; omega))
          have hRc : R ≤ c3 := by omega
          have hRc2 : (R : Int) ≤ (c3 : Int) := by omega
          go_region_law (first
            | (refine step_app_int (o := ⟨some 56, _, _, _, _, _⟩) rfl (.tmp 43) (.tmp 55) rfl (wr.heap.size + 1) (.slice p3 R c3) r.reverse (by simp [Act.eval]) (World.ownsRow.alloc HU.out _) _ [wrapI (a + b)] (by simp [Act.eval]) (ri_one w3.drew (wrapI (a + b))) LB2.out (by have := CP.out.size; simp; omega) ?_
               intro tv2 w4 o4 g4 _
               have HW := Lib.hid (CP.out.app (n := 1) g4 HU.out)
               have O4 := Lib.hid o4
               have g5 := o4.shape
               obtain ⟨p5, c5, rfl⟩ := g5
               clear o4 g4))
          all_goals
            go_wp2
            go_roundw
            case rel => exact ⟨k + 1, _, by omega, by go_num, (by simpa using O4.out.mono (show B ≤ wr.heap.size + 1 by omega)), HTL'.out, HBel.out.trans (HW.out.mono hsz), HRS.out⟩
            case measure => simp [intOf]; omega
        | div b a r h hb =>
          subst h
          obtain ⟨R, hR⟩ : ∃ R, r.length = R := ⟨_, rfl⟩
          obtain ⟨K, hK⟩ : ∃ K, r.length + 1 = K := ⟨_, rfl⟩
          have hx : N = K + 1 ∧ K = R + 1 := by have := HN.out; simp only [List.length_cons] at this; omega
          have e1 : (N : Int) - 1 = (K : Int) := by omega
          have e2 : (N : Int) - 2 = (R : Int) := by omega
          have b1 : R < N := by omega
          have b2 : (R : Int) < (N : Int) := by omega
          have b3 : (2 : Int) ≤ (N : Int) := by omega
          have b4 : (K : Int) < (N : Int) := by omega
          have b5 : K < N := by omega
          have e3 : IntKind.i64.wrap (R : Int) = (R : Int) := IntWalk.i64_in _ (by omega)
          have e4 : IntKind.i64.wrap (K : Int) = (K : Int) := IntWalk.i64_in _ (by omega)
          have HRR := Lib.hid hR
          have HKK := Lib.hid hK
          have HXX := Lib.hid hx
          clear hR hK hx
          have wr1 : IntKind.i64.wrap (a.tdiv b) = wrapI (a.tdiv b) := IntKind.wrap_i64 _
          have LB2 : Hid (r.reverse.length + [wrapI (a.tdiv b)].length ≤ 1000000) := Lib.hid (by have := HRR.out; simp; omega)
          go_wp2_with (first
            | (at_builtin
               refine list_app_int (o := ⟨some 23, _, _, _, _, _⟩) rfl (.const (.slice none 0 0)) (.tmp 22) rfl (wr.heap.size + 1) (.slice none 0 0) [] rfl (own_nil _ _) _ (b :: a :: r).reverse rfl (ri_below HO.out.ri (bal (Below.refl _ _))) LB.out (by simp) ?_
               intro tv w3 ot gt _
               have CP := Lib.hid (cp_of HO.out HRW.out ot gt)
               obtain ⟨p3, c3, rfl, hc3, hm3⟩ := CP.out.shape HN.out
               unfold maxLen at hm3
               have k0 := CP.out.k
               have n0 := CP.out.n
               obtain ⟨g, off, hp, ca, cb⟩ := CP.out.two
               rw [HKK.out] at cb
               rw [HRR.out] at ca
               subst hp
               clear ot gt))
          have HU := Lib.hid (CP.out.upto (R := R) (r := r) (by rw [← HRR.out, rev_take1]) (by have := HRR.out; simp; omega))
          have hRc : R ≤ c3 := by omega
          have hRc2 : (R : Int) ≤ (c3 : Int) := by omega
          go_region_law (first
            | (refine step_app_int (o := ⟨some 86, _, _, _, _, _⟩) rfl (.tmp 73) (.tmp 85) rfl (wr.heap.size + 1) (.slice p3 R c3) r.reverse (by simp [Act.eval]) (World.ownsRow.alloc HU.out _) _ [wrapI (a.tdiv b)] (by simp [Act.eval]) (ri_one w3.drew (wrapI (a.tdiv b))) LB2.out (by have := CP.out.size; simp; omega) ?_
               intro tv2 w4 o4 g4 _
               have HW := Lib.hid (CP.out.app (n := 1) g4 HU.out)
               have O4 := Lib.hid o4
               have g5 := o4.shape
               obtain ⟨p5, c5, rfl⟩ := g5
               clear o4 g4))
          all_goals
            go_wp2
            go_roundw
            case rel => exact ⟨k + 1, _, by omega, by go_num, (by simpa using O4.out.mono (show B ≤ wr.heap.size + 1 by omega)), HTL'.out, HBel.out.trans (HW.out.mono hsz), HRS.out⟩
            case measure => simp [intOf]; omega
        | drop b _ h =>
          subst h
          obtain ⟨R, hR⟩ : ∃ R, t'.length = R := ⟨_, rfl⟩
          have hx : N = R + 1 := by have := HN.out; simp only [List.length_cons] at this; omega
          have e1 : (N : Int) - 1 = (R : Int) := by omega
          have b1 : R < N := by omega
          have b2 : (R : Int) < (N : Int) := by omega
          have b3 : (1 : Int) ≤ (N : Int) := by omega
          have e3 : IntKind.i64.wrap (R : Int) = (R : Int) := IntWalk.i64_in _ (by omega)
          have HRR := Lib.hid hR
          have HXX := Lib.hid hx
          clear hR hx
          go_wp2_with (first
            | (at_builtin
               refine list_app_int (o := ⟨some 23, _, _, _, _, _⟩) rfl (.const (.slice none 0 0)) (.tmp 22) rfl (wr.heap.size + 1) (.slice none 0 0) [] rfl (own_nil _ _) _ (b :: t').reverse rfl (ri_below HO.out.ri (bal (Below.refl _ _))) LB.out (by simp) ?_
               intro tv w3 ot gt _
               have CP := Lib.hid (cp_of HO.out HRW.out ot gt)
               obtain ⟨p3, c3, rfl, hc3, hm3⟩ := CP.out.shape HN.out
               unfold maxLen at hm3
               have k0 := CP.out.k
               have n0 := CP.out.n
               obtain ⟨g, off, hp, cb⟩ := CP.out.one
               rw [HRR.out] at cb
               subst hp
               have HU := Lib.hid (CP.out.upto (R := R) (r := t') (by rw [← HRR.out, rev_take0]) (by have := HRR.out; simp; omega))
               have hRc : R ≤ c3 := by omega
               have hRc2 : (R : Int) ≤ (c3 : Int) := by omega
               clear ot gt))
          have HW := Lib.hid CP.out.below
          go_roundw
          case rel => exact ⟨k + 1, _, by omega, by go_num, HU.out.mono (by omega), HTL'.out, HBel.out.trans (HW.out.mono hsz), HRS.out⟩
          case measure => simp [intOf]; omega
        | place b r h hb0 hb1 =>
          subst h
          obtain ⟨R, hR⟩ : ∃ R, r.length = R := ⟨_, rfl⟩
          have hx : N = R + 1 := by have := HN.out; simp only [List.length_cons] at this; omega
          have e1 : (N : Int) - 1 = (R : Int) := by omega
          have b1 : R < N := by omega
          have b2 : (R : Int) < (N : Int) := by omega
          have b3 : (1 : Int) ≤ (N : Int) := by omega
          have e3 : IntKind.i64.wrap (R : Int) = (R : Int) := IntWalk.i64_in _ (by omega)
          have HRR := Lib.hid hR
          have HXX := Lib.hid hx
          clear hR hx
          obtain ⟨β, rfl⟩ : ∃ β : Nat, b = β := ⟨b.toNat, by omega⟩
          have hβ : β < row.length := by omega
          rw [Int.toNat_natCast] at HTL' HRS
          obtain ⟨y, hy⟩ : ∃ y, row.getD β 0 = y := ⟨_, rfl⟩
          rw [hy] at HTL' HRS
          have HY := Lib.hid hy
          clear hy
          go_wp2_with (first
            | (at_builtin
               refine list_app_int (o := ⟨some 23, _, _, _, _, _⟩) rfl (.const (.slice none 0 0)) (.tmp 22) rfl (wr.heap.size + 1) (.slice none 0 0) [] rfl (own_nil _ _) _ ((β : Int) :: r).reverse rfl (ri_below HO.out.ri (bal (Below.refl _ _))) LB.out (by simp) ?_
               intro tv w3 ot gt _
               have CP := Lib.hid (cp_of HO.out HRW.out ot gt)
               obtain ⟨p3, c3, rfl, hc3, hm3⟩ := CP.out.shape HN.out
               unfold maxLen at hm3
               have k0 := CP.out.k
               have n0 := CP.out.n
               obtain ⟨g, off, hp, cb⟩ := CP.out.one
               rw [HRR.out] at cb
               subst hp
               obtain ⟨g2, off2, hq2, _, hcr⟩ := ri_some CP.out.row (by omega)
               have cy := hcr β hβ
               rw [HY.out] at cy
               subst hq2
               obtain ⟨g3, c4, he3, hg3, _⟩ := CP.out.own.block (by simp)
               obtain ⟨hp3, hc4⟩ : p3 = some ⟨g3, 0, none⟩ ∧ c3 = c4 := by cases he3; exact ⟨rfl, rfl⟩
               subst hp3
               subst hc4
               obtain ⟨z1, z2⟩ := CP.out.own.cells (j := R) (by have := HRR.out; simp; omega)
               have hst := CP.out.own.stored R y
               rw [show ((β : Int) :: r).reverse.set R y = (y :: r).reverse by rw [← HRR.out]; exact rev_set ..] at hst
               have HOY := Lib.hid hst
               have HW := Lib.hid (CP.out.below.setCell (p := ⟨g3, R, none⟩) (show wr.heap.size ≤ g3 by omega) (.int .i64 y))
               clear he3 hcr hst
               clear ot gt))
          go_roundw
          case rel => exact ⟨k + 1, _, by omega, by go_num, HOY.out.mono (by omega), HTL'.out, HBel.out.trans (HW.out.mono hsz), HRS.out⟩
          case measure => simp [intOf]; omega
    · obtain rfl : k = l.length := by omega
      have HRE := Lib.hid (hrun.trans run_end)
      clear hown hbel hrun hN
      go_wp2
      go_ret3
      rw [HRE.out]
      exact ⟨_, rfl, HO.out, HBel.out⟩
end Go.Proofs.Ytlgjfhjnfimahaa
