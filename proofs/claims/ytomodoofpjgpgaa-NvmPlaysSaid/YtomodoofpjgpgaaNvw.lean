/-
  Contracts of package nvm at known values; 'awake' of layer 5's statements.
-/
import Derived.Test.YtomodoofpjgpgaaNvn
namespace Go.Proofs.Ytomodoofpjgpgaa
open Go.RowKit

/-- a call on a memory of one's own, seen from below -/
theorem Chg.own {g : Nat} {w w1 w2 : World} (hC : Chg [g] w1 w2) (hB : Below w.heap.size w w1) (hg : w.heap.size ≤ g) : Below w.heap.size w w2 :=
  hC.below hB hB.size fun k hk => by rw [List.mem_singleton.1 hk]; exact hg

section
variable {g : Nat} {s s' : Nv} {i : Int} {w : World}
theorem put_is {l : List Int} {x : Int} (hx : s.putE i = x) (hs : s.put i l = s') (hl : l.length = 8) (h : Nm w g s) (ho : s.Ok) (hc2 : s.c < 4611686018427387904) :
    Calls Try.prog 12 #[.pointer (some ⟨g, 0, none⟩), .int .i64 i, .agg (lc l)] w fun e w' => e = .returned (.int .i64 x) ∧ Nm w' g s' ∧ s'.Ok ∧ Chg [g] w w' := by
  have ho' := ho.put hl i
  refine (put_any g s i l w h ho hc2 hl).mono ?_
  rintro e w' ⟨rfl, hN, hC⟩
  rw [hx, hs] at *
  exact ⟨rfl, hN, ho', hC⟩
theorem set_is {v x : Int} (hx : s.setE i = x) (hs : s.set i v = s') (h : Nm w g s) (ho : s.Ok) (hc2 : s.c < 4611686018427387904) :
    Calls Try.prog 14 #[.pointer (some ⟨g, 0, none⟩), .int .i64 i, .int .u64 v] w fun e w' => e = .returned (.int .i64 x) ∧ Nm w' g s' ∧ s'.Ok ∧ Chg [g] w w' := by
  have ho' := ho.set i v
  refine (set_any g s i v w h ho hc2).mono ?_
  rintro e w' ⟨rfl, hN, hC⟩
  rw [hx, hs] at *
  exact ⟨rfl, hN, ho', hC⟩
theorem cut_is {n m : Int} (hs : s.cutAt n m = s') (h : Nm w g s) (ho : s.Ok) (hn : n ≤ 9223372036854775807) :
    Calls Try.prog 16 #[.pointer (some ⟨g, 0, none⟩), .int .i64 n, .int .i64 m] w fun e w' => e = .returned (.tuple #[]) ∧ Nm w' g s' ∧ s'.Ok ∧ Chg [g] w w' := by
  have ho' := ho.cutAt hn m
  refine (cut_any g s n m w h).mono ?_
  rintro e w' ⟨rfl, hN, hC⟩
  rw [hs] at *
  exact ⟨rfl, hN, ho', hC⟩
theorem power_is (hs : s.power = s') (h : Nm w g s) (ho : s.Ok) :
    Calls Try.prog 18 #[.pointer (some ⟨g, 0, none⟩)] w fun e w' => e = .returned (.tuple #[]) ∧ Nm w' g s' ∧ s'.Ok ∧ Chg [g] w w' := by
  have ho' := ho.power
  refine (power_any g s w h).mono ?_
  rintro e w' ⟨rfl, hN, hC⟩
  rw [hs] at *
  exact ⟨rfl, hN, ho', hC⟩
theorem get_is {l : List Int} {x : Int} (hl : s.get i = l) (hx : s.rdy (s.has i) = x) (h : Nm w g s) (ho : s.Ok) :
    Calls Try.prog 22 #[.pointer (some ⟨g, 0, none⟩), .int .i64 i] w fun e w' => e = .returned (.tuple #[.agg (lc l), .int .i64 x]) ∧ Below w.heap.size w w' := by
  rw [← hl, ← hx]; exact get_any g s i w h ho
theorem reg_is {v x : Int} (hl : s.rd i = v) (hx : s.rdy (hasR i) = x) (h : Nm w g s) :
    Calls Try.prog 20 #[.pointer (some ⟨g, 0, none⟩), .int .i64 i] w fun e w' => e = .returned (.tuple #[.int .u64 v, .int .i64 x]) ∧ w = w' := by
  rw [← hl, ← hx]; exact reg_any g s i w h
theorem wear_is {x : Int} (hx : s.wear i = x) (h : Nm w g s) (ho : s.Ok) :
    Calls Try.prog 27 #[.pointer (some ⟨g, 0, none⟩), .int .i64 i] w fun e w' => e = .returned (.int .i64 x) ∧ w = w' := by
  rw [← hx]; exact wear_any g s i w h ho
theorem writes_is {x : Int} (hx : s.c = x) (h : Nm w g s) :
    Calls Try.prog 25 #[.pointer (some ⟨g, 0, none⟩)] w fun e w' => e = .returned (.int .i64 x) ∧ w = w' := by
  rw [← hx]; exact writes_any g s w h
theorem down_is {b : Bool} (hx : s.dark = b) (h : Nm w g s) :
    Calls Try.prog 24 #[.pointer (some ⟨g, 0, none⟩)] w fun e w' => e = .returned (.bool b) ∧ w = w' := by
  rw [← hx]; exact down_any g s w h
end

theorem awake_plain : ∃ s1 s2 s3 : Nv, (newNv 3 [1]).put 0 [5, 0, 0, 0, 0, 0, 0, 0] = s1 ∧ (newNv 3 [1]).putE 0 = 0 ∧ s1.c < 4611686018427387904 ∧ s1.put 0 [6, 0, 0, 0, 0, 0, 0, 0] = s2 ∧ s1.putE 0 = 3 ∧ s2.c < 4611686018427387904 ∧
    s2.get 0 = [5, 0, 0, 0, 0, 0, 0, 0] ∧ s2.rdy (s2.has 0) = 0 ∧ s2.set 2 9 = s3 ∧ s2.setE 2 = 0 ∧ s3.rd 2 = 9 ∧ s3.rdy (hasR 2) = 0 ∧ s3.wear 0 = 1 ∧ s3.c = 3 :=
  ⟨_, _, _, rfl, by decide, by decide, rfl, by decide, by decide, by decide, by decide, rfl, by decide, by decide, by decide, by decide, by decide⟩

set_option maxHeartbeats 1000000 in
theorem awake_any (w : World) : Calls Try.prog 9 #[] w fun e w' => e = .returned (.bool true) ∧ Below w.heap.size w w' := by
  obtain ⟨s1, s2, s3, a1, a2, a3, a4, a5, a6, a7, a8, a9, a10, a11, a12, a13, a14⟩ := awake_plain
  have O0 := Lib.hid (newNv_ok (n := 3) (by decide) (by decide) [1])
  have K0 : Hid ((newNv 3 [1]).c < 4611686018427387904) := Lib.hid (by decide)
  have A1 := Lib.hid a1; have A2 := Lib.hid a2; have A3 := Lib.hid a3; have A4 := Lib.hid a4; have A5 := Lib.hid a5; have A6 := Lib.hid a6; have A7 := Lib.hid a7
  have A8 := Lib.hid a8; have A9 := Lib.hid a9; have A10 := Lib.hid a10; have A11 := Lib.hid a11; have A12 := Lib.hid a12; have A13 := Lib.hid a13; have A14 := Lib.hid a14
  clear a1 a2 a3 a4 a5 a6 a7 a8 a9 a10 a11 a12 a13 a14
  have R0 := Lib.hid (ri_one w 1)
  have B0 := Lib.hid (bal (o := .cells #[.int .i64 1] 3) (Below.refl w.heap.size w))
  obtain ⟨s0, e0⟩ : ∃ s0, newNv 3 [1] = s0 := ⟨_, rfl⟩
  rw [e0] at O0 K0 A1 A2
  go_enter Try.func9, Try.ntmps9
  go_wp2_with fail
  refine (new_yes 3 _ [1] _ (by decide) (by decide) R0.out).mono ?_; rintro e w1 ⟨g, rfl, hg, hN, hb⟩
  rw [e0] at hN
  have hg' : Hid (w.heap.size ≤ g) := Lib.hid (Nat.le_trans (by simp) hg)
  have N0 := Lib.hid hN
  have B1 := Lib.hid (below_more B0.out hb)
  clear hN hg hb
  go_wp2_with fail
  refine (put_is A2.out A1.out rfl N0.out O0.out K0.out).mono ?_; rintro e w2 ⟨rfl, hN, hO, hC⟩
  have N1 := Lib.hid hN
  have O1 := Lib.hid hO
  have B2 := Lib.hid (hC.own B1.out hg'.out)
  clear hN hO hC
  go_wp2_with fail
  refine (put_is A5.out A4.out rfl N1.out O1.out A3.out).mono ?_; rintro e w3 ⟨rfl, hN, hO, hC⟩
  have N2 := Lib.hid hN
  have O2 := Lib.hid hO
  have B3 := Lib.hid (hC.own B2.out hg'.out)
  clear hN hO hC
  go_wp2_with fail
  refine (get_is A7.out A8.out N2.out O2.out).mono ?_; rintro e w4 ⟨rfl, hb⟩
  obtain ⟨W, hW, H⟩ := boxed1 w4 (a := [5, 0, 0, 0, 0, 0, 0, 0]) rfl
  have N3 := Lib.hid ((N2.out.below hb).below H.out.2)
  have B4 := Lib.hid (below_more (below_more B3.out hb) H.out.2)
  have hne : Hid (g ≠ w4.heap.size) := Lib.hid (Nat.ne_of_lt (N2.out.below hb).lt)
  clear hb
  go_wp2_with fail
  refine (set_is A10.out A9.out N3.out O2.out A6.out).mono ?_; rintro e w5 ⟨rfl, hN, hO, hC⟩
  have N4 := Lib.hid hN
  have O4 := Lib.hid hO
  have B5 := Lib.hid (hC.own B4.out hg'.out)
  have L5 := Lib.hid (hC.ln H.out.1 (by simp; exact fun e => hne.out e.symm))
  clear hN hO hC
  go_wp2_with fail
  refine (reg_is A11.out A12.out N4.out).mono ?_; rintro e w' ⟨rfl, rfl⟩
  have ll := L5.out.load
  go_wp2_with fail
  refine (wear_is A13.out N4.out O4.out).mono ?_; rintro e w' ⟨rfl, rfl⟩
  go_wp2_with fail
  refine (writes_is A14.out N4.out).mono ?_; rintro e w' ⟨rfl, rfl⟩
  go_wp2
  go_ret
  exact ⟨rfl, B5.out⟩
end Go.Proofs.Ytomodoofpjgpgaa
