/-
  Contracts of package nvm at known values; 'awake' of layer 5's statements.
-/
import Derived.Test.YtjchmkgkibiadaaNvn
namespace Go.Proofs.Ytjchmkgkibiadaa
open Go.RowKit

/-- a call on a memory of one's own, seen from below -/
theorem Chg.own {g : Nat} {w w1 w2 : World} (hC : Chg [g] w1 w2) (hB : Below w.heap.size w w1) (hg : w.heap.size ≤ g) : Below w.heap.size w w2 :=
  hC.below hB hB.size fun k hk => by rw [List.mem_singleton.1 hk]; exact hg

section
variable {g : Nat} {s s' : Nv} {i : Int} {w : World}
theorem put_is {l : List Int} {x : Int} (hx : s.putE i = x) (hs : s.put i l = s') (hl : l.length = 8) (h : Nm w g s) (ho : s.Ok) (hc2 : s.c < 4611686018427387904) :
    Calls Try.prog 42 #[.pointer (some ⟨g, 0, none⟩), .int .i64 i, .agg (lc l)] w fun e w' => e = .returned (.int .i64 x) ∧ Nm w' g s' ∧ s'.Ok ∧ Chg [g] w w' := by
  have ho' := ho.put hl i
  refine (put_any g s i l w h ho hc2 hl).mono ?_
  rintro e w' ⟨rfl, hN, hC⟩
  rw [hx, hs] at *
  exact ⟨rfl, hN, ho', hC⟩
theorem set_is {v x : Int} (hx : s.setE i = x) (hs : s.set i v = s') (h : Nm w g s) (ho : s.Ok) (hc2 : s.c < 4611686018427387904) :
    Calls Try.prog 21 #[.pointer (some ⟨g, 0, none⟩), .int .i64 i, .int .u64 v] w fun e w' => e = .returned (.int .i64 x) ∧ Nm w' g s' ∧ s'.Ok ∧ Chg [g] w w' := by
  have ho' := ho.set i v
  refine (set_any g s i v w h ho hc2).mono ?_
  rintro e w' ⟨rfl, hN, hC⟩
  rw [hx, hs] at *
  exact ⟨rfl, hN, ho', hC⟩
theorem cut_is {n m : Int} (hs : s.cutAt n m = s') (h : Nm w g s) (ho : s.Ok) (hn : n ≤ 9223372036854775807) :
    Calls Try.prog 17 #[.pointer (some ⟨g, 0, none⟩), .int .i64 n, .int .i64 m] w fun e w' => e = .returned (.tuple #[]) ∧ Nm w' g s' ∧ s'.Ok ∧ Chg [g] w w' := by
  have ho' := ho.cutAt hn m
  refine (cut_any g s n m w h).mono ?_
  rintro e w' ⟨rfl, hN, hC⟩
  rw [hs] at *
  exact ⟨rfl, hN, ho', hC⟩
theorem power_is (hs : s.power = s') (h : Nm w g s) (ho : s.Ok) :
    Calls Try.prog 18 #[.pointer (some ⟨g, 0, none⟩)] w fun e w' => e = .returned (.tuple #[]) ∧ Nm w' g s' ∧ s'.Ok ∧ Chg [g] w w' := by
  have ho' := ho.power
  refine (power_any g s w h).mono ?_
  rintro e w' ⟨rfl, hN, hC⟩
  rw [hs] at *
  exact ⟨rfl, hN, ho', hC⟩
theorem get_is {l : List Int} {x : Int} (hl : s.get i = l) (hx : s.rdy (s.has i) = x) (h : Nm w g s) (ho : s.Ok) :
    Calls Try.prog 49 #[.pointer (some ⟨g, 0, none⟩), .int .i64 i] w fun e w' => e = .returned (.tuple #[.agg (lc l), .int .i64 x]) ∧ Below w.heap.size w w' := by
  rw [← hl, ← hx]; exact get_any g s i w h ho
theorem reg_is {v x : Int} (hl : s.rd i = v) (hx : s.rdy (hasR i) = x) (h : Nm w g s) :
    Calls Try.prog 39 #[.pointer (some ⟨g, 0, none⟩), .int .i64 i] w fun e w' => e = .returned (.tuple #[.int .u64 v, .int .i64 x]) ∧ w = w' := by
  rw [← hl, ← hx]; exact reg_any g s i w h
theorem wear_is {x : Int} (hx : s.wear i = x) (h : Nm w g s) (ho : s.Ok) :
    Calls Try.prog 20 #[.pointer (some ⟨g, 0, none⟩), .int .i64 i] w fun e w' => e = .returned (.int .i64 x) ∧ w = w' := by
  rw [← hx]; exact wear_any g s i w h ho
theorem down_is {b : Bool} (hx : s.dark = b) (h : Nm w g s) :
    Calls Try.prog 50 #[.pointer (some ⟨g, 0, none⟩)] w fun e w' => e = .returned (.bool b) ∧ w = w' := by
  rw [← hx]; exact down_any g s w h
end

theorem awake_plain : ∃ s1 s2 s3 : Nv, (newNv 3 [1]).put 0 [5, 0, 0, 0, 0, 0, 0, 0] = s1 ∧ (newNv 3 [1]).putE 0 = 0 ∧ s1.c < 4611686018427387904 ∧ s1.put 0 [6, 0, 0, 0, 0, 0, 0, 0] = s2 ∧ s1.putE 0 = 3 ∧ s2.c < 4611686018427387904 ∧
    s2.get 0 = [5, 0, 0, 0, 0, 0, 0, 0] ∧ s2.rdy (s2.has 0) = 0 ∧ s2.set 2 9 = s3 ∧ s2.setE 2 = 0 ∧ s3.rd 2 = 9 ∧ s3.rdy (hasR 2) = 0 ∧ s3.wear 0 = 1 ∧ s3.c = 3 :=
  ⟨_, _, _, rfl, by decide, by decide, rfl, by decide, by decide, by decide, by decide, rfl, by decide, by decide, by decide, by decide, by decide⟩

end Go.Proofs.Ytjchmkgkibiadaa
