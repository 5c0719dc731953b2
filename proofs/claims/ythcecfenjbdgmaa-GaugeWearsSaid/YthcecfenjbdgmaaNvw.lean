/-
  Contracts of package nvm at known values; 'awake' of layer 5's statements.
-/
import Derived.Test.YthcecfenjbdgmaaNvn
namespace Go.Proofs.Ythcecfenjbdgmaa
set_option maxRecDepth 100000
open Go.RowKit

/-- a call on a memory of one's own, seen from below -/
theorem Chg.own {g : Nat} {w w1 w2 : World} (hC : Chg [g] w1 w2) (hB : Below w.heap.size w w1) (hg : w.heap.size ≤ g) : Below w.heap.size w w2 :=
  hC.below hB hB.size fun k hk => by rw [List.mem_singleton.1 hk]; exact hg

section
variable {g : Nat} {s s' : Nv} {i : Int} {w : World}
theorem put_is {l : List Int} {x : Int} (hx : s.putE i = x) (hs : s.put i l = s') (hl : l.length = 8) (h : Nm w g s) (ho : s.Ok) (hc2 : s.c < 4611686018427387904) :
    Calls Try.prog 15 #[.pointer (some ⟨g, 0, none⟩), .int .i64 i, .agg (lc l)] w fun e w' => e = .returned (.int .i64 x) ∧ Nm w' g s' ∧ s'.Ok ∧ Chg [g] w w' := by
  have ho' := ho.put hl i
  refine (put_any g s i l w h ho hc2 hl).mono ?_
  rintro e w' ⟨rfl, hN, hC⟩
  rw [hx, hs] at *
  exact ⟨rfl, hN, ho', hC⟩
theorem wear_is {x : Int} (hx : s.wear i = x) (h : Nm w g s) (ho : s.Ok) :
    Calls Try.prog 17 #[.pointer (some ⟨g, 0, none⟩), .int .i64 i] w fun e w' => e = .returned (.int .i64 x) ∧ w = w' := by
  rw [← hx]; exact wear_any g s i w h ho
end

theorem awake_plain : ∃ s1 s2 s3 : Nv, (newNv 3 [1]).put 0 [5, 0, 0, 0, 0, 0, 0, 0] = s1 ∧ (newNv 3 [1]).putE 0 = 0 ∧ s1.c < 4611686018427387904 ∧ s1.put 0 [6, 0, 0, 0, 0, 0, 0, 0] = s2 ∧ s1.putE 0 = 3 ∧ s2.c < 4611686018427387904 ∧
    s2.get 0 = [5, 0, 0, 0, 0, 0, 0, 0] ∧ s2.rdy (s2.has 0) = 0 ∧ s2.set 2 9 = s3 ∧ s2.setE 2 = 0 ∧ s3.rd 2 = 9 ∧ s3.rdy (hasR 2) = 0 ∧ s3.wear 0 = 1 ∧ s3.c = 3 :=
  ⟨_, _, _, rfl, by decide, by decide, rfl, by decide, by decide, by decide, by decide, rfl, by decide, by decide, by decide, by decide, by decide⟩

end Go.Proofs.Ythcecfenjbdgmaa
