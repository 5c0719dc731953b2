/-
  Package count at known values; 'awake' of layer 10's statements.
-/
import Derived.Test.YtplehfdanlfjoaaCnf
namespace Go.Proofs.Ytplehfdanlfjoaa
open Go.RowKit

theorem call_nil (w : World) : Calls Try.prog 13 #[.pointer none] w fun e w' => e = .returned (.slice none 0 0) ∧ w = w' := by
  go_enter Try.func13, Try.ntmps13
  go_wp2_with fail
  go_ret
  exact ⟨rfl, rfl⟩
theorem cnote_is {x g : Nat} {s s' : Ct} {p : Nat} {a : Int} {d : Bool} {w : World} (ha : ((s.c p + 1 : Nat) : Int) = a) (hd : s.due p = d) (hs : s.note p = s') (h : Cq w x g s) (hk : s.Ok) (hp : p < s.n) (hb : s.c p < 4611686018427387904) :
    Calls Try.prog 9 #[.pointer (some ⟨x, 0, none⟩), .int .i64 (p : Int)] w fun e w' => e = .returned (.tuple #[.int .i64 a, .bool d]) ∧ Cq w' x g s' ∧ Chg [g] w w' := by
  subst ha hd hs; exact cnote_yes h hk hp hb
theorem cof_is {x g : Nat} {s : Ct} {p : Nat} {a : Int} {w : World} (ha : (s.c p : Int) = a) (h : Cq w x g s) (hp : p < s.n) : Calls Try.prog 10 #[.pointer (some ⟨x, 0, none⟩), .int .i64 (p : Int)] w fun e w' => e = .returned (.int .i64 a) ∧ w = w' := by
  subst ha; exact cof_yes h hp
theorem clag_is {x g : Nat} {s : Ct} {p : Nat} {a : Int} {w : World} (ha : (s.lag p : Int) = a) (h : Cq w x g s) (hk : s.Ok) (hp : p < s.n) : Calls Try.prog 11 #[.pointer (some ⟨x, 0, none⟩), .int .i64 (p : Int)] w fun e w' => e = .returned (.int .i64 a) ∧ Below w.heap.size w w' := by
  subst ha; exact clag_yes h hk hp

theorem awake_plain10 : ∃ s0 s1 s2, cnew 2 2 [5, 0] 2 = s0 ∧ s0.Ok ∧ s0.n = 2 ∧ s0.c 0 = 5 ∧ s0.due 0 = false ∧ s0.note 0 = s1 ∧ s1.Ok ∧ s1.n = 2 ∧ s1.c 0 = 6 ∧ s1.due 0 = true ∧ s1.note 0 = s2 ∧ s2.Ok ∧ s2.n = 2 ∧ s2.c 0 = 7 ∧ s2.lag 0 = 0 := by
  have H := cnew_ok (b := 2) (l := [5, 0]) (by decide) (by decide) (by decide) 2
  have H1 := H.note (p := 0) (by decide)
  have H2 := H1.note (p := 0) (by decide)
  exact ⟨_, _, _, rfl, H, rfl, by decide, by decide, rfl, H1, by decide, by decide, by decide, rfl, H2, by decide, by decide, by decide⟩
theorem awake_any (w : World) : Calls Try.prog 7 #[] w fun e w' => e = .returned (.bool true) ∧ Below w.heap.size w w' := by
  obtain ⟨s0, s1, s2, a0, a1, a2, a3, a4, a5, b1, b2, b3, b4, b5, c1, c2, c3, c4⟩ := awake_plain10
  have A0 := Lib.hid (And.intro a0 (And.intro a1 (And.intro a2 (And.intro a3 (And.intro a4 a5)))))
  have A1 := Lib.hid (And.intro b1 (And.intro b2 (And.intro b3 (And.intro b4 b5))))
  have A2 := Lib.hid (And.intro c1 (And.intro c2 (And.intro c3 c4)))
  have R0 := (own_lit w [5, 0] (by unfold maxLen; decide)).ri
  have R := Lib.hid R0
  have B0 := Lib.hid (bal (o := .cells (([5, 0] : List Int).map iv).toArray 3) (Below.refl w.heap.size w))
  clear a0 a1 a2 a3 a4 a5 b1 b2 b3 b4 b5 c1 c2 c3 c4 R0
  go_enter Try.func7, Try.ntmps7
  go_wp2_with fail
  refine (cnew_yes 2 _ [5, 0] _ R.out (by decide) (by decide) (by decide)).mono ?_; rintro e w1 ⟨x, g, rfl, hx, hg, hQ, hb⟩
  have Q0 := Lib.hid (hQ.as A0.out.1)
  have B1 := Lib.hid (below_more B0.out hb)
  have G : Hid (∀ k ∈ [g], w.heap.size ≤ k) := Lib.hid (fun k hk => by rw [List.mem_singleton.1 hk]; exact Nat.le_trans B0.out.size hg)
  clear hQ hb hx hg
  go_wp2_with fail
  refine (cnote_is (a := 6) (by rw [A0.out.2.2.2.1]; rfl) A0.out.2.2.2.2.1 A0.out.2.2.2.2.2 Q0.out A0.out.2.1 (by rw [A0.out.2.2.1]; decide) (by rw [A0.out.2.2.2.1]; decide)).mono ?_; rintro e w2 ⟨rfl, hQ, hC⟩
  have Q1 := Lib.hid hQ
  have B2 := Lib.hid (hC.below B1.out B1.out.size G.out)
  clear hQ hC
  go_wp2_with fail
  refine (cnote_is (a := 7) (by rw [A1.out.2.2.1]; rfl) A1.out.2.2.2.1 A1.out.2.2.2.2 Q1.out A1.out.1 (by rw [A1.out.2.1]; decide) (by rw [A1.out.2.2.1]; decide)).mono ?_; rintro e w3 ⟨rfl, hQ, hC⟩
  have Q2 := Lib.hid hQ
  have B3 := Lib.hid (hC.below B2.out B2.out.size G.out)
  clear hQ hC
  go_wp2_with fail
  refine (cof_is (p := 0) (a := 7) (by rw [A2.out.2.2.1]; rfl) Q2.out (by rw [A2.out.2.1]; decide)).mono ?_; rintro e w' ⟨rfl, rfl⟩
  go_wp2_with fail
  refine (clag_is (p := 0) (a := 0) (by rw [A2.out.2.2.2]; rfl) Q2.out A2.out.1 (by rw [A2.out.2.1]; decide)).mono ?_; rintro e w4 ⟨rfl, hb⟩
  have Q3 := Lib.hid (Q2.out.below hb)
  have B4 := Lib.hid (below_more B3.out hb)
  have E2 := A2.out.2.1
  clear hb
  go_wp2_with fail
  refine (call_any Q3.out (by rw [E2]; decide)).mono ?_; rintro e w5 ⟨rfl, _, hb⟩
  have B5 := Lib.hid (below_more B4.out hb)
  clear hb
  rw [E2]
  go_wp2_with fail
  refine (page_is 9 (by decide) _).mono ?_; rintro e w' ⟨rfl, rfl⟩
  go_wp2
  go_ret
  exact ⟨rfl, B5.out⟩
end Go.Proofs.Ytplehfdanlfjoaa
