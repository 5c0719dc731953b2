/-
  Contracts of package turn's New; 'awake' of layer 9's statements.
-/
import Derived.Test.YtjchmkgkibiadaaTnd
namespace Go.Proofs.Ytjchmkgkibiadaa
open Go.RowKit

theorem tnew_null (n : Nat) (P per : Int) (w : World) (h1 : 1 ≤ n) : Calls Try.prog 11 #[.pointer none, .int .i64 (n : Int), .int .i64 P, .int .i64 per] w fun e w' => e = .returned (.pointer none) ∧ w = w' := by
  have i1 : ¬ (n : Int) < 1 := by omega
  have i2 : (n : Int) ≥ 0 := by omega
  clear h1
  go_enter Try.func11, Try.ntmps11
  go_wp2_with fail
  refine (lines_nil w).mono ?_; rintro e w' ⟨rfl, rfl⟩
  go_wp2_with fail
  go_ret
  exact ⟨rfl, rfl⟩
theorem tnew_few (g : Nat) (s : Nv) (n : Nat) (P per : Int) (w : World) (hN : Nm w g s) (h1 : 1 ≤ n) (hb : s.n ≤ n) : Calls Try.prog 11 #[.pointer (some ⟨g, 0, none⟩), .int .i64 (n : Int), .int .i64 P, .int .i64 per] w fun e w' => e = .returned (.pointer none) ∧ w = w' := by
  have C := Lib.hid (lines_any g s w hN)
  have i1 : ¬ (n : Int) < 1 := by omega
  have i2 : (n : Int) ≥ (s.n : Int) := by omega
  generalize s.n = N at *
  clear h1 hN hb
  go_enter Try.func11, Try.ntmps11
  go_wp2_with fail
  refine (C.out).mono ?_; rintro e w' ⟨rfl, rfl⟩
  go_wp2_with fail
  go_ret
  exact ⟨rfl, rfl⟩
theorem tnew_period (g : Nat) (s : Nv) (n : Nat) (P per : Int) (w : World) (hN : Nm w g s) (h1 : 1 ≤ n) (hb : n < s.n) (hp : per < 1 ∨ 1000 < per) : Calls Try.prog 11 #[.pointer (some ⟨g, 0, none⟩), .int .i64 (n : Int), .int .i64 P, .int .i64 per] w fun e w' => e = .returned (.pointer none) ∧ w = w' := by
  have C := Lib.hid (lines_any g s w hN)
  have i1 : ¬ (n : Int) < 1 := by omega
  have i2 : ¬ (n : Int) ≥ (s.n : Int) := by omega
  generalize s.n = N at *
  clear h1 hN hb
  by_cases h : per < 1
  · clear hp
    go_enter Try.func11, Try.ntmps11
    go_wp2_with fail
    refine (C.out).mono ?_; rintro e w' ⟨rfl, rfl⟩
    go_wp2_with fail
    go_ret
    exact ⟨rfl, rfl⟩
  · have h2 : per > 1000 := by omega
    clear hp
    go_enter Try.func11, Try.ntmps11
    go_wp2_with fail
    refine (C.out).mono ?_; rintro e w' ⟨rfl, rfl⟩
    go_wp2_with fail
    go_ret
    exact ⟨rfl, rfl⟩

theorem Tq.new (w : World) (g q n per : Nat) : Tq (w.alloc (.cells #[.pointer (some ⟨g, 0, none⟩), .pointer (some ⟨q, 0, none⟩), .int .i64 (n : Int), .int .i64 (per : Int), .int .i64 0] 62)) w.heap.size g q n per 0 := heap_alloc_last w _
/-- made on a memory of m moves: there, or not, if there were too many -/
def Made (v : Value) (w w' : World) (g n P per M : Nat) : Prop :=
  if M ≤ 1099511627776 then ∃ x q, v = .pointer (some ⟨x, 0, none⟩) ∧ w.heap.size ≤ x ∧ w.heap.size ≤ q ∧ x ≠ q ∧ Lq w' q g (n + 1) P ∧ Tq w' x g q n per 0 else v = .pointer none
theorem tnew_any {g n P per M : Nat} {s : Nv} {w : World} (H : TOk s n P M) (h1 : 1 ≤ n) (hn2 : n ≤ 1000) (hp1 : 1 ≤ per) (hp2 : per ≤ 1000) (hN : Nm w g s) :
    Calls Try.prog 11 #[.pointer (some ⟨g, 0, none⟩), .int .i64 (n : Int), .int .i64 (P : Int), .int .i64 (per : Int)] w fun e w' => (∃ v, e = .returned v ∧ Made v w w' g n P per M) ∧ Below w.heap.size w w' := by
  have C := Lib.hid (lines_any g s w hN)
  have LC := lnew_yes H.l hN
  have hnn := H.l.n
  have i1 : ¬ (n : Int) < 1 := by omega
  have i2 : ¬ (n : Int) ≥ (s.n : Int) := by omega
  have i3 : ¬ (per : Int) < 1 := by omega
  have i4 : ¬ (per : Int) > 1000 := by omega
  obtain ⟨n1, hn1⟩ : ∃ n1 : Nat, n1 = n + 1 := ⟨_, rfl⟩
  have k1 : IntKind.i64.wrap ((n : Int) + 1) = (n1 : Int) := by rw [show (n : Int) + 1 = (n1 : Int) by omega]; exact i64_nat _ (by omega)
  rw [← hn1] at LC
  have LC := Lib.hid LC
  have HN := Lib.hid hN
  have HT := Lib.hid H
  have E1 := Lib.hid hn1
  clear hN H h1 hn2 hp1 hp2 hnn hn1
  generalize s.n = N at *
  go_enter Try.func11, Try.ntmps11
  go_wp2_with fail
  refine (C.out).mono ?_; rintro e w' ⟨rfl, rfl⟩
  go_wp2_with fail
  refine (LC.out).mono ?_; rintro e w2 ⟨q, rfl, hq, hQ, hb⟩
  have N2 := HN.out.below hb
  obtain ⟨W, hW⟩ : ∃ W, w2.alloc (.cells #[.pointer (some ⟨g, 0, none⟩), .pointer (some ⟨q, 0, none⟩), .int .i64 (n : Int), .int .i64 (per : Int), .int .i64 0] 62) = W := ⟨_, rfl⟩
  have T3 := Tq.new w2 g q n per
  have Q3 := hQ.alloc (.cells #[.pointer (some ⟨g, 0, none⟩), .pointer (some ⟨q, 0, none⟩), .int .i64 (n : Int), .int .i64 (per : Int), .int .i64 0] 62)
  have N3 := N2.alloc (.cells #[.pointer (some ⟨g, 0, none⟩), .pointer (some ⟨q, 0, none⟩), .int .i64 (n : Int), .int .i64 (per : Int), .int .i64 0] 62)
  have B3 := bal (o := .cells #[.pointer (some ⟨g, 0, none⟩), .pointer (some ⟨q, 0, none⟩), .int .i64 (n : Int), .int .i64 (per : Int), .int .i64 0] 62) hb
  rw [hW] at T3 Q3 N3 B3
  have KK : Hid (w.heap.size ≤ w2.heap.size ∧ w.heap.size ≤ q ∧ w2.heap.size ≠ q) := Lib.hid ⟨hb.size, hq, by have := hQ.lt; omega⟩
  have c1 := T3.c1
  have MC := Lib.hid (tmoves_is T3.c0 N3 HT.out.l.live HT.out.rg HT.out.m)
  have TT := Lib.hid T3
  have QQ := Lib.hid Q3
  have BB := Lib.hid B3
  clear hb hq hQ N2 T3 Q3 N3 B3
  go_wp2_with fail
  refine (MC.out).mono ?_; rintro e w' ⟨rfl, rfl⟩
  by_cases hM : M ≤ 1099511627776
  · have i5 : ¬ (M : Int) > 1099511627776 := by omega
    have HM : Hid (M ≤ 1099511627776) := Lib.hid hM
    clear hM
    go_wp2
    go_ret
    exact ⟨⟨_, rfl, by rw [Made, if_pos HM.out]; exact ⟨_, q, rfl, KK.out.1, KK.out.2.1, KK.out.2.2, by rw [← E1.out]; exact QQ.out, TT.out⟩⟩, BB.out⟩
  · have i5 : (M : Int) > 1099511627776 := by omega
    have HM : Hid (¬ M ≤ 1099511627776) := Lib.hid hM
    clear hM
    go_wp2
    go_ret
    exact ⟨⟨_, rfl, by rw [Made, if_neg HM.out]; rfl⟩, BB.out⟩
theorem tnew_yes {g n P per M : Nat} {s : Nv} {w : World} (H : TOk s n P M) (h1 : 1 ≤ n) (hn2 : n ≤ 1000) (hp1 : 1 ≤ per) (hp2 : per ≤ 1000) (hM : M ≤ 1099511627776) (hN : Nm w g s) :
    Calls Try.prog 11 #[.pointer (some ⟨g, 0, none⟩), .int .i64 (n : Int), .int .i64 (P : Int), .int .i64 (per : Int)] w fun e w' =>
      ∃ x q, e = .returned (.pointer (some ⟨x, 0, none⟩)) ∧ w.heap.size ≤ x ∧ w.heap.size ≤ q ∧ x ≠ q ∧ Lq w' q g (n + 1) P ∧ Tq w' x g q n per 0 ∧ Below w.heap.size w w' := by
  refine (tnew_any H h1 hn2 hp1 hp2 hN).mono ?_
  rintro e w' ⟨⟨v, rfl, hv⟩, hb⟩
  rw [Made, if_pos hM] at hv
  obtain ⟨x, q, rfl, a1, a2, a3, a4, a5⟩ := hv
  exact ⟨x, q, rfl, a1, a2, a3, a4, a5, hb⟩
theorem tnew_over {g n P per M : Nat} {s : Nv} {w : World} (H : TOk s n P M) (h1 : 1 ≤ n) (hn2 : n ≤ 1000) (hp1 : 1 ≤ per) (hp2 : per ≤ 1000) (hM : ¬ M ≤ 1099511627776) (hN : Nm w g s) :
    Calls Try.prog 11 #[.pointer (some ⟨g, 0, none⟩), .int .i64 (n : Int), .int .i64 (P : Int), .int .i64 (per : Int)] w fun e w' => e = .returned (.pointer none) ∧ Below w.heap.size w w' := by
  refine (tnew_any H h1 hn2 hp1 hp2 hN).mono ?_
  rintro e w' ⟨⟨v, rfl, hv⟩, hb⟩
  rw [Made, if_neg hM] at hv
  exact ⟨by rw [hv], hb⟩

theorem awake_plain9 : ∃ s1, tput 3 0 1 0 0 1 [5, 0, 0, 0, 0, 0, 0, 0] (newNv 4 []) = (0, s1) ∧ TOk (newNv 4 []) 3 0 0 ∧ TOk s1 3 0 1 ∧ thold s1 3 0 1 1 = [5, 0, 0, 0, 0, 0, 0, 0] := by
  have H := newNv_tok (n := 3) (P := 0) (by decide) (by decide) (by decide) []
  obtain ⟨M', o, _⟩ := tput_out (per := 1) (p := 0) (a := 1) (d := [5, 0, 0, 0, 0, 0, 0, 0]) H (by decide) (by decide) rfl (by decide)
  have e0 : (tput 3 0 1 0 0 1 [5, 0, 0, 0, 0, 0, 0, 0] (newNv (3 + 1 + 0) [])).1 = 0 := by decide
  refine ⟨_, Prod.ext e0 rfl, H, ?_⟩
  rcases o.own with ⟨_, h1, h2, h3⟩ | ⟨h, _⟩ | ⟨h, _⟩
  · obtain rfl : M' = 1 := h2
    exact ⟨o.tok H h1 (by decide), h3⟩
  · rw [e0] at h; cases h
  · rw [e0] at h; cases h

set_option maxHeartbeats 1000000 in
theorem awake_any (w : World) : Calls Try.prog 9 #[] w fun e w' => e = .returned (.bool true) ∧ Below w.heap.size w w' := by
  obtain ⟨s1, a1, a2, a3, a4⟩ := awake_plain9
  have A1 := Lib.hid a1; have A2 := Lib.hid a2; have A3 := Lib.hid a3; have A4 := Lib.hid a4
  have K0 : Hid ((newNv 4 []).c + 500 < 4611686018427387904) := Lib.hid (by decide)
  clear a1 a2 a3 a4
  have R0 : Hid (RI w (.slice none 0 0) []) := Lib.hid (ri_nil w)
  obtain ⟨s0, e0⟩ : ∃ s0, newNv 4 [] = s0 := ⟨_, rfl⟩
  rw [e0] at A1 A2 K0
  go_enter Try.func9, Try.ntmps9
  go_wp2_with fail
  refine (new_yes 4 _ [] _ (by decide) (by decide) R0.out).mono ?_; rintro e w1 ⟨g, rfl, hg, hN, hb⟩
  rw [e0] at hN
  have N0 := Lib.hid hN
  have G1 : Hid (w.heap.size ≤ g) := Lib.hid hg
  have B1 := Lib.hid hb
  clear hN hg hb
  go_wp2_with fail
  refine (tnew_yes (per := 1) A2.out (by decide) (by decide) (by decide) (by decide) (by decide) N0.out).mono ?_; rintro e w2 ⟨x, q, rfl, hx, hq, hxq, hQ, hT, hb⟩
  have KK : Hid (q ≠ g ∧ x ≠ g ∧ x ≠ q) := Lib.hid ⟨by have := N0.out.lt; omega, by have := N0.out.lt; omega, hxq⟩
  have GG : Hid (w.heap.size ≤ g ∧ w.heap.size ≤ x) := Lib.hid ⟨G1.out, Nat.le_trans B1.out.size hx⟩
  have N1 := Lib.hid (N0.out.below hb)
  have Q1 := Lib.hid hQ
  have T1 := Lib.hid hT
  have B2 := Lib.hid (below_more B1.out hb)
  clear hx hq hxq hQ hT hb
  go_wp2_with fail
  refine (tput_is A1.out A2.out (by decide) (by decide) rfl (by decide) (by decide) KK.out.1 KK.out.2.1 KK.out.2.2 K0.out T1.out Q1.out N1.out).mono ?_; rintro e w3 ⟨rfl, hN, hT, hQ, hC⟩
  have N2 := Lib.hid hN
  have Q2 := Lib.hid hQ
  have T2 := Lib.hid hT
  have B3 := Lib.hid (hC.below B2.out B2.out.size (fun k hk => by rcases List.mem_cons.1 hk with rfl | hk; exact GG.out.1; rw [List.mem_singleton.1 hk]; exact GG.out.2))
  clear hN hT hQ hC
  go_wp2_with fail
  refine (tget_is A4.out A3.out (by decide) (by decide) T2.out Q2.out N2.out).mono ?_; rintro e w4 ⟨rfl, hb⟩
  obtain ⟨W, hW, H⟩ := boxed1 w4 (a := [5, 0, 0, 0, 0, 0, 0, 0]) rfl
  have N3 := Lib.hid ((N2.out.below hb).below H.out.2)
  have T3 := Lib.hid ((T2.out.below hb).below H.out.2)
  have B4 := Lib.hid (below_more (below_more B3.out hb) H.out.2)
  have ll := H.out.1.load
  clear hb
  go_wp2_with fail
  refine (tmv_is A3.out T3.out N3.out).mono ?_; rintro e w' ⟨rfl, rfl⟩
  go_wp2_with fail
  refine (tlines_is T3.out).mono ?_; rintro e w' ⟨rfl, rfl⟩
  go_wp2
  go_ret
  exact ⟨rfl, B4.out⟩
end Go.Proofs.Ytjchmkgkibiadaa
