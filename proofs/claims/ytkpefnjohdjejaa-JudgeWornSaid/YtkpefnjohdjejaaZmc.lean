/- texts written together: Imp Imc Ial Eds Owi Crq Imw Imu -/
import Derived.Test.YtkpefnjohdjejaaZma
import Derived.Test.YtkpefnjohdjejaaZmb
import Derived.OwnWalk
import Derived.Deep.RegionHeld3
import Derived.BigQuiet

/-
  A heap as words, plainly: where a used block's bytes begin, whether bytes are one used block's, what a taking, a giving back, a reading and a writing tell.
-/
namespace Go.Proofs.Ytkpefnjohdjejaa
set_option maxRecDepth 100000

/-- the place of the used one whose bytes begin there -/
def isF (o : Int) : Nat → List Bk → Option Nat
  | _, [] => none
  | k, b :: r => if b.u = true ∧ offB b.a = o then some k else isF o (k + 1) r
def isN (o : Int) (l : List Bk) : Option Nat := isF o 0 l
theorem isF_some {o : Int} : ∀ {l : List Bk} {k j : Nat}, isF o k l = some j → k ≤ j ∧ j - k < l.length ∧ (l.getD (j - k) default).u = true ∧ offB (l.getD (j - k) default).a = o
  | [], _, _, h => by cases h
  | b :: r, k, j, h => by
    rw [isF] at h
    split at h
    · rename_i hb
      cases h
      simpa using hb
    · obtain ⟨h1, h2, h3, h4⟩ := isF_some h
      refine ⟨by omega, by rw [List.length_cons]; omega, ?_⟩
      rw [show j - k = (j - (k + 1)) + 1 by omega, List.getD_cons_succ]
      exact ⟨h3, h4⟩
theorem isN_some {o : Int} {l : List Bk} {j : Nat} (h : isN o l = some j) : j < l.length ∧ (l.getD j default).u = true ∧ offB (l.getD j default).a = o := by
  obtain ⟨_, h1, h2, h3⟩ := isF_some h
  rw [Nat.sub_zero] at h1 h2 h3
  exact ⟨h1, h2, h3⟩
theorem isF_none {o : Int} : ∀ {l : List Bk} {k : Nat}, isF o k l = none → ∀ b ∈ l, ¬ (b.u = true ∧ offB b.a = o)
  | [], _, _, b, hb => by cases hb
  | c :: r, k, h, b, hb => by
    rw [isF] at h
    split at h
    · cases h
    · rename_i hc
      rcases List.mem_cons.1 hb with rfl | hb
      · exact hc
      · exact isF_none h b hb
theorem isN_none {o : Int} {l : List Bk} (h : isN o l = none) : ∀ b ∈ l, ¬ (b.u = true ∧ offB b.a = o) := isF_none h
theorem isN_no {o : Int} {l : List Bk} (h : ∀ b ∈ l, ¬ (b.u = true ∧ offB b.a = o)) : isN o l = none := by
  cases e : isN o l with
  | none => rfl
  | some j =>
    obtain ⟨h1, h2, h3⟩ := isN_some e
    exact absurd ⟨h2, h3⟩ (h _ (getD_mem h1))
/-- starts of blocks that may be are apart -/
theorem mayF_apart {n : Int} : ∀ {l : List Bk} {a : Int} {f : Bool}, mayF n a f l = true → ∀ i j, i < j → j < l.length → (l.getD i default).a + (l.getD i default).s ≤ (l.getD j default).a
  | [], _, _, _, i, j, _, hj => by simp at hj
  | b :: r, a, f, h, 0, j + 1, _, hj => by
    obtain ⟨h1, h2, _, h4⟩ := mayF_cons.1 h
    rw [List.getD_cons_zero, List.getD_cons_succ]
    have := (mayF_sizes h4 _ (getD_mem (l := r) (k := j) (by simpa using hj))).2.1
    omega
  | b :: r, a, f, h, i + 1, j + 1, hij, hj => by
    obtain ⟨_, _, _, h4⟩ := mayF_cons.1 h
    rw [List.getD_cons_succ, List.getD_cons_succ]
    exact mayF_apart h4 i j (by omega) (by simpa using hj)
theorem apart_a {n : Int} {l : List Bk} (h : mayL n l = true) {i j : Nat} (hi : i < l.length) (hj : j < l.length) (e : (l.getD i default).a = (l.getD j default).a) : i = j := by
  have hf := (mayL_yes.1 h).2
  have := (at_in h hi).1.1
  have := (at_in h hj).1.1
  rcases Nat.lt_trichotomy i j with c | c | c
  · have := mayF_apart hf i j c hj
    omega
  · exact c
  · have := mayF_apart hf j i c hi
    omega
theorem offB_at {a : Int} (h0 : 0 ≤ a) (h1 : a ≤ 512) : offB a = (a + 1) * 8 := if_pos ⟨h0, h1⟩
theorem isN_at {n : Int} {l : List Bk} (h : mayL n l = true) {k : Nat} (hk : k < l.length) (hu : (l.getD k default).u = true) : isN (offB (l.getD k default).a) l = some k := by
  have hn := (mayL_yes.1 h).1.2.1
  cases e : isN (offB (l.getD k default).a) l with
  | none => exact absurd ⟨hu, rfl⟩ (isN_none e _ (getD_mem hk))
  | some j =>
    obtain ⟨h1, h2, h3⟩ := isN_some e
    obtain ⟨⟨a1, _⟩, a2, a3⟩ := at_in h hk
    obtain ⟨⟨b1, _⟩, b2, b3⟩ := at_in h h1
    rw [offB_at a2 (by omega), offB_at b2 (by omega)] at h3
    rw [apart_a h h1 hk (by omega)]

/-- so many bytes from o on are that block's -/
def inW (o n : Int) (b : Bk) : Bool := b.u && decide (offB b.a ≤ o ∧ o ≤ (b.a + b.s) * 8 - n)
def inL (o n : Int) (l : List Bk) : Bool := decide (0 ≤ n ∧ n ≤ 448) && l.any (inW o n)
theorem inW_yes {o n : Int} {b : Bk} : inW o n b = true ↔ b.u = true ∧ offB b.a ≤ o ∧ o ≤ (b.a + b.s) * 8 - n := by simp [inW]
theorem inL_yes {o n : Int} {l : List Bk} : inL o n l = true ↔ (0 ≤ n ∧ n ≤ 448) ∧ ∃ b ∈ l, b.u = true ∧ offB b.a ≤ o ∧ o ≤ (b.a + b.s) * 8 - n := by
  simp only [inL, Bool.and_eq_true, decide_eq_true_eq, List.any_eq_true, inW_yes]
theorem inL_no {o n : Int} {l : List Bk} (h : ∀ b ∈ l, b.u = true → ¬ (offB b.a ≤ o ∧ o ≤ (b.a + b.s) * 8 - n)) : inL o n l = false := by
  rw [Bool.eq_false_iff, Ne, inL_yes]
  rintro ⟨_, b, hb, hu, h1⟩
  exact h b hb hu h1

/-- why so many bytes may not be had -/
def refF (wl : List Int) (o n : Int) : Int := match blkF wl with
  | none => 6
  | some l => if inL o n l = true then 0 else 1
/-- what is told: a taking, a giving back -/
def alR (wl : List Int) (n : Int) (cs : List Int) : List Ed × Int × Int :=
  if needN n = 0 then ([], 0, 1) else match blkF wl with
  | none => ([], 0, 6)
  | some l => match chN (needN n) cs l with
    | none => ([], 0, 4)
    | some d => (cedF l d (needN n), offB (atL l d), 0)
def frR (wl : List Int) (o : Int) : List Ed × Int := match blkF wl with
  | none => ([], 6)
  | some l => match isN o l with
    | none => ([], 1)
    | some k => ([medF l k], 0)
theorem refF_cases (wl : List Int) (o n : Int) : refF wl o n = 0 ∨ refF wl o n = 1 ∨ refF wl o n = 6 := by
  unfold refF
  split
  · exact .inr (.inr rfl)
  · split
    · exact .inl rfl
    · exact .inr (.inl rfl)

/-- what words that are blocks are -/
theorem blkF_some {wl : List Int} {l : List Bk} (h : blkF wl = some l) : mayL wl.length l = true := by
  unfold blkF at h
  cases hr : rdF wl wl.length 0 with
  | none => rw [hr] at h; cases h
  | some m =>
    rw [hr, Option.bind_some] at h
    split at h
    · rename_i hm
      cases h
      exact hm
    · cases h
theorem blkF_len {wl : List Int} {l : List Bk} (h : blkF wl = some l) : l.length ≤ 256 ∧ wl.length ≤ 512 := by
  obtain ⟨hm, hf⟩ := mayL_yes.1 (blkF_some h)
  obtain ⟨_, h2, _⟩ := hm
  have := mayF_end hf
  omega
/-- what is told where there is a block that may be taken -/
theorem chN_can {n : Int} {cs : List Int} {l : List Bk} {m : Int} (hm : mayL m l = true) {d : Nat} (h : chN n cs l = some d) (hn : 2 ≤ n) : d < l.length ∧ canC l d n = true ∧ (l.getD d default).u = false ∧ n ≤ (l.getD d default).s ∧ d ∈ fitN n l := by
  have hd : d ∈ fitN n l := by
    by_cases hf : fitN n l = []
    · rw [chN_none hf] at h; cases h
    · obtain ⟨e, he, hd, _⟩ := chN_some (cs := cs) hf
      rw [he] at h
      cases h
      exact hd
  obtain ⟨h1, h2, _⟩ := fitN_mem hd
  obtain ⟨hu, h3, h4⟩ := fitB_iff.1 h2
  refine ⟨h1, ?_, hu, h4, hd⟩
  rw [can_at hm h1 hn, hu, decide_eq_true h4]
  rfl
theorem isN_can {wl : List Int} {l : List Bk} (h : blkF wl = some l) {o : Int} {k : Nat} (hk : isN o l = some k) : canM l k = true := by
  obtain ⟨h1, h2, _⟩ := isN_some hk
  rw [canM_at (blkF_some h) h1, h2]
theorem canM_neg (l : List Bk) : canM l (-1) = false := by
  rw [Bool.eq_false_iff, Ne, canM_yes]
  omega
end Go.Proofs.Ytkpefnjohdjejaa

/-
  Contracts of package image, and of the reference's of the same: the place of the used block at an offset, whether bytes are within one.
-/
namespace Go.Proofs.Ytkpefnjohdjejaa
set_option maxRecDepth 100000
open Go.RowKit

set_option maxHeartbeats 1000000 in
theorem ris_is (o : Int) (l : List Bk) (v : Value) (R : Option Nat) (w : World) (hv : RA blkE w v l) (hR : isN o l = R) :
    Calls Try.prog 57 #[v, .int .i64 o] w fun e w' => e = .returned (.int .i64 (oi R)) ∧ Below w.heap.size w w' := by
  obtain ⟨p, cap, rfl, hlc, hcm⟩ := ra_shape hv
  unfold maxLen at hcm
  have HL : Hid (l.length ≤ 9223372036854775807) := Lib.hid (by omega)
  have HV := Lib.hid hv
  have HR : Hid (isF o 0 l = R) := Lib.hid hR
  clear hR hcm hlc hv
  go_enter Try.func57, Try.ntmps57
  go_wp2
  go_loopw [9] (fun i wr => ∃ k : Nat, k ≤ l.length ∧ i = .int .i64 k ∧ Hid (isF o k (l.drop k) = R ∧ Below w.heap.size w wr)) (fun i _ => l.length - (intOf i).toNat)
  case atStart => exact ⟨0, Nat.zero_le _, rfl, Lib.hid ⟨HR.out, Below.refl _ _⟩⟩
  case round =>
    obtain ⟨k, hk, rfl, H⟩ := hrel
    by_cases hlt : k < l.length
    · obtain ⟨b, off, rfl, hb, hx⟩ := blk_at (ra_below HV.out H.out.2) (by omega)
      obtain ⟨hld, _, _, _, hwf⟩ := hx k hlt
      have hF := H.out.1
      rw [getD_cut hlt, isF] at hF
      generalize l.getD k default = y at *
      obtain ⟨a, s, u⟩ := y
      obtain ⟨W, hW, HW⟩ := blk_boxed wr ⟨a, s, u⟩
      have l0 := HW.out.1.load
      have c2 : W.cell? ⟨wr.heap.size, 2, none⟩ = some (.bool u) := HW.out.1.c2
      obtain ⟨x, hx2⟩ : ∃ x, offB a = x := ⟨_, rfl⟩
      have C := Lib.hid (roff_is ⟨a, s, u⟩ x hx2 W)
      have HB := Lib.hid (below_more H.out.2 HW.out.2)
      have i0 : (0 : Int) ≤ (k : Int) := by omega
      have i1 : (k : Int) < (l.length : Int) := by omega
      have i2 : ¬ (k : Int) < 0 := by omega
      have i3 : IntKind.i64.wrap ((k : Int) + 1) = ((k + 1 : Nat) : Int) := by rw [show (k : Int) + 1 = ((k + 1 : Nat) : Int) by omega]; exact i64_nat _ (by have := HL.out; omega)
      have HK := Lib.hid hlt
      simp only [hx2] at hF
      clear hx hk hb hwf hx2
      cases u
      · rw [if_neg (by simp)] at hF
        have HF := Lib.hid hF
        clear hF C
        go_wp2
        go_roundw
        case rel => exact ⟨k + 1, by have := HK.out; omega, by go_num, Lib.hid ⟨HF.out, HB.out⟩⟩
        case measure => have := HK.out; simp [intOf]; omega
      · by_cases he : x = o
        · rw [if_pos ⟨rfl, he⟩] at hF
          subst hF
          have e1 : (x == o) = true := by rw [he]; simp
          clear he i3
          go_wp2_with fail
          refine (C.out).mono ?_; rintro e w' ⟨rfl, hb⟩
          have HB2 := Lib.hid (below_more HB.out hb)
          clear hb
          go_wp2
          go_ret
          exact ⟨rfl, HB2.out⟩
        · rw [if_neg (fun h => he h.2)] at hF
          have e1 : (x == o) = false := beq_eq_false_iff_ne.2 he
          have HF := Lib.hid hF
          clear he hF
          go_wp2_with fail
          refine (C.out).mono ?_; rintro e w' ⟨rfl, hb⟩
          have HB2 := Lib.hid (below_more HB.out hb)
          clear hb
          go_wp2
          go_roundw
          case rel => exact ⟨k + 1, by have := HK.out; omega, by go_num, Lib.hid ⟨HF.out, HB2.out⟩⟩
          case measure => have := HK.out; simp [intOf]; omega
    · obtain rfl : k = l.length := by omega
      have hF := H.out.1
      rw [List.drop_length, isF] at hF
      subst hF
      go_wp2
      go_ret
      exact ⟨rfl, H.out.2⟩

/-- a block of a heap -/
def Sm (b : Bk) : Prop := 0 ≤ b.a ∧ 0 ≤ b.s ∧ b.a + b.s ≤ 512
theorem sm_of {wl : List Int} {l : List Bk} (h : blkF wl = some l) : ∀ b ∈ l, Sm b := fun b hb => by
  obtain ⟨hm, hf⟩ := mayL_yes.1 (blkF_some h)
  obtain ⟨⟨h1, _⟩, h2, h3⟩ := mayF_sizes hf b hb
  obtain ⟨_, h4, _⟩ := hm
  exact ⟨by omega, by omega, by omega⟩
/-- what is met where bytes are sought in a block -/
theorem ends_of {b : Bk} (h : Sm b) {n : Int} (h0 : 0 ≤ n) (h1 : n ≤ 448) : ∃ S E D X : Int, IntKind.i64.wrap (b.a + b.s) = S ∧ IntKind.i64.wrap (S * 8) = E ∧ IntKind.i64.wrap (E - n) = D ∧ E = (b.a + b.s) * 8 ∧ D = (b.a + b.s) * 8 - n ∧ offB b.a = X ∧ 8 ≤ X ∧ E ≤ 4096 := by
  obtain ⟨g1, g2, g3⟩ := h
  refine ⟨b.a + b.s, (b.a + b.s) * 8, (b.a + b.s) * 8 - n, _, ?_, ?_, ?_, rfl, rfl, rfl, ?_, ?_⟩
  · exact IntWalk.i64_in _ (by omega)
  · exact IntWalk.i64_in _ (by omega)
  · exact IntWalk.i64_in _ (by omega)
  · rw [offB_at g1 (by omega)]; omega
  · omega



set_option maxHeartbeats 2000000 in
theorem rwi_is (l : List Bk) (o n : Int) (v : Value) (w : World) (hv : RA blkE w v l) (hl : l.length ≤ 1000) (hS : ∀ b ∈ l, Sm b) :
    Calls Try.prog 80 #[v, .int .i64 o, .int .i64 n] w fun e w' => e = .returned (.bool (inL o n l)) ∧ Below w.heap.size w w' := by
  obtain ⟨p, cap, rfl, hlc, hcm⟩ := ra_shape hv
  have HV := Lib.hid hv
  have HL := Lib.hid hl
  have HS := Lib.hid hS
  clear hv hl hS hlc hcm
  by_cases h1 : n < 0
  · have e0 : inL o n l = false := by rw [Bool.eq_false_iff, Ne, inL_yes]; omega
    rw [e0]
    generalize l.length = L at *
    go_enter Try.func80, Try.ntmps80
    go_wp2_with fail
    go_ret
    exact ⟨rfl, Below.refl _ _⟩
  · by_cases h2 : n > 448
    · have e0 : inL o n l = false := by rw [Bool.eq_false_iff, Ne, inL_yes]; omega
      rw [e0]
      generalize l.length = L at *
      go_enter Try.func80, Try.ntmps80
      go_wp2_with fail
      go_ret
      exact ⟨rfl, Below.refl _ _⟩
    · have HA : Hid (inL o n l = l.any (inW o n)) := Lib.hid (by rw [inL, decide_eq_true ⟨by omega, by omega⟩, Bool.true_and])
      rw [HA.out]
      clear HA
      have HN : Hid (0 ≤ n ∧ n ≤ 448) := Lib.hid ⟨by omega, by omega⟩
      obtain ⟨R, hR⟩ : ∃ R, l.any (inW o n) = R := ⟨_, rfl⟩
      rw [hR]
      have HR := Lib.hid hR
      clear hR
      go_enter Try.func80, Try.ntmps80
      go_wp2
      go_loopw [18] (fun i wr => ∃ k : Nat, k ≤ l.length ∧ i = .int .i64 k ∧ Hid ((l.drop k).any (inW o n) = R ∧ Below w.heap.size w wr)) (fun i _ => l.length - (intOf i).toNat)
      case atStart => exact ⟨0, Nat.zero_le _, rfl, Lib.hid ⟨HR.out, Below.refl _ _⟩⟩
      case round =>
        obtain ⟨k, hk, rfl, H⟩ := hrel
        by_cases hlt : k < l.length
        · obtain ⟨b, off, rfl, hb, hx⟩ := blk_at (ra_below HV.out H.out.2) (by omega)
          obtain ⟨hld, _, _, _, hwf⟩ := hx k hlt
          have hF := H.out.1
          rw [getD_cut hlt, List.any_cons] at hF
          have hS := HS.out _ (getD_mem hlt)
          generalize l.getD k default = y at *
          obtain ⟨a, s, u⟩ := y
          obtain ⟨W, hW, HW⟩ := blk_boxed wr ⟨a, s, u⟩
          have l0 := HW.out.1.load
          have c0 : W.cell? ⟨wr.heap.size, 0, none⟩ = some (.int .i64 a) := HW.out.1.c0
          have c1 : W.cell? ⟨wr.heap.size, 1, none⟩ = some (.int .i64 s) := HW.out.1.c1
          have c2 : W.cell? ⟨wr.heap.size, 2, none⟩ = some (.bool u) := HW.out.1.c2
          obtain ⟨S, E, D, X, e1, e2, e3, e4, e5, e6, e7, e8⟩ := ends_of hS HN.out.1 HN.out.2
          simp only at e1 e4 e5 e6
          have C := Lib.hid (roff_is ⟨a, s, u⟩ X e6 W)
          rw [inW] at hF
          simp only [e6] at hF
          rw [← e5] at hF
          have HE : Hid (D = E - n ∧ 8 ≤ X ∧ E ≤ 4096) := Lib.hid ⟨by omega, e7, e8⟩
          have HB := Lib.hid (below_more H.out.2 HW.out.2)
          have i0 : (0 : Int) ≤ (k : Int) := by omega
          have i1 : (k : Int) < (l.length : Int) := by omega
          have i2 : ¬ (k : Int) < 0 := by omega
          have i3 : IntKind.i64.wrap ((k : Int) + 1) = ((k + 1 : Nat) : Int) := by rw [show (k : Int) + 1 = ((k + 1 : Nat) : Int) by omega]; exact i64_nat _ (by have := HL.out; omega)
          have HK := Lib.hid hlt
          clear hx hk hb hwf hS e3 e4 e5 e6 e7 e8
          have FIN : Hid (u = false ∨ ¬ (X ≤ o ∧ o ≤ D) → (l.drop (k + 1)).any (inW o n) = R) := Lib.hid fun h => by
            rw [← hF]
            rcases h with h | h
            · rw [h]; simp
            · rw [decide_eq_false h]; simp
          have YES : Hid (u = true → (X ≤ o ∧ o ≤ D) → true = R) := Lib.hid fun h h' => by
            rw [← hF, h, decide_eq_true h']; simp
          clear hF
          cases u
          · have HF := Lib.hid (FIN.out (.inl rfl))
            clear FIN YES C
            go_wp2
            go_roundw
            case rel => exact ⟨k + 1, by have := HK.out; omega, by go_num, Lib.hid ⟨HF.out, HB.out⟩⟩
            case measure => have := HK.out; simp [intOf]; omega
          · by_cases h3 : o ≥ X
            · by_cases h4 : o ≤ E
              · obtain ⟨G, hG⟩ : ∃ G, E - o = G := ⟨_, rfl⟩
                have j1 : IntKind.i64.wrap (E - o) = G := by rw [hG]; exact IntWalk.i64_in _ (by have := HE.out; omega)
                by_cases h5 : n ≤ G
                · have HY := YES.out rfl ⟨h3, by have := HE.out; omega⟩
                  subst HY
                  clear FIN YES i3 hG
                  go_wp2_with fail
                  refine (C.out).mono ?_; rintro e w' ⟨rfl, hb⟩
                  have HB2 := Lib.hid (below_more HB.out hb)
                  clear hb
                  go_wp2
                  go_ret
                  exact ⟨rfl, HB2.out⟩
                · have HF := Lib.hid (FIN.out (.inr (by have := HE.out; omega)))
                  clear FIN YES hG
                  go_wp2_with fail
                  refine (C.out).mono ?_; rintro e w' ⟨rfl, hb⟩
                  have HB2 := Lib.hid (below_more HB.out hb)
                  clear hb
                  go_wp2
                  go_roundw
                  case rel => exact ⟨k + 1, by have := HK.out; omega, by go_num, Lib.hid ⟨HF.out, HB2.out⟩⟩
                  case measure => have := HK.out; simp [intOf]; omega
              · have HF := Lib.hid (FIN.out (.inr (by have := HE.out; have := HN.out; omega)))
                clear FIN YES
                go_wp2_with fail
                refine (C.out).mono ?_; rintro e w' ⟨rfl, hb⟩
                have HB2 := Lib.hid (below_more HB.out hb)
                clear hb
                go_wp2
                go_roundw
                case rel => exact ⟨k + 1, by have := HK.out; omega, by go_num, Lib.hid ⟨HF.out, HB2.out⟩⟩
                case measure => have := HK.out; simp [intOf]; omega
            · have HF := Lib.hid (FIN.out (.inr (by omega)))
              clear FIN YES
              go_wp2_with fail
              refine (C.out).mono ?_; rintro e w' ⟨rfl, hb⟩
              have HB2 := Lib.hid (below_more HB.out hb)
              clear hb
              go_wp2
              go_roundw
              case rel => exact ⟨k + 1, by have := HK.out; omega, by go_num, Lib.hid ⟨HF.out, HB2.out⟩⟩
              case measure => have := HK.out; simp [intOf]; omega
        · obtain rfl : k = l.length := by omega
          have hF := H.out.1
          rw [List.drop_length, List.any_nil] at hF
          subst hF
          go_wp2
          go_ret
          exact ⟨rfl, H.out.2⟩
end Go.Proofs.Ytkpefnjohdjejaa

/-
  Contracts of package image: what a taking, a giving back, a reading and a writing tell.
-/
namespace Go.Proofs.Ytkpefnjohdjejaa
set_option maxRecDepth 100000
open Go.ChangeShapes Go.WideShapes Go.ChangeAt Go.RowKit

theorem own_nil_e (B : Nat) (w : World) : OwnA edE B w (.slice none 0 0) [] := own_nil_a _ _ _
/-- the d-th block, loaded whole -/
theorem blk_ld {w : World} {v : Value} {l : List Bk} (h : RA blkE w v l) {d : Nat} (hd : d < l.length) : ∃ b off c, v = .slice (some ⟨b, off, none⟩) l.length c ∧ (blkLoad (.pointer (some ⟨b, off + d * 3, none⟩))).run Try.prog w = .ok (.agg (bc (l.getD d default))) w ∧
    w.cell? ⟨b, off + d * 3, none⟩ = some (.int .i64 (l.getD d default).a) ∧ w.cell? ⟨b, off + d * 3 + 1, none⟩ = some (.int .i64 (l.getD d default).s) := by
  obtain ⟨p, c, rfl, _, _⟩ := ra_shape h
  obtain ⟨b, off, rfl, _, hx⟩ := blk_at h (by omega)
  exact ⟨b, off, c, rfl, (hx d hd).1, (hx d hd).2.1, (hx d hd).2.2.1⟩
theorem wd_ok {wl : List Int} (h : WordsOk wl) : ∀ x ∈ wl, Wd x := fun x hx => by
  obtain ⟨j, hj, rfl⟩ := List.getElem_of_mem hx
  have := h j hj
  rw [List.getD_eq_getElem?_getD, List.getElem?_eq_getElem hj] at this
  exact ⟨this.1, by have := this.2; simp only [Option.getD_some] at this; omega⟩



/-- bytes that are read, what a writing tells -/
def rdR (wl : List Int) (o n : Int) : List Int := if refF wl o n = 0 then rdL wl o n else []
def WrT (wl bl : List Int) (o : Int) (L : List Ed) : Prop := if refF wl o bl.length = 0 then Tells wl bl o L else L = []
theorem WrT.one {wl bl : List Int} {o : Int} {L L' : List Ed} (h : WrT wl bl o L) (h' : WrT wl bl o L') : L = L' := by
  unfold WrT at h h'
  split at h
  · rename_i c
    rw [if_pos c] at h'
    exact h.one h'
  · rename_i c
    rw [if_neg c] at h'
    rw [h, h']
theorem own_nil_by (B : Nat) (w : World) : OwnA byE B w (.slice none 0 0) [] := own_nil_a _ _ _




/-- is there a used block whose bytes begin there -/
def isB (wl : List Int) (o : Int) : Bool := match blkF wl with
  | none => false
  | some l => (isN o l).isSome
end Go.Proofs.Ytkpefnjohdjejaa

/-
  Contracts of the reference: whether edits are the same, edits written into words.
-/
namespace Go.Proofs.Ytkpefnjohdjejaa
set_option maxRecDepth 100000
open Go.RowKit


theorem appF_take {l : List Int} {es : List Ed} {k : Nat} (h : k < es.length) : appF l (es.take (k + 1)) = if 0 ≤ (es.getD k default).w ∧ (es.getD k default).w < (appF l (es.take k)).length then (appF l (es.take k)).set (es.getD k default).w.toNat (es.getD k default).v else appF l (es.take k) := by
  rw [List.take_add_one, appF_app, List.getElem?_eq_getElem h, List.getD_eq_getElem?_getD, List.getElem?_eq_getElem h]
  rfl
set_option maxHeartbeats 1000000 in
theorem rapply_is (l : List Int) (es : List Ed) (v u : Value) (w : World) (hv : RU w v l) (hu : RA edE w u es) (h0 : 0 < l.length) (hl : l.length ≤ 1000) (hel : es.length ≤ 4000) :
    Calls Try.prog 53 #[v, u] w fun e w' => (∃ x, e = .returned x ∧ OwnU w.heap.size w' x (appF l es)) ∧ Below w.heap.size w w' := by
  obtain ⟨p, c, rfl, _, _⟩ := ra_shape hu
  obtain ⟨p2, c2, rfl, _, _, _⟩ := id hv
  have HE := Lib.hid (fun (w' : World) (hb : Below w.heap.size w w') => ra_below hu hb)
  have HV := Lib.hid hv
  have HL := Lib.hid (And.intro h0 (And.intro hl hel))
  clear hu hv h0 hl hel
  go_enter Try.func53, Try.ntmps53
  go_wp2_with (at_builtin; refine list_app_u64 rfl _ _ rfl w.heap.size (.slice none 0 0) [] rfl (own_nil_u _ _) _ l rfl HV.out (by have := HL.out; simp; omega) (Nat.le_refl _) ?_)
  intro v' w1 ho hg _
  have hb1 := below_app_u (Below.refl _ _) (Nat.le_refl _) (own_nil_u w.heap.size w) hg
  obtain ⟨g, d, rfl, hgg, _, _⟩ := ho.block (HL.out.1)
  have HG := Lib.hid hgg
  have O1 := Lib.hid ho
  have D1 := Lib.hid hb1
  clear ho hg hb1 hgg
  go_wp2
  go_loopw [7, 12] (fun x i wr => ∃ k : Nat, k ≤ es.length ∧ i = .int .i64 k ∧ Hid (OwnU w.heap.size wr (.slice (some ⟨g, 0, none⟩) l.length d) (appF l (es.take k)) ∧ Below w.heap.size w wr)) (fun _ i _ => es.length - (intOf i).toNat)
  case atStart => exact ⟨0, Nat.zero_le _, rfl, Lib.hid ⟨O1.out, D1.out⟩⟩
  case round =>
    obtain ⟨k, hk, rfl, H⟩ := hrel
    by_cases hlt : k < es.length
    · obtain ⟨b, off, rfl, hb, hx⟩ := ed_at (HE.out _ H.out.2) (by omega)
      obtain ⟨hld, _, _, hwf⟩ := hx k hlt
      have hF := appF_take (l := l) hlt
      rw [appF_length] at hF
      generalize es.getD k default = y at *
      obtain ⟨a, x⟩ := y
      simp only at hF
      obtain ⟨W, hW, HW⟩ := ed_boxed wr ⟨a, x⟩
      have c0 : W.cell? ⟨wr.heap.size, 0, none⟩ = some (.int .i64 a) := HW.out.1.c0
      have c1 : W.cell? ⟨wr.heap.size, 1, none⟩ = some (.int .u64 x) := HW.out.1.c1
      have hB := below_more H.out.2 HW.out.2
      have hO := H.out.1.below HW.out.2
      have i0 : (0 : Int) ≤ (k : Int) := by omega
      have i1 : (k : Int) < (es.length : Int) := by omega
      have i2 : ¬ (k : Int) < 0 := by omega
      have i3 : IntKind.i64.wrap ((k : Int) + 1) = ((k + 1 : Nat) : Int) := by rw [show (k : Int) + 1 = ((k + 1 : Nat) : Int) by omega]; exact i64_nat _ (by have := HL.out; omega)
      have HK := Lib.hid hlt
      by_cases h1 : 0 ≤ a
      · by_cases h2 : a < (l.length : Int)
        · rw [if_pos ⟨h1, h2⟩] at hF
          obtain ⟨z, rfl⟩ : ∃ z : Nat, a = z := ⟨a.toNat, by omega⟩
          rw [Int.toNat_natCast] at hF
          have i4 : (z : Int) ≥ 0 := by omega
          have i5 : ¬ (z : Int) < 0 := by omega
          have i6 : ¬ (l.length : Int) ≤ (z : Int) := by omega
          obtain ⟨_, z3⟩ := OwnU.cells hO (j := z) (by rw [appF_length]; omega)
          obtain ⟨c3, _⟩ := OwnU.cells hO (j := z) (by rw [appF_length]; omega)
          generalize (appF l (es.take k)).getD z 0 = y at c3
          have HN : Hid (OwnU w.heap.size (W.setCell ⟨g, z, none⟩ (.int .u64 x)) (.slice (some ⟨g, 0, none⟩) l.length d) (appF l (es.take (k + 1))) ∧ Below w.heap.size w (W.setCell ⟨g, z, none⟩ (.int .u64 x))) := Lib.hid ⟨by rw [hF]; exact OwnU.stored hO z x, hB.setCell (p := ⟨g, z, none⟩) HG.out _⟩
          clear hx hF hB hO hb hk hlt h1 hwf
          go_wp2
          go_roundw
          case rel => exact ⟨k + 1, by have := HK.out; omega, by go_num, HN⟩
          case measure => have := HK.out; simp [intOf]; omega
        · rw [if_neg (by omega)] at hF
          have HN := Lib.hid (And.intro hO hB)
          rw [← hF] at HN
          clear hx hF hB hO hb hk hlt hwf
          go_wp2
          go_roundw
          case rel => exact ⟨k + 1, by have := HK.out; omega, by go_num, HN⟩
          case measure => have := HK.out; simp [intOf]; omega
      · rw [if_neg (by omega)] at hF
        have HN := Lib.hid (And.intro hO hB)
        rw [← hF] at HN
        clear hx hF hB hO hb hk hlt hwf
        go_wp2
        go_roundw
        case rel => exact ⟨k + 1, by have := HK.out; omega, by go_num, HN⟩
        case measure => have := HK.out; simp [intOf]; omega
    · obtain rfl : k = es.length := by omega
      have hF := H.out
      rw [List.take_length] at hF
      have HF := Lib.hid hF
      clear hF
      go_wp2
      go_ret
      exact ⟨⟨_, rfl, HF.out.1⟩, HF.out.2⟩
end Go.Proofs.Ytkpefnjohdjejaa

/-
  A slice of ints of a call's own, made by make: stores and loads; a list given by a function.
-/
namespace Go.Proofs.Ytkpefnjohdjejaa
set_option maxRecDepth 100000
open Go.ChangeShapes Go.WideShapes Go.ChangeAt Go.RowKit

theorem made_own_i (w : World) (n : Nat) (hn : n ≤ maxLen) : OwnI w.heap.size (w.alloc (.cells (madeCells #[.int .i64 0] n) 3)) (.slice (some ⟨w.heap.size, 0, none⟩) n n) (List.replicate n 0) := by
  have e : (madeCells #[.int .i64 0] n).toList = (List.replicate n 0).map iv := by rw [toList_madeCells_one]; simp [iv]
  refine ⟨by simp, .inr ⟨w.heap.size, n, madeCells #[.int .i64 0] n, by simp, Nat.le_refl _, heap_alloc_new w _, by simp, hn, by rw [← Array.length_toList, e]; simp, by rw [e]; simp⟩⟩
theorem own_stored_i {B g c : Nat} {w : World} {n : Nat} {l : List Int} (h : OwnI B w (.slice (some ⟨g, 0, none⟩) n c) l) (j : Nat) (x : Int) : OwnI B (w.setCell ⟨g, j, none⟩ (.int .i64 x)) (.slice (some ⟨g, 0, none⟩) n c) (l.set j x) := by
  have hn : n = l.length := by
    obtain ⟨p, c', e⟩ := h.shape
    cases e; rfl
  subst hn
  have := World.ownsRow.stored (g := g) (cap := c) h j (iv x)
  unfold OwnI
  rw [List.length_set, List.map_set]
  exact this.1
theorem own_cell_i {B : Nat} {w : World} {g n c : Nat} {l : List Int} (h : OwnI B w (.slice (some ⟨g, 0, none⟩) n c) l) {j : Nat} (hj : j < l.length) : w.cell? ⟨g, j, none⟩ = some (.int .i64 (l.getD j 0)) ∧ w.frozen? ⟨g, j, none⟩ = false := by
  have hn : n = l.length := by
    obtain ⟨p, c', e⟩ := h.shape
    cases e; rfl
  subst hn
  refine ⟨?_, World.ownsRow.frozenAt (g := g) (cap := c) h j⟩
  rw [World.ownsRow.cellAt (g := g) (cap := c) h j (by omega)]
  simp [hj, iv]
theorem own_below_i {B : Nat} {w w' : World} {v : Value} {l : List Int} (h : OwnI B w v l) (hb : Below w.heap.size w w') : OwnI B w' v l := by
  refine ⟨h.1, h.2.imp id ?_⟩
  rintro ⟨g, cap, cur, hv, h1, hg, r⟩
  exact ⟨g, cap, cur, hv, h1, (hb.block g (Array.getElem?_eq_some_iff.1 hg).1).trans hg, r⟩

/-- n ints, given by a function -/
def byF (n : Nat) (f : Nat → Int) : List Int := (List.range n).map f
theorem byF_length (n : Nat) (f : Nat → Int) : (byF n f).length = n := by simp [byF]
theorem byF_getD {n k : Nat} (f : Nat → Int) (h : k < n) : (byF n f).getD k 0 = f k := by simp [byF, h]
theorem byF_zero (n : Nat) {f : Nat → Int} (h : ∀ k, f k = 0) : List.replicate n 0 = byF n f := by
  refine List.ext_getElem (by simp [byF]) fun i h1 h2 => ?_
  simp [byF, h]
theorem byF_set {n s : Nat} {f f' : Nat → Int} {x : Int} (h : x = f' s) (ho : ∀ k, k ≠ s → f' k = f k) : (byF n f).set s x = byF n f' := by
  refine List.ext_getElem (by simp [byF]) fun i h1 h2 => ?_
  rw [List.getElem_set]
  split
  · rename_i e; subst e; simp [byF, h]
  · rename_i e; simp [byF, ho i (fun q => e q.symm)]
end Go.Proofs.Ytkpefnjohdjejaa

/-
  Words edited where a block is taken, plainly: they are read as the blocks behind the taking; all of the taken one's but its header are noughts, those beside it are as they were.
-/
namespace Go.Proofs.Ytkpefnjohdjejaa
set_option maxRecDepth 100000

theorem byF_ext {n : Nat} {f g : Nat → Int} (h : ∀ k, k < n → f k = g k) : byF n f = byF n g := by
  refine List.ext_getElem (by simp [byF]) fun i h1 h2 => ?_
  simp [byF] at h1
  simp [byF, h i h1]
/-- words of which each nought ahead of k is turned into another word -/
def fil (n : Nat) (W : List Int) (sd : Int) (k : Nat) : List Int := byF n fun j => if j < k ∧ W.getD j 0 = 0 then IntKind.u64.wrap (sd + j) else W.getD j 0
theorem fil_length (n : Nat) (W : List Int) (sd : Int) (k : Nat) : (fil n W sd k).length = n := byF_length ..
theorem fil_getD {n j : Nat} (W : List Int) (sd : Int) (k : Nat) (h : j < n) : (fil n W sd k).getD j 0 = if j < k ∧ W.getD j 0 = 0 then IntKind.u64.wrap (sd + j) else W.getD j 0 := byF_getD _ h
theorem fil_zero {W : List Int} (sd : Int) : fil W.length W sd 0 = W := by
  refine List.ext_getElem (fil_length ..) fun i h1 h2 => ?_
  have := fil_getD W sd 0 h2
  rw [if_neg (by omega)] at this
  simp only [List.getD_eq_getElem?_getD] at this
  rw [List.getElem?_eq_getElem h1, List.getElem?_eq_getElem h2] at this
  exact this
theorem fil_same {n k : Nat} {W : List Int} (sd : Int) (h : W.getD k 0 ≠ 0) : fil n W sd (k + 1) = fil n W sd k := byF_ext fun j _ => by
  by_cases e : j = k
  · subst e
    rw [if_neg (fun q => h q.2), if_neg (fun q => h q.2)]
  · by_cases c : j < k
    · by_cases d : W.getD j 0 = 0
      · rw [if_pos ⟨by omega, d⟩, if_pos ⟨c, d⟩]
      · rw [if_neg (fun q => d q.2), if_neg (fun q => d q.2)]
    · rw [if_neg (fun q => by omega), if_neg (fun q => c q.1)]
theorem fil_set {n k : Nat} {W : List Int} (sd : Int) (h : W.getD k 0 = 0) : (fil n W sd k).set k (IntKind.u64.wrap (sd + k)) = fil n W sd (k + 1) := byF_set (by rw [if_pos ⟨by omega, h⟩]) fun j e => by
  by_cases d : W.getD j 0 = 0
  · by_cases c : j < k
    · rw [if_pos ⟨by omega, d⟩, if_pos ⟨c, d⟩]
    · rw [if_neg (fun q => by omega), if_neg (fun q => c q.1)]
  · rw [if_neg (fun q => d q.2), if_neg (fun q => d q.2)]
theorem fil_next {n k : Nat} {W : List Int} (sd : Int) (h : k < n) : (fil n W sd k).getD k 0 = W.getD k 0 := by
  rw [fil_getD W sd k h, if_neg (by omega)]
theorem wrap_in (x : Int) : 0 ≤ IntKind.u64.wrap x ∧ IntKind.u64.wrap x ≤ 18446744073709551615 := by
  rw [IntKind.wrap_u64]; omega
theorem fil_ok {n k : Nat} {W : List Int} {sd : Int} (hl : W.length = n) (h : WordsOk W) : WordsOk (fil n W sd k) := fun j hj => by
  rw [fil_length] at hj
  rw [fil_getD W sd k hj]
  split
  · exact wrap_in _
  · exact h j (by omega)
theorem appF_ok : ∀ (e : List Ed) (w : List Int), (∀ x ∈ e, 0 ≤ x.v ∧ x.v ≤ 18446744073709551615) → WordsOk w → WordsOk (appF w e)
  | [], _, _, h => h
  | x :: r, w, he, h => by
    rw [appF]
    refine appF_ok r _ (fun y hy => he y (List.mem_cons_of_mem _ hy)) ?_
    split
    · exact set_ok h (he x (List.mem_cons_self ..)).1 (he x (List.mem_cons_self ..)).2
    · exact h
theorem rise_mem : ∀ (vs : List Int) (a : Int), ∀ x ∈ rise a vs, x.v ∈ vs
  | [], _, x, h => by cases h
  | v :: r, a, x, h => by
    rw [rise] at h
    rcases List.mem_cons.1 h with rfl | h
    · exact List.mem_cons_self ..
    · exact List.mem_cons_of_mem _ (rise_mem r _ x h)
theorem takV_in (b : Bk) (n : Int) : ∀ v ∈ takV b n, 0 ≤ v ∧ v ≤ 18446744073709551615 := fun v hv => by
  rw [takV] at hv
  rcases List.mem_cons.1 hv with rfl | hv
  · exact hdB_in _ _
  · rcases List.mem_append.1 hv with hv | hv
    · rw [(List.mem_replicate.1 hv).2]; decide
    · split at hv
      · cases hv
      · rw [List.mem_singleton.1 hv]; exact hdB_in _ _
theorem hdB_ne {n : Int} {u : Bool} (h : MayB n) : hdB n u ≠ 0 := by
  rw [hdB_yes h]
  obtain ⟨h1, _⟩ := h
  rcases useB_or u with ⟨_, e⟩ | ⟨_, e⟩ <;> omega
theorem mayF_behind {n a : Int} {f : Bool} {p r : List Bk} {b : Bk} (h : mayF n a f (p ++ b :: r) = true) : ∀ c ∈ r, b.a + b.s ≤ c.a := fun c hc => by
  obtain ⟨g, h, _⟩ := mayF_app h
  obtain ⟨h1, _, _, h⟩ := mayF_cons.1 h
  have := (mayF_sizes h c hc).2.1
  omega
theorem mayF_ahead {n a : Int} {f : Bool} {p r : List Bk} {b : Bk} (h : mayF n a f (p ++ b :: r) = true) : ∀ c ∈ p, c.a + c.s ≤ b.a := fun c hc => by
  obtain ⟨p1, p2, rfl⟩ := List.append_of_mem hc
  rw [List.append_assoc, List.cons_append] at h
  exact mayF_behind h b (List.mem_append.2 (.inr (List.mem_cons_self ..)))

/-- what the words are, behind the edits -/
structure Edited (n z t m : Nat) (X v : List Int) : Prop where
  len : v.length = n
  ok : WordsOk v
  nul : ∀ k, z < k → k < z + t → v.getD k 0 = 0
  lo : ∀ k, k < z → v.getD k 0 = X.getD k 0
  hi : ∀ k, z + t + (if t < m then 1 else 0) ≤ k → v.getD k 0 = X.getD k 0
theorem edited {n z m t : Nat} {l : List Bk} {I N sd : Int} {u : Bool} (h : mayL n l = true) (hc : canC l I N = true) (hb : bAt l I = ⟨z, m, u⟩) (ht : takN m N = t) :
    blkF (appF (fil n (wrF (List.replicate n 0) l) sd n) (cedF l I N)) = some (crvF l I N) ∧ Edited n z t m (fil n (wrF (List.replicate n 0) l) sd n) (appF (fil n (wrF (List.replicate n 0) l) sd n) (cedF l I N)) := by
  obtain ⟨_, h0, h1, hu, hne⟩ := canC_yes.1 hc
  obtain ⟨hmw, hf⟩ := mayL_yes.1 h
  have hsp := bAt_split h0 h1
  have hin := mayF_sizes hf _ (bAt_mem h0 h1)
  rw [hb] at hu hne hin hsp
  simp only at hu hne hin
  obtain ⟨t1, t2, t3, t4⟩ := takN_some hne
  rw [ht] at t2 t3 t4 hne
  obtain ⟨⟨s1, s2⟩, s3, s4⟩ := hin
  have hcd : cedF l I N = rise (z : Int) (takV ⟨z, m, u⟩ N) := by
    rw [cedF, if_pos hc, hb]
    exact edF_prt (by simp only; rw [ht]; exact hne)
  have hvl := takV_length (b := ⟨z, m, u⟩) (n := N) (by simp only; rw [ht]; exact hne)
  have hva := takV_at (b := ⟨z, m, u⟩) (n := N) (by simp only; rw [ht]; exact hne)
  simp only [ht] at hvl hva
  have hML : (takV ⟨z, m, u⟩ N).length = t + (if t < m then 1 else 0) := by
    split at hvl <;> split <;> omega
  have hTM : t + (if t < m then 1 else 0) ≤ m := by split <;> omega
  obtain ⟨X, hX⟩ : ∃ X, fil n (wrF (List.replicate n 0) l) sd n = X := ⟨_, rfl⟩
  have hXl : X.length = n := by rw [← hX]; exact fil_length ..
  have hXok : WordsOk X := by rw [← hX]; exact fil_ok (by rw [wrF_length, List.length_replicate]) (wrF_ok _ _ (zeros_ok n))
  have hXh : ∀ c ∈ l, X.getD c.a.toNat 0 = hdB c.s c.u := fun c hc => by
    obtain ⟨g1, g2, g3⟩ := mayF_sizes hf c hc
    have hw := wrF_all (w := List.replicate n 0) (f := false) (by rw [List.length_replicate]; exact hf) c hc
    obtain ⟨g4, _⟩ := id g1
    rw [← hX, fil_getD _ _ _ (by omega), if_neg (fun q => by rw [hw] at q; exact hdB_ne g1 q.2), hw]
  rw [hX, hcd]
  have hv : ∀ j, (appF X (rise (z : Int) (takV ⟨z, m, u⟩ N))).getD j 0 = if z ≤ j ∧ j < z + (takV ⟨z, m, u⟩ N).length then (takV ⟨z, m, u⟩ N).getD (j - z) 0 else X.getD j 0 := fun j => appF_rise _ _ _ _ (by rw [hML]; omega)
  rw [hML] at hv
  have hlen : (appF X (rise (z : Int) (takV ⟨z, m, u⟩ N))).length = n := by rw [appF_length, hXl]
  have hokv : WordsOk (appF X (rise (z : Int) (takV ⟨z, m, u⟩ N))) := appF_ok _ _ (fun x hx => takV_in _ _ _ (rise_mem _ _ x hx)) hXok
  generalize hV : appF X (rise (z : Int) (takV ⟨z, m, u⟩ N)) = V at *
  refine ⟨blkF_of (by rw [hlen]; exact mayL_crv h hc) fun b hbm => ?_, hlen, hokv, fun k k1 k2 => ?_, fun k k1 => ?_, fun k k1 => ?_⟩
  · rw [crvF, if_pos hc, hb] at hbm
    rw [hsp] at hf
    have ha := mayF_ahead hf
    have hbh := mayF_behind hf
    rcases List.mem_append.1 hbm with hbm | hbm
    · have hbl : b ∈ l := List.mem_of_mem_take hbm
      have g := ha b hbm
      obtain ⟨⟨g1, _⟩, g2, _⟩ := mayF_sizes (mayL_yes.1 h).2 b hbl
      rw [hv, if_neg (by simp only at g; omega), hXh b hbl]
    · rcases List.mem_append.1 hbm with hbm | hbm
      · unfold prtB at hbm
        simp only [ht] at hbm
        split at hbm
        · rename_i e
          obtain rfl := List.mem_singleton.1 hbm
          rw [Int.toNat_natCast, hv, if_pos (by omega), Nat.sub_self, hva, if_pos rfl, e]
        · rename_i e
          simp only [List.mem_cons, List.not_mem_nil, or_false] at hbm
          rcases hbm with rfl | rfl
          · simp only [Int.toNat_natCast]
            rw [hv, if_pos (by omega), Nat.sub_self, hva, if_pos rfl]
          · simp only
            have e2 : ((z : Int) + (t : Int)).toNat = z + t := by omega
            have e3 : z + t - z = t := by omega
            have e4 : t < m := by omega
            rw [e2, hv, if_pos e4, if_pos (by omega), e3, hva, if_neg (show ¬ t = 0 by omega), if_neg (show ¬ (t : Int) < t by omega), if_pos ⟨rfl, e⟩]
      · have hbl : b ∈ l := List.mem_of_mem_drop hbm
        have g := hbh b hbm
        simp only at g
        rw [hv, if_neg (by omega), hXh b hbl]
  · rw [hv, if_pos (by split <;> omega), hva, if_neg (show ¬ k - z = 0 by omega), if_pos (by omega)]
  · rw [hv, if_neg (by omega)]
  · rw [hv, if_neg (by omega)]
end Go.Proofs.Ytkpefnjohdjejaa

/-
  Words that are blocks, plainly: their headers stand in them; what they are behind a taking, a giving back, a writing; what is told then.
-/
namespace Go.Proofs.Ytkpefnjohdjejaa
set_option maxRecDepth 100000

theorem rdF_hd {w : List Int} : ∀ (k a : Nat) {l : List Bk}, rdF w k a = some l → ∀ b ∈ l, w.getD b.a.toNat 0 = hdB b.s b.u
  | 0, a, l, h, b, hb => by
    rw [rdF] at h
    split at h
    · cases h
    · cases h
      cases hb
  | k + 1, a, l, h, b, hb => by
    rw [rdF] at h
    split at h
    · split at h
      · rename_i hm
        cases hr : rdF w k (a + (w.getD a 0 / 2).toNat) with
        | none => rw [hr] at h; cases h
        | some r =>
          rw [hr, Option.map_some] at h
          cases h
          rcases List.mem_cons.1 hb with rfl | hb
          · simp only [Int.toNat_natCast]
            rw [hdB_yes hm]
            rcases useB_or (decide (w.getD a 0 % 2 = 1)) with ⟨e, e2⟩ | ⟨e, e2⟩
            · have := of_decide_eq_true e
              omega
            · have := of_decide_eq_false e
              omega
          · exact rdF_hd k _ hr b hb
      · cases h
    · cases h
      cases hb
theorem blkF_hd {w : List Int} {l : List Bk} (h : blkF w = some l) : ∀ b ∈ l, w.getD b.a.toNat 0 = hdB b.s b.u := by
  unfold blkF at h
  cases hr : rdF w w.length 0 with
  | none => rw [hr] at h; cases h
  | some m =>
    rw [hr, Option.bind_some] at h
    split at h
    · cases h
      exact rdF_hd _ _ hr
    · cases h

/-- behind a taking -/
structure Took (X V : List Int) (z t m : Nat) : Prop where
  len : V.length = X.length
  ok : WordsOk V
  nul : ∀ j, z < j → j < z + t → V.getD j 0 = 0
  far : ∀ j, j < z ∨ z + m ≤ j → V.getD j 0 = X.getD j 0
theorem taken {X : List Int} {l : List Bk} {d : Nat} {N : Int} (h : blkF X = some l) (hok : WordsOk X) (hc : canC l d N = true) :
    blkF (appF X (cedF l d N)) = some (crvF l d N) ∧ ∃ z t m : Nat, l.getD d default = ⟨z, m, false⟩ ∧ takN m N = t ∧ t ≤ m ∧ (crvF l d N).getD d default = ⟨z, t, true⟩ ∧ Took X (appF X (cedF l d N)) z t m := by
  have hL := blkF_some h
  obtain ⟨_, h0, h1, hu, hne⟩ := canC_yes.1 hc
  obtain ⟨hmw, hf⟩ := mayL_yes.1 hL
  have hsp := bAt_split h0 h1
  have hin := mayF_sizes hf _ (bAt_mem h0 h1)
  have hat := crv_at hc
  rw [bAt_nat, bAt_nat] at hat
  rw [bAt_nat] at hsp hin hu hne
  obtain ⟨⟨s1, s2⟩, s3, s4⟩ := hin
  obtain ⟨⟨a, s, u⟩, hb⟩ : ∃ b, l.getD d default = b := ⟨_, rfl⟩
  rw [hb] at hsp hu hne s1 s2 s3 s4 hat
  simp only at hu hne s1 s2 s3 s4
  subst hu
  obtain ⟨z, rfl⟩ : ∃ z : Nat, a = z := ⟨a.toNat, by omega⟩
  obtain ⟨m, rfl⟩ : ∃ z : Nat, s = z := ⟨s.toNat, by omega⟩
  obtain ⟨t1, t2, t3, t4⟩ := takN_some hne
  obtain ⟨t, ht⟩ : ∃ t : Nat, takN m N = t := ⟨(takN m N).toNat, by omega⟩
  rw [ht] at t2 t3 t4 hne
  simp only [ht] at hat
  have hcd : cedF l d N = rise (z : Int) (takV ⟨z, m, false⟩ N) := by
    rw [cedF, if_pos hc, bAt_nat, hb]
    exact edF_prt (by simp only; rw [ht]; exact hne)
  have hvl := takV_length (b := ⟨z, m, false⟩) (n := N) (by simp only; rw [ht]; exact hne)
  have hva := takV_at (b := ⟨z, m, false⟩) (n := N) (by simp only; rw [ht]; exact hne)
  simp only [ht] at hvl hva
  have hML : (takV ⟨z, m, false⟩ N).length = t + (if t < m then 1 else 0) := by
    split at hvl <;> split <;> omega
  have hTM : t + (if t < m then 1 else 0) ≤ m := by split <;> omega
  have hXh := blkF_hd h
  rw [hcd]
  have hv : ∀ j, (appF X (rise (z : Int) (takV ⟨z, m, false⟩ N))).getD j 0 = if z ≤ j ∧ j < z + (takV ⟨z, m, false⟩ N).length then (takV ⟨z, m, false⟩ N).getD (j - z) 0 else X.getD j 0 := fun j => appF_rise _ _ _ _ (by rw [hML]; omega)
  rw [hML] at hv
  have hlen : (appF X (rise (z : Int) (takV ⟨z, m, false⟩ N))).length = X.length := by rw [appF_length]
  have hokv : WordsOk (appF X (rise (z : Int) (takV ⟨z, m, false⟩ N))) := appF_ok _ _ (fun x hx => takV_in _ _ _ (rise_mem _ _ x hx)) hok
  generalize hV : appF X (rise (z : Int) (takV ⟨z, m, false⟩ N)) = V at *
  refine ⟨blkF_of (by rw [hlen]; exact mayL_crv hL hc) fun b hbm => ?_, z, t, m, hb, ht, by omega, hat, hlen, hokv, fun k k1 k2 => ?_, fun k k1 => ?_⟩
  · rw [crvF, if_pos hc, bAt_nat, hb, Int.toNat_natCast] at hbm
    rw [Int.toNat_natCast] at hsp
    rw [hsp] at hf
    have ha := mayF_ahead hf
    have hbh := mayF_behind hf
    rcases List.mem_append.1 hbm with hbm | hbm
    · have hbl : b ∈ l := List.mem_of_mem_take hbm
      have g := ha b hbm
      obtain ⟨⟨g1, _⟩, g2, _⟩ := mayF_sizes (mayL_yes.1 hL).2 b hbl
      rw [hv, if_neg (by simp only at g; omega), hXh b hbl]
    · rcases List.mem_append.1 hbm with hbm | hbm
      · unfold prtB at hbm
        simp only [ht] at hbm
        split at hbm
        · rename_i e
          obtain rfl := List.mem_singleton.1 hbm
          rw [Int.toNat_natCast, hv, if_pos (by omega), Nat.sub_self, hva, if_pos rfl, e]
        · rename_i e
          simp only [List.mem_cons, List.not_mem_nil, or_false] at hbm
          rcases hbm with rfl | rfl
          · simp only [Int.toNat_natCast]
            rw [hv, if_pos (by omega), Nat.sub_self, hva, if_pos rfl]
          · simp only
            have e2 : ((z : Int) + (t : Int)).toNat = z + t := by omega
            have e3 : z + t - z = t := by omega
            have e4 : t < m := by omega
            rw [e2, hv, if_pos e4, if_pos (by omega), e3, hva, if_neg (show ¬ t = 0 by omega), if_neg (show ¬ (t : Int) < t by omega), if_pos ⟨rfl, e⟩]
      · have hbl : b ∈ l := List.mem_of_mem_drop hbm
        have g := hbh b hbm
        simp only at g
        rw [hv, if_neg (by omega), hXh b hbl]
  · rw [hv, if_pos (by split <;> omega), hva, if_neg (show ¬ k - z = 0 by omega), if_pos (by omega)]
  · rw [hv, if_neg (by omega)]

/-- behind a giving back: one word alone is another one, the start of a block -/
theorem given {X : List Int} {l : List Bk} {k : Nat} (h : blkF X = some l) (hok : WordsOk X) (hc : canM l k = true) :
    blkF (appF X [medF l k]) = some (mrgF l k) ∧ (appF X [medF l k]).length = X.length ∧ WordsOk (appF X [medF l k]) ∧ ∃ i, i < l.length ∧ (i = k ∨ (l.getD i default).u = false) ∧ ∀ j : Nat, (j : Int) ≠ (l.getD i default).a → (appF X [medF l k]).getD j 0 = X.getD j 0 := by
  have hL := blkF_some h
  have hm := mayL_mrg hL hc
  obtain ⟨h1, h2, h3⟩ := one_in hL hc
  obtain ⟨h4, _⟩ := id h1
  obtain ⟨_, hf⟩ := mayL_yes.1 hL
  have hlen : (appF X [medF l k]).length = X.length := appF_length ..
  have hW := blkF_hd h
  have happ : appF X [medF l k] = X.set (oneB l k).a.toNat (hdB (oneB l k).s false) := by
    rw [medF_yes hc, appF, appF, if_pos (by simp only; omega)]
  obtain ⟨_, hk, _⟩ := canM_nat hc
  have hft := frm_too hk
  refine ⟨blkF_of (by rw [hlen]; exact hm) fun b hb => ?_, hlen, appF_ok _ _ (fun x hx => ?_) hok, frm l k, by omega, ?_, fun j hj => ?_⟩
  · rw [happ]
    rw [mrgF_yes hc] at hb hm
    have hf2 := (mayL_yes.1 hm).2
    have ha := mayF_ahead hf2
    have hbh := mayF_behind hf2
    simp only [List.getD_eq_getElem?_getD]
    rcases List.mem_append.1 hb with hb | hb
    · have g := ha b hb
      have hbl : b ∈ l := List.mem_of_mem_take hb
      obtain ⟨⟨g1, _⟩, g2, _⟩ := mayF_sizes hf b hbl
      rw [List.getElem?_set_ne (by omega), ← List.getD_eq_getElem?_getD]
      exact hW b hbl
    · rcases List.mem_cons.1 hb with rfl | hb
      · rw [List.getElem?_set_self (by omega)]
        rfl
      · have g := hbh b hb
        have hbl : b ∈ l := List.mem_of_mem_drop hb
        rw [List.getElem?_set_ne (by omega), ← List.getD_eq_getElem?_getD]
        exact hW b hbl
  · rw [List.mem_singleton.1 hx, medF_yes hc]
    exact hdB_in _ _
  · rcases frm_or l k with ⟨e, _⟩ | ⟨_, e, e2⟩
    · exact .inl e
    · rw [e]; exact .inr e2
  · have ha : (oneB l k).a = (l.getD (frm l k) default).a := rfl
    rw [← ha] at hj
    rw [happ, List.getD_eq_getElem?_getD, List.getElem?_set_ne (by omega), ← List.getD_eq_getElem?_getD]

theorem ced_len {l : List Bk} {d : Nat} {N m : Int} (hm : mayL m l = true) (hc : canC l d N = true) : (cedF l d N).length ≤ 600 := by
  obtain ⟨_, h0, h1, _, hne⟩ := canC_yes.1 hc
  have hin := (mayF_sizes (mayL_yes.1 hm).2 _ (bAt_mem h0 h1)).1.2
  rw [cedF, if_pos hc, edF_prt hne, rise_length]
  have := takV_length hne
  obtain ⟨_, _, t3, _⟩ := takN_some hne
  split at this <;> omega
/-- what is told of words that are blocks -/
theorem alR_arg {wl : List Int} {n : Int} {cs : List Int} (h : needN n = 0) : alR wl n cs = ([], 0, 1) := by rw [alR, if_pos h]
theorem alR_none {wl : List Int} {l : List Bk} {n : Int} {cs : List Int} (hB : blkF wl = some l) (h : needN n ≠ 0) (hc : chN (needN n) cs l = none) : alR wl n cs = ([], 0, 4) := by
  rw [alR, if_neg h, hB]
  simp only [hc]
theorem alR_some {wl : List Int} {l : List Bk} {n : Int} {cs : List Int} {d : Nat} (hB : blkF wl = some l) (h : needN n ≠ 0) (hc : chN (needN n) cs l = some d) : alR wl n cs = (cedF l d (needN n), offB (atL l d), 0) := by
  rw [alR, if_neg h, hB]
  simp only [hc]
theorem frR_none {wl : List Int} {l : List Bk} {o : Int} (hB : blkF wl = some l) (h : isN o l = none) : frR wl o = ([], 1) := by
  rw [frR, hB]
  simp only [h]
theorem frR_some {wl : List Int} {l : List Bk} {o : Int} {k : Nat} (hB : blkF wl = some l) (h : isN o l = some k) : frR wl o = ([medF l k], 0) := by
  rw [frR, hB]
  simp only [h]
theorem need_two {n : Int} (h : needN n ≠ 0) : 2 ≤ needN n ∧ needN n ≤ 57 := by
  unfold needN at h ⊢
  split
  · omega
  · rename_i c
    rw [if_neg c] at h
    exact absurd rfl h
/-- is there room -/
theorem ch_none {n : Int} {cs : List Int} {l : List Bk} : chN n cs l = none ↔ ∀ b ∈ l, fitB n b = false := by
  refine ⟨fun h b hb => ?_, fun h => chN_none (fitN_none h)⟩
  cases e : fitB n b
  · rfl
  · obtain ⟨d, hd, _⟩ := chN_some (cs := cs) (fitN_some hb e)
    rw [hd] at h
    cases h
end Go.Proofs.Ytkpefnjohdjejaa

/-
  Used blocks, plainly: which are there behind a taking, behind a giving back; a heap at first; one block behind the other till there is no room.
-/
namespace Go.Proofs.Ytkpefnjohdjejaa
set_option maxRecDepth 100000

theorem crv_keeps {l : List Bk} {d : Nat} {N : Int} (hc : canC l d N = true) {b : Bk} (hb : b ∈ l) (hu : b.u = true) : b ∈ crvF l d N := by
  obtain ⟨_, h0, h1, hu0, _⟩ := canC_yes.1 hc
  rw [crvF, if_pos hc]
  rw [bAt_split h0 h1] at hb
  rcases List.mem_append.1 hb with hb | hb
  · exact List.mem_append.2 (.inl hb)
  · rcases List.mem_cons.1 hb with rfl | hb
    · rw [hu0] at hu
      cases hu
    · exact List.mem_append.2 (.inr (List.mem_append.2 (.inr hb)))
theorem crv_from {l : List Bk} {d : Nat} {N : Int} (hc : canC l d N = true) {b : Bk} (hb : b ∈ crvF l d N) (hu : b.u = true) : b ∈ l ∨ b = ⟨(l.getD d default).a, takN (l.getD d default).s N, true⟩ := by
  obtain ⟨_, h0, h1, hu0, _⟩ := canC_yes.1 hc
  rw [crvF, if_pos hc] at hb
  rcases List.mem_append.1 hb with hb | hb
  · exact .inl (List.mem_of_mem_take hb)
  · rcases List.mem_append.1 hb with hb | hb
    · rw [bAt_nat] at hb
      unfold prtB at hb
      split at hb
      · rename_i e
        rw [List.mem_singleton] at hb
        right
        rw [hb, e]
      · simp only [List.mem_cons, List.not_mem_nil, or_false] at hb
        rcases hb with rfl | rfl
        · exact .inr rfl
        · cases hu
    · exact .inl (List.mem_of_mem_drop hb)
theorem mrg_keeps {l : List Bk} {k : Nat} (hc : canM l k = true) {b : Bk} (hb : b ∈ l) (hu : b.u = true) (hne : b.a ≠ (l.getD k default).a) : b ∈ mrgF l k := by
  obtain ⟨_, hk, _⟩ := canM_nat hc
  rw [mrgF_yes hc]
  rw [mid_split hk] at hb
  rcases List.mem_append.1 hb with hb | hb
  · exact List.mem_append.2 (.inl hb)
  · rcases List.mem_append.1 hb with hb | hb
    · exfalso
      rw [mid_is hk] at hb
      rcases List.mem_append.1 hb with hb | hb
      · rcases frm_or l k with ⟨e, _⟩ | ⟨_, e, e2⟩
        · rw [if_pos e] at hb
          cases hb
        · rw [if_neg (by omega), List.mem_singleton] at hb
          rw [hb, e2] at hu
          cases hu
      · rcases List.mem_cons.1 hb with rfl | hb
        · exact hne rfl
        · rcases too_or l k with ⟨e, _⟩ | ⟨_, e, e2⟩
          · rw [if_pos e] at hb
            cases hb
          · rw [if_neg (by omega), List.mem_singleton] at hb
            rw [hb, e2] at hu
            cases hu
    · exact List.mem_append.2 (.inr (List.mem_cons_of_mem _ hb))
theorem mrg_from {n : Int} {l : List Bk} {k : Nat} (h : mayL n l = true) (hc : canM l k = true) {b : Bk} (hb : b ∈ mrgF l k) (hu : b.u = true) : b ∈ l ∧ b.a ≠ (l.getD k default).a := by
  obtain ⟨_, hk, _⟩ := canM_nat hc
  have hf := (mayL_yes.1 h).2
  have hft := frm_too hk
  have hkk : (l.getD k default).s ≥ 2 := (at_in h hk).1.1
  rw [mrgF_yes hc] at hb
  have key : ∀ j, j < l.length → j ≠ k → (l.getD j default).a ≠ (l.getD k default).a := fun j hj hne e => hne (apart_a h hj hk e)
  rcases List.mem_append.1 hb with hb | hb
  · obtain ⟨j, hj, rfl⟩ := List.getElem_of_mem hb
    rw [List.length_take] at hj
    rw [List.getElem_take]
    refine ⟨List.getElem_mem _, ?_⟩
    have := key j (by omega) (by omega)
    rwa [List.getD_eq_getElem?_getD, List.getElem?_eq_getElem (by omega)] at this
  · rcases List.mem_cons.1 hb with rfl | hb
    · cases hu
    · obtain ⟨j, hj, rfl⟩ := List.getElem_of_mem hb
      rw [List.length_drop] at hj
      rw [List.getElem_drop]
      refine ⟨List.getElem_mem _, ?_⟩
      have := key (too l k + j) (by omega) (by omega)
      rwa [List.getD_eq_getElem?_getD, List.getElem?_eq_getElem (by omega)] at this
/-- a used one that is there is found -/
theorem used_at {n : Int} {l : List Bk} (h : mayL n l = true) {b : Bk} (hb : b ∈ l) (hu : b.u = true) : ∃ k, isN (offB b.a) l = some k ∧ k < l.length ∧ l.getD k default = b := by
  obtain ⟨k, hk, rfl⟩ := List.getElem_of_mem hb
  have e : l.getD k default = l[k] := by rw [List.getD_eq_getElem?_getD, List.getElem?_eq_getElem hk]; rfl
  have := isN_at h hk (by rw [e]; exact hu)
  rw [e] at this
  exact ⟨k, this, hk, e⟩

/-- a heap at first -/
theorem first_blk {n : Nat} (hm : Mw n) : blkF (firstL n) = some [⟨0, n, false⟩] ∧ (firstL n).length = n ∧ WordsOk (firstL n) := by
  have h8 := hm.1
  have hl : (firstL n).length = n := by rw [firstL_yes hm, List.length_set, List.length_replicate]
  have hmay : mayL n [⟨0, n, false⟩] = true := mayL_yes.2 ⟨hm, mayF_cons.2 ⟨rfl, hm.mayB, (fun q => by cases q.1), mayF_nil.2 (by simp)⟩⟩
  refine ⟨blkF_of (by rw [hl]; exact hmay) fun b hb => ?_, hl, fun j hj => ?_⟩
  · rw [List.mem_singleton.1 hb, firstL_yes hm, hdB_yes hm.mayB]
    simp only [List.getD_eq_getElem?_getD]
    rw [show (0 : Int).toNat = 0 from rfl, List.getElem?_set_self (by rw [List.length_replicate]; omega)]
    simp [useB]
  · rw [hl] at hj
    obtain ⟨_, h5, _⟩ := id hm
    rw [firstL_yes hm, List.getD_eq_getElem?_getD, List.getElem?_set, List.getElem?_replicate]
    split
    · split
      · simp only [Option.getD_some]; omega
      · simp
    · simp

/-- where one alone is free, and large enough -/
theorem ch_only {n : Int} {cs : List Int} {l : List Bk} {d : Nat} (hd : d < l.length) (hf : fitB n (l.getD d default) = true) (ho : ∀ j, j < l.length → (l.getD j default).u = false → j = d) : chN n cs l = some d := by
  obtain ⟨e, he, hm, _⟩ := chN_some (cs := cs) (fitN_some (getD_mem hd) hf)
  obtain ⟨h1, h2, _⟩ := fitN_mem hm
  rw [he, ho e h1 (fitB_iff.1 h2).1]

/-- so many blocks of r words, one behind the other -/
structure Fil (W r k : Nat) (l p f : List Bk) : Prop where
  eq : l = p ++ f
  len : p.length = k
  us : ∀ j, j < k → (p.getD j default).u = true ∧ (p.getD j default).a = ((j * r : Nat) : Int)
  end_ : f = [⟨((k * r : Nat) : Int), (W : Int) - (k * r : Nat), false⟩] ∧ 2 ≤ (W : Int) - (k * r : Nat) ∨ f = [] ∧ k * r ≤ W ∧ W < k * r + 2
theorem Fil.zero {W r : Nat} (h : 2 ≤ W) : Fil W r 0 [⟨0, W, false⟩] [] [⟨0, W, false⟩] :=
  ⟨rfl, rfl, fun _ h => absurd h (by omega), .inl ⟨by simp, by simp; omega⟩⟩
theorem Fil.cnt {W r k : Nat} {l p f : List Bk} (h : Fil W r k l p f) : cntU l = k ∧ ∀ j, j < k → ∃ b ∈ l, b.u = true ∧ b.a = ((j * r : Nat) : Int) := by
  obtain ⟨rfl, hl, hu, he⟩ := h
  have all : ∀ q : List Bk, (∀ b ∈ q, b.u = true) → cntU q = q.length := by
    intro q
    induction q with
    | nil => intro _; rfl
    | cons b r ih =>
      intro h
      rw [cntU, if_pos (h b (List.mem_cons_self ..)), ih (fun c hc => h c (List.mem_cons_of_mem _ hc)), List.length_cons]
      omega
  refine ⟨?_, fun j hj => ⟨p.getD j default, List.mem_append.2 (.inl (getD_mem (by omega))), hu j hj⟩⟩
  rw [cntU_app, all p (fun b hb => by
    obtain ⟨j, hj, rfl⟩ := List.getElem_of_mem hb
    have := (hu j (by omega)).1
    rwa [List.getD_eq_getElem?_getD, List.getElem?_eq_getElem hj] at this), hl]
  rcases he with ⟨rfl, _⟩ | ⟨rfl, _⟩
  · simp [cntU]
  · simp [cntU]
theorem Fil.no {W r k : Nat} {l p f : List Bk} {cs : List Int} (h : Fil W r k l p f) (hlt : W < (k + 1) * r) : chN r cs l = none ∧ k * r ≤ W := by
  obtain ⟨rfl, hl, hu, he⟩ := h
  rw [Nat.add_mul] at hlt
  refine ⟨ch_none.2 fun b hb => ?_, by rcases he with ⟨_, h⟩ | ⟨_, h, _⟩ <;> omega⟩
  rcases List.mem_append.1 hb with hb | hb
  · obtain ⟨j, hj, rfl⟩ := List.getElem_of_mem hb
    have := (hu j (by omega)).1
    rw [List.getD_eq_getElem?_getD, List.getElem?_eq_getElem hj] at this
    simp only [Option.getD_some] at this
    rw [Bool.eq_false_iff, Ne, fitB_iff, this]
    rintro ⟨q, _⟩
    cases q
  · rcases he with ⟨rfl, h⟩ | ⟨rfl, _⟩
    · rw [List.mem_singleton.1 hb, Bool.eq_false_iff, Ne, fitB_iff]
      simp only
      omega
    · cases hb
theorem Fil.yes {W r k : Nat} {l p f : List Bk} {cs : List Int} (h : Fil W r k l p f) (hm : mayL W l = true) (hr : 2 ≤ r) (hle : (k + 1) * r ≤ W) : chN r cs l = some k ∧ atL l k = ((k * r : Nat) : Int) ∧ ∃ p' f', Fil W r (k + 1) (crvF l k r) p' f' := by
  obtain ⟨rfl, hl, hu, he⟩ := h
  rw [Nat.add_mul] at hle
  obtain ⟨rfl, h2⟩ : f = [⟨((k * r : Nat) : Int), (W : Int) - (k * r : Nat), false⟩] ∧ 2 ≤ (W : Int) - (k * r : Nat) := by
    rcases he with he | ⟨_, _, h⟩
    · exact he
    · omega
  have hk : k < (p ++ [⟨((k * r : Nat) : Int), (W : Int) - (k * r : Nat), false⟩] : List Bk).length := by simp; omega
  have hg : (p ++ [⟨((k * r : Nat) : Int), (W : Int) - (k * r : Nat), false⟩] : List Bk).getD k default = ⟨((k * r : Nat) : Int), (W : Int) - (k * r : Nat), false⟩ := by
    rw [List.getD_eq_getElem?_getD, List.getElem?_append_right (by omega), hl, Nat.sub_self]; rfl
  have hch : chN r cs (p ++ [⟨((k * r : Nat) : Int), (W : Int) - (k * r : Nat), false⟩]) = some k := by
    refine ch_only hk (by rw [hg, fitB_iff]; exact ⟨rfl, by omega, by simp only; omega⟩) fun j hj hu' => ?_
    by_cases c : j < k
    · rw [List.getD_eq_getElem?_getD, List.getElem?_append_left (by omega), ← List.getD_eq_getElem?_getD, (hu j c).1] at hu'
      cases hu'
    · simp at hj
      omega
  refine ⟨hch, by rw [atL, hg], ?_⟩
  obtain ⟨_, hcan, _⟩ := chN_can hm hch (by omega)
  have htl : (p ++ [⟨((k * r : Nat) : Int), (W : Int) - (k * r : Nat), false⟩] : List Bk).take k = p := by rw [← hl]; exact List.take_left ..
  have hdr : (p ++ [⟨((k * r : Nat) : Int), (W : Int) - (k * r : Nat), false⟩] : List Bk).drop (k + 1) = [] := List.drop_eq_nil_of_le (by rw [List.length_append, hl]; simp)
  rw [crvF, if_pos hcan, bAt_nat, hg, Int.toNat_natCast, htl, hdr, List.append_nil]
  have ht : takN ((W : Int) - (k * r : Nat)) r = if (W : Int) - (k * r : Nat) - r < 2 then (W : Int) - (k * r : Nat) else r := by
    rw [takN, if_pos (by omega)]
  have us' : ∀ b : Bk, b.u = true → b.a = ((k * r : Nat) : Int) → ∀ j, j < k + 1 → ((p ++ [b]).getD j default).u = true ∧ ((p ++ [b]).getD j default).a = ((j * r : Nat) : Int) := fun b b1 b2 j hj => by
    by_cases c : j < k
    · rw [List.getD_eq_getElem?_getD, List.getElem?_append_left (by omega), ← List.getD_eq_getElem?_getD]
      exact hu j c
    · obtain rfl : j = k := by omega
      rw [List.getD_eq_getElem?_getD, List.getElem?_append_right (by omega), hl, Nat.sub_self]
      exact ⟨b1, b2⟩
  have ek : (k + 1) * r = k * r + r := by rw [Nat.add_mul, Nat.one_mul]
  unfold prtB
  simp only [ht]
  by_cases c : (W : Int) - (k * r : Nat) - r < 2
  · rw [if_pos c, if_pos rfl]
    exact ⟨_, [], by rw [List.append_nil], by rw [List.length_append, hl]; rfl, us' _ rfl rfl, .inr ⟨rfl, by omega, by omega⟩⟩
  · rw [if_neg c, if_neg (by omega)]
    refine ⟨p ++ [⟨((k * r : Nat) : Int), r, true⟩], [⟨((k * r : Nat) : Int) + r, (W : Int) - (k * r : Nat) - r, false⟩], by rw [List.append_assoc]; rfl, by rw [List.length_append, hl]; rfl, us' _ rfl rfl, .inl ⟨?_, by omega⟩⟩
    congr 2
    · rw [ek]; push_cast; omega
    · rw [ek]; push_cast; omega
end Go.Proofs.Ytkpefnjohdjejaa
