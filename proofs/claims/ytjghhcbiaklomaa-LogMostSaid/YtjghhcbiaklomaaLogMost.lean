/-
  As many homes as one commit takes are committed, one more is refused; a line of the log is none's home. No conditions.
-/
import Derived.Test.YtjghhcbiaklomaaMgd
import Derived.BigQuiet
namespace Go.Proofs.Ytjghhcbiaklomaa.logMost
set_option maxRecDepth 100000
open Go.Proofs.Ytjghhcbiaklomaa Go.ChangeShapes Go.WideShapes Go.ChangeAt Go.RowKit

/-- k homes, from the last line down -/
def hs (d : List Int) (k : Nat) : List Hm := (List.range k).map fun (i : Nat) => ⟨35 - (i : Int), d⟩
theorem hs_succ (d : List Int) (k : Nat) : hs d (k + 1) = hs d k ++ [⟨35 - (k : Int), d⟩] := by simp [hs, List.range_succ]
theorem hs_length (d : List Int) (k : Nat) : (hs d k).length = k := by simp [hs]
theorem hs_mem {d : List Int} {k : Nat} {x : Hm} (h : x ∈ hs d k) : ∃ i, i < k ∧ x = ⟨35 - (i : Int), d⟩ := by
  obtain ⟨i, hi, rfl⟩ := List.mem_map.1 h
  exact ⟨i, List.mem_range.1 hi, rfl⟩
theorem hs_first {d : List Int} {k : Nat} (h : 0 < k) : (⟨35, d⟩ : Hm) ∈ hs d k := List.mem_map.2 ⟨0, List.mem_range.2 h, by simp⟩
theorem hs_ok {d : List Int} {k : Nat} (h8 : d.length = 8) (hk : k < 20) : AllOk homeE (hs d k) := fun x hx => by
  obtain ⟨i, hi, rfl⟩ := hs_mem hx
  refine ⟨h8, ?_⟩
  simp [Lit.wf, IntKind.min, IntKind.max, IntKind.signed, IntKind.bits]; omega
theorem hs_nodup (d : List Int) (k : Nat) : ((hs d k).map (·.i)).Nodup := by
  unfold hs
  rw [List.map_map]
  refine List.Pairwise.map _ (fun a b h => ?_) (List.nodup_range (n := k))
  simp only [Function.comp_def]
  omega
theorem hs_may {d : List Int} {k : Nat} (hk : k < 20) : MayH 36 (hs d k) ↔ 1 ≤ k ∧ k ≤ 14 := by
  constructor
  · intro M
    have := M.lo; have := M.hi
    rw [hs_length] at *; omega
  · rintro ⟨h1, h2⟩
    refine ⟨by decide, by rw [hs_length]; exact h1, by rw [hs_length]; exact h2, fun x hx => ?_, hs_nodup d k⟩
    obtain ⟨i, hi, rfl⟩ := hs_mem hx
    dsimp only; omega
theorem low_no {l : List Hm} {i : Int} {z : List Int} (h : i < 16) : ¬ MayH 36 (l ++ [⟨i, z⟩]) := fun M => by
  have := (M.at_ ⟨i, z⟩ (by simp)).1
  dsimp only at this; omega
theorem twice_no {d z : List Int} {k : Nat} (h : 0 < k) : ¬ MayH 36 (hs d k ++ [⟨35, z⟩]) := fun M => by
  have nd := M.nd
  rw [List.map_append, List.nodup_append] at nd
  exact nd.2.2 35 (List.mem_map.2 ⟨_, hs_first h, rfl⟩) 35 (by simp) rfl
section
variable {ops : Array Oper} {rest : List Oper} {o : Oper} {a : Act} {w : World} {Q : Exit → Act → World → Prop}
theorem app_home (hgd : o.guard = none) (s x : Operand) (ho : o.op = .call { callee := .builtin .append, args := #[s, x], argTypes := #[33, 33] }) (B : Nat) (v : Value) (l : List Hm) (hs : a.eval s = v) (hown : OwnA homeE B w v l)
    (u : Value) (r : List Hm) (hx : a.eval x = u) (hr : RA homeE w u r) (hlen : Hid (l.length + r.length ≤ 1000)) (hB : B ≤ w.heap.size)
    (h : ∀ v' w', OwnA homeE B w' v' (l ++ r) → w.grownBy w' v.ownBlock → (v'.ownBlock = v.ownBlock ∨ v'.ownBlock = some w.heap.size) → wpList Try.prog ops Q rest (a.put o.dst v') w') : wpList Try.prog ops Q (o :: rest) a w :=
  list_app homeE hgd s x ho B v l hs hown u r hx hr (by have := hlen.out; show _ * 72 ≤ _; omega) hB h
end
theorem apart {v : Value} {B N : Nat} (h : ∀ k, v.ownBlock = some k → B ≤ k ∧ k < N) {r : Option Nat} (hr : ∀ k, r = some k → N ≤ k) : v.ownBlock = none ∨ v.ownBlock ≠ r := by
  cases e : v.ownBlock with
  | none => exact .inl rfl
  | some b =>
    refine .inr fun q => ?_
    have := (h b e).2
    have := hr b q.symm
    omega
theorem one_ok {i : Int} {l : List Int} (h8 : l.length = 8) (h : -100 ≤ i ∧ i ≤ 100) : AllOk homeE [⟨i, l⟩] := fun z hz => by
  rw [List.mem_singleton.1 hz]
  refine ⟨h8, ?_⟩
  simp [Lit.wf, IntKind.min, IntKind.max, IntKind.signed, IntKind.bits]; omega
/-- a slice of one, as a statement makes it -/
theorem own_one (V : World) {c : Hm} (h : AllOk homeE [c]) : OwnA homeE V.heap.size (V.alloc (.cells (hmc c) 41)) (.slice (some ⟨V.heap.size, 0, none⟩) 1 1) [c] := by
  have := own_lit_a homeE V (l := [c]) h (by unfold maxLen; show 1 ≤ _; decide)
  have e : V.alloc (.cells (([c].flatMap homeE.enc).toArray) homeE.e) = V.alloc (.cells (hmc c) 41) := by
    show V.alloc (.cells (Hm.cells _ ++ []).toArray _) = _
    rw [List.append_nil]; rfl
  rw [e] at this
  exact this

set_option maxHeartbeats 3000000 in
theorem walk (a0 : Int) (l1 : List Int) (w : World) (_ : (Lit.int .i64 a0).wf = true) (h8 : l1.length = 8) (_ : wfu l1) :
    Calls Try.prog 8 #[.int .i64 a0, .agg (lc l1)] w fun e w' => e = .returned (.bool true) ∧ Below w.heap.size w w' := by
  obtain ⟨W0, hW0, HD⟩ := boxed1 w h8
  obtain ⟨u, hu, _⟩ := u64_nat a0
  obtain ⟨k, hk⟩ : ∃ k, u % 20 = k := ⟨_, rfl⟩
  have hk20 : k < 20 := by omega
  have t0 : (u : Int).tmod 20 = (k : Int) := by rw [← hk]; exact tmod_nat u 20
  have t1 : IntKind.i64.wrap (k : Int) = (k : Int) := i64_nat _ (by omega)
  have HM := Lib.hid (made_yes ctr (n := 20) (P := 0) (per := 9) (.slice none 0 0) [] W0 (by decide) (by decide) (by decide) (by decide) (by decide) (ri_nil W0))
  have NL := Lib.hid (newNv_lg (n := 36) (P := 0) (by decide) (by decide) (by decide) [])
  obtain ⟨s0, e0⟩ : ∃ s0, newNv (16 + 20 + 1 + 0) [] = s0 := ⟨_, rfl⟩
  have NC : Hid (s0.calm ∧ s0.c = 0 ∧ Free s0) := Lib.hid (by rw [← e0]; exact ⟨newNv_calm _ _, rfl, newNv_free _⟩)
  have e0' : newNv (36 + 1 + 0) [] = s0 := e0
  rw [e0] at HM
  rw [e0'] at NL
  have HK := Lib.hid hk20
  clear e0 e0' hk hk20
  go_enter Try.func8, Try.ntmps8
  go_wp2_with fail
  refine (HM.out).mono ?_; rintro e w1 ⟨x, g, y, q, rfl, _, hg, hy, _, hL, hb⟩
  have L1 := Lib.hid hL
  have D1 := Lib.hid (HD.out.1.below hb)
  have B1 := Lib.hid (below_more HD.out.2 hb)
  have PL : Hid (W0.heap.size ≤ g ∧ W0.heap.size ≤ y ∧ g < w1.heap.size ∧ y < w1.heap.size ∧ w.heap.size < W0.heap.size) := Lib.hid ⟨hg, hy, hL.nm.lt, hL.tq.lt, HD.out.1.lt⟩
  have K0 : Hid (OwnA homeE w1.heap.size w1 (.slice none 0 0) (hs l1 0)) := Lib.hid (own_nil_a _ _ _)
  clear hg hy hL hb
  go_wp2
  go_loopw [7, 25] (fun v i wr => ∃ j : Nat, j ≤ k ∧ i = .int .i64 j ∧ Hid (OwnA homeE w1.heap.size wr v (hs l1 j) ∧ Below w1.heap.size w1 wr)) (fun _ i _ => k - (intOf i).toNat)
  case atStart => exact ⟨0, Nat.zero_le _, rfl, Lib.hid ⟨K0.out, Below.refl _ _⟩⟩
  case round =>
    obtain ⟨j, hj, rfl, H⟩ := hrel
    rename_i v7 _ _
    clear K0
    by_cases hlt : j < k
    · have ll := (D1.out.below H.out.2).load
      obtain ⟨c, hc⟩ : ∃ c : Int, 35 - (j : Int) = c := ⟨_, rfl⟩
      have hk20 := HK.out
      have k1 : IntKind.i64.wrap (35 - (j : Int)) = c := by rw [hc, show c = ((c.toNat : Nat) : Int) by omega]; exact i64_nat _ (by omega)
      have i2 : (j : Int) < (k : Int) := by omega
      have j0 : IntKind.i64.wrap ((j : Int) + 1) = ((j + 1 : Nat) : Int) := by rw [show (j : Int) + 1 = ((j + 1 : Nat) : Int) by omega]; exact i64_nat _ (by omega)
      have O1 := own_one wr (c := ⟨c, l1⟩) (one_ok h8 (by omega))
      obtain ⟨U, hU⟩ : ∃ U, wr.alloc (.cells (hmc ⟨c, l1⟩) 41) = U := ⟨_, rfl⟩
      have O7 := H.out.1.alloc (.cells (hmc ⟨c, l1⟩) 41)
      have BU := bal (o := .cells (hmc ⟨c, l1⟩) 41) H.out.2
      rw [hU] at O1 O7 BU
      have HO := Lib.hid O7
      have HR := Lib.hid O1.ra
      have HB := Lib.hid BU
      have HLN : Hid (((hs l1 j).length + [(⟨c, l1⟩ : Hm)].length) ≤ 1000) := Lib.hid (by rw [hs_length]; simp only [List.length_singleton]; omega)
      have HS : Hid (hs l1 j ++ [⟨c, l1⟩] = hs l1 (j + 1)) := Lib.hid (by rw [hs_succ, hc])
      have HJ := Lib.hid hlt
      clear hc hk20 O1 O7 BU hlt hj
      go_wp2_with (at_builtin; refine app_home (o := ⟨some 34, _, _, _, _, _⟩) rfl (.tmp 28) (.tmp 33) rfl w1.heap.size _ (hs l1 j) rfl HO.out _ [_] rfl HR.out HLN HB.out.size ?_)
      intro v1 w2 hown hg _
      have KN : Hid (OwnA homeE w1.heap.size w2 v1 (hs l1 (j + 1)) ∧ Below w1.heap.size w1 w2) := Lib.hid ⟨by rw [← HS.out]; exact hown, below_app HB.out HB.out.size HO.out hg⟩
      clear hown hg
      go_wp2
      exact ⟨⟨j + 1, by have := HJ.out; omega, by go_num, KN⟩, by have := HJ.out; simp [intOf]; omega⟩
    · obtain rfl : j = k := by omega
      have O0 := Lib.hid H.out.1
      have B0 := Lib.hid H.out.2
      have hk20 := HK.out
      have jr : (j : Int).tmod 16 = ((j % 16 : Nat) : Int) := tmod_nat j 16
      have jw : IntKind.i64.wrap ((j % 16 : Nat) : Int) = ((j % 16 : Nat) : Int) := i64_nat _ (by omega)
      obtain ⟨c, hc⟩ : ∃ c : Nat, j % 16 = c := ⟨_, rfl⟩
      have hc16 : c < 16 := by omega
      rw [hc] at jr jw
      have HC := Lib.hid hc16
      have hz8 : zeros.length = 8 := rfl
      have HCE := Lib.hid hc
      have h3 : (¬ (j : Int) ≥ 1 ∧ j = 0) ∨ ((j : Int) ≥ 1 ∧ (j : Int) ≤ 14) ∨ ((j : Int) ≥ 1 ∧ ¬ (j : Int) ≤ 14) := by omega
      clear H hlt hj hk20 hc hc16 hu t0
      have OE := (own_lit_a homeE wr (l := ([] : List Hm)) (fun x hx => (by cases hx)) (by unfold maxLen; show 0 ≤ _; decide)).mono B0.out.size
      obtain ⟨E1, hE1⟩ : ∃ E1, wr.alloc (.cells #[] 41) = E1 := ⟨_, rfl⟩
      have O7 := O0.out.alloc (.cells #[] 41)
      have BE := bal (o := .cells #[] 41) B0.out
      have zE : E1.heap.size = wr.heap.size + 1 := by rw [← hE1]; simp
      rw [show wr.alloc (.cells ((([] : List Hm).flatMap homeE.enc).toArray) homeE.e) = E1 from hE1] at OE
      rw [hE1] at O7 BE
      have HE1 := Lib.hid OE
      have HO7 := Lib.hid O7
      have HBE := Lib.hid BE
      have HZE := Lib.hid zE
      have LN1 : Hid ((([] : List Hm).length + (hs l1 j).length) ≤ 1000) := Lib.hid (by rw [hs_length]; have := HK.out; simp only [List.length_nil]; omega)
      have LN2 : Hid (((hs l1 j).length + [(⟨(c : Int), zeros⟩ : Hm)].length) ≤ 1000) := Lib.hid (by rw [hs_length]; have := HK.out; simp only [List.length_singleton]; omega)
      have LN3 : Hid (((hs l1 j).length + [(⟨35, zeros⟩ : Hm)].length) ≤ 1000) := Lib.hid (by rw [hs_length]; have := HK.out; simp only [List.length_singleton]; omega)
      clear OE O7 BE zE
      rcases h3 with ⟨g1, rfl⟩ | ⟨g1, g2⟩ | ⟨g1, g2⟩
      · obtain rfl : c = 0 := by have := HCE.out; omega
        have LN2 : Hid (((hs l1 0).length + [(⟨0, zeros⟩ : Hm)].length) ≤ 1000) := Lib.hid (by rw [hs_length]; show 0 + 1 ≤ 1000; decide)
        go_wp2_with (at_builtin; refine app_home (o := ⟨some 44, _, _, _, _, _⟩) rfl (.tmp 42) (.tmp 43) rfl w1.heap.size _ [] rfl HE1.out _ (hs l1 0) rfl HO7.out.ra LN1 HBE.out.size ?_)
        intro v1 w2 ho1 hg1 hs1
        have P7 := HO7.out.kept hg1 (apart O0.out.lt (fun k hk => by cases hk; exact Nat.le_refl _))
        have BB2 := below_app HBE.out HBE.out.size HE1.out hg1
        have s1b : ∀ k, v1.ownBlock = some k → wr.heap.size ≤ k := fun k hk => by
          rcases hs1 with e | e
          · rw [e] at hk; cases hk; exact Nat.le_refl _
          · rw [e] at hk; cases hk; have := HZE.out; omega
        have N1 := own_one w2 (c := ⟨0, zeros⟩) (one_ok rfl (by decide))
        obtain ⟨U2, hU2⟩ : ∃ U2, w2.alloc (.cells (hmc ⟨0, zeros⟩) 41) = U2 := ⟨_, rfl⟩
        have P7b := P7.alloc (.cells (hmc ⟨0, zeros⟩) 41)
        have ho1b := ho1.alloc (.cells (hmc ⟨0, zeros⟩) 41)
        have BB2b := bal (o := .cells (hmc ⟨0, zeros⟩) 41) BB2
        rw [hU2] at N1 P7b ho1b BB2b
        have HP7 := Lib.hid P7b
        have HO1 := Lib.hid ho1b
        have HBB := Lib.hid BB2b
        have HN1 := Lib.hid N1.ra
        have HS1 := Lib.hid s1b
        clear ho1 hg1 hs1 P7 BB2 s1b N1 P7b ho1b BB2b
        go_wp2_with (at_builtin; refine app_home (o := ⟨some 49, _, _, _, _, _⟩) rfl (.tmp 44) (.tmp 48) rfl w1.heap.size _ (hs l1 0) rfl HO1.out _ [_] rfl HN1.out LN2 HBB.out.size ?_)
        intro v2 w3 ho2 hg2 hs2
        have P7 := HP7.out.kept hg2 (apart O0.out.lt HS1.out)
        have BB3 := below_app HBB.out HBB.out.size HO1.out hg2
        have OE := (own_lit_a homeE w3 (l := ([] : List Hm)) (fun x hx => (by cases hx)) (by unfold maxLen; show 0 ≤ _; decide)).mono BB3.size
        obtain ⟨E2, hE2⟩ : ∃ E2, w3.alloc (.cells #[] 41) = E2 := ⟨_, rfl⟩
        have P7b := P7.alloc (.cells #[] 41)
        have P2b := ho2.alloc (.cells #[] 41)
        have BB3b := bal (o := .cells #[] 41) BB3
        have zE2 : E2.heap.size = w3.heap.size + 1 := by rw [← hE2]; simp
        rw [show w3.alloc (.cells ((([] : List Hm).flatMap homeE.enc).toArray) homeE.e) = E2 from hE2] at OE
        rw [hE2] at P7b P2b BB3b
        have HE2 := Lib.hid OE
        have HQ7 := Lib.hid P7b
        have HQ2 := Lib.hid P2b
        have HBE2 := Lib.hid BB3b
        have LT7 := Lib.hid P7.lt
        have LT2 := Lib.hid ho2.lt
        have HZ2 := Lib.hid zE2
        clear ho2 hg2 hs2 P7 BB3 OE P7b P2b BB3b zE2
        go_wp2_with (at_builtin; refine app_home (o := ⟨some 52, _, _, _, _, _⟩) rfl (.tmp 50) (.tmp 51) rfl w1.heap.size _ [] rfl HE2.out _ (hs l1 0) rfl HQ7.out.ra LN1 HBE2.out.size ?_)
        intro v3 w4 ho3 hg3 hs3
        have P7 := HQ7.out.kept hg3 (apart LT7.out (fun k hk => by cases hk; exact Nat.le_refl _))
        have P2 := HQ2.out.kept hg3 (apart LT2.out (fun k hk => by cases hk; exact Nat.le_refl _))
        have BB4 := below_app HBE2.out HBE2.out.size HE2.out hg3
        have s3b : ∀ k, v3.ownBlock = some k → w3.heap.size ≤ k := fun k hk => by
          rcases hs3 with e | e
          · rw [e] at hk; cases hk; exact Nat.le_refl _
          · rw [e] at hk; cases hk; have := HZ2.out; omega
        have N1 := own_one w4 (c := ⟨35, zeros⟩) (one_ok rfl (by decide))
        obtain ⟨U4, hU4⟩ : ∃ U4, w4.alloc (.cells (hmc ⟨35, zeros⟩) 41) = U4 := ⟨_, rfl⟩
        have P7b := P7.alloc (.cells (hmc ⟨35, zeros⟩) 41)
        have P2b := P2.alloc (.cells (hmc ⟨35, zeros⟩) 41)
        have ho3b := ho3.alloc (.cells (hmc ⟨35, zeros⟩) 41)
        have BB4b := bal (o := .cells (hmc ⟨35, zeros⟩) 41) BB4
        rw [hU4] at N1 P7b P2b ho3b BB4b
        have HR7 := Lib.hid P7b
        have HR2 := Lib.hid P2b
        have HO3 := Lib.hid ho3b
        have HB4 := Lib.hid BB4b
        have HN3 := Lib.hid N1.ra
        have HS3 := Lib.hid s3b
        clear ho3 hg3 hs3 P7 P2 BB4 s3b N1 P7b P2b ho3b BB4b
        go_wp2_with (at_builtin; refine app_home (o := ⟨some 55, _, _, _, _, _⟩) rfl (.tmp 52) (.tmp 54) rfl w1.heap.size _ (hs l1 0) rfl HO3.out _ [_] rfl HN3.out LN3 HB4.out.size ?_)
        intro v4 w5 ho4 hg4 _
        have T7 := Lib.hid (HR7.out.kept hg4 (apart LT7.out HS3.out))
        have T2 := Lib.hid (HR2.out.kept hg4 (apart LT2.out HS3.out))
        have T4 := Lib.hid ho4
        have B5 := Lib.hid (below_app HB4.out HB4.out.size HO3.out hg4)
        clear ho4 hg4
        have G1 : Hid (True ∧ (0 : Nat) = 0) := Lib.hid ⟨trivial, rfl⟩
        have MA := Lib.hid (may_is 36 _ (hs l1 0) false w5 T7.out.ra ⟨fun e => (by cases e), fun e => absurd ((hs_may HK.out).1 e) (by have := G1.out; omega)⟩)
        go_wp2_with fail
        refine (MA.out).mono ?_; rintro e w6 ⟨rfl, hb⟩
        have B6 := Lib.hid (below_more B5.out hb)
        have R7 := Lib.hid (ra_below T7.out.ra hb)
        have R2 := Lib.hid (ra_below T2.out.ra hb)
        have R4 := Lib.hid (ra_below T4.out.ra hb)
        have MB := Lib.hid (may_is 36 _ _ false w6 R2.out ⟨fun e => (by cases e), fun e => absurd e (low_no (by have := HC.out; omega))⟩)
        clear hb
        go_wp2_with fail
        refine (MB.out).mono ?_; rintro e w7 ⟨rfl, hb⟩
        have B7 := Lib.hid (below_more B6.out hb)
        have Q7 := Lib.hid (ra_below R7.out hb)
        have Q4 := Lib.hid (ra_below R4.out hb)
        clear hb
        have B8 := B7
        have S7 := Q7
        have L8 := Lib.hid (L1.out.below B8.out)
        have CM := Lib.hid (cmt_arg L8.out S7.out (fun e => absurd ((hs_may HK.out).1 e) (by have := G1.out; omega)))
        go_wp2_with fail
        refine (CM.out).mono ?_; rintro e w9 ⟨rfl, hb⟩
        have B9 := Lib.hid (below_more B8.out hb)
        have L9 := Lib.hid (L8.out.below hb)
        have RM : Room (16 + 20) 0 9 0 s0 := ⟨by decide, by decide, by have := NL.out.2.2.1; omega, by rw [NC.out.2.1]; decide, by decide⟩
        have GC := ctr.get w9 x g y q (16 + 20) 0 9 0 35 s0 L9.out NL.out.1 NC.out.1.1 RM (by decide) (by decide)
        rw [NL.out.2.2.2.2 35] at GC
        have GC := Lib.hid GC
        clear hb RM
        go_wp2_with fail
        refine (GC.out).mono ?_; rintro e wd ⟨rfl, hb⟩
        obtain ⟨W1, hW1, H1⟩ := boxed1 wd (a := [0, 0, 0, 0, 0, 0, 0, 0]) rfl
        have hst : (lineStore (.pointer (some ⟨wd.heap.size, 0, none⟩)) (.agg (lc zeros))).run Try.prog W1 = .ok () W1 := by rw [← hW1]; exact store_new wd zeros zeros rfl rfl
        have B9 := Lib.hid (below_more (below_more B9.out hb) H1.out.2)
        clear hb
        go_wp2_with fail
        refine (new_yes 40 _ [] _ (by decide) (by decide) (ri_nil _)).mono ?_; rintro e wa ⟨g2, rfl, _, hN, hb⟩
        have TC := Lib.hid (tnew_yes (n := 39) (P := 0) (per := 9) (newNv_tok (n := 39) (P := 0) (by decide) (by decide) (by decide) []) (by decide) (by decide) (by decide) (by decide) (by decide) hN)
        have BA := Lib.hid (below_base B9.out B9.out.size hb)
        clear hN hb
        go_wp2_with fail
        refine (TC.out).mono ?_; rintro e wb ⟨x2, q2, rfl, _, _, _, _, _, hb⟩
        have BC := Lib.hid (below_base BA.out BA.out.size hb)
        clear hb
        go_wp2_with fail
        refine (awake_any ctr _).mono ?_; rintro e wc ⟨rfl, hb⟩
        have BD := Lib.hid (below_base BC.out BC.out.size hb)
        clear hb
        go_wp2
        go_ret
        exact ⟨rfl, below_base B1.out B1.out.size (BD.out.mono (by have := B1.out.size; omega))⟩
      · go_wp2_with (at_builtin; refine app_home (o := ⟨some 44, _, _, _, _, _⟩) rfl (.tmp 42) (.tmp 43) rfl w1.heap.size _ [] rfl HE1.out _ (hs l1 j) rfl HO7.out.ra LN1 HBE.out.size ?_)
        intro v1 w2 ho1 hg1 hs1
        have P7 := HO7.out.kept hg1 (apart O0.out.lt (fun k hk => by cases hk; exact Nat.le_refl _))
        have BB2 := below_app HBE.out HBE.out.size HE1.out hg1
        have s1b : ∀ k, v1.ownBlock = some k → wr.heap.size ≤ k := fun k hk => by
          rcases hs1 with e | e
          · rw [e] at hk; cases hk; exact Nat.le_refl _
          · rw [e] at hk; cases hk; have := HZE.out; omega
        have N1 := own_one w2 (c := ⟨(c : Int), zeros⟩) (one_ok rfl (by have := HC.out; omega))
        obtain ⟨U2, hU2⟩ : ∃ U2, w2.alloc (.cells (hmc ⟨(c : Int), zeros⟩) 41) = U2 := ⟨_, rfl⟩
        have P7b := P7.alloc (.cells (hmc ⟨(c : Int), zeros⟩) 41)
        have ho1b := ho1.alloc (.cells (hmc ⟨(c : Int), zeros⟩) 41)
        have BB2b := bal (o := .cells (hmc ⟨(c : Int), zeros⟩) 41) BB2
        rw [hU2] at N1 P7b ho1b BB2b
        have HP7 := Lib.hid P7b
        have HO1 := Lib.hid ho1b
        have HBB := Lib.hid BB2b
        have HN1 := Lib.hid N1.ra
        have HS1 := Lib.hid s1b
        clear ho1 hg1 hs1 P7 BB2 s1b N1 P7b ho1b BB2b
        go_wp2_with (at_builtin; refine app_home (o := ⟨some 49, _, _, _, _, _⟩) rfl (.tmp 44) (.tmp 48) rfl w1.heap.size _ (hs l1 j) rfl HO1.out _ [_] rfl HN1.out LN2 HBB.out.size ?_)
        intro v2 w3 ho2 hg2 hs2
        have P7 := HP7.out.kept hg2 (apart O0.out.lt HS1.out)
        have BB3 := below_app HBB.out HBB.out.size HO1.out hg2
        have OE := (own_lit_a homeE w3 (l := ([] : List Hm)) (fun x hx => (by cases hx)) (by unfold maxLen; show 0 ≤ _; decide)).mono BB3.size
        obtain ⟨E2, hE2⟩ : ∃ E2, w3.alloc (.cells #[] 41) = E2 := ⟨_, rfl⟩
        have P7b := P7.alloc (.cells #[] 41)
        have P2b := ho2.alloc (.cells #[] 41)
        have BB3b := bal (o := .cells #[] 41) BB3
        have zE2 : E2.heap.size = w3.heap.size + 1 := by rw [← hE2]; simp
        rw [show w3.alloc (.cells ((([] : List Hm).flatMap homeE.enc).toArray) homeE.e) = E2 from hE2] at OE
        rw [hE2] at P7b P2b BB3b
        have HE2 := Lib.hid OE
        have HQ7 := Lib.hid P7b
        have HQ2 := Lib.hid P2b
        have HBE2 := Lib.hid BB3b
        have LT7 := Lib.hid P7.lt
        have LT2 := Lib.hid ho2.lt
        have HZ2 := Lib.hid zE2
        clear ho2 hg2 hs2 P7 BB3 OE P7b P2b BB3b zE2
        go_wp2_with (at_builtin; refine app_home (o := ⟨some 52, _, _, _, _, _⟩) rfl (.tmp 50) (.tmp 51) rfl w1.heap.size _ [] rfl HE2.out _ (hs l1 j) rfl HQ7.out.ra LN1 HBE2.out.size ?_)
        intro v3 w4 ho3 hg3 hs3
        have P7 := HQ7.out.kept hg3 (apart LT7.out (fun k hk => by cases hk; exact Nat.le_refl _))
        have P2 := HQ2.out.kept hg3 (apart LT2.out (fun k hk => by cases hk; exact Nat.le_refl _))
        have BB4 := below_app HBE2.out HBE2.out.size HE2.out hg3
        have s3b : ∀ k, v3.ownBlock = some k → w3.heap.size ≤ k := fun k hk => by
          rcases hs3 with e | e
          · rw [e] at hk; cases hk; exact Nat.le_refl _
          · rw [e] at hk; cases hk; have := HZ2.out; omega
        have N1 := own_one w4 (c := ⟨35, zeros⟩) (one_ok rfl (by decide))
        obtain ⟨U4, hU4⟩ : ∃ U4, w4.alloc (.cells (hmc ⟨35, zeros⟩) 41) = U4 := ⟨_, rfl⟩
        have P7b := P7.alloc (.cells (hmc ⟨35, zeros⟩) 41)
        have P2b := P2.alloc (.cells (hmc ⟨35, zeros⟩) 41)
        have ho3b := ho3.alloc (.cells (hmc ⟨35, zeros⟩) 41)
        have BB4b := bal (o := .cells (hmc ⟨35, zeros⟩) 41) BB4
        rw [hU4] at N1 P7b P2b ho3b BB4b
        have HR7 := Lib.hid P7b
        have HR2 := Lib.hid P2b
        have HO3 := Lib.hid ho3b
        have HB4 := Lib.hid BB4b
        have HN3 := Lib.hid N1.ra
        have HS3 := Lib.hid s3b
        clear ho3 hg3 hs3 P7 P2 BB4 s3b N1 P7b P2b ho3b BB4b
        go_wp2_with (at_builtin; refine app_home (o := ⟨some 55, _, _, _, _, _⟩) rfl (.tmp 52) (.tmp 54) rfl w1.heap.size _ (hs l1 j) rfl HO3.out _ [_] rfl HN3.out LN3 HB4.out.size ?_)
        intro v4 w5 ho4 hg4 _
        have T7 := Lib.hid (HR7.out.kept hg4 (apart LT7.out HS3.out))
        have T2 := Lib.hid (HR2.out.kept hg4 (apart LT2.out HS3.out))
        have T4 := Lib.hid ho4
        have B5 := Lib.hid (below_app HB4.out HB4.out.size HO3.out hg4)
        clear ho4 hg4
        have G1 : Hid (1 ≤ j ∧ j ≤ 14) := Lib.hid (by omega)
        have MA := Lib.hid (may_is 36 _ (hs l1 j) true w5 T7.out.ra ⟨fun _ => (hs_may HK.out).2 G1.out, fun _ => rfl⟩)
        go_wp2_with fail
        refine (MA.out).mono ?_; rintro e w6 ⟨rfl, hb⟩
        have B6 := Lib.hid (below_more B5.out hb)
        have R7 := Lib.hid (ra_below T7.out.ra hb)
        have R2 := Lib.hid (ra_below T2.out.ra hb)
        have R4 := Lib.hid (ra_below T4.out.ra hb)
        have MB := Lib.hid (may_is 36 _ _ false w6 R2.out ⟨fun e => (by cases e), fun e => absurd e (low_no (by have := HC.out; omega))⟩)
        clear hb
        go_wp2_with fail
        refine (MB.out).mono ?_; rintro e w7 ⟨rfl, hb⟩
        have B7 := Lib.hid (below_more B6.out hb)
        have Q7 := Lib.hid (ra_below R7.out hb)
        have Q4 := Lib.hid (ra_below R4.out hb)
        clear hb
        have MC := Lib.hid (may_is 36 _ _ false w7 Q4.out ⟨fun e => (by cases e), fun e => absurd e (twice_no (by have := G1.out; omega))⟩)
        go_wp2_with fail
        refine (MC.out).mono ?_; rintro e w8 ⟨rfl, hb⟩
        have B8 := Lib.hid (below_more B7.out hb)
        have S7 := Lib.hid (ra_below Q7.out hb)
        clear hb
        have L8 := Lib.hid (L1.out.below B8.out)
        have RM : Room (16 + 20) 0 9 0 s0 := ⟨by decide, by decide, by have := NL.out.2.2.1; omega, by rw [NC.out.2.1]; decide, by decide⟩
        have MY := (hs_may (d := l1) HK.out).2 G1.out
        have OW := hs_ok h8 HK.out
        have hwd : Wide (hs l1 j) := fun z hz => (OW z hz).len
        have CM := ctr.com w8 x g y q (16 + 20) 0 9 0 s0 _ (hs l1 j) L8.out NL.out.1 NC.out.1.1 RM NL.out.2.1 (fun w' hc => ra_chg S7.out hc fun b hb => by have := T7.out.lt b hb; have := PL.out; simp; omega) MY
        obtain ⟨SS, _, o⟩ := lcom_out (h := hs l1 j) 9 0 NL.out.1 NC.out.1.1 NL.out.2.1 MY hwd (by have := NL.out.2.2.1; omega)
        obtain ⟨g1, g2, g3⟩ := lcom_go (h := hs l1 j) 9 0 NL.out.1 MY hwd NC.out.2.2 (by have := NL.out.2.2.1; omega)
        obtain ⟨R, hR⟩ : ∃ R, lcom (16 + 20) 0 9 0 (hs l1 j) s0 = R := ⟨_, rfl⟩
        have hR' : lcom 36 0 9 0 (hs l1 j) s0 = R := hR
        rw [hR] at CM
        rw [hR'] at SS o g1 g2 g3
        obtain ⟨e1, p1, s1⟩ := R
        dsimp only at g1
        subst g1
        have hp1 : p1 ≤ 30 := by have := (lcom_out (h := hs l1 j) 9 0 NL.out.1 NC.out.1.1 NL.out.2.1 MY hwd (by have := NL.out.2.2.1; omega)).2.1; rw [hR'] at this; exact this
        have RM1 : Hid (Room (16 + 20) 0 9 p1 s1) := Lib.hid ⟨by decide, by omega, by have h1 : tm s1 ≤ tm s0 + 32 := SS.hi; have := NL.out.2.2.1; omega, by have h1 : s1.c ≤ s0.c + 82 * 32 := SS.c; have := NC.out.2.1; omega, by decide⟩
        have VV : Hid (view s1 (16 + 20) 0 35 = l1) := Lib.hid (by
          rcases o with ⟨_, _, h⟩ | ⟨e, _⟩ | ⟨e, _⟩
          · refine (h 35 (by decide) (by decide)).trans ?_
            exact hv_mem (hs_nodup l1 j) (hs_first (by have := G1.out; omega)) rfl
          · cases e
          · cases e)
        have LO1 : Hid (LgOk s1 (16 + 20) 0 ∧ s1.dark = false) := Lib.hid ⟨SS.lg, g2.calm.1⟩
        have CM := Lib.hid CM
        clear RM MY OW hwd SS o g2 g3 hR hR' hp1
        go_wp2_with fail
        refine (CM.out).mono ?_; rintro e w9 ⟨rfl, hL, hC⟩
        have L9 := Lib.hid hL
        have D9 := Lib.hid (hC.ln (D1.out.below B8.out) (by have := PL.out; simp; omega))
        have B9 := Lib.hid (hC.below (below_base B1.out B1.out.size (B8.out)) (by have := B1.out.size; have := B8.out.size; omega) (fun k hk => by have := PL.out; simp at hk; omega))
        have GC := ctr.get w9 x g y q (16 + 20) 0 9 p1 35 s1 L9.out LO1.out.1 LO1.out.2 RM1.out (by decide) (by decide)
        rw [VV.out] at GC
        have GC := Lib.hid GC
        clear hL hC
        go_wp2_with fail
        refine (GC.out).mono ?_; rintro e wd ⟨rfl, hb⟩
        obtain ⟨W1, hW1, H1⟩ := boxed1 wd h8
        have l0 := H1.out.1.load
        have l1_ := ((D9.out.below hb).below H1.out.2).load
        have B9 := Lib.hid (below_more (below_more B9.out hb) H1.out.2)
        clear hb
        go_wp2_with fail
        refine (new_yes 40 _ [] _ (by decide) (by decide) (ri_nil _)).mono ?_; rintro e wa ⟨g2, rfl, _, hN, hb⟩
        have TC := Lib.hid (tnew_yes (n := 39) (P := 0) (per := 9) (newNv_tok (n := 39) (P := 0) (by decide) (by decide) (by decide) []) (by decide) (by decide) (by decide) (by decide) (by decide) hN)
        have BA := Lib.hid (below_base B9.out B9.out.size hb)
        clear hN hb
        go_wp2_with fail
        refine (TC.out).mono ?_; rintro e wb ⟨x2, q2, rfl, _, _, _, _, _, hb⟩
        have BC := Lib.hid (below_base BA.out BA.out.size hb)
        clear hb
        go_wp2_with fail
        refine (awake_any ctr _).mono ?_; rintro e wc ⟨rfl, hb⟩
        have BD := Lib.hid (below_base BC.out BC.out.size hb)
        clear hb
        go_wp2
        go_ret
        exact ⟨rfl, BD.out⟩
      · go_wp2_with (at_builtin; refine app_home (o := ⟨some 44, _, _, _, _, _⟩) rfl (.tmp 42) (.tmp 43) rfl w1.heap.size _ [] rfl HE1.out _ (hs l1 j) rfl HO7.out.ra LN1 HBE.out.size ?_)
        intro v1 w2 ho1 hg1 hs1
        have P7 := HO7.out.kept hg1 (apart O0.out.lt (fun k hk => by cases hk; exact Nat.le_refl _))
        have BB2 := below_app HBE.out HBE.out.size HE1.out hg1
        have s1b : ∀ k, v1.ownBlock = some k → wr.heap.size ≤ k := fun k hk => by
          rcases hs1 with e | e
          · rw [e] at hk; cases hk; exact Nat.le_refl _
          · rw [e] at hk; cases hk; have := HZE.out; omega
        have N1 := own_one w2 (c := ⟨(c : Int), zeros⟩) (one_ok rfl (by have := HC.out; omega))
        obtain ⟨U2, hU2⟩ : ∃ U2, w2.alloc (.cells (hmc ⟨(c : Int), zeros⟩) 41) = U2 := ⟨_, rfl⟩
        have P7b := P7.alloc (.cells (hmc ⟨(c : Int), zeros⟩) 41)
        have ho1b := ho1.alloc (.cells (hmc ⟨(c : Int), zeros⟩) 41)
        have BB2b := bal (o := .cells (hmc ⟨(c : Int), zeros⟩) 41) BB2
        rw [hU2] at N1 P7b ho1b BB2b
        have HP7 := Lib.hid P7b
        have HO1 := Lib.hid ho1b
        have HBB := Lib.hid BB2b
        have HN1 := Lib.hid N1.ra
        have HS1 := Lib.hid s1b
        clear ho1 hg1 hs1 P7 BB2 s1b N1 P7b ho1b BB2b
        go_wp2_with (at_builtin; refine app_home (o := ⟨some 49, _, _, _, _, _⟩) rfl (.tmp 44) (.tmp 48) rfl w1.heap.size _ (hs l1 j) rfl HO1.out _ [_] rfl HN1.out LN2 HBB.out.size ?_)
        intro v2 w3 ho2 hg2 hs2
        have P7 := HP7.out.kept hg2 (apart O0.out.lt HS1.out)
        have BB3 := below_app HBB.out HBB.out.size HO1.out hg2
        have OE := (own_lit_a homeE w3 (l := ([] : List Hm)) (fun x hx => (by cases hx)) (by unfold maxLen; show 0 ≤ _; decide)).mono BB3.size
        obtain ⟨E2, hE2⟩ : ∃ E2, w3.alloc (.cells #[] 41) = E2 := ⟨_, rfl⟩
        have P7b := P7.alloc (.cells #[] 41)
        have P2b := ho2.alloc (.cells #[] 41)
        have BB3b := bal (o := .cells #[] 41) BB3
        have zE2 : E2.heap.size = w3.heap.size + 1 := by rw [← hE2]; simp
        rw [show w3.alloc (.cells ((([] : List Hm).flatMap homeE.enc).toArray) homeE.e) = E2 from hE2] at OE
        rw [hE2] at P7b P2b BB3b
        have HE2 := Lib.hid OE
        have HQ7 := Lib.hid P7b
        have HQ2 := Lib.hid P2b
        have HBE2 := Lib.hid BB3b
        have LT7 := Lib.hid P7.lt
        have LT2 := Lib.hid ho2.lt
        have HZ2 := Lib.hid zE2
        clear ho2 hg2 hs2 P7 BB3 OE P7b P2b BB3b zE2
        go_wp2_with (at_builtin; refine app_home (o := ⟨some 52, _, _, _, _, _⟩) rfl (.tmp 50) (.tmp 51) rfl w1.heap.size _ [] rfl HE2.out _ (hs l1 j) rfl HQ7.out.ra LN1 HBE2.out.size ?_)
        intro v3 w4 ho3 hg3 hs3
        have P7 := HQ7.out.kept hg3 (apart LT7.out (fun k hk => by cases hk; exact Nat.le_refl _))
        have P2 := HQ2.out.kept hg3 (apart LT2.out (fun k hk => by cases hk; exact Nat.le_refl _))
        have BB4 := below_app HBE2.out HBE2.out.size HE2.out hg3
        have s3b : ∀ k, v3.ownBlock = some k → w3.heap.size ≤ k := fun k hk => by
          rcases hs3 with e | e
          · rw [e] at hk; cases hk; exact Nat.le_refl _
          · rw [e] at hk; cases hk; have := HZ2.out; omega
        have N1 := own_one w4 (c := ⟨35, zeros⟩) (one_ok rfl (by decide))
        obtain ⟨U4, hU4⟩ : ∃ U4, w4.alloc (.cells (hmc ⟨35, zeros⟩) 41) = U4 := ⟨_, rfl⟩
        have P7b := P7.alloc (.cells (hmc ⟨35, zeros⟩) 41)
        have P2b := P2.alloc (.cells (hmc ⟨35, zeros⟩) 41)
        have ho3b := ho3.alloc (.cells (hmc ⟨35, zeros⟩) 41)
        have BB4b := bal (o := .cells (hmc ⟨35, zeros⟩) 41) BB4
        rw [hU4] at N1 P7b P2b ho3b BB4b
        have HR7 := Lib.hid P7b
        have HR2 := Lib.hid P2b
        have HO3 := Lib.hid ho3b
        have HB4 := Lib.hid BB4b
        have HN3 := Lib.hid N1.ra
        have HS3 := Lib.hid s3b
        clear ho3 hg3 hs3 P7 P2 BB4 s3b N1 P7b P2b ho3b BB4b
        go_wp2_with (at_builtin; refine app_home (o := ⟨some 55, _, _, _, _, _⟩) rfl (.tmp 52) (.tmp 54) rfl w1.heap.size _ (hs l1 j) rfl HO3.out _ [_] rfl HN3.out LN3 HB4.out.size ?_)
        intro v4 w5 ho4 hg4 _
        have T7 := Lib.hid (HR7.out.kept hg4 (apart LT7.out HS3.out))
        have T2 := Lib.hid (HR2.out.kept hg4 (apart LT2.out HS3.out))
        have T4 := Lib.hid ho4
        have B5 := Lib.hid (below_app HB4.out HB4.out.size HO3.out hg4)
        clear ho4 hg4
        have G1 : Hid (1 ≤ j ∧ ¬ j ≤ 14) := Lib.hid (by omega)
        have MA := Lib.hid (may_is 36 _ (hs l1 j) false w5 T7.out.ra ⟨fun e => (by cases e), fun e => absurd ((hs_may HK.out).1 e) (by have := G1.out; omega)⟩)
        go_wp2_with fail
        refine (MA.out).mono ?_; rintro e w6 ⟨rfl, hb⟩
        have B6 := Lib.hid (below_more B5.out hb)
        have R7 := Lib.hid (ra_below T7.out.ra hb)
        have R2 := Lib.hid (ra_below T2.out.ra hb)
        have R4 := Lib.hid (ra_below T4.out.ra hb)
        have MB := Lib.hid (may_is 36 _ _ false w6 R2.out ⟨fun e => (by cases e), fun e => absurd e (low_no (by have := HC.out; omega))⟩)
        clear hb
        go_wp2_with fail
        refine (MB.out).mono ?_; rintro e w7 ⟨rfl, hb⟩
        have B7 := Lib.hid (below_more B6.out hb)
        have Q7 := Lib.hid (ra_below R7.out hb)
        have Q4 := Lib.hid (ra_below R4.out hb)
        clear hb
        have MC := Lib.hid (may_is 36 _ _ false w7 Q4.out ⟨fun e => (by cases e), fun e => absurd e (twice_no (by have := G1.out; omega))⟩)
        go_wp2_with fail
        refine (MC.out).mono ?_; rintro e w8 ⟨rfl, hb⟩
        have B8 := Lib.hid (below_more B7.out hb)
        have S7 := Lib.hid (ra_below Q7.out hb)
        clear hb
        have L8 := Lib.hid (L1.out.below B8.out)
        have CM := Lib.hid (cmt_arg L8.out S7.out (fun e => absurd ((hs_may HK.out).1 e) (by have := G1.out; omega)))
        go_wp2_with fail
        refine (CM.out).mono ?_; rintro e w9 ⟨rfl, hb⟩
        have B9 := Lib.hid (below_more B8.out hb)
        have L9 := Lib.hid (L8.out.below hb)
        have RM : Room (16 + 20) 0 9 0 s0 := ⟨by decide, by decide, by have := NL.out.2.2.1; omega, by rw [NC.out.2.1]; decide, by decide⟩
        have GC := ctr.get w9 x g y q (16 + 20) 0 9 0 35 s0 L9.out NL.out.1 NC.out.1.1 RM (by decide) (by decide)
        rw [NL.out.2.2.2.2 35] at GC
        have GC := Lib.hid GC
        clear hb RM
        go_wp2_with fail
        refine (GC.out).mono ?_; rintro e wd ⟨rfl, hb⟩
        obtain ⟨W1, hW1, H1⟩ := boxed1 wd (a := [0, 0, 0, 0, 0, 0, 0, 0]) rfl
        have hst : (lineStore (.pointer (some ⟨wd.heap.size, 0, none⟩)) (.agg (lc zeros))).run Try.prog W1 = .ok () W1 := by rw [← hW1]; exact store_new wd zeros zeros rfl rfl
        have B9 := Lib.hid (below_more (below_more B9.out hb) H1.out.2)
        clear hb
        go_wp2_with fail
        refine (new_yes 40 _ [] _ (by decide) (by decide) (ri_nil _)).mono ?_; rintro e wa ⟨g2, rfl, _, hN, hb⟩
        have TC := Lib.hid (tnew_yes (n := 39) (P := 0) (per := 9) (newNv_tok (n := 39) (P := 0) (by decide) (by decide) (by decide) []) (by decide) (by decide) (by decide) (by decide) (by decide) hN)
        have BA := Lib.hid (below_base B9.out B9.out.size hb)
        clear hN hb
        go_wp2_with fail
        refine (TC.out).mono ?_; rintro e wb ⟨x2, q2, rfl, _, _, _, _, _, hb⟩
        have BC := Lib.hid (below_base BA.out BA.out.size hb)
        clear hb
        go_wp2_with fail
        refine (awake_any ctr _).mono ?_; rintro e wc ⟨rfl, hb⟩
        have BD := Lib.hid (below_base BC.out BC.out.size hb)
        clear hb
        go_wp2
        go_ret
        exact ⟨rfl, below_base B1.out B1.out.size (BD.out.mono (by have := B1.out.size; omega))⟩

set_option maxRecDepth 100000 in
theorem lifted (os : Os) (started : os.Started) (H : Type) (enc : TypeId × Value → H) :
    ReturnsInHanded {} Try.checked os 8 .any (Rows.logMostSpec.pre6 enc Try.prog Try.f8 Rows.logMostRow.domain false) (Rows.logMostSpec.post enc Try.prog Try.f8 false true false false) := by
  refine returnsInHanded_of_change (C := Try.checked) own started (by kernel_rfl) Try.func8
    (ChangeSpec.witness6 (enc := enc) (C := Try.checked) false ⟨#[], #[.int .i64 0, .agg #[.int .u64 0, .int .u64 0, .int .u64 0, .int .u64 0, .int .u64 0, .int .u64 0, .int .u64 0, .int .u64 0]], []⟩ 8 (by kernel_rfl) (by kernel_rfl) (by kernel_rfl) (by kernel_rfl)) ?_
  intro W base args ds gs before hval0 hW hcnd _
  have hval : ∀ (j : Nat) t v, Try.f8.params[j]? = some t → args[j]? = some v → Value.okWide Try.prog W .any base t v := hval0
  have hW' := hW
  have hlt := hW.lt
  obtain ⟨p, q, hA0, hV, hpq, hfz, hnd⟩ := hW
  have hA : DataW.TrodAll enc Try.prog W 0 (fun _ => true) true Try.f8.params.toList args.toList ds p := hA0
  rw [Try.params8] at hA hval
  obtain ⟨v0, vs0, d0, ds0, p0, q0, hargs, rfl, hp, h0, r0⟩ := trodAll_cons hA
  obtain ⟨v1, vs1, d1, ds1, p1, q1, rfl, rfl, rfl, h1, r1⟩ := trodAll_cons r0
  obtain ⟨rfl, rfl, rfl⟩ := trodAll_nil r1
  obtain rfl : args = #[v0, v1] := by cases args; simp_all
  obtain ⟨rfl, rfl⟩ := trodVars_none hV
  have hlt' : ∀ x ∈ before, x.block < W.heap.size := fun x hx => hlt x hx
  obtain ⟨a0, rfl, rfl, rfl, w0⟩ := open_int Try.underlying3 (hval 0 3 v0 rfl rfl) h0
  obtain ⟨l1, rfl, n1, w1⟩ := line_in (hval 1 39 v1 rfl rfl) h1
  refine (walk a0 l1 W w0 n1 w1).mono fun e W' ⟨he, hb⟩ => ?_
  subst he
  exact ⟨_, rfl, law_post rfl (by kernel_rfl) hW' (by rw [Try.params8]; intro t ht; simp only [List.mem_cons, List.not_mem_nil, or_false] at ht; (repeat' (first | (rcases ht with rfl | ht) | subst ht)) <;> exact ⟨by kernel_rfl, of_decide_eq_true (by kernel_rfl)⟩) rfl hb⟩

theorem over : Rows.logMostRow.holds Try.pinned (OpenSpec.ofChange Rows.logMostSpec) :=
  OpenClaim.holds_of_wide 8 Try.f8 rfl rfl rfl rfl rfl rfl rfl ⟨rfl, rfl, rfl, rfl, rfl⟩ rfl rfl rfl rfl rfl (by kernel_rfl) Try.func8 (by kernel_rfl)
    (of_decide_eq_true (by kernel_rfl)) (by unfold Func.isWrapper; first | (rw [if_pos (by decide +kernel)]; kernel_rfl) | (rw [if_neg (by decide +kernel)]; exact ⟨rfl, rfl⟩))
    (fun os started H enc _ => lifted os started H enc)

theorem proved : Rows.LogMostSaid := over
end Go.Proofs.Ytjghhcbiaklomaa.logMost
