/-
  Contracts of the reference's Get and Set.
-/
import Derived.Test.YtomodoofpjgpgaaRmc
namespace Go.Proofs.Ytomodoofpjgpgaa
open Go.RowKit

theorem has_iff (s : Nv) (i : Int) : s.has i = true ↔ 0 ≤ i ∧ i < (s.n : Int) := by simp [Nv.has]
theorem rget_any (r : Rg) (s : Nv) (i : Int) (w : World) (h : Rm w r s) (ho : s.Ok) :
    Calls Try.prog 23 #[.pointer (some ⟨r.a, 0, none⟩), .int .i64 i] w fun e w' => e = .returned (.tuple #[.agg (lc (s.get i)), .int .i64 (s.rdy (s.has i))]) ∧ Below w.heap.size w w' := by
  obtain ⟨cuts, mk, hB, _⟩ := h
  have hB1 := hB.alloc (.cells (lc [0, 0, 0, 0, 0, 0, 0, 0]) 31)
  obtain ⟨c0, _, _, _, _, c40, _⟩ := hB1.cells
  have hz8 : zeros.length = 8 := rfl
  by_cases h1 : 0 ≤ i ∧ i < (s.n : Int)
  · obtain ⟨k, rfl⟩ : ∃ k : Nat, i = k := ⟨i.toNat, by omega⟩
    have hk : k < s.n := by omega
    have hb : s.has (k : Int) = true := Nv.has_of hk
    have hx := ho.line k
    cases hd : s.dark
    · have e1 : s.rdy (s.has k) = 0 := by simp [Nv.rdy, hb, hd]
      have e2 : s.get k = s.h k := by simp [Nv.get, e1]
      rw [e1, e2]
      rw [hd] at c40
      have ll := hB1.loadLine hk hx
      have HB := Lib.hid (bal (o := .cells (lc (s.h k)) 31) (Below.refl w.heap.size w))
      have HN := Lib.hid (Ln.new w hx)
      generalize s.h k = x at *
      generalize s.n = n at *
      obtain ⟨h1, h2⟩ := h1
      clear hB hB1 e1 e2 hb hd ho
      go_enter Try.func23, Try.ntmps23
      go_wp2

      exact bodyPost_ret (v := .tuple #[.agg (lc x), .int .i64 0]) (results_cell_tmp rfl _ _ _ _ _ _ _ _ rfl rfl HN.out.1 Try.underlying31 rfl (by rw [info_line, lc_size, hx])) rfl ⟨rfl, HB.out⟩
    · have e1 : s.rdy (s.has k) = 2 := by simp [Nv.rdy, hb, hd]
      have e2 : s.get k = zeros := by simp [Nv.get, e1]
      rw [e1, e2]
      rw [hd] at c40
      have HB := Lib.hid (bal (o := .cells (lc zeros) 31) (Below.refl w.heap.size w))
      have HN := Lib.hid (Ln.new w (l := zeros) rfl)
      generalize s.n = n at *
      obtain ⟨h1, h2⟩ := h1
      clear hB hB1 e1 e2 hb hd ho hx
      go_enter Try.func23, Try.ntmps23
      go_wp2
      exact bodyPost_ret (v := .tuple #[.agg (lc zeros), .int .i64 2]) (results_cell_tmp rfl _ _ _ _ _ _ _ _ rfl rfl HN.out.1 Try.underlying31 rfl (by rw [info_line]; rfl)) rfl ⟨rfl, HB.out⟩
  · have hb : s.has i = false := by
      cases hq : s.has i
      · rfl
      · exact absurd ((has_iff s i).1 hq) h1
    have e1 : s.rdy (s.has i) = 1 := by simp [Nv.rdy, hb]
    have e2 : s.get i = zeros := by simp [Nv.get, e1]
    rw [e1, e2]
    have HB := Lib.hid (bal (o := .cells (lc zeros) 31) (Below.refl w.heap.size w))
    have HN := Lib.hid (Ln.new w (l := zeros) rfl)
    generalize s.n = n at *
    clear hB hB1 e1 e2 hb c40 ho
    by_cases h2 : i < 0
    · go_enter Try.func23, Try.ntmps23
      go_wp2
      exact bodyPost_ret (v := .tuple #[.agg (lc zeros), .int .i64 1]) (results_cell_tmp rfl _ _ _ _ _ _ _ _ rfl rfl HN.out.1 Try.underlying31 rfl (by rw [info_line]; rfl)) rfl ⟨rfl, HB.out⟩
    · have h3 : (n : Int) ≤ i := by omega
      go_enter Try.func23, Try.ntmps23
      go_wp2
      exact bodyPost_ret (v := .tuple #[.agg (lc zeros), .int .i64 1]) (results_cell_tmp rfl _ _ _ _ _ _ _ _ rfl rfl HN.out.1 Try.underlying31 rfl (by rw [info_line]; rfl)) rfl ⟨rfl, HB.out⟩

theorem RB.of_eq {w : World} {r : Rg} {s s' : Nv} {cuts mk : Int} (h : RB w r s cuts mk) (e1 : s'.n = s.n) (e2 : s'.h = s.h) (e3 : s'.wr = s.wr) (e4 : s'.la = s.la) (e5 : s'.rg = s.rg) (e6 : s'.dark = s.dark) (e7 : s'.c = s.c) : RB w r s' cuts mk := by
  refine ⟨h.blk.tabEq fun j _ => ?_, ?_, ?_, h.lim, h.far, fun i hi => by rw [e4]; exact h.la i (by omega), h.ne1, h.ne2, h.ne3⟩
  · simp only [rcell, e1, e5, e6, e7]
  · rw [e1]; exact h.lin.tabEq fun j _ => by simp only [lcell, e2]
  · rw [e1]; exact h.wea.tabEq fun j _ => by simp only [wcell, e3]

/-- a Set that comes to its write -/
theorem rset_live (r : Rg) (s : Nv) (k : Nat) (v : Int) (w : World) (h : Rm w r s) (hd : s.dark = false) (hk : k < 35) (hc : 0 ≤ s.c) (hc2 : s.c < 1000000) :
    Calls Try.prog 15 #[.pointer (some ⟨r.a, 0, none⟩), .int .i64 k, .int .u64 v] w fun e w' => e = .returned (.int .i64 s.told) ∧ Rm w' r (if s.by_ % 2 = 1 then s.tick.reg k v else s.tick) ∧ Chg r.D w w' := by
  obtain ⟨cuts, mk, hB, hR⟩ := h
  obtain ⟨_, _, _, _, _, c40, _⟩ := hB.cells
  rw [hd] at c40
  have C := Lib.hid (goes_any r s cuts mk w hB hR hd hc hc2)
  have hD : Hid (∀ w : World, r.a ∈ r.D ∨ w.heap.size ≤ r.a) := Lib.hid fun _ => .inl (by simp [Rg.D])
  have j0 : (0 : Int) ≤ (k : Int) := by omega
  have j1 : (k : Int) < 35 := by omega
  have HD := Lib.hid hd
  cases hg : s.goes
  · have e1 : s.told = 0 := by simp [Nv.told, hg]
    have e2 : (if s.by_ % 2 = 1 then s.tick.reg k v else s.tick) = s.tick.reg k v := by simp [Nv.by_, hg]
    rw [e1, e2]
    rw [hg] at C
    have HE : Hid (s.tick = s.tick0) := Lib.hid (by rw [s.tick_of, hd, hg]; simp [Nv.tick0, hd])
    clear e1 e2 hB hR hd
    go_enter Try.func15, Try.ntmps15
    go_wp2_with fail
    refine C.out.mono ?_; rintro e w1 ⟨rfl, cuts', hB1, hC1, hr1, _⟩
    have HB1 := Lib.hid hB1
    have HC1 := Lib.hid hC1
    have HR1 := Lib.hid (hr1 trivial)
    have cr := hB1.regAt hk
    have zr := hB1.free (1 + k)
    generalize s.tick0.rg k = q at cr
    clear hB1 hC1 hr1
    have HF := Lib.hid (HB1.out.set_reg hk v)
    have HG := Lib.hid (HC1.out.setCell (p := ⟨r.a, 1 + k, none⟩) (hD.out w) (.int .u64 v))
    go_wp2
    go_ret
    exact ⟨rfl, ⟨cuts', mk, HF.out.as (by rw [HE.out]), HR1.out⟩, HG.out⟩
  · have e1 : s.told = 2 := by simp [Nv.told, hg]
    have e3 : s.by_ = s.mask := by simp [Nv.by_, hg]
    rw [e1, e3]
    rw [hg] at C
    have HE : Hid (s.tick = { s.tick0 with dark := true }) := Lib.hid (by rw [s.tick_of, hg]; simp)
    clear e1 e3 hB hR hd
    by_cases hm : s.mask % 2 = 1
    · rw [if_pos hm]
      go_enter Try.func15, Try.ntmps15
      go_wp2_with fail
      refine C.out.mono ?_; rintro e w1 ⟨rfl, cuts', hB1, hC1, _, hm1⟩
      obtain rfl := hm1 trivial
      have HB1 := Lib.hid hB1
      have HC1 := Lib.hid hC1
      have cr := hB1.regAt hk
      have zr := hB1.free (1 + k)
      obtain ⟨_, _, _, _, c39, c40', _⟩ := hB1.cells
      have z40 := hB1.free 40
      generalize s.tick0.rg k = q at cr
      generalize s.tick0.dark = dd at c40'
      clear hB1 hC1 hm1 c40
      have HF := Lib.hid ((HB1.out.set_reg hk v).set_dark true)
      have HG := Lib.hid ((HC1.out.setCell (p := ⟨r.a, 1 + k, none⟩) (hD.out w) (.int .u64 v)).setCell (p := ⟨r.a, 40, none⟩) (hD.out w) (.bool true))
      generalize s.mask = mk at *
      go_wp2
      go_ret
      exact ⟨rfl, ⟨cuts', mk, HF.out.as (by rw [HE.out]; rfl), .inl (by rw [HE.out]; rfl)⟩, HG.out⟩
    · rw [if_neg hm]
      have hm0 : s.mask % 2 = 0 := by omega
      go_enter Try.func15, Try.ntmps15
      go_wp2_with fail
      refine C.out.mono ?_; rintro e w1 ⟨rfl, cuts', hB1, hC1, _, hm1⟩
      obtain rfl := hm1 trivial
      have HB1 := Lib.hid hB1
      have HC1 := Lib.hid hC1
      obtain ⟨_, _, _, _, c39, c40', _⟩ := hB1.cells
      have z40 := hB1.free 40
      generalize s.tick0.dark = dd at c40'
      clear hB1 hC1 hm1 c40
      have HF := Lib.hid (HB1.out.set_dark true)
      have HG := Lib.hid (HC1.out.setCell (p := ⟨r.a, 40, none⟩) (hD.out w) (.bool true))
      generalize s.mask = mk at *
      go_wp2
      go_ret
      exact ⟨rfl, ⟨cuts', mk, HF.out.as (by rw [HE.out]), .inl (by rw [HE.out])⟩, HG.out⟩
theorem rset_any (r : Rg) (s : Nv) (i v : Int) (w : World) (h : Rm w r s) (ho : s.Ok) (hc2 : s.c < 1000000) :
    Calls Try.prog 15 #[.pointer (some ⟨r.a, 0, none⟩), .int .i64 i, .int .u64 v] w fun e w' => e = .returned (.int .i64 (s.setE i)) ∧ Rm w' r (s.set i v) ∧ Chg r.D w w' := by
  have hc := Int.le_trans (ho.wr0 0) (ho.wr1 0)
  by_cases h1 : 0 ≤ i ∧ i < 35
  · obtain ⟨k, rfl⟩ : ∃ k : Nat, i = k := ⟨i.toNat, by omega⟩
    have hk : k < 35 := by omega
    have hb : hasR (k : Int) = true := by simp [hasR]; omega
    cases hd : s.dark
    · have e1 : s.rdy (hasR k) = 0 := by simp [Nv.rdy, hb, hd]
      refine (rset_live r s k v w h hd hk hc hc2).mono ?_
      rintro e w' ⟨rfl, hN, hC⟩
      refine ⟨by simp [Nv.setE, e1], ?_, hC⟩
      have : s.set k v = if s.by_ % 2 = 1 then s.tick.reg k v else s.tick := by simp [Nv.set, e1]
      rw [this]; exact hN
    · have e1 : s.setE k = 2 := Nv.setE_dark hd hk
      have e2 := Nv.set_dark hd k v
      rw [e1, e2]
      have HM := Lib.hid h
      obtain ⟨cuts, mk, hB, _⟩ := h
      obtain ⟨_, _, _, _, _, c40, _⟩ := hB.cells
      rw [hd] at c40
      obtain ⟨h1, h2⟩ := h1
      clear hB e1 e2 hb hd
      go_enter Try.func15, Try.ntmps15
      go_wp2
      go_ret
      exact ⟨rfl, HM.out, Chg.refl _ _⟩
  · have hb : hasR i = false := by simp [hasR]; omega
    have e0 : s.rdy (hasR i) = 1 := by simp [Nv.rdy, hb]
    have e1 : s.setE i = 1 := by simp [Nv.setE, e0]
    have e2 : s.set i v = s := by simp [Nv.set, e0]
    rw [e1, e2]
    have HM := Lib.hid h
    clear h e0 e1 e2 hb
    by_cases h2 : i < 0
    · go_enter Try.func15, Try.ntmps15
      go_wp2
      go_ret
      exact ⟨rfl, HM.out, Chg.refl _ _⟩
    · have h3 : 35 ≤ i := by omega
      go_enter Try.func15, Try.ntmps15
      go_wp2
      go_ret
      exact ⟨rfl, HM.out, Chg.refl _ _⟩
end Go.Proofs.Ytomodoofpjgpgaa
