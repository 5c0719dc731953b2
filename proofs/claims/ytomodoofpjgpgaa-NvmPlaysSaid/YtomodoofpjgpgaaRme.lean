/-
  Contract of the reference's Put.
-/
import Derived.Test.YtomodoofpjgpgaaRmd
import Derived.Deep.RegionLaw
import Derived.StillTailTactics
namespace Go.Proofs.Ytomodoofpjgpgaa
open Go.RowKit

/-- a Put that comes to its write, on a line that is worn -/
theorem rput_worn (r : Rg) (s : Nv) (k : Nat) (l : List Int) (w : World) (h : Rm w r s) (hd : s.dark = false) (hk : k < s.n) (hc : 0 ≤ s.c) (hc2 : s.c < 1000000) (hw : s.worn k = true) :
    Calls Try.prog 13 #[.pointer (some ⟨r.a, 0, none⟩), .int .i64 k, .agg (lc l)] w fun e w' => e = .returned (.int .i64 (if s.goes then 2 else 3)) ∧ Rm w' r s.tick ∧ Chg r.D w w' := by
  obtain ⟨cuts, mk, hB0, hR⟩ := h
  have hB := hB0.alloc (.cells (lc l) 31)
  obtain ⟨c0, _, _, _, _, c40, _⟩ := hB.cells
  rw [hd] at c40
  have C := Lib.hid (goes_any r s cuts mk _ hB hR hd hc hc2)
  have HA := Lib.hid ((Chg.refl r.D w).alloc (.cells (lc l) 31))
  have hD : Hid (∀ w : World, r.a ∈ r.D ∨ w.heap.size ≤ r.a) := Lib.hid fun _ => .inl (by simp [Rg.D])
  have j0 : (0 : Int) ≤ (k : Int) := by omega
  have j1 : (k : Int) < (s.n : Int) := by omega
  have hla := hB0.la k hk
  have hw' : 0 ≤ s.la k ∧ s.la k ≤ s.wr k := by simpa [Nv.worn] using hw
  have hlt : k < r.lim.length := by
    by_cases hx : k < r.lim.length
    · exact hx
    · rw [if_neg hx] at hla; omega
  rw [if_pos hlt] at hla
  rw [hla] at hw'
  have HT : Hid (s.tick = { s.tick0 with dark := s.goes }) := Lib.hid (by rw [s.tick_of, hd]; simp)
  have HTF : Hid (s.goes = false → s.tick = s.tick0) := Lib.hid fun hg => by rw [s.tick_of, hd, hg]; simp [Nv.tick0, hd]
  have eW : s.tick0.wr k = s.wr k := rfl
  have eN : s.tick0.n = s.n := rfl
  clear hB hB0 hR hw hla hd
  cases hg : s.goes
  · rw [hg] at C HT HTF
    go_enter Try.func13, Try.ntmps13
    go_wp2_with fail
    refine C.out.mono ?_; rintro e w1 ⟨rfl, cuts', hB1, hC1, hr1, _⟩
    have HB1 := Lib.hid hB1
    have HC1 := Lib.hid (HA.out.trans hC1)
    have HR1 := Lib.hid hr1
    obtain ⟨_, c36, c37, _, _, c40', _⟩ := hB1.cells
    have z40 := hB1.free 40
    have cw := hB1.wearAt (k := k) (by rw [eN]; exact hk)
    rw [eW] at cw
    rw [eN] at c36
    obtain ⟨p, cap, ev, hlc, _, hz | ⟨b, off, rfl, hcell⟩⟩ := hB1.lim
    · rw [hz] at hlt; simp at hlt
    have ck := hcell k hlt
    rw [ev] at c37
    generalize s.tick0.dark = dd at c40'
    generalize r.lim.getD k 0 = q at *
    generalize s.wr k = x at *
    obtain ⟨L, hL⟩ : ∃ L, r.lim.length = L := ⟨_, rfl⟩
    rw [hL] at c37 hlt hlc
    have j2 : (k : Int) < (L : Int) := by omega
    have t0 : decide ((k : Int) < (L : Int)) = true := by simpa using hlt
    have t1 : decide (0 ≤ q) = true := by simpa using hw'.1
    have t2 : decide (q ≤ x) = true := by simpa using hw'.2
    clear hcell hB1 hC1 hr1 hL ev c40
    go_wp2
    go_quiet (fail)
    have HF := Lib.hid (HB1.out.drewN nq)
    have HF2 := Lib.hid ((HB1.out.drewN nq).set_dark true)
    have HG := Lib.hid (HC1.out.drewN nq)
    have HG2 := Lib.hid ((HC1.out.drewN nq).setCell (p := ⟨r.a, 40, none⟩) (hD.out w) (.bool true))
    go_wp2
    go_ret
    first
      | exact ⟨rfl, ⟨cuts', mk, HF.out.as (HTF.out trivial).symm, HR1.out trivial⟩, HG.out⟩
      | exact ⟨rfl, ⟨cuts', mk, HF2.out.as HT.out.symm, .inl (by rw [HT.out])⟩, HG2.out⟩
  · rw [hg] at C HT HTF
    go_enter Try.func13, Try.ntmps13
    go_wp2_with fail
    refine C.out.mono ?_; rintro e w1 ⟨rfl, cuts', hB1, hC1, hr1, _⟩
    have HB1 := Lib.hid hB1
    have HC1 := Lib.hid (HA.out.trans hC1)
    have HR1 := Lib.hid hr1
    obtain ⟨_, c36, c37, _, _, c40', _⟩ := hB1.cells
    have z40 := hB1.free 40
    have cw := hB1.wearAt (k := k) (by rw [eN]; exact hk)
    rw [eW] at cw
    rw [eN] at c36
    obtain ⟨p, cap, ev, hlc, _, hz | ⟨b, off, rfl, hcell⟩⟩ := hB1.lim
    · rw [hz] at hlt; simp at hlt
    have ck := hcell k hlt
    rw [ev] at c37
    generalize s.tick0.dark = dd at c40'
    generalize r.lim.getD k 0 = q at *
    generalize s.wr k = x at *
    obtain ⟨L, hL⟩ : ∃ L, r.lim.length = L := ⟨_, rfl⟩
    rw [hL] at c37 hlt hlc
    have j2 : (k : Int) < (L : Int) := by omega
    have t0 : decide ((k : Int) < (L : Int)) = true := by simpa using hlt
    have t1 : decide (0 ≤ q) = true := by simpa using hw'.1
    have t2 : decide (q ≤ x) = true := by simpa using hw'.2
    clear hcell hB1 hC1 hr1 hL ev c40
    go_wp2
    go_quiet (fail)
    have HF := Lib.hid (HB1.out.drewN nq)
    have HF2 := Lib.hid ((HB1.out.drewN nq).set_dark true)
    have HG := Lib.hid (HC1.out.drewN nq)
    have HG2 := Lib.hid ((HC1.out.drewN nq).setCell (p := ⟨r.a, 40, none⟩) (hD.out w) (.bool true))
    go_wp2
    go_ret
    first
      | exact ⟨rfl, ⟨cuts', mk, HF.out.as (HTF.out trivial).symm, HR1.out trivial⟩, HG.out⟩
      | exact ⟨rfl, ⟨cuts', mk, HF2.out.as HT.out.symm, .inl (by rw [HT.out])⟩, HG2.out⟩

/-- why a line is not worn, by the limits -/
theorem not_worn {r : Rg} {s : Nv} {w : World} {cuts mk : Int} (h : RB w r s cuts mk) {k : Nat} (hk : k < s.n) (hw : s.worn k = false) : ¬ k < r.lim.length ∨ (k < r.lim.length ∧ r.lim.getD k 0 < 0) ∨ (k < r.lim.length ∧ 0 ≤ r.lim.getD k 0 ∧ s.wr k < r.lim.getD k 0) := by
  have hla := h.la k hk
  by_cases h1 : k < r.lim.length
  · rw [if_pos h1] at hla
    simp only [Nv.worn, hla, Bool.and_eq_false_iff, decide_eq_false_iff_not] at hw
    omega
  · exact .inl h1

/-- a newer block stored whole -/
theorem RB.rowNew {w0 w : World} {r : Rg} {s : Nv} {cuts mk : Int} (h : RB w r s cuts mk) (h0 : RI w0 r.v r.lim) {g : Nat} (hg : w0.heap.size ≤ g) (hD : g ∉ r.D) (c : Array Value) : RB (w.setRow g c) r s cuts mk := by
  have e1 : r.a ≠ g := fun e => hD (by simp [Rg.D, e])
  have e2 : r.l ≠ g := fun e => hD (by simp [Rg.D, e])
  have e3 : r.m ≠ g := fun e => hD (by simp [Rg.D, e])
  have past : ∀ {b : Nat} {t : TypeId} {cs : Array Value}, b ≠ g → Whole w b t cs → Whole (w.setRow g c) b t cs := fun hb hw => by
    unfold Whole; rw [setRow_other w g _ c hb]; exact hw
  refine ⟨past e1 h.blk, past e2 h.lin, past e3 h.wea, ?_, h.far, h.la, h.ne1, h.ne2, h.ne3⟩
  obtain ⟨p, cap, ev, k1, k2, hz | ⟨b, off, rfl, hcell⟩⟩ := h.lim
  · exact ⟨p, cap, ev, k1, k2, .inl hz⟩
  · refine ⟨_, cap, ev, k1, k2, .inr ⟨b, off, rfl, fun i hi => ?_⟩⟩
    obtain ⟨p', cap', ev', _, _, hz | ⟨b', off', rfl, hcell'⟩⟩ := h0
    · rw [hz] at hi; simp at hi
    · rw [ev] at ev'
      cases ev'
      have hlt := World.block_lt_of_cell? w0 _ (hcell' i hi)
      rw [cell_setRow_other w g c _ (by show b ≠ g; have : b < w0.heap.size := hlt; omega)]
      exact hcell i hi

/-- the limits as they are read -/
theorem RB.limAt {w : World} {r : Rg} {s : Nv} {cuts mk : Int} (h : RB w r s cuts mk) : ∃ p cap, r.v = .slice p r.lim.length cap ∧ r.lim.length ≤ cap ∧ ∀ k, k < r.lim.length → ∃ b off, p = some ⟨b, off, none⟩ ∧ w.cell? ⟨b, off + k, none⟩ = some (.int .i64 (r.lim.getD k 0)) := by
  obtain ⟨p, cap, ev, hlc, _, hz | ⟨b, off, rfl, hcell⟩⟩ := h.lim
  · exact ⟨p, cap, ev, hlc, fun k hk => by rw [hz] at hk; simp at hk⟩
  · exact ⟨_, cap, ev, hlc, fun k hk => ⟨b, off, rfl, hcell k hk⟩⟩

theorem nv_eta_lay (s : Nv) (k : Nat) (l : List Int) (m : Int) : ({ { s with wr := upd s.wr k (s.wr k + 1) } with h := upd s.h k (mix (s.h k) l m) } : Nv) = s.lay k l m := rfl

set_option maxHeartbeats 2000000 in
/-- a Put that comes to its write, whole -/
theorem rput_whole (r : Rg) (s : Nv) (k : Nat) (l : List Int) (w : World) (h : Rm w r s) (ho : s.Ok) (hl : l.length = 8) (hd : s.dark = false) (hk : k < s.n) (hc2 : s.c < 1000000) (hw : s.worn k = false) (hg : s.goes = false) :
    Calls Try.prog 13 #[.pointer (some ⟨r.a, 0, none⟩), .int .i64 k, .agg (lc l)] w fun e w' => e = .returned (.int .i64 0) ∧ Rm w' r (s.tick.lay k l 255) ∧ Chg r.D w w' := by
  have hc := Int.le_trans (ho.wr0 0) (ho.wr1 0)
  obtain ⟨cuts, mk, hB0, hR⟩ := h
  have hB := hB0.alloc (.cells (lc l) 31)
  obtain ⟨c0, _, _, _, _, c40, _⟩ := hB.cells
  rw [hd] at c40
  have C := Lib.hid (goes_any r s cuts mk _ hB hR hd hc hc2)
  have HA := Lib.hid ((Chg.refl r.D w).alloc (.cells (lc l) 31))
  have hD1 : Hid (∀ w : World, r.m ∈ r.D ∨ w.heap.size ≤ r.m) := Lib.hid fun _ => .inl (by simp [Rg.D])
  have hD2 : Hid (∀ w : World, r.l ∈ r.D ∨ w.heap.size ≤ r.l) := Lib.hid fun _ => .inl (by simp [Rg.D])
  have HL := Lib.hid (Ln.new w hl)
  have hfar : Hid (w.heap.size ∉ r.D) := Lib.hid (by
    have h1 := hB0.blk.lt; have h2 := hB0.lin.lt; have h3 := hB0.wea.lt
    simp [Rg.D]; omega)
  have j0 : (0 : Int) ≤ (k : Int) := by omega
  have j1 : (k : Int) < (s.n : Int) := by omega
  have hx0 := ho.wr0 k
  have hx1 := ho.wr1 k
  have W3 := not_worn hB0 hk hw
  have HTF : Hid (s.tick = s.tick0) := Lib.hid (by rw [s.tick_of, hd, hg]; simp [Nv.tick0, hd])
  have eW : s.tick0.wr k = s.wr k := rfl
  have eN : s.tick0.n = s.n := rfl
  have hx8 : (s.tick0.h k).length = 8 := ho.line k
  have HMW := Lib.hid (mix_whole (s.tick0.h k) l hx8 hl)
  have HRT : Hid (Rel s.tick = Rel (s.tick.lay k l 255)) := Lib.hid rfl
  clear hB hB0 hR hw hd ho
  rw [hg] at C
  rcases W3 with hA | hA | hA
  · go_enter Try.func13, Try.ntmps13
    go_wp2_with fail
    refine C.out.mono ?_; rintro e w1 ⟨rfl, cuts', hB1, hC1, hr1, _⟩
    have HR1 := Lib.hid (hr1 trivial)
    have L1 := Lib.hid (hC1.ln HL.out hfar.out)
    obtain ⟨c0', c36, c37, _, _, _, _⟩ := hB1.cells
    have cw := hB1.wearAt (k := k) (by rw [eN]; exact hk)
    have zw := hB1.wea.free k
    rw [eW] at cw
    rw [eN] at c36 c0'
    obtain ⟨p, cap, ev, hlc, hat⟩ := hB1.limAt
    rw [ev] at c37
    have HB1 := Lib.hid hB1
    have HC1 := Lib.hid (HA.out.trans hC1)
    obtain ⟨x, ex⟩ : ∃ x, s.wr k = x := ⟨_, rfl⟩
    rw [ex] at cw hx0 hx1
    try rw [ex] at hA
    obtain ⟨q, eq⟩ : ∃ q, r.lim.getD k 0 = q := ⟨_, rfl⟩
    try rw [eq] at hA
    have hat' := hat k
    rw [eq] at hat'
    obtain ⟨L, hL⟩ : ∃ L, r.lim.length = L := ⟨_, rfl⟩
    rw [hL] at c37 hlc hA hat'
    have t0 : decide ((k : Int) < (L : Int)) = false := by simp; omega
    clear hat hB1 hC1 hr1 hL ev c40
    clear hat'
    go_wp2
    go_quiet (fail)
    obtain ⟨W, hW⟩ : ∃ W, (w1.drewN nq).setCell ⟨r.m, k, none⟩ (.int .i64 (x + 1)) = W := ⟨_, rfl⟩
    have NW := (HB1.out.drewN nq).set_wear (k := k) (by rw [eN]; exact hk) (x + 1)
    rw [hW] at NW
    have CW := (HC1.out.drewN nq).setCell (p := ⟨r.m, k, none⟩) (hD1.out w) (.int .i64 (x + 1))
    rw [hW] at CW
    have LW := (L1.out.drewN nq).other (g' := r.m) (i := k) (fun e => hfar.out (by rw [e]; simp [Rg.D])) (.int .i64 (x + 1))
    rw [hW] at LW
    obtain ⟨d0, _⟩ := NW.cells
    have hst := NW.drew.storeLine (k := k) (by show k < s.n; exact hk) hl
    have LD : Ln W.drew w.heap.size l := LW
    have ll := LD.load
    have HF := Lib.hid (NW.drew.set_line k hl)
    have HG := Lib.hid (Chg.setCells (D := r.D) (w := w) (b := r.l) (hD2.out w) (l.map uv) (k * 8) W.drew CW.drew)
    clear NW CW LW LD
    go_wp2
    go_region_law (fail)
    all_goals
      go_wp2
      go_ret
      exact ⟨rfl, ⟨cuts', mk, HF.out.as (by rw [HTF.out, Nv.lay, HMW.out, ← ex]; rfl), by rw [← HRT.out]; exact HR1.out⟩, HG.out⟩
  · go_enter Try.func13, Try.ntmps13
    go_wp2_with fail
    refine C.out.mono ?_; rintro e w1 ⟨rfl, cuts', hB1, hC1, hr1, _⟩
    have HR1 := Lib.hid (hr1 trivial)
    have L1 := Lib.hid (hC1.ln HL.out hfar.out)
    obtain ⟨c0', c36, c37, _, _, _, _⟩ := hB1.cells
    have cw := hB1.wearAt (k := k) (by rw [eN]; exact hk)
    have zw := hB1.wea.free k
    rw [eW] at cw
    rw [eN] at c36 c0'
    obtain ⟨p, cap, ev, hlc, hat⟩ := hB1.limAt
    rw [ev] at c37
    have HB1 := Lib.hid hB1
    have HC1 := Lib.hid (HA.out.trans hC1)
    obtain ⟨x, ex⟩ : ∃ x, s.wr k = x := ⟨_, rfl⟩
    rw [ex] at cw hx0 hx1
    try rw [ex] at hA
    obtain ⟨q, eq⟩ : ∃ q, r.lim.getD k 0 = q := ⟨_, rfl⟩
    try rw [eq] at hA
    have hat' := hat k
    rw [eq] at hat'
    obtain ⟨L, hL⟩ : ∃ L, r.lim.length = L := ⟨_, rfl⟩
    rw [hL] at c37 hlc hA hat'
    have t0 : decide ((k : Int) < (L : Int)) = true := by simp; omega
    have t1 : decide (0 ≤ q) = false := by simp; omega
    clear hat hB1 hC1 hr1 hL ev c40
    obtain ⟨b, off, rfl, ck⟩ := hat' (by omega)
    have j2 : (k : Int) < (L : Int) := by omega
    clear hat'
    go_wp2
    go_quiet (fail)
    obtain ⟨W, hW⟩ : ∃ W, (w1.drewN nq).setCell ⟨r.m, k, none⟩ (.int .i64 (x + 1)) = W := ⟨_, rfl⟩
    have NW := (HB1.out.drewN nq).set_wear (k := k) (by rw [eN]; exact hk) (x + 1)
    rw [hW] at NW
    have CW := (HC1.out.drewN nq).setCell (p := ⟨r.m, k, none⟩) (hD1.out w) (.int .i64 (x + 1))
    rw [hW] at CW
    have LW := (L1.out.drewN nq).other (g' := r.m) (i := k) (fun e => hfar.out (by rw [e]; simp [Rg.D])) (.int .i64 (x + 1))
    rw [hW] at LW
    obtain ⟨d0, _⟩ := NW.cells
    have hst := NW.drew.storeLine (k := k) (by show k < s.n; exact hk) hl
    have LD : Ln W.drew w.heap.size l := LW
    have ll := LD.load
    have HF := Lib.hid (NW.drew.set_line k hl)
    have HG := Lib.hid (Chg.setCells (D := r.D) (w := w) (b := r.l) (hD2.out w) (l.map uv) (k * 8) W.drew CW.drew)
    clear NW CW LW LD
    go_wp2
    go_region_law (fail)
    all_goals
      go_wp2
      go_ret
      exact ⟨rfl, ⟨cuts', mk, HF.out.as (by rw [HTF.out, Nv.lay, HMW.out, ← ex]; rfl), by rw [← HRT.out]; exact HR1.out⟩, HG.out⟩
  · go_enter Try.func13, Try.ntmps13
    go_wp2_with fail
    refine C.out.mono ?_; rintro e w1 ⟨rfl, cuts', hB1, hC1, hr1, _⟩
    have HR1 := Lib.hid (hr1 trivial)
    have L1 := Lib.hid (hC1.ln HL.out hfar.out)
    obtain ⟨c0', c36, c37, _, _, _, _⟩ := hB1.cells
    have cw := hB1.wearAt (k := k) (by rw [eN]; exact hk)
    have zw := hB1.wea.free k
    rw [eW] at cw
    rw [eN] at c36 c0'
    obtain ⟨p, cap, ev, hlc, hat⟩ := hB1.limAt
    rw [ev] at c37
    have HB1 := Lib.hid hB1
    have HC1 := Lib.hid (HA.out.trans hC1)
    obtain ⟨x, ex⟩ : ∃ x, s.wr k = x := ⟨_, rfl⟩
    rw [ex] at cw hx0 hx1
    try rw [ex] at hA
    obtain ⟨q, eq⟩ : ∃ q, r.lim.getD k 0 = q := ⟨_, rfl⟩
    try rw [eq] at hA
    have hat' := hat k
    rw [eq] at hat'
    obtain ⟨L, hL⟩ : ∃ L, r.lim.length = L := ⟨_, rfl⟩
    rw [hL] at c37 hlc hA hat'
    have t0 : decide ((k : Int) < (L : Int)) = true := by simp; omega
    have t1 : decide (0 ≤ q) = true := by simp; omega
    have t2 : decide (q ≤ x) = false := by simp; omega
    clear hat hB1 hC1 hr1 hL ev c40
    obtain ⟨b, off, rfl, ck⟩ := hat' (by omega)
    have j2 : (k : Int) < (L : Int) := by omega
    clear hat'
    go_wp2
    go_quiet (fail)
    obtain ⟨W, hW⟩ : ∃ W, (w1.drewN nq).setCell ⟨r.m, k, none⟩ (.int .i64 (x + 1)) = W := ⟨_, rfl⟩
    have NW := (HB1.out.drewN nq).set_wear (k := k) (by rw [eN]; exact hk) (x + 1)
    rw [hW] at NW
    have CW := (HC1.out.drewN nq).setCell (p := ⟨r.m, k, none⟩) (hD1.out w) (.int .i64 (x + 1))
    rw [hW] at CW
    have LW := (L1.out.drewN nq).other (g' := r.m) (i := k) (fun e => hfar.out (by rw [e]; simp [Rg.D])) (.int .i64 (x + 1))
    rw [hW] at LW
    obtain ⟨d0, _⟩ := NW.cells
    have hst := NW.drew.storeLine (k := k) (by show k < s.n; exact hk) hl
    have LD : Ln W.drew w.heap.size l := LW
    have ll := LD.load
    have HF := Lib.hid (NW.drew.set_line k hl)
    have HG := Lib.hid (Chg.setCells (D := r.D) (w := w) (b := r.l) (hD2.out w) (l.map uv) (k * 8) W.drew CW.drew)
    clear NW CW LW LD
    go_wp2
    go_region_law (fail)
    all_goals
      go_wp2
      go_ret
      exact ⟨rfl, ⟨cuts', mk, HF.out.as (by rw [HTF.out, Nv.lay, HMW.out, ← ex]; rfl), by rw [← HRT.out]; exact HR1.out⟩, HG.out⟩
set_option maxHeartbeats 2000000 in
/-- a Put at whose write the power goes -/
theorem rput_torn (r : Rg) (s : Nv) (k : Nat) (l : List Int) (w : World) (h : Rm w r s) (ho : s.Ok) (hl : l.length = 8) (hd : s.dark = false) (hk : k < s.n) (hc2 : s.c < 1000000) (hw : s.worn k = false) (hg : s.goes = true) :
    Calls Try.prog 13 #[.pointer (some ⟨r.a, 0, none⟩), .int .i64 k, .agg (lc l)] w fun e w' => e = .returned (.int .i64 2) ∧ Rm w' r (s.tick.lay k l s.mask) ∧ Chg r.D w w' := by
  have hc := Int.le_trans (ho.wr0 0) (ho.wr1 0)
  obtain ⟨cuts, mk, hB0, hR⟩ := h
  have hB := hB0.alloc (.cells (lc l) 31)
  obtain ⟨c0, _, _, _, _, c40, _⟩ := hB.cells
  rw [hd] at c40
  have C := Lib.hid (goes_any r s cuts mk _ hB hR hd hc hc2)
  have HA := Lib.hid ((Chg.refl r.D w).alloc (.cells (lc l) 31))
  have hD1 : Hid (∀ w : World, r.m ∈ r.D ∨ w.heap.size ≤ r.m) := Lib.hid fun _ => .inl (by simp [Rg.D])
  have hD2 : Hid (∀ w : World, r.l ∈ r.D ∨ w.heap.size ≤ r.l) := Lib.hid fun _ => .inl (by simp [Rg.D])
  have HL := Lib.hid (Ln.new w hl)
  have hfar : Hid (w.heap.size ∉ r.D) := Lib.hid (by
    have h1 := hB0.blk.lt; have h2 := hB0.lin.lt; have h3 := hB0.wea.lt
    simp [Rg.D]; omega)
  have H0L := Lib.hid hB0.lim
  have j0 : (0 : Int) ≤ (k : Int) := by omega
  have j1 : (k : Int) < (s.n : Int) := by omega
  have hx0 := ho.wr0 k
  have hx1 := ho.wr1 k
  have W3 := not_worn hB0 hk hw
  have HTF : Hid (s.tick = { s.tick0 with dark := true }) := Lib.hid (by rw [s.tick_of, hg]; simp)
  have hD : Hid (∀ w : World, r.a ∈ r.D ∨ w.heap.size ≤ r.a) := Lib.hid fun _ => .inl (by simp [Rg.D])
  have eW : s.tick0.wr k = s.wr k := rfl
  have eN : s.tick0.n = s.n := rfl
  have hx8 : (s.tick0.h k).length = 8 := ho.line k
  have hm8 : (mix (s.tick0.h k) l s.mask).length = 8 := by rw [mix_length _ _ _ (by omega)]; exact hx8
  obtain ⟨y, ey⟩ : ∃ y, mix (s.tick0.h k) l s.mask = y := ⟨_, rfl⟩
  have CM := Lib.hid (fun w => rmix_is (m := s.mask) ey w hx8 hl)
  have HEY := Lib.hid ey
  rw [ey] at hm8
  clear ey
  clear hB hB0 hR hw hd ho
  rw [hg] at C
  rcases W3 with hA | hA | hA
  · go_enter Try.func13, Try.ntmps13
    go_wp2_with fail
    refine C.out.mono ?_; rintro e w1 ⟨rfl, cuts', hB1, hC1, _, hm1⟩
    obtain rfl := hm1 trivial
    have L1 := Lib.hid (hC1.ln HL.out hfar.out)
    obtain ⟨c0', c36, c37, _, _, _, _⟩ := hB1.cells
    have cw := hB1.wearAt (k := k) (by rw [eN]; exact hk)
    have zw := hB1.wea.free k
    rw [eW] at cw
    rw [eN] at c36 c0'
    obtain ⟨p, cap, ev, hlc, hat⟩ := hB1.limAt
    rw [ev] at c37
    have HB1 := Lib.hid hB1
    have HC1 := Lib.hid (HA.out.trans hC1)
    obtain ⟨x, ex⟩ : ∃ x, s.wr k = x := ⟨_, rfl⟩
    rw [ex] at cw hx0 hx1
    try rw [ex] at hA
    obtain ⟨q, eq⟩ : ∃ q, r.lim.getD k 0 = q := ⟨_, rfl⟩
    try rw [eq] at hA
    have hat' := hat k
    rw [eq] at hat'
    obtain ⟨L, hL⟩ : ∃ L, r.lim.length = L := ⟨_, rfl⟩
    rw [hL] at c37 hlc hA hat'
    have t0 : decide ((k : Int) < (L : Int)) = false := by simp; omega
    clear hat hB1 hC1 hm1 hL ev c40
    clear hat'
    go_wp2
    go_quiet (fail)
    obtain ⟨W, hW⟩ : ∃ W, (w1.drewN nq).setCell ⟨r.m, k, none⟩ (.int .i64 (x + 1)) = W := ⟨_, rfl⟩
    have NW := (HB1.out.drewN nq).set_wear (k := k) (by rw [eN]; exact hk) (x + 1)
    rw [hW] at NW
    have CW := (HC1.out.drewN nq).setCell (p := ⟨r.m, k, none⟩) (hD1.out w) (.int .i64 (x + 1))
    rw [hW] at CW
    have LW := (L1.out.drewN nq).other (g' := r.m) (i := k) (fun e => hfar.out (by rw [e]; simp [Rg.D])) (.int .i64 (x + 1))
    rw [hW] at LW
    have lm : (lineLoad (.pointer (some ⟨r.l, k * 8, none⟩))).run Try.prog W.drew = .ok (.agg (lc (s.tick0.h k))) W.drew := NW.drew.loadLine (k := k) (by show k < s.n; exact hk) hx8
    have LD : Ln W.drew w.heap.size l := LW
    have ll := LD.load
    obtain ⟨d0, _, _, _, d39, _, _⟩ := NW.drew.cells
    have HNW := Lib.hid NW
    have HCW := Lib.hid CW
    have HLW := Lib.hid LD
    clear NW CW LW LD
    go_wp2
    refine wp_region_still_tail 12 (by kernel_rfl) (by kernel_rfl) ?_
    simp only [List.take_succ_cons, List.take_zero, List.drop_succ_cons, List.drop_zero]
    change wpStill _ _ (World.drew _) _ _ _
    repeat still_step
    refine wpStill_nil ?_
    change wpList _ _ _ _ _ (World.drew _)
    go_wp2_with fail
    refine (CM.out _).mono ?_; rintro e wq ⟨rfl, hbq⟩
    have LQ := HLW.out.below hbq
    have hsq := LQ.store hm8
    have N2 := ((HNW.out.drew.below hbq).rowNew H0L.out (Nat.le_refl _) hfar.out (lc y))
    have L2 := LQ.put hm8
    have C2 := ((HCW.out.drew.trans (Chg.of_below hbq _)).setRow (.inr (Nat.le_refl _)) (lc y))
    obtain ⟨W2, hW2⟩ : ∃ W2, wq.setRow w.heap.size (lc y) = W2 := ⟨_, rfl⟩
    rw [hW2] at N2 L2 C2 hsq
    obtain ⟨e0, _⟩ := N2.drew.cells
    have hst := N2.drew.storeLine (k := k) (by show k < s.n; exact hk) hm8
    have LD2 : Ln W2.drew w.heap.size y := L2
    have ll2 := LD2.load
    have N3 := N2.drew.set_line k hm8
    have C3 := Chg.setCells (D := r.D) (w := w) (b := r.l) (hD2.out w) (y.map uv) (k * 8) W2.drew C2.drew
    obtain ⟨W3, hW3⟩ : ∃ W3, W2.drew.setCells r.l (k * 8) (y.map uv) = W3 := ⟨_, rfl⟩
    rw [hW3] at hst N3 C3
    obtain ⟨_, _, _, _, _, f40, _⟩ := N3.cells
    have zf := N3.free 40
    have HF := Lib.hid (N3.set_dark true)
    have HG := Lib.hid (C3.setCell (p := ⟨r.a, 40, none⟩) (hD.out w) (.bool true))
    clear N2 L2 C2 LD2 N3 C3 LQ hbq lm ll d0 d39
    go_wp2
    go_region_law (fail)
    all_goals
      go_wp2
      go_ret
      exact ⟨rfl, ⟨cuts', _, HF.out.as (by rw [HTF.out, Nv.lay, ← HEY.out, ← ex]; rfl), .inl (by rw [HTF.out]; rfl)⟩, HG.out⟩
  · go_enter Try.func13, Try.ntmps13
    go_wp2_with fail
    refine C.out.mono ?_; rintro e w1 ⟨rfl, cuts', hB1, hC1, _, hm1⟩
    obtain rfl := hm1 trivial
    have L1 := Lib.hid (hC1.ln HL.out hfar.out)
    obtain ⟨c0', c36, c37, _, _, _, _⟩ := hB1.cells
    have cw := hB1.wearAt (k := k) (by rw [eN]; exact hk)
    have zw := hB1.wea.free k
    rw [eW] at cw
    rw [eN] at c36 c0'
    obtain ⟨p, cap, ev, hlc, hat⟩ := hB1.limAt
    rw [ev] at c37
    have HB1 := Lib.hid hB1
    have HC1 := Lib.hid (HA.out.trans hC1)
    obtain ⟨x, ex⟩ : ∃ x, s.wr k = x := ⟨_, rfl⟩
    rw [ex] at cw hx0 hx1
    try rw [ex] at hA
    obtain ⟨q, eq⟩ : ∃ q, r.lim.getD k 0 = q := ⟨_, rfl⟩
    try rw [eq] at hA
    have hat' := hat k
    rw [eq] at hat'
    obtain ⟨L, hL⟩ : ∃ L, r.lim.length = L := ⟨_, rfl⟩
    rw [hL] at c37 hlc hA hat'
    have t0 : decide ((k : Int) < (L : Int)) = true := by simp; omega
    have t1 : decide (0 ≤ q) = false := by simp; omega
    clear hat hB1 hC1 hm1 hL ev c40
    obtain ⟨b, off, rfl, ck⟩ := hat' (by omega)
    have j2 : (k : Int) < (L : Int) := by omega
    clear hat'
    go_wp2
    go_quiet (fail)
    obtain ⟨W, hW⟩ : ∃ W, (w1.drewN nq).setCell ⟨r.m, k, none⟩ (.int .i64 (x + 1)) = W := ⟨_, rfl⟩
    have NW := (HB1.out.drewN nq).set_wear (k := k) (by rw [eN]; exact hk) (x + 1)
    rw [hW] at NW
    have CW := (HC1.out.drewN nq).setCell (p := ⟨r.m, k, none⟩) (hD1.out w) (.int .i64 (x + 1))
    rw [hW] at CW
    have LW := (L1.out.drewN nq).other (g' := r.m) (i := k) (fun e => hfar.out (by rw [e]; simp [Rg.D])) (.int .i64 (x + 1))
    rw [hW] at LW
    have lm : (lineLoad (.pointer (some ⟨r.l, k * 8, none⟩))).run Try.prog W.drew = .ok (.agg (lc (s.tick0.h k))) W.drew := NW.drew.loadLine (k := k) (by show k < s.n; exact hk) hx8
    have LD : Ln W.drew w.heap.size l := LW
    have ll := LD.load
    obtain ⟨d0, _, _, _, d39, _, _⟩ := NW.drew.cells
    have HNW := Lib.hid NW
    have HCW := Lib.hid CW
    have HLW := Lib.hid LD
    clear NW CW LW LD
    go_wp2
    refine wp_region_still_tail 12 (by kernel_rfl) (by kernel_rfl) ?_
    simp only [List.take_succ_cons, List.take_zero, List.drop_succ_cons, List.drop_zero]
    change wpStill _ _ (World.drew _) _ _ _
    repeat still_step
    refine wpStill_nil ?_
    change wpList _ _ _ _ _ (World.drew _)
    go_wp2_with fail
    refine (CM.out _).mono ?_; rintro e wq ⟨rfl, hbq⟩
    have LQ := HLW.out.below hbq
    have hsq := LQ.store hm8
    have N2 := ((HNW.out.drew.below hbq).rowNew H0L.out (Nat.le_refl _) hfar.out (lc y))
    have L2 := LQ.put hm8
    have C2 := ((HCW.out.drew.trans (Chg.of_below hbq _)).setRow (.inr (Nat.le_refl _)) (lc y))
    obtain ⟨W2, hW2⟩ : ∃ W2, wq.setRow w.heap.size (lc y) = W2 := ⟨_, rfl⟩
    rw [hW2] at N2 L2 C2 hsq
    obtain ⟨e0, _⟩ := N2.drew.cells
    have hst := N2.drew.storeLine (k := k) (by show k < s.n; exact hk) hm8
    have LD2 : Ln W2.drew w.heap.size y := L2
    have ll2 := LD2.load
    have N3 := N2.drew.set_line k hm8
    have C3 := Chg.setCells (D := r.D) (w := w) (b := r.l) (hD2.out w) (y.map uv) (k * 8) W2.drew C2.drew
    obtain ⟨W3, hW3⟩ : ∃ W3, W2.drew.setCells r.l (k * 8) (y.map uv) = W3 := ⟨_, rfl⟩
    rw [hW3] at hst N3 C3
    obtain ⟨_, _, _, _, _, f40, _⟩ := N3.cells
    have zf := N3.free 40
    have HF := Lib.hid (N3.set_dark true)
    have HG := Lib.hid (C3.setCell (p := ⟨r.a, 40, none⟩) (hD.out w) (.bool true))
    clear N2 L2 C2 LD2 N3 C3 LQ hbq lm ll d0 d39
    go_wp2
    go_region_law (fail)
    all_goals
      go_wp2
      go_ret
      exact ⟨rfl, ⟨cuts', _, HF.out.as (by rw [HTF.out, Nv.lay, ← HEY.out, ← ex]; rfl), .inl (by rw [HTF.out]; rfl)⟩, HG.out⟩
  · go_enter Try.func13, Try.ntmps13
    go_wp2_with fail
    refine C.out.mono ?_; rintro e w1 ⟨rfl, cuts', hB1, hC1, _, hm1⟩
    obtain rfl := hm1 trivial
    have L1 := Lib.hid (hC1.ln HL.out hfar.out)
    obtain ⟨c0', c36, c37, _, _, _, _⟩ := hB1.cells
    have cw := hB1.wearAt (k := k) (by rw [eN]; exact hk)
    have zw := hB1.wea.free k
    rw [eW] at cw
    rw [eN] at c36 c0'
    obtain ⟨p, cap, ev, hlc, hat⟩ := hB1.limAt
    rw [ev] at c37
    have HB1 := Lib.hid hB1
    have HC1 := Lib.hid (HA.out.trans hC1)
    obtain ⟨x, ex⟩ : ∃ x, s.wr k = x := ⟨_, rfl⟩
    rw [ex] at cw hx0 hx1
    try rw [ex] at hA
    obtain ⟨q, eq⟩ : ∃ q, r.lim.getD k 0 = q := ⟨_, rfl⟩
    try rw [eq] at hA
    have hat' := hat k
    rw [eq] at hat'
    obtain ⟨L, hL⟩ : ∃ L, r.lim.length = L := ⟨_, rfl⟩
    rw [hL] at c37 hlc hA hat'
    have t0 : decide ((k : Int) < (L : Int)) = true := by simp; omega
    have t1 : decide (0 ≤ q) = true := by simp; omega
    have t2 : decide (q ≤ x) = false := by simp; omega
    clear hat hB1 hC1 hm1 hL ev c40
    obtain ⟨b, off, rfl, ck⟩ := hat' (by omega)
    have j2 : (k : Int) < (L : Int) := by omega
    clear hat'
    go_wp2
    go_quiet (fail)
    obtain ⟨W, hW⟩ : ∃ W, (w1.drewN nq).setCell ⟨r.m, k, none⟩ (.int .i64 (x + 1)) = W := ⟨_, rfl⟩
    have NW := (HB1.out.drewN nq).set_wear (k := k) (by rw [eN]; exact hk) (x + 1)
    rw [hW] at NW
    have CW := (HC1.out.drewN nq).setCell (p := ⟨r.m, k, none⟩) (hD1.out w) (.int .i64 (x + 1))
    rw [hW] at CW
    have LW := (L1.out.drewN nq).other (g' := r.m) (i := k) (fun e => hfar.out (by rw [e]; simp [Rg.D])) (.int .i64 (x + 1))
    rw [hW] at LW
    have lm : (lineLoad (.pointer (some ⟨r.l, k * 8, none⟩))).run Try.prog W.drew = .ok (.agg (lc (s.tick0.h k))) W.drew := NW.drew.loadLine (k := k) (by show k < s.n; exact hk) hx8
    have LD : Ln W.drew w.heap.size l := LW
    have ll := LD.load
    obtain ⟨d0, _, _, _, d39, _, _⟩ := NW.drew.cells
    have HNW := Lib.hid NW
    have HCW := Lib.hid CW
    have HLW := Lib.hid LD
    clear NW CW LW LD
    go_wp2
    refine wp_region_still_tail 12 (by kernel_rfl) (by kernel_rfl) ?_
    simp only [List.take_succ_cons, List.take_zero, List.drop_succ_cons, List.drop_zero]
    change wpStill _ _ (World.drew _) _ _ _
    repeat still_step
    refine wpStill_nil ?_
    change wpList _ _ _ _ _ (World.drew _)
    go_wp2_with fail
    refine (CM.out _).mono ?_; rintro e wq ⟨rfl, hbq⟩
    have LQ := HLW.out.below hbq
    have hsq := LQ.store hm8
    have N2 := ((HNW.out.drew.below hbq).rowNew H0L.out (Nat.le_refl _) hfar.out (lc y))
    have L2 := LQ.put hm8
    have C2 := ((HCW.out.drew.trans (Chg.of_below hbq _)).setRow (.inr (Nat.le_refl _)) (lc y))
    obtain ⟨W2, hW2⟩ : ∃ W2, wq.setRow w.heap.size (lc y) = W2 := ⟨_, rfl⟩
    rw [hW2] at N2 L2 C2 hsq
    obtain ⟨e0, _⟩ := N2.drew.cells
    have hst := N2.drew.storeLine (k := k) (by show k < s.n; exact hk) hm8
    have LD2 : Ln W2.drew w.heap.size y := L2
    have ll2 := LD2.load
    have N3 := N2.drew.set_line k hm8
    have C3 := Chg.setCells (D := r.D) (w := w) (b := r.l) (hD2.out w) (y.map uv) (k * 8) W2.drew C2.drew
    obtain ⟨W3, hW3⟩ : ∃ W3, W2.drew.setCells r.l (k * 8) (y.map uv) = W3 := ⟨_, rfl⟩
    rw [hW3] at hst N3 C3
    obtain ⟨_, _, _, _, _, f40, _⟩ := N3.cells
    have zf := N3.free 40
    have HF := Lib.hid (N3.set_dark true)
    have HG := Lib.hid (C3.setCell (p := ⟨r.a, 40, none⟩) (hD.out w) (.bool true))
    clear N2 L2 C2 LD2 N3 C3 LQ hbq lm ll d0 d39
    go_wp2
    go_region_law (fail)
    all_goals
      go_wp2
      go_ret
      exact ⟨rfl, ⟨cuts', _, HF.out.as (by rw [HTF.out, Nv.lay, ← HEY.out, ← ex]; rfl), .inl (by rw [HTF.out]; rfl)⟩, HG.out⟩

theorem rput_any (r : Rg) (s : Nv) (i : Int) (l : List Int) (w : World) (h : Rm w r s) (ho : s.Ok) (hl : l.length = 8) (hc2 : s.c < 1000000) :
    Calls Try.prog 13 #[.pointer (some ⟨r.a, 0, none⟩), .int .i64 i, .agg (lc l)] w fun e w' => e = .returned (.int .i64 (s.putE i)) ∧ Rm w' r (s.put i l) ∧ Chg r.D w w' := by
  have hc := Int.le_trans (ho.wr0 0) (ho.wr1 0)
  by_cases h1 : 0 ≤ i ∧ i < (s.n : Int)
  · obtain ⟨k, rfl⟩ : ∃ k : Nat, i = k := ⟨i.toNat, by omega⟩
    have hk : k < s.n := by omega
    have hb : s.has (k : Int) = true := Nv.has_of hk
    cases hd : s.dark
    · have e1 : s.rdy (s.has k) = 0 := by simp [Nv.rdy, hb, hd]
      cases hw : s.worn k
      · obtain ⟨p1, p2⟩ := Nv.put_live hd hk hw l
        rw [p1, p2]
        cases hg : s.goes
        · have : s.by_ = 255 ∧ s.told = 0 := by simp [Nv.by_, Nv.told, hg]
          rw [this.1, this.2]
          exact rput_whole r s k l w h ho hl hd hk hc2 hw hg
        · have : s.by_ = s.mask ∧ s.told = 2 := by simp [Nv.by_, Nv.told, hg]
          rw [this.1, this.2]
          exact rput_torn r s k l w h ho hl hd hk hc2 hw hg
      · have e2 : s.putE k = if s.goes then 2 else 3 := by
          simp only [Nv.putE, e1, hw, if_true, Int.toNat_natCast, Nv.told]
          cases s.goes <;> rfl
        have e3 : s.put k l = s.tick := by simp [Nv.put, e1, hw]
        rw [e2, e3]
        exact rput_worn r s k l w h hd hk hc hc2 hw
    · have e1 : s.putE k = 2 := Nv.putE_dark hd hk
      have e2 := Nv.put_dark hd k l
      rw [e1, e2]
      obtain ⟨cuts, mk, hB0, hR⟩ := h
      have hB := hB0.alloc (.cells (lc l) 31)
      have HM : Hid (Rm (w.alloc (.cells (lc l) 31)) r s) := Lib.hid ⟨cuts, mk, hB, hR⟩
      obtain ⟨c0, _, _, _, _, c40, _⟩ := hB.cells
      rw [hd] at c40
      have HA := Lib.hid ((Chg.refl r.D w).alloc (.cells (lc l) 31))
      obtain ⟨h1, h2⟩ := h1
      generalize s.n = n at *
      clear hB hB0 hR e1 e2 hb hd
      go_enter Try.func13, Try.ntmps13
      go_wp2
      go_ret
      exact ⟨rfl, HM.out, HA.out⟩
  · have hb : s.has i = false := by
      cases hq : s.has i
      · rfl
      · exact absurd ((has_iff s i).1 hq) h1
    have e0 : s.rdy (s.has i) = 1 := by simp [Nv.rdy, hb]
    have e1 : s.putE i = 1 := by simp [Nv.putE, e0]
    have e2 : s.put i l = s := by simp [Nv.put, e0]
    rw [e1, e2]
    obtain ⟨cuts, mk, hB0, hR⟩ := h
    have hB := hB0.alloc (.cells (lc l) 31)
    have HM : Hid (Rm (w.alloc (.cells (lc l) 31)) r s) := Lib.hid ⟨cuts, mk, hB, hR⟩
    obtain ⟨c0, _⟩ := hB.cells
    have HA := Lib.hid ((Chg.refl r.D w).alloc (.cells (lc l) 31))
    clear hB hB0 hR e0 e1 e2 hb ho hc hc2
    generalize s.n = n at *
    by_cases h2 : i < 0
    · go_enter Try.func13, Try.ntmps13
      go_wp2
      go_ret
      exact ⟨rfl, HM.out, HA.out⟩
    · have h3 : (n : Int) ≤ i := by omega
      go_enter Try.func13, Try.ntmps13
      go_wp2
      go_ret
      exact ⟨rfl, HM.out, HA.out⟩
end Go.Proofs.Ytomodoofpjgpgaa
