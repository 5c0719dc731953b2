/-
  The machine of package guard: any step; all steps.
-/
import Derived.Test.YtlgjfhjnfimahaaStx
namespace Go.Proofs.Ytlgjfhjnfimahaa
open Go.RowKit

theorem step_some (w0 : World) (bm : Nat) (rv : Value) (row t t' : List Int) (d k n : Int) (w : World) (h : Mc w0 bm rv w t d) (hr : RI w rv row) (hs : stp row t k n = some t') :
    Calls Try.prog 22 #[.pointer (some ⟨bm, 0, none⟩), .agg #[.int .i64 k, .int .i64 n]] w fun e w' => e = .returned (.tuple #[]) ∧ Mc w0 bm rv w' t' d := by
  unfold stp at hs
  split at hs
  · rename_i hk; subst hk
    split at hs
    · cases hs
    · cases hs; exact step_push w0 bm rv t d n w h (by have := h.len; omega)
  split at hs
  · rename_i hk; subst hk
    split at hs
    · cases hs; exact step_add w0 bm rv _ _ _ d n w h
    · cases hs
  split at hs
  · rename_i hk; subst hk
    split at hs
    · split at hs
      · cases hs
      · rename_i hb; cases hs; exact step_div w0 bm rv _ _ _ d n w hb h
    · cases hs
  split at hs
  · rename_i hk; subst hk
    split at hs
    · split at hs
      · rename_i hb; cases hs; exact step_place w0 bm rv row _ _ d n w h hr hb.1 hb.2
      · cases hs
    · cases hs
  split at hs
  · rename_i hk; subst hk
    split at hs
    · cases hs; exact step_drop w0 bm rv _ _ d n w h
    · cases hs
  · cases hs

theorem short2 {t : List Int} (h : ∀ b a r, ¬ t = b :: a :: r) : t = [] ∨ ∃ b, t = [b] := by
  match t with
  | [] => exact .inl rfl
  | [b] => exact .inr ⟨b, rfl⟩
  | b :: a :: r => exact absurd rfl (h b a r)

theorem step_none (w0 : World) (bm : Nat) (rv : Value) (row t : List Int) (d k n : Int) (w : World) (h : Mc w0 bm rv w t d) (hr : RI w rv row) (hs : stp row t k n = none) :
    Calls Try.prog 22 #[.pointer (some ⟨bm, 0, none⟩), .agg #[.int .i64 k, .int .i64 n]] w fun e w' => Died e ∧ Mc w0 bm rv w' t d := by
  unfold stp at hs
  split at hs
  · rename_i hk; subst hk
    split at hs
    · rename_i ht; exact step_push_full w0 bm rv t d n w h ht
    · cases hs
  split at hs
  · rename_i hk; subst hk
    split at hs
    · cases hs
    · rename_i hn
      rcases short2 (fun b a r e => hn b a r e) with rfl | ⟨b, rfl⟩
      · exact step_add_nil w0 bm rv d n w h
      · exact step_add_one w0 bm rv b d n w h
  split at hs
  · rename_i hk; subst hk
    split at hs
    · split at hs
      · rename_i hb; subst hb; exact step_div0 w0 bm rv _ _ d n w h
      · cases hs
    · rename_i hn
      rcases short2 (fun b a r e => hn b a r e) with rfl | ⟨b, rfl⟩
      · exact step_div_nil w0 bm rv d n w h
      · exact step_div_one w0 bm rv b d n w h
  split at hs
  · rename_i hk; subst hk
    split at hs
    · split at hs
      · cases hs
      · rename_i hb; exact step_place_out w0 bm rv row _ _ d n w h hr (by omega)
    · rename_i hn
      match t, hn with
      | [], _ => exact step_place_nil w0 bm rv d n w h (by obtain ⟨q, c, e, _⟩ := hr; exact ⟨q, _, c, e⟩)
      | b :: r, hn => exact absurd rfl (hn b r)
  split at hs
  · rename_i hk; subst hk
    split at hs
    · cases hs
    · rename_i hn
      match t, hn with
      | [], _ => exact step_drop_nil w0 bm rv d n w h
      | b :: r, hn => exact absurd rfl (hn b r)
  · rename_i h1 h2 h3 h4 h5
    exact step_other w0 bm rv t d k n w h h1 h2 h3 h4 h5

/-- the counter one on -/
theorem Mc.one_on {w0 w : World} {bm : Nat} {rv : Value} {t : List Int} {d : Int} (h : Mc w0 bm rv w t d) (d' : Int) : Mc w0 bm rv (w.setCell ⟨bm, 2, none⟩ (.int .i64 d')) t d' := by
  obtain ⟨hlt, hfar, hlen, v, hw, ho⟩ := h
  exact ⟨hlt, grown_set hfar 2 _, hlen, v, hw.set_ 2 _, ho.far hlt _⟩
theorem Mc.done {w0 w : World} {bm : Nat} {rv : Value} {t : List Int} {d : Int} (h : Mc w0 bm rv w t d) : w.cell? ⟨bm, 2, none⟩ = some (.int .i64 d) ∧ w.frozen? ⟨bm, 2, none⟩ = false := by
  obtain ⟨p, c, hv, _⟩ := h.view
  obtain ⟨_, _, c2, _, f2⟩ := hv.cells
  exact ⟨c2, f2⟩
/-- what lay ahead of the machine is as it was -/
theorem Mc.old {w0 w : World} {bm : Nat} {rv : Value} {t : List Int} {d : Int} (h : Mc w0 bm rv w t d) {p : Addr} (hp : p.block < bm) : w.cell? p = w0.cell? p :=
  World.cell?_of_block (h.far.block p.block (by have := h.lt; omega) (by intro e; cases e; omega))

def EndsAs (ok : Bool) (e : Ending) : Prop := if ok then e = .returned (.tuple #[]) else Died e
theorem ends_ret : EndsAs true (.returned (.tuple #[])) := by unfold EndsAs; rw [if_pos rfl]
theorem ends_died (u : TypeId) (pv : Value) : EndsAs false (.panicked [{ v := .iface u pv, recovered := false }]) := by unfold EndsAs; rw [if_neg (by simp)]; exact ⟨u, pv, rfl⟩

set_option maxHeartbeats 1000000 in
theorem all_any (w0 : World) (bm : Nat) (rv lv : Value) (row : List Int) (l : List (Int × Int)) (w : World) (h : Mc w0 bm rv w [] 0) (hl : RL w lv l) (hbr : ∀ w1 : World, (∀ p : Addr, p.block < bm → w1.cell? p = w0.cell? p) → RI w1 rv row ∧ RL w1 lv l)
    (hsm : l.length ≤ 1000000) :
    Calls Try.prog 20 #[.pointer (some ⟨bm, 0, none⟩), lv] w fun e w' =>
      EndsAs (run row [] 0 l).2.2 e ∧ Mc w0 bm rv w' (run row [] 0 l).1 ((run row [] 0 l).2.1 : Nat) := by
  have H0 := Lib.hid h
  have HB := Lib.hid hbr
  obtain ⟨q, cl, rfl, _, _, _⟩ := hl
  clear h hbr
  go_enter Try.func20, Try.ntmps20
  go_wp2
  go_loopw [8] (fun i wr => ∃ (k : Nat) (t : List Int), k ≤ l.length ∧ i = .int .i64 k ∧ Mc w0 bm rv wr t k ∧ run row [] 0 l = run row t k (l.drop k)) (fun i _ => l.length - (intOf i).toNat)
  case atStart => exact ⟨0, [], Nat.zero_le _, rfl, H0.out, rfl⟩
  case round =>
    clear H0
    obtain ⟨k, t, hk, rfl, hM, hrun⟩ := hrel
    by_cases hlt : k < l.length
    · obtain ⟨hri, q', cl', e', _, _, h' | ⟨b, off, rfl, hc⟩⟩ := HB.out wr (fun p hp => hM.old hp)
      · subst h'; simp at hlt
      obtain ⟨rfl, rfl⟩ : q = some ⟨b, off, none⟩ ∧ cl = cl' := by cases e'; exact ⟨rfl, rfl⟩
      obtain ⟨hc1, hc2'⟩ := hc k hlt
      have hc2 : wr.cell? ⟨b, off + k * 2 + 1, none⟩ = some (.int .i64 (l.getD k (0, 0)).2) := hc2'
      cases hs : stp row t (l.getD k (0, 0)).1 (l.getD k (0, 0)).2 with
      | none =>
        have HR := Lib.hid (hrun.trans (run_none hlt hs))
        have C := Lib.hid fun o => step_none w0 bm rv row t k _ _ _ (hM.alloc o) (ri_below hri (bal (Below.refl _ _))) hs
        generalize (l.getD k (0, 0)).1 = kk at *
        generalize (l.getD k (0, 0)).2 = nn at *
        clear hM hrun hri hc hs e' HB hc2'
        go_wp2_with fail
        refine (C.out _).mono ?_; rintro e w1 ⟨⟨u, pv, rfl⟩, hM⟩
        have HM := Lib.hid hM
        clear hM
        go_wp2
        rw [HR.out]
        exact ⟨rfl, ends_died _ _, HM.out⟩
      | some t' =>
        have HR := Lib.hid (hrun.trans (run_some hlt hs))
        have C := Lib.hid fun o => step_some w0 bm rv row t t' k _ _ _ (hM.alloc o) (ri_below hri (bal (Below.refl _ _))) hs
        generalize (l.getD k (0, 0)).1 = kk at *
        generalize (l.getD k (0, 0)).2 = nn at *
        clear hM hrun hri hc hs e' HB hc2'
        go_wp2_with fail
        refine (C.out _).mono ?_; rintro e w1 ⟨rfl, hM⟩
        obtain ⟨d1, d2⟩ := hM.done
        have HM := Lib.hid (hM.one_on ((k + 1 : Nat) : Int))
        clear hM
        go_wp2
        go_roundw
        case rel => exact ⟨k + 1, t', by omega, by go_num, HM.out, HR.out⟩
        case measure => simp [intOf]; omega
    · obtain rfl : k = l.length := by omega
      have HM := Lib.hid hM
      have HR := Lib.hid (hrun.trans run_end)
      clear hM hrun HB
      go_wp2
      go_end0
      rw [HR.out]
      exact ⟨ends_ret, HM.out⟩
end Go.Proofs.Ytlgjfhjnfimahaa
