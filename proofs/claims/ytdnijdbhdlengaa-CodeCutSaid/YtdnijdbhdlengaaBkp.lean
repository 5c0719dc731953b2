/-
  Blocks side by side, plainly: which may be, as what words they are written, how words are read, where a word lies, what is free.
-/
import Derived.Test.YtdnijdbhdlengaaBlc
namespace Go.Proofs.Ytdnijdbhdlengaa
set_option maxRecDepth 100000

structure Bk where
  a : Int
  s : Int
  u : Bool
instance : Inhabited Bk := ⟨⟨0, 0, false⟩⟩

/-- a heap may have so many words -/
def Mw (n : Int) : Prop := 8 ≤ n ∧ n ≤ 512 ∧ n % 8 = 0
instance (n : Int) : Decidable (Mw n) := inferInstanceAs (Decidable (_ ∧ _))
/-- blocks from a word on, up to the end n -/
def mayF (n : Int) : Int → Bool → List Bk → Bool
  | a, _, [] => decide (a = n)
  | a, f, b :: r => decide (b.a = a) && decide (MayB b.s) && !(f && !b.u) && mayF n (a + b.s) (!b.u) r
def mayL (n : Int) (l : List Bk) : Bool := decide (Mw n) && mayF n 0 false l
/-- words together -/
def szs : List Bk → Int
  | [] => 0
  | b :: r => b.s + szs r

theorem mayF_cons {n a : Int} {f : Bool} {b : Bk} {r : List Bk} : mayF n a f (b :: r) = true ↔ b.a = a ∧ MayB b.s ∧ ¬ (f = true ∧ b.u = false) ∧ mayF n (a + b.s) (!b.u) r = true := by
  rw [mayF]
  simp only [Bool.and_eq_true, decide_eq_true_eq, Bool.not_eq_true', and_assoc]
  cases f <;> cases b.u <;> simp
theorem mayF_nil {n a : Int} {f : Bool} : mayF n a f [] = true ↔ a = n := by simp [mayF]
theorem mayL_yes {n : Int} {l : List Bk} : mayL n l = true ↔ Mw n ∧ mayF n 0 false l = true := by simp [mayL]
theorem mayF_end {n : Int} : ∀ {l : List Bk} {a : Int} {f : Bool}, mayF n a f l = true → a + szs l = n ∧ a + 2 * l.length ≤ n
  | [], a, f, h => by rw [mayF_nil] at h; simp [szs]; omega
  | b :: r, a, f, h => by
    obtain ⟨_, hs, _, h⟩ := mayF_cons.1 h
    have := mayF_end h
    obtain ⟨h1, h2⟩ := hs
    simp only [szs, List.length_cons]
    omega
theorem mayF_app {n : Int} : ∀ {p r : List Bk} {a : Int} {f : Bool}, mayF n a f (p ++ r) = true → ∃ g, mayF n (a + szs p) g r = true ∧ 0 ≤ szs p
  | [], r, a, f, h => ⟨f, by simpa [szs] using h, by simp [szs]⟩
  | b :: p, r, a, f, h => by
    obtain ⟨_, hs, _, h⟩ := mayF_cons.1 h
    obtain ⟨g, h, h0⟩ := mayF_app h
    obtain ⟨h1, h2⟩ := hs
    refine ⟨g, ?_, by simp only [szs]; omega⟩
    rw [szs, ← Int.add_assoc]; exact h
theorem mayF_sizes {n : Int} : ∀ {l : List Bk} {a : Int} {f : Bool}, mayF n a f l = true → ∀ b ∈ l, MayB b.s ∧ a ≤ b.a ∧ b.a + b.s ≤ n
  | [], _, _, _, b, hb => by cases hb
  | c :: r, a, f, h, b, hb => by
    obtain ⟨ha, hs, _, h⟩ := mayF_cons.1 h
    rcases List.mem_cons.1 hb with rfl | hb
    · have := mayF_end h
      exact ⟨hs, by omega, by omega⟩
    · obtain ⟨h1, h2, h3⟩ := mayF_sizes h b hb
      obtain ⟨g1, g2⟩ := hs
      exact ⟨h1, by omega, h3⟩
theorem getD_cut {l : List Bk} {k : Nat} (hk : k < l.length) : l.drop k = l.getD k default :: l.drop (k + 1) := by
  rw [List.getD_eq_getElem?_getD, List.getElem?_eq_getElem hk]; exact List.drop_eq_getElem_cons hk
theorem getD_split {l : List Bk} {k : Nat} (hk : k < l.length) : l = l.take k ++ l.getD k default :: l.drop (k + 1) := by
  rw [← getD_cut hk, List.take_append_drop]

/-- blocks that words are read as, from a word on -/
def rdF (w : List Int) : Nat → Nat → Option (List Bk)
  | 0, a => if a < w.length then none else some []
  | k + 1, a => if a < w.length then (if MayB (w.getD a 0 / 2) then (rdF w k (a + (w.getD a 0 / 2).toNat)).map (⟨a, w.getD a 0 / 2, decide (w.getD a 0 % 2 = 1)⟩ :: ·) else none) else some []
def blkF (w : List Int) : Option (List Bk) := (rdF w w.length 0).bind fun l => if mayL w.length l = true then some l else none
theorem rdF_end {w : List Int} {k a : Nat} (h : w.length ≤ a) : rdF w k a = some [] := by
  cases k <;> rw [rdF, if_neg (by omega)]
theorem rdF_no {w : List Int} {k a : Nat} (h : a < w.length) (hx : ¬ MayB (w.getD a 0 / 2)) : rdF w k a = none := by
  cases k with
  | zero => rw [rdF, if_pos h]
  | succ k => rw [rdF, if_pos h, if_neg hx]
theorem rdF_yes {w : List Int} {k a n : Nat} {u : Bool} (h : a < w.length) (hx : w.getD a 0 = hdB n u) (hn : MayB n) : rdF w (k + 1) a = (rdF w k (a + n)).map (⟨a, n, u⟩ :: ·) := by
  rw [hdB_yes hn] at hx
  have e : w.getD a 0 / 2 = n := by rw [hx]; rcases useB_or u with ⟨_, h⟩ | ⟨_, h⟩ <;> omega
  have e2 : decide (w.getD a 0 % 2 = 1) = u := by rw [hx]; rcases useB_or u with ⟨e, h⟩ | ⟨e, h⟩ <;> subst e <;> simp <;> omega
  rw [rdF, if_pos h, e, if_pos hn, e2, Int.toNat_natCast]
/-- the headers of the first ones stand: they are read, and then the rest -/
theorem rdF_pre {v : List Int} {r : List Bk} (k : Nat) : ∀ (p : List Bk) (a : Nat) (f : Bool), mayF v.length a f (p ++ r) = true → (∀ b ∈ p, v.getD b.a.toNat 0 = hdB b.s b.u) → rdF v (p.length + k) a = (rdF v k ((a : Int) + szs p).toNat).map (p ++ ·)
  | [], a, f, _, _ => by simp [szs]
  | b :: p, a, f, h, hv => by
    obtain ⟨ha, hs, _, h⟩ := mayF_cons.1 h
    have hs' := hs
    obtain ⟨h1, h2⟩ := hs'
    have he := mayF_end h
    have hb := hv b (List.mem_cons_self ..)
    obtain ⟨bn, hbn⟩ : ∃ n : Nat, b.s = n := ⟨b.s.toNat, by omega⟩
    have hh : v.getD a 0 = hdB bn b.u := by rw [← hbn, ← hb, ha, Int.toNat_natCast]
    have e : (p.length + 1) + k = (p.length + k) + 1 := by omega
    have ep : (⟨(a : Int), (bn : Int), b.u⟩ : Bk) = b := by rw [← hbn, ← ha]
    rw [List.length_cons, e, rdF_yes (by omega) hh (hbn ▸ hs), rdF_pre k p (a + bn) (!b.u) (by rw [hbn] at h; push_cast; exact h) (fun c hc => hv c (List.mem_cons_of_mem _ hc)), ep]
    have e3 : (((a + bn : Nat) : Int) + szs p).toNat = ((a : Int) + szs (b :: p)).toNat := by rw [szs, hbn]; congr 1; push_cast; omega
    rw [e3, Option.map_map]
    rfl
/-- headers written into words -/
def wrF : List Int → List Bk → List Int
  | w, [] => w
  | w, b :: r => wrF (w.set b.a.toNat (hdB b.s b.u)) r
theorem wrF_length : ∀ (l : List Bk) (w : List Int), (wrF w l).length = w.length
  | [], _ => rfl
  | b :: r, w => by rw [wrF, wrF_length r, List.length_set]
theorem wrF_app : ∀ (p r : List Bk) (w : List Int), wrF w (p ++ r) = wrF (wrF w p) r
  | [], _, _ => rfl
  | b :: p, r, w => by rw [List.cons_append, wrF, wrF_app p r, wrF]
theorem wrF_lo {n : Int} : ∀ {l : List Bk} {a : Int} {f : Bool} {w : List Int} {j : Nat}, mayF n a f l = true → (j : Int) < a → (wrF w l).getD j 0 = w.getD j 0
  | [], _, _, _, _, _, _ => rfl
  | b :: r, a, f, w, j, h, hj => by
    obtain ⟨ha, hs, _, h⟩ := mayF_cons.1 h
    obtain ⟨h1, h2⟩ := hs
    rw [wrF, wrF_lo h (by omega)]
    simp only [List.getD_eq_getElem?_getD]
    rw [List.getElem?_set_ne (by omega)]
/-- each header stands where it was written -/
theorem wrF_at {w : List Int} {p r : List Bk} {b : Bk} {f : Bool} (h : mayF w.length 0 f (p ++ b :: r) = true) : (wrF w (p ++ b :: r)).getD b.a.toNat 0 = hdB b.s b.u := by
  obtain ⟨g, h, h0⟩ := mayF_app h
  obtain ⟨ha, hs, _, h⟩ := mayF_cons.1 h
  have he := mayF_end h
  obtain ⟨h1, h2⟩ := hs
  rw [wrF_app, wrF, wrF_lo h (by omega)]
  simp only [List.getD_eq_getElem?_getD]
  rw [List.getElem?_set_self (by rw [wrF_length]; omega)]
  rfl
theorem wrF_all {w : List Int} {l : List Bk} {f : Bool} (h : mayF w.length 0 f l = true) : ∀ b ∈ l, (wrF w l).getD b.a.toNat 0 = hdB b.s b.u := by
  intro b hb
  obtain ⟨p, r, rfl⟩ := List.append_of_mem hb
  exact wrF_at h
theorem mayL_fuel {n : Nat} {l : List Bk} (h : mayL n l = true) : ∃ k, n = l.length + k ∧ mayF n 0 false l = true ∧ szs l = n ∧ Mw n := by
  obtain ⟨hm, h⟩ := mayL_yes.1 h
  have he := mayF_end h
  exact ⟨n - l.length, by omega, h, by omega, hm⟩
/-- blocks that may be, written, are read -/
theorem blkF_wrF {w : List Int} {l : List Bk} (h : mayL w.length l = true) : blkF (wrF w l) = some l := by
  obtain ⟨k, hk, hf, hz, hm⟩ := mayL_fuel h
  have hl := wrF_length l w
  have := rdF_pre (v := wrF w l) (r := []) k l 0 false (by rw [hl, List.append_nil]; exact hf) (wrF_all hf)
  rw [blkF, hl, hk, this, rdF_end (by rw [hl]; omega), Option.map_some, List.append_nil]
  rw [← hk]
  simp only [Option.bind_some]
  rw [if_pos h]
/-- a header turned into another word: of those ahead nothing turns -/
theorem spoilt_pre {w : List Int} {p r : List Bk} {b : Bk} {x : Int} (h : mayL w.length (p ++ b :: r) = true) :
    ∃ k a, b.a = (a : Nat) ∧ a < w.length ∧ w.length = p.length + (k + 1) ∧ ((wrF w (p ++ b :: r)).set a x).getD a 0 = x ∧ rdF ((wrF w (p ++ b :: r)).set a x) w.length 0 = (rdF ((wrF w (p ++ b :: r)).set a x) (k + 1) a).map (p ++ ·) := by
  obtain ⟨k, hk, hf, hz, hm⟩ := mayL_fuel h
  obtain ⟨g, hf2, h0⟩ := mayF_app hf
  obtain ⟨ha, hs, _, hf3⟩ := mayF_cons.1 hf2
  have he := mayF_end hf3
  obtain ⟨h1, h2⟩ := hs
  have hl := wrF_length (p ++ b :: r) w
  have e0 := mayF_end hf2
  rw [List.length_append, List.length_cons] at hk
  rw [List.length_cons] at e0
  refine ⟨r.length + k, b.a.toNat, by omega, by omega, by omega, ?_, ?_⟩
  · simp only [List.getD_eq_getElem?_getD]
    rw [List.getElem?_set_self (by rw [hl]; omega)]; rfl
  · have := rdF_pre (v := (wrF w (p ++ b :: r)).set b.a.toNat x) (r := b :: r) (r.length + k + 1) p 0 false (by rw [List.length_set, hl]; exact hf) (fun c hc => by
      obtain ⟨p1, p2, rfl⟩ := List.append_of_mem hc
      have ec : (p1 ++ c :: p2) ++ b :: r = p1 ++ c :: (p2 ++ b :: r) := by simp
      have hw := wrF_at (w := w) (p := p1) (b := c) (r := p2 ++ b :: r) (f := false) (by rw [← ec]; exact hf)
      rw [ec] at hf ⊢
      obtain ⟨_, q1, q0⟩ := mayF_app hf
      obtain ⟨qa, ⟨qs, _⟩, _, q2⟩ := mayF_cons.1 q1
      obtain ⟨_, q3, q4⟩ := mayF_app q2
      obtain ⟨qb, _⟩ := mayF_cons.1 q3
      simp only [List.getD_eq_getElem?_getD] at hw ⊢
      rw [List.getElem?_set_ne (by omega)]
      exact hw)
    have e : w.length = p.length + (r.length + k + 1) := by omega
    rw [e, this, ha]
    simp
theorem blkF_spoilt {w : List Int} {p r : List Bk} {b : Bk} {x : Int} (h : mayL w.length (p ++ b :: r) = true) (hx : ¬ MayB (x / 2)) : blkF ((wrF w (p ++ b :: r)).set b.a.toNat x) = none := by
  obtain ⟨k, a, ha, hl, hk, hg, hr⟩ := spoilt_pre (x := x) h
  rw [ha, Int.toNat_natCast, blkF, List.length_set, wrF_length, hr, rdF_no (by rw [List.length_set, wrF_length]; exact hl) (by rw [hg]; exact hx)]
  rfl
/-- a last one that reaches beyond the end is none -/
theorem blkF_over {w : List Int} {p : List Bk} {b : Bk} {d : Int} (h : mayL w.length (p ++ [b]) = true) (hd : 0 < d) : blkF ((wrF w (p ++ [b])).set b.a.toNat (hdB (b.s + d) b.u)) = none := by
  by_cases hm : MayB (b.s + d)
  · obtain ⟨k, a, ha, hl, hk, hg, hr⟩ := spoilt_pre (x := hdB (b.s + d) b.u) h
    obtain ⟨_, hf⟩ := mayL_yes.1 h
    obtain ⟨g, hf2, h0⟩ := mayF_app hf
    obtain ⟨hb, ⟨h1, h2⟩, _, hf3⟩ := mayF_cons.1 hf2
    rw [mayF_nil] at hf3
    obtain ⟨m, hmm⟩ : ∃ m : Nat, b.s + d = m := ⟨(b.s + d).toNat, by omega⟩
    rw [ha, Int.toNat_natCast, blkF, List.length_set, wrF_length, hr]
    generalize hv : (wrF w (p ++ [b])).set a (hdB (b.s + d) b.u) = v at *
    have vl : v.length = w.length := by rw [← hv, List.length_set, wrF_length]
    clear hv hr
    rw [hmm] at hg hm
    rw [rdF_yes (by omega) hg hm, rdF_end (by omega)]
    simp only [Option.map_some, Option.bind_some]
    rw [if_neg]
    intro hc
    obtain ⟨_, hc⟩ := mayL_yes.1 hc
    obtain ⟨_, hc, _⟩ := mayF_app hc
    obtain ⟨_, _, _, hc⟩ := mayF_cons.1 hc
    rw [mayF_nil] at hc
    simp only at hc
    omega
  · rw [hdB_no hm]
    exact blkF_spoilt h (by decide)

/-- free words -/
def okL (l : List Bk) : Bool := decide (l.length ≤ 512) && l.all fun b => decide (MayB b.s)
def frS : List Bk → Int
  | [] => 0
  | b :: r => (if b.u = true then 0 else b.s) + frS r
def usS : List Bk → Int
  | [] => 0
  | b :: r => (if b.u = true then b.s else 0) + usS r
def moS : Int → List Bk → Int
  | m, [] => m
  | m, b :: r => moS (if b.u = true then m else max m b.s) r
def frL (l : List Bk) : Int := if okL l = true then frS l else 0
def moL (l : List Bk) : Int := if okL l = true then moS 0 l else 0
theorem fr_us : ∀ l : List Bk, frS l + usS l = szs l
  | [] => rfl
  | b :: r => by
    have := fr_us r
    simp only [frS, usS, szs]
    split <;> omega
theorem mayL_okL {n : Int} {l : List Bk} (h : mayL n l = true) : okL l = true := by
  obtain ⟨⟨_, h5, _⟩, h⟩ := mayL_yes.1 h
  have he := mayF_end h
  unfold okL
  rw [decide_eq_true (by omega), Bool.true_and, List.all_eq_true]
  exact fun b hb => decide_eq_true (mayF_sizes h b hb).1
/-- the block that a word is in -/
def inB (b : Bk) (x : Int) : Bool := decide (0 < b.s ∧ b.a ≤ x ∧ x - b.a < b.s)
def atS (x : Int) : Nat → List Bk → Int
  | _, [] => -1
  | k, b :: r => if inB b x = true then k else atS x (k + 1) r
theorem atS_in {n x : Int} : ∀ {l : List Bk} {a : Int} {f : Bool} {k : Nat}, mayF n a f l = true → a ≤ x → x < n → ∃ i, i < l.length ∧ atS x k l = ((k + i : Nat) : Int) ∧ (l.getD i default).a ≤ x ∧ x < (l.getD i default).a + (l.getD i default).s
  | [], a, f, k, h, h1, h2 => by rw [mayF_nil] at h; omega
  | b :: r, a, f, k, h, h1, h2 => by
    obtain ⟨ha, ⟨g1, g2⟩, _, h⟩ := mayF_cons.1 h
    by_cases hx : x < a + b.s
    · refine ⟨0, by simp, ?_, by simpa using by omega, by simpa using by omega⟩
      rw [atS, if_pos (by rw [inB, decide_eq_true_eq]; omega)]; rfl
    · obtain ⟨i, hi, e, q⟩ := atS_in (k := k + 1) h (by omega) h2
      refine ⟨i + 1, by simpa using hi, ?_, by simpa using q⟩
      rw [atS, if_neg (by rw [inB, decide_eq_true_eq]; omega), e]
      congr 1; omega
theorem atS_out {n x : Int} : ∀ {l : List Bk} {a : Int} {f : Bool} {k : Nat}, mayF n a f l = true → x < a ∨ n ≤ x → atS x k l = -1
  | [], _, _, _, _, _ => rfl
  | b :: r, a, f, k, h, hx => by
    obtain ⟨ha, ⟨g1, g2⟩, _, h⟩ := mayF_cons.1 h
    have he := mayF_end h
    rw [atS, if_neg (by rw [inB, decide_eq_true_eq]; omega)]
    exact atS_out h (by omega)
end Go.Proofs.Ytdnijdbhdlengaa
