/-
  A heap as extents, plainly: the used blocks and the free ones between them, the words behind each header; what a taking, a giving back, a writing make of them.
-/
import Derived.Test.YtkpefnjohdjejaaZmc
namespace Go.Proofs.Ytkpefnjohdjejaa
set_option maxRecDepth 100000

/-- the used ones -/
def usd (l : List Bk) : List Bk := l.filter (·.u)
theorem usd_app (p q : List Bk) : usd (p ++ q) = usd p ++ usd q := List.filter_append ..
theorem usd_yes {b : Bk} (h : b.u = true) (r : List Bk) : usd (b :: r) = b :: usd r := List.filter_cons_of_pos h
theorem usd_no {b : Bk} (h : b.u = false) (r : List Bk) : usd (b :: r) = usd r := List.filter_cons_of_neg (by rw [h]; exact Bool.false_ne_true)
theorem usd_mem {l : List Bk} {b : Bk} : b ∈ usd l ↔ b ∈ l ∧ b.u = true := List.mem_filter
theorem usd_len (l : List Bk) : (usd l).length ≤ l.length := List.length_filter_le ..
/-- the free block of the words from one up to another; the blocks that used ones are among -/
def btw (x y : Int) : List Bk := if x = y then [] else [⟨x, y - x, false⟩]
def bls (n : Int) : Int → List Bk → List Bk
  | e, [] => btw e n
  | e, b :: r => btw e b.a ++ b :: bls n (b.a + b.s) r
theorem btw_len (x y : Int) : (btw x y).length ≤ 1 := by unfold btw; split <;> simp
theorem bls_usd (n : Int) : ∀ l : List Bk, (∀ a z, mayF n a true l = true → bls n z (usd l) = btw z a ++ l) ∧ ∀ a, mayF n a false l = true → bls n a (usd l) = l
  | [] => ⟨fun a z h => by
      rw [mayF_nil.1 h, List.append_nil]; rfl, fun a h => by
      rw [mayF_nil.1 h]
      show btw n n = []
      rw [btw, if_pos rfl]⟩
  | b :: r => by
    obtain ⟨i1, i2⟩ := bls_usd n r
    refine ⟨fun a z h => ?_, fun a h => ?_⟩
    · obtain ⟨h1, h2, h3, h4⟩ := mayF_cons.1 h
      have hu : b.u = true := by cases e : b.u <;> simp_all
      rw [hu] at h4
      rw [usd_yes hu, bls, h1, i2 _ h4]
    · obtain ⟨h1, h2, _, h4⟩ := mayF_cons.1 h
      cases hu : b.u
      · rw [hu] at h4
        rw [usd_no hu, i1 _ _ h4, btw, if_neg (by have := h2.1; omega)]
        obtain ⟨a', s, u⟩ := b
        simp only at h1 hu ⊢
        subst h1 hu
        rw [List.singleton_append]
        congr 2
        omega
      · rw [hu] at h4
        rw [usd_yes hu, bls, h1, i2 _ h4, btw, if_pos rfl, List.nil_append]
theorem bls_is {n : Int} {l : List Bk} (h : mayL n l = true) : bls n 0 (usd l) = l := (bls_usd n l).2 0 (mayL_yes.1 h).2
/-- one behind the other -/
theorem usd_pair {n a : Int} : ∀ {l : List Bk} {f : Bool}, mayF n a f l = true → l.Pairwise fun x y => x.a + x.s ≤ y.a := by
  intro l
  induction l generalizing a with
  | nil => intro f h; exact List.Pairwise.nil
  | cons b r ih =>
    intro f h
    exact List.pairwise_cons.2 ⟨mayF_behind (p := []) h, ih (mayF_cons.1 h).2.2.2⟩
theorem usd_apart {n : Int} {l : List Bk} (h : mayL n l = true) : (usd l).Pairwise fun x y => x.a + x.s ≤ y.a := (usd_pair (mayL_yes.1 h).2).filter _
theorem usd_in {n : Int} {l : List Bk} (h : mayL n l = true) {b : Bk} (hb : b ∈ usd l) : b ∈ l ∧ b.u = true ∧ 2 ≤ b.s ∧ 0 ≤ b.a ∧ b.a + b.s ≤ n ∧ n ≤ 512 ∧ offB b.a = (b.a + 1) * 8 := by
  obtain ⟨h1, h2⟩ := usd_mem.1 hb
  obtain ⟨hm, hf⟩ := mayL_yes.1 h
  obtain ⟨_, h5, _⟩ := hm
  obtain ⟨⟨g1, _⟩, g2, g3⟩ := mayF_sizes hf b h1
  exact ⟨h1, h2, g1, g2, g3, h5, offB_at g2 (by omega)⟩
/-- the first place where something holds -/
def ixF (P : Bk → Bool) : Nat → List Bk → Option Nat
  | _, [] => none
  | k, b :: r => if P b = true then some k else ixF P (k + 1) r
theorem ixF_some {P : Bk → Bool} : ∀ {l : List Bk} {k j : Nat}, ixF P k l = some j → k ≤ j ∧ j - k < l.length ∧ P (l.getD (j - k) default) = true
  | [], _, _, h => by cases h
  | b :: r, k, j, h => by
    rw [ixF] at h
    split at h
    · rename_i hb
      cases h
      simpa using hb
    · obtain ⟨h1, h2, h3⟩ := ixF_some h
      refine ⟨by omega, by rw [List.length_cons]; omega, ?_⟩
      rw [show j - k = (j - (k + 1)) + 1 by omega, List.getD_cons_succ]
      exact h3
theorem ixF_none {P : Bk → Bool} : ∀ {l : List Bk} {k : Nat}, ixF P k l = none → ∀ b ∈ l, P b = false
  | [], _, _, b, hb => by cases hb
  | c :: r, k, h, b, hb => by
    rw [ixF] at h
    split at h
    · cases h
    · rename_i hc
      rcases List.mem_cons.1 hb with rfl | hb
      · simpa using hc
      · exact ixF_none h b hb
theorem ixF_app {P : Bk → Bool} {b : Bk} {q : List Bk} (hb : P b = true) : ∀ (p : List Bk) (k : Nat), (∀ x ∈ p, P x = false) → ixF P k (p ++ b :: q) = some (k + p.length)
  | [], k, _ => by rw [List.nil_append, ixF, if_pos hb]; rfl
  | c :: p, k, h => by
    rw [List.cons_append, ixF, if_neg (by rw [h c (List.mem_cons_self ..)]; exact Bool.false_ne_true), ixF_app hb p (k + 1) fun x hx => h x (List.mem_cons_of_mem _ hx), List.length_cons]
    congr 1
    omega
theorem ixF_no {P : Bk → Bool} : ∀ {l : List Bk} {k : Nat}, (∀ b ∈ l, P b = false) → ixF P k l = none
  | [], _, _ => rfl
  | b :: r, k, h => by
    rw [ixF, if_neg (by rw [h b (List.mem_cons_self ..)]; exact Bool.false_ne_true)]
    exact ixF_no fun x hx => h x (List.mem_cons_of_mem _ hx)
def atO (o : Int) (b : Bk) : Bool := decide (offB b.a = o)
def inO (o n : Int) (b : Bk) : Bool := decide (offB b.a ≤ o ∧ o ≤ (b.a + b.s) * 8 - n)
/-- the place among the used ones of one that is used -/
theorem usd_split {l : List Bk} {k : Nat} (hk : k < l.length) (hu : (l.getD k default).u = true) : usd l = usd (l.take k) ++ l.getD k default :: usd (l.drop (k + 1)) := by
  have := congrArg usd (getD_split hk)
  rwa [usd_app, usd_yes hu] at this
theorem ix_begins {n : Int} {l : List Bk} (h : mayL n l = true) {o : Int} : ixF (atO o) 0 (usd l) = (isN o l).map fun k => (usd (l.take k)).length := by
  cases e : isN o l with
  | none =>
    refine ixF_no fun b hb => ?_
    obtain ⟨h1, h2⟩ := usd_mem.1 hb
    have := isN_none e b h1
    unfold atO
    exact decide_eq_false fun q => this ⟨h2, q⟩
  | some k =>
    obtain ⟨h1, h2, h3⟩ := isN_some e
    have hs := usd_split h1 h2
    rw [hs, ixF_app (by unfold atO; exact decide_eq_true h3) _ _ fun x hx => ?_, Nat.zero_add]
    · rfl
    · have hp := usd_apart h
      rw [hs] at hp
      have hxx := (List.pairwise_append.1 hp).2.2 x hx _ (List.mem_cons_self ..)
      have g1 := usd_in h (show x ∈ usd l by rw [hs]; exact List.mem_append.2 (.inl hx))
      have g2 := usd_in h (show l.getD k default ∈ usd l by rw [hs]; exact List.mem_append.2 (.inr (List.mem_cons_self ..)))
      unfold atO
      refine decide_eq_false fun q => ?_
      rw [← h3, g1.2.2.2.2.2.2, g2.2.2.2.2.2.2] at q
      omega
theorem ix_holds {l : List Bk} {o m : Int} (h0 : 0 ≤ m ∧ m ≤ 448) : (ixF (inO o m) 0 (usd l)).isSome = inL o m l := by
  cases e : ixF (inO o m) 0 (usd l) with
  | none =>
    symm
    refine inL_no fun b hb hu => ?_
    have := ixF_none e b (usd_mem.2 ⟨hb, hu⟩)
    unfold inO at this
    exact of_decide_eq_false this
  | some j =>
    symm
    obtain ⟨_, h2, h3⟩ := ixF_some e
    rw [Nat.sub_zero] at h2 h3
    obtain ⟨g1, g2⟩ := usd_mem.1 (getD_mem h2)
    unfold inO at h3
    exact inL_yes.2 ⟨h0, _, g1, g2, of_decide_eq_true h3⟩

/-- behind a taking: one more, at its place -/
theorem usd_crv {n : Int} {l : List Bk} {d : Nat} {N : Int} (h : mayL n l = true) (hc : canC l d N = true) :
    ∃ j z t : Nat, (crvF l d N).getD d default = ⟨z, t, true⟩ ∧ (l.getD d default).a = z ∧ takN (l.getD d default).s N = t ∧ j ≤ (usd l).length ∧ usd (crvF l d N) = (usd l).take j ++ (⟨z, t, true⟩ :: (usd l).drop j) ∧
      (∀ i, i < j → ((usd l).getD i default).a < z) ∧ (j < (usd l).length → (z : Int) < ((usd l).getD j default).a) := by
  obtain ⟨_, h0, h1, hu, hne⟩ := canC_yes.1 hc
  have hat := crv_at hc
  have hsp := bAt_split h0 h1
  have hcr : crvF l d N = l.take d ++ (prtB (l.getD d default) N ++ l.drop (d + 1)) := by
    rw [crvF, if_pos hc, bAt_nat, Int.toNat_natCast]
  rw [bAt_nat, bAt_nat] at hat
  rw [bAt_nat] at hsp hu hne
  rw [Int.toNat_natCast] at hsp
  have hd : d < l.length := by omega
  obtain ⟨⟨s1, s2⟩, s3, s4⟩ := at_in h hd
  obtain ⟨t1, t2, t3, _⟩ := takN_some hne
  obtain ⟨⟨a, s, u⟩, hb⟩ : ∃ b, l.getD d default = b := ⟨_, rfl⟩
  have hf := (mayL_yes.1 h).2
  rw [hb] at hsp hat hcr hu hne s1 s2 s3 s4 t2 t3 ⊢
  simp only at hat hu hne s1 s2 s3 s4 t2 t3 ⊢
  subst hu
  obtain ⟨z, rfl⟩ : ∃ z : Nat, a = z := ⟨a.toNat, by omega⟩
  obtain ⟨t, ht⟩ : ∃ t : Nat, takN s N = t := ⟨(takN s N).toNat, by omega⟩
  rw [ht] at hat
  have hul : usd l = usd (l.take d) ++ usd (l.drop (d + 1)) := by
    have := congrArg usd hsp
    rwa [usd_app, usd_no rfl] at this
  rw [hsp] at hf
  have ha := mayF_ahead hf
  have hbh := mayF_behind hf
  have hup : usd (prtB ⟨z, s, false⟩ N) = [⟨z, t, true⟩] := by
    unfold prtB
    simp only [ht]
    split
    · rename_i e
      rw [← e]; rfl
    · rfl
  have hlen : (usd l).length = (usd (l.take d)).length + (usd (l.drop (d + 1))).length := by rw [hul, List.length_append]
  refine ⟨(usd (l.take d)).length, z, t, hat, rfl, ht, by omega, ?_, fun i hi => ?_, fun hj => ?_⟩
  · rw [hcr, usd_app, usd_app, hup, hul, List.take_left, List.drop_left]
    rfl
  · have hm : (usd l).getD i default ∈ usd (l.take d) := by
      rw [hul, List.getD_eq_getElem?_getD, List.getElem?_append_left hi, List.getElem?_eq_getElem hi]
      exact List.getElem_mem hi
    obtain ⟨g1, _⟩ := usd_mem.1 hm
    have := ha _ g1
    have := usd_in h (show (usd l).getD i default ∈ usd l from getD_mem (by omega))
    simp only at *
    omega
  · have hm : (usd l).getD (usd (l.take d)).length default ∈ usd (l.drop (d + 1)) := by
      rw [hul, List.getD_eq_getElem?_getD, List.getElem?_append_right (Nat.le_refl _), Nat.sub_self, List.getElem?_eq_getElem (by omega)]
      exact List.getElem_mem _
    obtain ⟨g1, _⟩ := usd_mem.1 hm
    have := hbh _ g1
    simp only at this
    omega
/-- behind a giving back: one less -/
theorem usd_mrg {l : List Bk} {k : Nat} (hc : canM l k = true) :
    (usd (l.take k)).length < (usd l).length ∧ (usd l).getD (usd (l.take k)).length default = l.getD k default ∧ usd (mrgF l k) = (usd l).take (usd (l.take k)).length ++ (usd l).drop ((usd (l.take k)).length + 1) := by
  obtain ⟨_, hk, hu⟩ := canM_nat hc
  have hs := usd_split hk hu
  have hft := frm_too hk
  have h1 : usd (l.take k) = usd (l.take (frm l k)) := by
    rcases frm_or l k with ⟨e, _⟩ | ⟨h0, e, e2⟩
    · rw [e]
    · have : l.take k = l.take (frm l k) ++ [l.getD (k - 1) default] := by
        rw [e]
        obtain ⟨m, rfl⟩ : ∃ m, k = m + 1 := ⟨k - 1, by omega⟩
        rw [List.take_add_one, List.getElem?_eq_getElem (show m < l.length by omega), List.getD_eq_getElem?_getD, List.getElem?_eq_getElem (show m + 1 - 1 < l.length by omega)]
        rfl
      rw [this, usd_app, usd_no e2]
      simp [usd]
  have h2 : usd (l.drop (k + 1)) = usd (l.drop (too l k)) := by
    rcases too_or l k with ⟨e, _⟩ | ⟨h0, e, e2⟩
    · rw [e]
    · rw [e, getD_cut h0, usd_no e2]
  have hm : usd (mrgF l k) = usd (l.take (frm l k)) ++ usd (l.drop (too l k)) := by
    rw [mrgF_yes hc, usd_app, usd_no rfl]
  rw [hm, ← h1, ← h2, hs]
  refine ⟨by rw [List.length_append, List.length_cons]; omega, ?_, ?_⟩
  · rw [List.getD_eq_getElem?_getD, List.getElem?_append_right (Nat.le_refl _), Nat.sub_self]
    rfl
  · rw [List.take_left, List.drop_append]
    simp

/-- the words behind a block's header -/
def cut (wl : List Int) (b : Bk) : List Int := (wl.drop (b.a.toNat + 1)).take (b.s.toNat - 1)
theorem cut_len {wl : List Int} {b : Bk} (h1 : 0 ≤ b.a) (h2 : 2 ≤ b.s) (h3 : b.a + b.s ≤ wl.length) : (cut wl b).length = b.s.toNat - 1 := by
  unfold cut
  rw [List.length_take, List.length_drop]
  omega
theorem cut_get (wl : List Int) (b : Bk) (j : Nat) : (cut wl b)[j]? = if j < b.s.toNat - 1 then wl[b.a.toNat + 1 + j]? else none := by
  unfold cut
  rw [List.getElem?_take]
  split
  · rw [List.getElem?_drop]
  · rfl
theorem cut_same {X V : List Int} {b : Bk} (hl : V.length = X.length) (h0 : 0 ≤ b.a) (h : ∀ j : Nat, b.a < j → (j : Int) < b.a + b.s → V.getD j 0 = X.getD j 0) : cut V b = cut X b := by
  refine List.ext_getElem? fun i => ?_
  rw [cut_get, cut_get]
  split
  · have := h (b.a.toNat + 1 + i) (by omega) (by omega)
    rw [List.getD_eq_getElem?_getD, List.getD_eq_getElem?_getD] at this
    by_cases hi : b.a.toNat + 1 + i < X.length
    · rw [List.getElem?_eq_getElem hi, List.getElem?_eq_getElem (by omega)] at this ⊢
      simpa using this
    · rw [List.getElem?_eq_none (by omega), List.getElem?_eq_none (by omega)]
  · rfl
theorem cut_nul {V : List Int} {z t : Nat} (hl : z + t ≤ V.length) (h : ∀ j, z < j → j < z + t → V.getD j 0 = 0) : cut V ⟨z, t, true⟩ = List.replicate (t - 1) 0 := by
  refine List.ext_getElem? fun i => ?_
  rw [cut_get, List.getElem?_replicate]
  simp only [Int.toNat_natCast]
  split
  · have := h (z + 1 + i) (by omega) (by omega)
    rw [List.getD_eq_getElem?_getD, List.getElem?_eq_getElem (by omega)] at this
    rw [List.getElem?_eq_getElem (by omega)]
    simpa using this
  · rfl
theorem cut_byte {wl : List Int} {b : Bk} {p : Nat} (hp : p < 8 * (b.s.toNat - 1)) : bAt_ (cut wl b) p = bAt_ wl (8 * (b.a.toNat + 1) + p) := by
  unfold bAt_
  rw [List.getD_eq_getElem?_getD, cut_get, if_pos (by omega), ← List.getD_eq_getElem?_getD, show (8 * (b.a.toNat + 1) + p) / 8 = b.a.toNat + 1 + p / 8 by omega, show (8 * (b.a.toNat + 1) + p) % 8 = p % 8 by omega]
theorem cut_ok {wl : List Int} (h : WordsOk wl) (b : Bk) : WordsOk (cut wl b) := fun j hj => by
  have e := cut_get wl b j
  rw [List.getElem?_eq_getElem hj] at e
  rw [List.getD_eq_getElem?_getD, List.getElem?_eq_getElem hj, e]
  split
  · rename_i c
    rw [if_pos c] at e
    have hi : b.a.toNat + 1 + j < wl.length := by
      by_cases q : b.a.toNat + 1 + j < wl.length
      · exact q
      · rw [List.getElem?_eq_none (by omega)] at e; cases e
    rw [← List.getD_eq_getElem?_getD]
    exact h _ hi
  · simp
/-- what is read within a block -/
theorem cut_read {wl : List Int} {b : Bk} {o n : Int} (h1 : 0 ≤ b.a) (h2 : 2 ≤ b.s) (h3 : b.a + b.s ≤ wl.length) (hn : 0 ≤ n ∧ n ≤ 448) (ho : (b.a + 1) * 8 ≤ o ∧ o ≤ (b.a + b.s) * 8 - n) :
    rdL (cut wl b) (o - (b.a + 1) * 8) n = rdL wl o n := by
  have hl := cut_len h1 h2 h3
  unfold rdL
  rw [if_pos ⟨by omega, by omega, by omega, by rw [hl]; omega⟩, if_pos ⟨by omega, by omega, by omega, by omega⟩]
  refine List.ext_getElem? fun i => ?_
  have key : ∀ (w : List Int) (n o k : Nat), (rdB w o n)[k]? = if k < n then some (bAt_ w (o + k)) else none := fun w n o k => by
    by_cases c : k < n
    · have := rdB_getD w n o k c
      rw [List.getD_eq_getElem?_getD, List.getElem?_eq_getElem (by rw [rdB_length]; exact c)] at this
      rw [if_pos c, List.getElem?_eq_getElem (by rw [rdB_length]; exact c)]
      simpa using this
    · rw [if_neg c, List.getElem?_eq_none (by rw [rdB_length]; omega)]
  rw [key, key]
  split
  · rw [cut_byte (by omega)]
    congr 2
    omega
  · rfl
/-- what is written within a block -/
def upE (d : Int) (L : List Ed) : List Ed := L.map fun e => ⟨e.w + d, e.v⟩
theorem cut_edits {wl : List Int} {b : Bk} (h1 : 0 ≤ b.a) {f n : Nat} {c : Nat → Int} {L : List Ed} (h : IsE (cut wl b) f n c L) (hf : f + n ≤ 8 * (b.s.toNat - 1)) : IsE wl (8 * (b.a.toNat + 1) + f) n c (upE (b.a + 1) L) := by
  have hlen : (upE (b.a + 1) L).length = L.length := List.length_map ..
  have hcnt : cnt (8 * (b.a.toNat + 1) + f) n = cnt f n := by
    unfold cnt
    split <;> omega
  refine ⟨by rw [hlen, h.len, hcnt], fun j hj => ?_⟩
  rw [hlen] at hj
  obtain ⟨g1, g2, g3⟩ := h.at_ j hj
  have e : (upE (b.a + 1) L).getD j default = ⟨(L.getD j default).w + (b.a + 1), (L.getD j default).v⟩ := by
    unfold upE
    rw [List.getD_eq_getElem?_getD, List.getElem?_map, List.getD_eq_getElem?_getD, List.getElem?_eq_getElem hj]
    rfl
  rw [e]
  refine ⟨by simp only; rw [g1]; omega, g2, fun k hk => ?_⟩
  simp only
  rw [g3 k hk]
  have hlc := h.len
  have hin : 8 * (f / 8 + j) + k < 8 * (b.s.toNat - 1) := by
    unfold cnt at hlc
    split at hlc <;> omega
  unfold tgt
  rw [cut_byte hin, show 8 * ((8 * (b.a.toNat + 1) + f) / 8 + j) + k = 8 * (b.a.toNat + 1) + (8 * (f / 8 + j) + k) by omega]
  by_cases hc : f ≤ 8 * (f / 8 + j) + k ∧ 8 * (f / 8 + j) + k < f + n
  · rw [if_pos hc, if_pos (by omega)]
    congr 1
    omega
  · rw [if_neg hc, if_neg (by omega)]
theorem cut_write {wl : List Int} {b : Bk} (h1 : 0 ≤ b.a) (h2 : 2 ≤ b.s) (h3 : b.a + b.s ≤ wl.length) (hok : WordsOk wl) {f n : Nat} {c : Nat → Int} {L M : List Ed} (h : IsE (cut wl b) f n c L) (hM : IsE wl (8 * (b.a.toNat + 1) + f) n c M) (hf : f + n ≤ 8 * (b.s.toNat - 1)) :
    appF (cut wl b) L = cut (appF wl M) b := by
  have hl := cut_len h1 h2 h3
  have hl2 : (cut (appF wl M) b).length = b.s.toNat - 1 := cut_len h1 h2 (by rw [appF_length]; exact h3)
  obtain ⟨a1, a2⟩ := appF_isE h (wd_ok (cut_ok hok b)) (by omega)
  obtain ⟨b1, b2⟩ := appF_isE hM (wd_ok hok) (by omega)
  have hokV : WordsOk (appF wl M) := fun j hj => by
    have := b1 _ (List.getElem_mem hj)
    rw [List.getD_eq_getElem?_getD, List.getElem?_eq_getElem hj]
    exact ⟨this.1, by have := this.2; simp only [Option.getD_some]; omega⟩
  refine words_ext (by rw [appF_length, hl, hl2]) a1 (wd_ok (cut_ok hokV b)) fun p hp => ?_
  rw [appF_length, hl] at hp
  rw [a2 p (by omega), cut_byte hp, b2 _ (by omega), tgt, tgt, cut_byte hp]
  by_cases hc : f ≤ p ∧ p < f + n
  · rw [if_pos hc, if_pos (by omega)]
    congr 1
    omega
  · rw [if_neg hc, if_neg (by omega)]
end Go.Proofs.Ytkpefnjohdjejaa
