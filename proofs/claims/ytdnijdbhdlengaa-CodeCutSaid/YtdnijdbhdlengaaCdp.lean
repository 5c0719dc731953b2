/-
  Scripts as bytes, plainly: what an operation is written as, what bytes tell, and what follows. Plain mathematics.
-/
import Derived.Test.YtdnijdbhdlengaaLaw
namespace Go.Proofs.Ytdnijdbhdlengaa
set_option maxRecDepth 100000

/-- an operation: kind, Off, N, Mask, Data -/
structure Cx where
  d : Int
  o : Int
  n : Int
  m : Int
  bl : List Int
/-- is there such an operation -/
def MayC (x : Cx) : Prop :=
  (x.d = 1 ∧ (0 ≤ x.n ∧ x.n ≤ 65535) ∧ x.o = 0 ∧ x.m = 0 ∧ x.bl = []) ∨
  ((x.d = 2 ∨ x.d = 5) ∧ (0 ≤ x.o ∧ x.o ≤ 65535) ∧ x.n = 0 ∧ x.m = 0 ∧ x.bl = []) ∨
  (x.d = 3 ∧ (0 ≤ x.o ∧ x.o ≤ 65535) ∧ (0 ≤ x.n ∧ x.n ≤ 255) ∧ x.m = 0 ∧ x.bl = []) ∨
  (x.d = 4 ∧ (0 ≤ x.o ∧ x.o ≤ 65535) ∧ x.n = 0 ∧ x.m = 0 ∧ x.bl.length ≤ 255) ∨
  ((x.d = 6 ∨ x.d = 8) ∧ x.o = 0 ∧ x.n = 0 ∧ x.m = 0 ∧ x.bl = []) ∨
  (x.d = 7 ∧ (0 ≤ x.n ∧ x.n ≤ 65535) ∧ (0 ≤ x.m ∧ x.m ≤ 255) ∧ x.o = 0 ∧ x.bl = [])
/-- the number of two bytes, and the one of one byte -/
def vOf (x : Cx) : Int := if x.d = 1 ∨ x.d = 7 then x.n else if x.d = 2 ∨ x.d = 3 ∨ x.d = 4 ∨ x.d = 5 then x.o else 0
def zOf (x : Cx) : Int := if x.d = 3 then x.n else if x.d = 4 then x.bl.length else if x.d = 7 then x.m else 0
/-- what it is written as -/
def opB (x : Cx) : List Int := if 1 ≤ x.d ∧ x.d ≤ 8 then x.d :: vOf x % 256 :: vOf x / 256 % 256 :: zOf x % 256 :: x.bl else []
/-- what four bytes tell, r being behind them; how many of r are its own -/
def un (k v z : Int) (r : List Int) : List Cx :=
  if k = 1 then [⟨1, 0, v, 0, []⟩] else if k = 2 ∨ k = 5 then [⟨k, v, 0, 0, []⟩] else if k = 3 then [⟨3, v, z, 0, []⟩] else if k = 4 then [⟨4, v, 0, 0, r.take z.toNat⟩]
  else if k = 6 ∨ k = 8 then [⟨k, 0, 0, 0, []⟩] else if k = 7 then [⟨7, 0, v, z, []⟩] else []
def tk (k z : Int) : Nat := if k = 4 then z.toNat else 0
def decF : Nat → List Int → List Cx
  | f + 1, k :: a :: b :: z :: r => un k (a + 256 * b) z r ++ decF f (r.drop (tk k z))
  | _, _ => []
/-- what bytes tell -/
def dec (b : List Int) : List Cx := decF b.length b
def enc (l : List Cx) : List Int := l.flatMap opB

theorem decF_any : ∀ (f g : Nat) (b : List Int), b.length ≤ f → b.length ≤ g → decF f b = decF g b
  | 0, 0, _, _, _ => rfl
  | 0, g + 1, [], _, _ => rfl
  | f + 1, 0, [], _, _ => rfl
  | 0, g + 1, _ :: _, h, _ => by simp at h
  | f + 1, 0, _ :: _, _, h => by simp at h
  | f + 1, g + 1, [], _, _ => rfl
  | f + 1, g + 1, [_], _, _ => rfl
  | f + 1, g + 1, [_, _], _, _ => rfl
  | f + 1, g + 1, [_, _, _], _, _ => rfl
  | f + 1, g + 1, k :: a :: b :: z :: r, h, h' => by
    rw [decF, decF]
    congr 1
    simp only [List.length_cons] at h h'
    exact decF_any f g _ (by rw [List.length_drop]; omega) (by rw [List.length_drop]; omega)
theorem dec_cons (k a b z : Int) (r : List Int) : dec (k :: a :: b :: z :: r) = un k (a + 256 * b) z r ++ dec (r.drop (tk k z)) := by
  unfold dec
  simp only [List.length_cons]
  rw [decF]
  congr 1
  exact decF_any _ _ _ (by rw [List.length_drop]; omega) (Nat.le_refl _)
theorem dec_short {b : List Int} (h : b.length < 4) : dec b = [] := by
  unfold dec
  match b, h with
  | [], _ => rfl
  | [_], _ => rfl
  | [_, _], _ => rfl
  | [_, _, _], _ => rfl
  | _ :: _ :: _ :: _ :: _, h => simp at h; omega
theorem long_four {b : List Int} (h : 4 ≤ b.length) : ∃ k a c z r, b = k :: a :: c :: z :: r := by
  match b, h with
  | k :: a :: c :: z :: r, _ => exact ⟨k, a, c, z, r, rfl⟩
  | [], h => simp at h
  | [_], h => simp at h
  | [_, _], h => simp at h
  | [_, _, _], h => simp at h
theorem two_bytes {v : Int} (h0 : 0 ≤ v) (h1 : v ≤ 65535) : v % 256 + 256 * (v / 256 % 256) = v := by omega
theorem MayC.kind {x : Cx} (h : MayC x) : 1 ≤ x.d ∧ x.d ≤ 8 := by unfold MayC at h; omega
theorem MayC.v {x : Cx} (h : MayC x) : 0 ≤ vOf x ∧ vOf x ≤ 65535 := by
  unfold MayC at h; unfold vOf; split
  · omega
  · split <;> omega
theorem MayC.z {x : Cx} (h : MayC x) : 0 ≤ zOf x ∧ zOf x ≤ 255 := by
  unfold MayC at h; unfold zOf; split
  · omega
  · split
    · omega
    · split <;> omega
/-- what is written of one that may be tells it, whatever is behind -/
theorem un_op {x : Cx} (h : MayC x) (r : List Int) : un x.d (vOf x) (zOf x) (x.bl ++ r) = [x] ∧ (x.bl ++ r).drop (tk x.d (zOf x)) = r := by
  obtain ⟨d, o, n, m, bl⟩ := x
  unfold MayC at h
  dsimp only at h
  rcases h with ⟨rfl, _, rfl, rfl, rfl⟩ | ⟨rfl | rfl, _, rfl, rfl, rfl⟩ | ⟨rfl, _, _, rfl, rfl⟩ | ⟨rfl, _, rfl, rfl, _⟩ | ⟨rfl | rfl, rfl, rfl, rfl, rfl⟩ | ⟨rfl, _, _, rfl, rfl⟩ <;> simp [un, tk, vOf, zOf]
theorem dec_op {x : Cx} (h : MayC x) (r : List Int) : dec (opB x ++ r) = x :: dec r := by
  obtain ⟨u1, u2⟩ := un_op h r
  unfold opB
  rw [if_pos h.kind]
  simp only [List.cons_append]
  rw [dec_cons, two_bytes h.v.1 h.v.2, Int.emod_eq_of_lt h.z.1 (by have := h.z.2; omega), u1, u2]; rfl
theorem enc_cons (x : Cx) (l : List Cx) : enc (x :: l) = opB x ++ enc l := by simp [enc]
theorem dec_enc : ∀ {l : List Cx} (_ : ∀ x ∈ l, MayC x) (r : List Int), dec (enc l ++ r) = l ++ dec r
  | [], _, r => by simp [enc]
  | x :: l, h, r => by
    rw [enc_cons, List.append_assoc, dec_op (h x (List.mem_cons_self ..)), dec_enc (fun y hy => h y (List.mem_cons_of_mem _ hy)), List.cons_append]
theorem dec_nil : dec [] = [] := rfl
/-- bytes -/
def Byts (b : List Int) : Prop := ∀ x ∈ b, 0 ≤ x ∧ x ≤ 255
theorem un_may {k v z : Int} {r : List Int} (hv : 0 ≤ v ∧ v ≤ 65535) (hz : 0 ≤ z ∧ z ≤ 255) : ∀ x ∈ un k v z r, MayC x := by
  intro x hx
  have hl : (r.take z.toNat).length ≤ 255 := by rw [List.length_take]; omega
  unfold un at hx
  unfold MayC
  split at hx
  · rw [List.mem_singleton.1 hx]; simp; omega
  · split at hx
    · rw [List.mem_singleton.1 hx]; simp; omega
    · split at hx
      · rw [List.mem_singleton.1 hx]; simp; omega
      · split at hx
        · rw [List.mem_singleton.1 hx]; simp only [hv, and_true, hl]; simp
        · split at hx
          · rw [List.mem_singleton.1 hx]; simp; omega
          · split at hx
            · rw [List.mem_singleton.1 hx]; simp; omega
            · cases hx
theorem un_len {k v z : Int} {r : List Int} : (enc (un k v z r)).length ≤ 4 + min (tk k z) r.length := by
  unfold un
  split
  · simp [enc, opB]
  · split
    · rename_i h; rcases h with rfl | rfl <;> simp [enc, opB]
    · split
      · simp [enc, opB]
      · split
        · rename_i h; subst h; simp [enc, opB, tk]; omega
        · split
          · rename_i h; rcases h with rfl | rfl <;> simp [enc, opB]
          · split <;> simp [enc, opB]
theorem dec_fine : ∀ (f : Nat) (b : List Int), b.length ≤ f → Byts b → (∀ x ∈ dec b, MayC x) ∧ (enc (dec b)).length ≤ b.length ∧ (dec b).length * 4 ≤ b.length
  | 0, b, hf, _ => by
    have : b = [] := List.eq_nil_of_length_eq_zero (by omega)
    subst this
    rw [dec_nil]; simp [enc]
  | f + 1, b, hf, hb => by
    by_cases h4 : b.length < 4
    · rw [dec_short h4]; simp [enc]
    · obtain ⟨k, a, c, z, r, rfl⟩ := long_four (b := b) (by omega)
      simp only [List.length_cons] at hf
      have ha := hb a (by simp)
      have hc := hb c (by simp)
      have hz := hb z (by simp)
      obtain ⟨g1, g2, g3⟩ := dec_fine f (r.drop (tk k z)) (by rw [List.length_drop]; omega) (fun x hx => hb x (by simp [List.mem_of_mem_drop hx]))
      rw [dec_cons]
      have hl := un_len (k := k) (v := a + 256 * c) (z := z) (r := r)
      have hu : (un k (a + 256 * c) z r).length ≤ 1 := by unfold un; repeat' split
                                                          all_goals simp
      rw [List.length_drop] at g2 g3
      refine ⟨fun x hx => ?_, ?_, ?_⟩
      · rcases List.mem_append.1 hx with hx | hx
        · exact un_may (by omega) hz x hx
        · exact g1 x hx
      · unfold enc at *
        rw [List.flatMap_append, List.length_append]
        simp only [List.length_cons]; omega
      · rw [List.length_append]; simp only [List.length_cons]; omega
theorem Byts.may {b : List Int} (h : Byts b) : ∀ x ∈ dec b, MayC x := (dec_fine _ b (Nat.le_refl _) h).1
theorem Byts.len {b : List Int} (h : Byts b) : (enc (dec b)).length ≤ b.length := (dec_fine _ b (Nat.le_refl _) h).2.1
theorem Byts.few {b : List Int} (h : Byts b) : (dec b).length * 4 ≤ b.length := (dec_fine _ b (Nat.le_refl _) h).2.2
/-- what the reference asks of an operation -/
theorem may_iff {x : Cx} (hl : x.bl.length ≤ 255) (ho : 0 ≤ x.o ∧ x.o ≤ 65535) (hn : 0 ≤ x.n ∧ x.n ≤ 65535) (hm : 0 ≤ x.m ∧ x.m ≤ 255) : dec (opB x) = [x] ↔ MayC x := by
  constructor
  · intro h
    obtain ⟨d, o, n, m, bl⟩ := x
    dsimp only at hl ho hn hm
    by_cases hd : 1 ≤ d ∧ d ≤ 8
    · unfold opB at h
      rw [if_pos hd, dec_cons] at h
      have hc : d = 1 ∨ d = 2 ∨ d = 3 ∨ d = 4 ∨ d = 5 ∨ d = 6 ∨ d = 7 ∨ d = 8 := by omega
      unfold MayC
      rcases hc with rfl | rfl | rfl | rfl | rfl | rfl | rfl | rfl <;> simp [un, vOf, zOf] at h ⊢ <;> (obtain ⟨h1, _⟩ := h) <;> first | (obtain ⟨h1, h2, h3, h4⟩ := h1; simp [*]; omega) | (obtain ⟨h1, h2, h3⟩ := h1; simp [*]; omega) | (obtain ⟨h1, h2⟩ := h1; simp [*]; omega) | (simp [*]; omega)
    · unfold opB at h
      rw [if_neg hd, dec_nil] at h
      cases h
  · intro h
    have := dec_op h []
    rwa [List.append_nil, dec_nil] at this
theorem MayC.ranges {x : Cx} (h : MayC x) : x.bl.length ≤ 255 ∧ (0 ≤ x.o ∧ x.o ≤ 65535) ∧ (0 ≤ x.n ∧ x.n ≤ 65535) ∧ 0 ≤ x.m ∧ x.m ≤ 255 := by
  unfold MayC at h
  rcases h with ⟨_, h1, h2, h3, h4⟩ | ⟨_, h1, h2, h3, h4⟩ | ⟨_, h1, h2, h3, h4⟩ | ⟨_, h1, h2, h3, h4⟩ | ⟨_, h1, h2, h3, h4⟩ | ⟨_, h1, h2, h3, h4⟩ <;> (try rw [h4]) <;> simp [*] <;> omega
/-- bytes that are cut short -/
theorem dec_cut : ∀ (f : Nat) (b : List Int) (k : Nat), b.length ≤ f → ∃ p q r, dec b = p ++ r ∧ dec (b.take k) = p ++ q ∧
    (q = [] ∨ ∃ x y r', r = x :: r' ∧ q = [y] ∧ x.d = 4 ∧ y.d = 4 ∧ y.bl.length < x.bl.length ∧ y.bl = x.bl.take y.bl.length)
  | 0, b, k, hf => by
    have : b = [] := List.eq_nil_of_length_eq_zero (by omega)
    subst this
    exact ⟨[], [], [], rfl, by rw [List.take_nil]; rfl, .inl rfl⟩
  | f + 1, b, k, hf => by
    by_cases h4 : b.length < 4
    · exact ⟨[], [], [], dec_short h4, by rw [dec_short (by rw [List.length_take]; omega)]; rfl, .inl rfl⟩
    · by_cases hk : k < 4
      · exact ⟨[], [], dec b, rfl, by rw [dec_short (by rw [List.length_take]; omega)]; rfl, .inl rfl⟩
      · obtain ⟨j, rfl⟩ : ∃ j, k = j + 4 := ⟨k - 4, by omega⟩
        obtain ⟨c, a1, a2, z, r, rfl⟩ := long_four (b := b) (by omega)
        simp only [List.length_cons] at hf
        have ht : (c :: a1 :: a2 :: z :: r).take (j + 4) = c :: a1 :: a2 :: z :: r.take j := rfl
        rw [ht, dec_cons, dec_cons]
        by_cases h4 : c = 4
        · subst h4
          have e : tk 4 z = z.toNat := rfl
          have eu : ∀ s : List Int, un 4 (a1 + 256 * a2) z s = [⟨4, a1 + 256 * a2, 0, 0, s.take z.toNat⟩] := fun s => rfl
          rw [e, eu, eu]
          clear e eu
          generalize z.toNat = t
          by_cases h1 : t ≤ j
          · obtain ⟨p, q, s, g1, g2, g3⟩ := dec_cut f (r.drop t) (j - t) (by rw [List.length_drop]; omega)
            have e1 : (r.take j).take t = r.take t := by rw [List.take_take, Nat.min_eq_left h1]
            have e2 : (r.take j).drop t = (r.drop t).take (j - t) := by rw [List.drop_take]
            rw [e1, e2, g1, g2]
            exact ⟨_ ++ p, q, s, (List.append_assoc ..).symm, (List.append_assoc ..).symm, g3⟩
          · have e1 : (r.take j).take t = r.take j := by rw [List.take_take, Nat.min_eq_right (by omega)]
            have e2 : (r.take j).drop t = [] := List.drop_eq_nil_of_le (by rw [List.length_take]; omega)
            rw [e1, e2, dec_nil]
            by_cases h2 : r.length ≤ j
            · rw [List.take_of_length_le h2, List.take_of_length_le (show r.length ≤ t by omega), List.drop_eq_nil_of_le (show r.length ≤ t by omega), dec_nil]
              exact ⟨_, [], [], rfl, rfl, .inl rfl⟩
            · refine ⟨[], _, _, rfl, rfl, .inr ⟨_, _, _, rfl, rfl, rfl, rfl, ?_, ?_⟩⟩
              · simp only [List.length_take]; omega
              · simp only [List.length_take]; rw [List.take_take]; congr 1; omega
        · have e : tk c z = 0 := if_neg h4
          have eu : un c (a1 + 256 * a2) z (r.take j) = un c (a1 + 256 * a2) z r := by unfold un; rw [if_neg h4, if_neg h4]
          rw [e, eu, List.drop_zero, List.drop_zero]
          obtain ⟨p, q, s, g1, g2, g3⟩ := dec_cut f r j (by omega)
          exact ⟨un c (a1 + 256 * a2) z r ++ p, q, s, by rw [g1, List.append_assoc], by rw [g2, List.append_assoc], g3⟩
end Go.Proofs.Ytdnijdbhdlengaa
