/-
  Numbers of their bits, and comparing two lists of words: contracts over slices that a call made itself.
-/
import Derived.Test.YtcccfmclcpldlaaLaw
import Derived.Test.YtcccfmclcpldlaaTwo
import Derived.Handy
namespace Go.Proofs.Ytcccfmclcpldlaa
open D Go.RowKit

/-- a word as a value -/
def fl (x : Nat) : Value := .float .f64 x

theorem info_f64 : (Try.prog.info? 25).map (fun i => (i.zero, i.size, i.bytes)) = some (some (.float .f64 0), 1, 8) := by kernel_rfl

/-- a slice of words of a call's own -/
def Own (B : Nat) (w : World) (v : Value) (l : List Nat) : Prop := w.ownsRow B 25 1 v l.length (l.map fl)

theorem take_snoc {l : List Nat} {k : Nat} (h : k < l.length) : l.take (k + 1) = l.take k ++ [l.getD k 0] := by
  rw [List.take_succ_eq_append_getElem h]; simp [h]

set_option maxHeartbeats 1000000 in
theorem of_some (l : List Nat) (b off cap : Nat) (w : World) (h1000 : l.length ≤ 1000) (hb : b < w.heap.size) (hc : ∀ i, i < l.length → w.cell? ⟨b, off + i, none⟩ = some (.int .u64 ((l.getD i 0 : Nat) : Int))) :
    Calls Try.prog 14 #[.slice (some ⟨b, off, none⟩) l.length cap] w fun e w' => ∃ v, e = .returned v ∧ Own w.heap.size w' v l ∧ Below w.heap.size w w' := by
  obtain ⟨i0, hi, hz0, hz1, hz2⟩ := info_parts info_f64
  obtain ⟨B, hB⟩ : ∃ B, B = w.heap.size := ⟨_, rfl⟩
  have HB := Lib.hid hB
  have C := Lib.hid hc
  have hbB : b < B := by omega
  have R0 : Hid (Below B w w) := Lib.hid (Below.refl _ _)
  rw [← hB]
  clear hc hB hb
  go_enter Try.func14, Try.ntmps14
  go_wp2
  go_loopw [3, 8] (fun v i wr => ∃ k : Nat, k ≤ l.length ∧ i = .int .i64 k ∧ wr.ownsRow B 25 1 v (l.take k).length ((l.take k).map fl) ∧ Below B w wr) (fun _ i _ => l.length - (intOf i).toNat)
  case atStart => exact ⟨0, Nat.zero_le _, rfl, World.ownsRow_nil _ _ _ _, R0.out⟩
  case round =>
    clear R0
    obtain ⟨k, hk, rfl, hown, hbel⟩ := hrel
    by_cases hlt : k < l.length
    · have hcell : wr.cell? ⟨b, off + k, none⟩ = some (.int .u64 ((l.getD k 0 : Nat) : Int)) := (hbel.cell (by exact hbB)).trans (C.out k hlt)
      have hs := take_snoc hlt
      have HS := Lib.hid hs
      have hl : (l.take k).length = k := by rw [List.length_take]; omega
      rw [hl] at hown
      have HO := Lib.hid hown
      have HBel := Lib.hid hbel
      have hsz : B ≤ wr.heap.size := by have := hbel.size; rw [← HB.out] at this; exact this
      clear hs hl hown hbel
      generalize l.getD k 0 = x at *
      go_wp2_with (at_builtin; refine wpList_append_own _ rfl _ _ 27 rfl B 25 i0 (.float .f64 0) 1 8 Try.underlying27 hi hz0 hz1 hz2 rfl (by decide) _ _ _ rfl (HO.out.alloc _) ⟨wr.heap.size, 0, none⟩ 1 1 [.float .f64 x] rfl rfl ?c1 ?c2 ?c3 ?c4 ?c5 ?_)
      case c1 =>
        intro j u hj
        match j, hj with
        | 0, hj => simp at hj; subst hj; simp [Addr.add]
      case c2 => intro u hu; simp at hu; subst hu; rfl
      case c3 => unfold maxLen; omega
      case c4 => omega
      case c5 => simp; omega
      intro v' w1 hown1 hgrow _
      have hb1 : Below B w w1 := (HBel.out.alloc hsz _).grown hgrow (by rw [size_alloc]; omega) (by intro q hq; exact (HO.out.lt q hq).1)
      have hown2 : w1.ownsRow B 25 1 v' (l.take (k + 1)).length ((l.take (k + 1)).map fl) := by
        rw [HS.out, List.length_append, List.map_append, List.length_take, Nat.min_eq_left hk, List.map_take]; exact hown1
      clear hown1 hgrow HO HBel
      go_wp2
      go_roundw
      case rel => exact ⟨k + 1, by omega, by go_num, hown2, hb1⟩
      case measure => simp [intOf]; omega
    · obtain rfl : k = l.length := by omega
      rw [List.take_length] at hown
      have HO := Lib.hid hown
      have HBel := Lib.hid hbel
      clear hown hbel
      go_wp2
      go_ret
      exact ⟨_, rfl, HO.out, HBel.out⟩

theorem of_none (p : Option Addr) (cap : Nat) (w : World) : Calls Try.prog 14 #[.slice p 0 cap] w fun e w' => ∃ v, e = .returned v ∧ Own w.heap.size w' v [] ∧ Below w.heap.size w w' := by
  go_enter Try.func14, Try.ntmps14
  go_wp2
  go_rounds 1
  go_ret
  exact ⟨_, rfl, World.ownsRow_nil _ _ _ _, Below.refl _ _⟩

def nats (l : List Int) : List Nat := l.map Int.toNat
theorem nats_length (l : List Int) : (nats l).length = l.length := by simp [nats]
theorem nats_small {l : List Int} (h : ∀ n ∈ l, (Lit.int .u64 n).wf = true) : Small (nats l) := by
  intro i hi
  rw [nats_length] at hi
  obtain ⟨n, hn, hlt⟩ := nat_of_u64 (h l[i] (List.getElem_mem hi))
  simp [nats, hi, hn]
  exact hlt
theorem nats_at {l : List Int} (h : ∀ n ∈ l, (Lit.int .u64 n).wf = true) (i : Nat) (hi : i < l.length) : (((nats l).getD i 0 : Nat) : Int) = l.getD i 0 := by
  obtain ⟨n, hn, hlt⟩ := nat_of_u64 (h l[i] (List.getElem_mem hi))
  simp [nats, hi, hn]

theorem of_any (v : Value) (l : List Int) (w : World) (h : IntsIn .u64 w v l) (hl : l.length ≤ 1000) :
    Calls Try.prog 14 #[v] w fun e w' => ∃ v', e = .returned v' ∧ Own w.heap.size w' v' (nats l) ∧ Below w.heap.size w w' := by
  obtain ⟨p, cap, rfl, _, _, hwf, h | ⟨b, off, rfl, hb, hc⟩⟩ := h
  · obtain ⟨rfl, _⟩ := h
    exact of_none p cap w
  · have hn := nats_length l
    rw [← hn]
    exact of_some (nats l) b off cap w (by omega) hb (fun i hi => by rw [nats_at hwf i (by omega)]; exact hc i (by omega))

/-- a slice that can be read: it holds l -/
def Reads (w : World) (v : Value) (l : List Nat) : Prop := ∃ p cap, v = .slice p l.length cap ∧ (l = [] ∨ ∃ b off, p = some ⟨b, off, none⟩ ∧ Words w b off l)

theorem Reads.below {w w' : World} {v : Value} {l : List Nat} (h : Reads w v l) (hb : Below w.heap.size w w') : Reads w' v l := by
  obtain ⟨p, cap, rfl, h | ⟨b, off, rfl, hw⟩⟩ := h
  · exact ⟨p, cap, rfl, .inl h⟩
  · refine ⟨_, cap, rfl, .inr ⟨b, off, rfl, fun i hi => ?_⟩⟩
    have := hw i hi
    rw [hb.cell (World.block_lt_of_cell? w _ this)]; exact this

theorem Own.reads {B : Nat} {w : World} {v : Value} {l : List Nat} (h : Own B w v l) : Reads w v l := by
  have h' : w.ownsRow B 25 1 v l.length (l.map fl) := h
  obtain ⟨_, ⟨rfl, h0⟩ | ⟨g, cap, cur, rfl, _⟩⟩ := h
  · exact ⟨none, 0, by rw [h0], .inl (List.eq_nil_of_length_eq_zero h0)⟩
  · refine ⟨_, cap, rfl, .inr ⟨g, 0, rfl, fun i hi => ?_⟩⟩
    have := h'.cells (g := g) rfl i (fl (l.getD i 0)) (by simp [hi])
    have e : (⟨g, 0, none⟩ : Addr).add i = ⟨g, 0 + i, none⟩ := Go.WideShapes.add_plain ..
    rw [e] at this; exact this

theorem min_rd (v : Value) (l : List Nat) (w : World) (h : Reads w v l) (hm : l.length ≤ maxLen) (hs : Small l) :
    Calls Try.prog 25 #[v] w fun e w' => e = .returned (.float .f64 (minV l)) ∧ w = w' := by
  obtain ⟨p, cap, rfl, h | ⟨b, off, rfl, hw⟩⟩ := h
  · subst h; exact min_none p cap w
  · exact min_any l b off cap w hm hw hs
theorem max_rd (v : Value) (l : List Nat) (w : World) (h : Reads w v l) (hm : l.length ≤ maxLen) (hs : Small l) :
    Calls Try.prog 27 #[v] w fun e w' => e = .returned (.float .f64 (maxV l)) ∧ w = w' := by
  obtain ⟨p, cap, rfl, h | ⟨b, off, rfl, hw⟩⟩ := h
  · subst h; exact max_none p cap w
  · exact max_any l b off cap w hm hw hs

def sameL (a b : List Nat) : Bool := decide (a.map rk = b.map rk)

theorem same_len (a b : List Nat) (p q : Option Addr) (c d : Nat) (w : World) (h : a.length ≠ b.length) :
    Calls Try.prog 22 #[.slice p a.length c, .slice q b.length d] w fun e w' => e = .returned (.bool false) ∧ w = w' := by
  have e : ((a.length : Int) != (b.length : Int)) = true := by simp [bne]; omega
  clear h
  go_enter Try.func22, Try.ntmps22
  go_wp2
  go_ret
  exact ⟨rfl, rfl⟩

theorem same_nil (p q : Option Addr) (c d : Nat) (w : World) :
    Calls Try.prog 22 #[.slice p ([] : List Nat).length c, .slice q ([] : List Nat).length d] w fun e w' => e = .returned (.bool (sameL [] [])) ∧ Below w.heap.size w w' := by
  have E := Lib.hid (show sameL [] [] = true by decide)
  go_enter Try.func22, Try.ntmps22
  go_wp2
  go_rounds 1
  go_ret
  exact ⟨ret_bool E.out.symm, Below.refl _ _⟩

set_option maxHeartbeats 1000000 in
theorem same_words (a b : List Nat) (ba oa ca bb ob cb : Nat) (w : World) (hl : a.length = b.length) (hm : a.length ≤ maxLen) (ha : Words w ba oa a) (hb : Words w bb ob b) (sa : Small a) (sb : Small b) :
    Calls Try.prog 22 #[.slice (some ⟨ba, oa, none⟩) a.length ca, .slice (some ⟨bb, ob, none⟩) a.length cb] w fun e w' => e = .returned (.bool (sameL a b)) ∧ Below w.heap.size w w' := by
  unfold maxLen at hm
  have HA := Lib.hid ha
  have HB := Lib.hid hb
  have SA := Lib.hid sa
  have SB := Lib.hid sb
  have HL := Lib.hid hl
  have R0 : Hid (Below w.heap.size w w) := Lib.hid (Below.refl _ _)
  clear ha hb sa sb hl
  go_enter Try.func22, Try.ntmps22
  go_wp2
  go_loopw [13] (fun i wr => ∃ k : Nat, k ≤ a.length ∧ i = .int .i64 k ∧ Below w.heap.size w wr ∧ Hid ((a.take k).map rk = (b.take k).map rk)) (fun i _ => a.length - (intOf i).toNat)
  case atStart => exact ⟨0, Nat.zero_le _, rfl, R0.out, Lib.hid rfl⟩
  case round =>
    clear R0
    obtain ⟨k, hk, rfl, hbel, hsofar⟩ := hrel
    by_cases hlt : k < a.length
    · have hca : wr.cell? ⟨ba, oa + k, none⟩ = some (.float .f64 (a.getD k 0)) := (hbel.cell (World.block_lt_of_cell? w _ (HA.out k hlt))).trans (HA.out k hlt)
      have hcb : wr.cell? ⟨bb, ob + k, none⟩ = some (.float .f64 (b.getD k 0)) := (hbel.cell (World.block_lt_of_cell? w _ (HB.out k (by have := HL.out; omega)))).trans (HB.out k (by have := HL.out; omega))
      have G := Lib.hid (rcmp_any (a.getD k 0) (b.getD k 0) · (SA.out k hlt) (SB.out k (by have := HL.out; omega)))
      have HBel := Lib.hid hbel
      have TA := Lib.hid (take_snoc hlt)
      have TB := Lib.hid (take_snoc (l := b) (k := k) (by have := HL.out; omega))
      clear hbel
      generalize a.getD k 0 = x at *
      generalize b.getD k 0 = y at *
      have hi : (k : Int) < (a.length : Int) := by omega
      have hi0 : (0 : Int) ≤ (k : Int) := by omega
      have hD : (cmp3 (rk x) (rk y) != 0) = decide (rk x ≠ rk y) := by
        unfold cmp3; rw [Bool.eq_iff_iff]; simp only [bne_iff_ne, decide_eq_true_eq]; split
        · simp; omega
        · split <;> simp <;> omega
      by_cases hxy : rk x = rk y
      · rw [decide_eq_false (by simpa using hxy)] at hD
        have HX := Lib.hid hxy
        clear hxy
        go_wp2
        go_quiet ((go_at_call 20; exact Calls.quiet_of_same ((G.out _).mono fun e w' ⟨h1, h2⟩ => ⟨h1, h2.symm⟩)))
        go_wp2
        go_roundw
        case rel =>
          refine ⟨k + 1, by omega, by go_num, below_drewN HBel.out nq, Lib.hid ?_⟩
          rw [TA.out, TB.out, List.map_append, List.map_append, hsofar.out]
          simp [HX.out]
        case measure => simp [intOf]; omega
      · rw [decide_eq_true (by simpa using hxy)] at hD
        have HX := Lib.hid hxy
        clear hxy
        go_wp2
        go_quiet ((go_at_call 20; exact Calls.quiet_of_same ((G.out _).mono fun e w' ⟨h1, h2⟩ => ⟨h1, h2.symm⟩)))
        go_wp2
        go_ret
        refine ⟨ret_bool ?_, below_drewN HBel.out nq⟩
        unfold sameL
        symm
        rw [decide_eq_false_iff_not]
        intro h
        have h2 : ((a.take (k + 1)).map rk) = ((b.take (k + 1)).map rk) := by rw [List.map_take, List.map_take, h]
        rw [TA.out, TB.out, List.map_append, List.map_append, hsofar.out] at h2
        have h3 := List.append_cancel_left h2
        simp at h3
        exact HX.out h3
    · obtain rfl : k = a.length := by omega
      have HBel := Lib.hid hbel
      have E : Hid (sameL a b = true) := Lib.hid (by
        unfold sameL
        rw [decide_eq_true_eq]
        have h := hsofar.out
        rw [List.take_length, HL.out, List.take_length] at h; exact h)
      clear hbel
      go_wp2
      go_ret
      exact ⟨ret_bool E.out.symm, HBel.out⟩

theorem same_rd (va vb : Value) (a b : List Nat) (w : World) (ha : Reads w va a) (hb : Reads w vb b) (hm : a.length ≤ maxLen) (sa : Small a) (sb : Small b) :
    Calls Try.prog 22 #[va, vb] w fun e w' => e = .returned (.bool (sameL a b)) ∧ Below w.heap.size w w' := by
  obtain ⟨p, ca, rfl, ha⟩ := ha
  obtain ⟨q, cb, rfl, hb⟩ := hb
  by_cases hl : a.length = b.length
  · rcases ha with rfl | ⟨ba, oa, rfl, ha⟩
    · have : b = [] := List.eq_nil_of_length_eq_zero hl.symm
      subst this
      exact same_nil p q ca cb w
    · rcases hb with rfl | ⟨bb, ob, rfl, hb⟩
      · have : a = [] := List.eq_nil_of_length_eq_zero hl
        subst this
        exact same_nil _ _ ca cb w
      · rw [← hl]
        exact same_words a b ba oa ca bb ob cb w hl hm ha hb sa sb
  · refine (same_len a b p q ca cb w hl).mono fun e w' ⟨h, g⟩ => ⟨?_, by rw [← g]; exact Below.refl _ _⟩
    rw [h]
    refine ret_bool ?_
    unfold sameL
    symm
    rw [decide_eq_false_iff_not]
    intro h
    have := congrArg List.length h
    simp at this; exact hl this
end Go.Proofs.Ytcccfmclcpldlaa
