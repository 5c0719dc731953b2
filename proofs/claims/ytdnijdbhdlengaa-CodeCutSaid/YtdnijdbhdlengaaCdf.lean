/-
  Contract of package code: Decode.
-/
import Derived.Test.YtdnijdbhdlengaaCdd
namespace Go.Proofs.Ytdnijdbhdlengaa
set_option maxRecDepth 100000
open Go.RowKit

theorem byts_of {w : World} {v : Value} {l : List Int} (h : RA byE w v l) : Byts l := fun x hx => by
  have : By x := ra_ok h x hx
  unfold By at this; omega
def slLen : Value → Nat
  | .slice _ n _ => n
  | _ => 0
/-- decoding under way -/
structure DS (w wr : World) (l : List Int) (bv lv : Value) (r : List Int) (L : List Px) : Prop where
  rest : ∀ w', Below w.heap.size w w' → RA byE w' bv r
  own : OO w.heap.size wr lv L
  eq : dec l = L.map toC ++ dec r
  few : r.length ≤ 100000
  all : L.length * 4 + r.length ≤ 100000
  data : ∀ x ∈ L, x.bl.length ≤ 255
  below : Below w.heap.size w wr
theorem un_not {k v z : Int} {r : List Int} (h : ¬ (1 ≤ k ∧ k ≤ 8)) : un k v z r = [] := by
  unfold un
  rw [if_neg (by omega), if_neg (by omega), if_neg (by omega), if_neg (by omega), if_neg (by omega), if_neg (by omega)]
set_option maxHeartbeats 4000000 in
theorem decode_is (l : List Int) (v : Value) (w : World) (h : RA byE w v l) (hl : l.length ≤ 100000) :
    Calls Try.prog 14 #[v] w fun e w' => (∃ u L, e = .returned u ∧ OO w.heap.size w' u L ∧ L.map toC = dec l ∧ ∀ x ∈ L, x.bl.length ≤ 255) ∧ Below w.heap.size w w' := by
  obtain ⟨p0, cp0, rfl, _⟩ := ra_shape h
  have HI := Lib.hid (show DS w w l (.slice p0 l.length cp0) (.slice none 0 0) l [] from ⟨fun w' hb => ra_below h hb, OO.nil _ _, rfl, hl, by simpa using hl, (fun x h => nomatch h), Below.refl _ _⟩)
  generalize l.length = N0 at HI ⊢
  clear h hl
  go_enter Try.func14, Try.ntmps14
  go_wp2
  go_loopw [0, 3] (fun bv lv wr => ∃ (q : Option Addr) (n d : Nat) (u : Value) (r : List Int) (L : List Px), bv = .slice q n d ∧ lv = u ∧ Hid (DS w wr l (.slice q n d) u r L)) (fun bv _ _ => (slLen bv : Nat))
  case atStart => exact ⟨p0, N0, cp0, _, l, [], rfl, rfl, HI⟩
  case round =>
    obtain ⟨q, n, d, u, r, L, rfl, rfl, H⟩ := hrel
    have hn : n = r.length := by
      obtain ⟨_, _, e, _⟩ := ra_shape (H.out.rest _ H.out.below)
      cases e; rfl
    by_cases h4 : 4 ≤ n
    · have i4 : (n : Int) ≥ 4 := by omega
      obtain ⟨k, a, c, z, t, rfl⟩ := long_four (b := r) (by omega)
      have hlen : n = t.length + 4 := by rw [hn]; simp
      obtain ⟨W, hW⟩ : ∃ W, wr.alloc (.cells #[.int .i64 0, .int .i64 0, .int .i64 0, .int .i64 0, .slice none 0 0] 26) = W := ⟨_, rfl⟩
      have A0 : Pxv W wr.heap.size ⟨0, 0, 0, 0, .slice none 0 0, []⟩ := by rw [← hW]; exact heap_alloc_new wr _
      have B0 : Below wr.heap.size wr W := by rw [← hW]; exact bal (Below.refl _ _)
      have FC := Lib.hid (first_is k a c z t _ W (H.out.rest _ (below_more H.out.below B0)))
      have HA := Lib.hid A0
      have HB := Lib.hid B0
      have HL := Lib.hid hlen
      clear A0 B0 hn hlen
      go_wp2_with fail
      refine (FC.out).mono ?_; rintro e w1 ⟨x, q1, n1, d1, rfl, F⟩
      have HF := Lib.hid F
      have A1 := HA.out.below F.below
      have hst := A1.store (y := x) F.wi.one
      have A2 := A1.put (y := x)
      have hC := (Chg.refl [wr.heap.size] w1).setRow (g := wr.heap.size) (.inl (by simp)) (pxc x)
      obtain ⟨w2, hw2⟩ : ∃ w2, w1.setRow wr.heap.size (pxc x) = w2 := ⟨_, rfl⟩
      rw [hw2] at A2 hC hst
      have B2 := hC.below (HB.out.trans (F.below.mono HB.out.size)) (Nat.le_trans HB.out.size F.below.size) (fun g hg => by rw [List.mem_singleton.1 hg]; exact Nat.le_refl _)
      have HB2 := Lib.hid B2
      have c0 := A2.c0
      have ld := A2.whole
      rw [F.kind] at c0
      have O2 := Lib.hid (H.out.own.below B2)
      have R2 : Hid (∀ w', Below w.heap.size w w' → RA byE w' (.slice q1 n1 d1) (t.drop (tk k z))) := Lib.hid (fun w' hb => F.rest w' (H.out.rest w' hb))
      have D2 := Lib.hid (F.bl.chg hC (fun g hg => by have := (F.bl.lt g hg).1; have h1 : wr.heap.size < W.heap.size := HA.out.lt; simp; omega))
      have P2 : Hid (x.v.ownBlock = none ∨ x.v.ownBlock ≠ u3.ownBlock) := Lib.hid (by
        cases e : x.v.ownBlock with
        | none => exact .inl rfl
        | some g =>
          refine .inr fun e2 => ?_
          have h1 := (F.bl.lt g e).1
          have h2 := (H.out.own.row.lt g e2.symm).2
          have h3 : wr.heap.size < W.heap.size := HA.out.lt
          omega)
      have H2 := Lib.hid (below_more H.out.below B2)
      have HD := Lib.hid (And.intro F.few (And.intro F.op F.wi))
      have hn1 : n1 = (t.drop (tk k z)).length := by
        obtain ⟨_, _, e, _⟩ := ra_shape (R2.out _ H2.out)
        cases e; rfl
      have HN := Lib.hid hn1
      have HW := Lib.hid hw2
      clear A1 A2 hC F FC hn1 B2 hw2
      by_cases hk : 1 ≤ k ∧ k ≤ 8
      · have CK := Lib.hid (fun w => kind_is k true (decide_eq_true hk) w)
        obtain ⟨W3, hW3⟩ : ∃ W3, w2.alloc (.cells (pxc x) 26) = W3 := ⟨_, rfl⟩
        have hB3 : Below w2.heap.size w2 W3 := by rw [← hW3]; exact bal (Below.refl _ _)
        have hsl := run_opSlice1 w2 x D2.out.ra
        rw [hW3] at hsl
        have O3 := Lib.hid (O2.out.below hB3)
        have R3 := Lib.hid (show OwnA opF w2.heap.size W3 _ [x] from by rw [← hW3]; exact op_one w2 HD.out.2.2)
        have B3 := Lib.hid (below_more H2.out hB3)
        have D3 := Lib.hid (((D2.out.below hB3)).mono (Nat.le_trans H.out.below.size HB.out.size))
        have HB23 := Lib.hid hB3
        have hlen : Hid (L.length + [x].length ≤ 1000000) := Lib.hid (by have := H.out.all; simp only [List.length_singleton]; omega)
        clear hB3
        go_wp2_with fail
        refine (CK.out _).mono ?_; rintro e w' ⟨rfl, rfl⟩
        go_wp2_with (at_builtin; refine app_op rfl _ _ rfl _ _ _ rfl O3.out.row _ [x] rfl R3.out.ra hlen B3.out.size ?_)
        intro v' w4 ho hg hx
        have B4 := Lib.hid (below_app B3.out B3.out.size O3.out.row hg)
        have O4 := Lib.hid (O3.out.snoc D3.out P2.out ho hg hx)
        obtain ⟨pv, cv, rfl, _⟩ := ho.shape
        have HS : Hid (DS w w4 l (.slice q1 n1 d1) _ (t.drop (tk k z)) (L ++ [x])) := Lib.hid ⟨R2.out, O4.out, by rw [H.out.eq, dec_cons, HD.out.2.1 hk, List.map_append, List.append_assoc]; rfl, by have := H.out.few; rw [List.length_drop]; simp only [List.length_cons] at *; omega, by have := H.out.all; rw [List.length_drop, List.length_append]; simp only [List.length_cons, List.length_nil] at *; omega, fun y hy => by
          rcases List.mem_append.1 hy with hy | hy
          · exact H.out.data y hy
          · rw [List.mem_singleton.1 hy]; exact HD.out.1, B4.out⟩
        clear ho hg hx
        go_wp2
        go_roundw
        case rel => exact ⟨q1, n1, d1, _, _, _, rfl, rfl, HS⟩
        case measure => have h1 := HN.out; have h2 := HL.out; rw [List.length_drop] at h1; simp only [slLen]; omega
      · have CK := Lib.hid (fun w => kind_is k false (decide_eq_false hk) w)
        have HS : Hid (DS w w2 l (.slice q1 n1 d1) u3 (t.drop (tk k z)) L) := Lib.hid ⟨R2.out, O2.out, by rw [H.out.eq, dec_cons, un_not hk]; rfl, by have := H.out.few; have := HL.out; rw [List.length_drop]; simp only [List.length_cons] at *; omega, by have := H.out.all; rw [List.length_drop]; simp only [List.length_cons] at *; omega, H.out.data, H2.out⟩
        go_wp2_with fail
        refine (CK.out _).mono ?_; rintro e w' ⟨rfl, rfl⟩
        go_wp2
        go_roundw
        case rel => exact ⟨q1, n1, d1, u3, _, L, rfl, rfl, HS⟩
        case measure => have h1 := HN.out; have h2 := HL.out; rw [List.length_drop] at h1; simp only [slLen]; omega
    · have i4 : ¬ (n : Int) ≥ 4 := by omega
      have E := H.out.eq
      rw [dec_short (b := r) (by omega), List.append_nil] at E
      have HF := Lib.hid (And.intro H.out.own (And.intro E.symm (And.intro H.out.data H.out.below)))
      clear E
      go_wp2
      go_ret
      exact ⟨⟨_, rfl, L, HF.out.1, HF.out.2.1, HF.out.2.2.1⟩, HF.out.2.2.2⟩
end Go.Proofs.Ytdnijdbhdlengaa
