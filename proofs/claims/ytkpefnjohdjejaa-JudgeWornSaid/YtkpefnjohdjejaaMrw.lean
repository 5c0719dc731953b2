/-
  Contracts of package model: which extent holds so many bytes from an offset on; bytes are read.
-/
import Derived.Test.YtkpefnjohdjejaaMfe
namespace Go.Proofs.Ytkpefnjohdjejaa
set_option maxRecDepth 100000
open Go.ChangeShapes Go.WideShapes Go.ChangeAt Go.RowKit

/-- the place of the used one that has so many bytes from there on -/
def hoQ (l : List Bk) (o n : Int) : Option Nat := if 0 ≤ n ∧ n ≤ 448 then ixF (inO o n) 0 (usd l) else none
theorem hoQ_is (l : List Bk) (o n : Int) : (hoQ l o n).isSome = inL o n l := by
  unfold hoQ
  split
  · rename_i h; exact ix_holds h
  · rename_i h
    show false = inL o n l
    symm
    rw [Bool.eq_false_iff, Ne, inL_yes]
    exact fun q => h q.1
theorem ref_of {wl : List Int} {l : List Bk} (hB : blkF wl = some l) (o n : Int) : refF wl o n = if (hoQ l o n).isSome = true then 0 else 1 := by
  unfold refF
  rw [hB, hoQ_is]
theorem hoQ_some {l : List Bk} {o n : Int} {j : Nat} (h : hoQ l o n = some j) : (0 ≤ n ∧ n ≤ 448) ∧ j < (usd l).length ∧ offB ((usd l).getD j default).a ≤ o ∧ o ≤ (((usd l).getD j default).a + ((usd l).getD j default).s) * 8 - n := by
  unfold hoQ at h
  split at h
  · rename_i hn
    obtain ⟨_, h2, h3⟩ := ixF_some h
    rw [Nat.sub_zero] at h2 h3
    unfold inO at h3
    exact ⟨hn, h2, of_decide_eq_true h3⟩
  · cases h
theorem ex_ld {w : World} {v : Value} {l : List Ex} (h : RA exE w v l) {d : Nat} (hd : d < l.length) : ∃ b off c, v = .slice (some ⟨b, off, none⟩) l.length c ∧ l.length ≤ c ∧ ∀ w', Below w.heap.size w w' → (exLoad (.pointer (some ⟨b, off + d * 4, none⟩))).run Try.prog w' = .ok (.agg (xc (l.getD d default))) w' := by
  obtain ⟨p, c, rfl, hlc, _⟩ := ra_shape h
  obtain ⟨b, off, rfl, _⟩ := ex_at h (by omega)
  refine ⟨b, off, c, rfl, hlc, fun w' hb => ?_⟩
  obtain ⟨_, _, e, _, hx⟩ := ex_at (ra_below h hb) (by omega)
  cases e
  exact (hx d hd).1
/-- the function that holder hands on -/
theorem hhol_is {B C : Nat} {o n : Int} {x : Ex} {p : Option Addr} {L c : Nat} {W : World} (hB : W.cell? ⟨B, 0, none⟩ = some (.int .i64 o)) (hC : W.cell? ⟨C, 0, none⟩ = some (.int .i64 n)) (hx : x.v = .slice p L c) (hb : 0 ≤ x.b.a ∧ x.b.a + x.b.s ≤ 512) (hL : (L : Int) = x.b.s - 1) (hn : 0 ≤ n ∧ n ≤ 448) :
    Calls Try.prog 72 #[.agg (xc x), .pointer (some ⟨B, 0, none⟩), .pointer (some ⟨C, 0, none⟩)] W fun e w' => e = .returned (.bool (inO o n x.b)) ∧ Below W.heap.size W w' := by
  obtain ⟨W2, hW, H⟩ := ex_box W x
  have c1 : W2.cell? ⟨B, 0, none⟩ = some (.int .i64 o) := (H.out.2.cell (p := ⟨B, 0, none⟩) (World.block_lt_of_cell? _ _ hB)).trans hB
  have c2 : W2.cell? ⟨C, 0, none⟩ = some (.int .i64 n) := (H.out.2.cell (p := ⟨C, 0, none⟩) (World.block_lt_of_cell? _ _ hC)).trans hC
  have l0 := H.out.1.load
  have CH := Lib.hid (xhas_is (o := o) (n := n) (W := W2) hx hb hL hn)
  have HB := Lib.hid H.out.2
  clear hB hC hx hb hL hn H
  generalize inO o n x.b = r at *
  go_enter Try.func72, Try.ntmps72
  go_wp2_with fail
  refine (CH.out).mono ?_; rintro e w1 ⟨rfl, b1⟩
  have D1 := Lib.hid (below_more HB.out b1)
  go_wp2_with fail
  go_ret
  exact ⟨rfl, D1.out⟩
theorem mhol_nil (o n : Int) (w : World) : Calls Try.prog 47 #[.pointer none, .int .i64 o, .int .i64 n] w fun e w' => e = .returned (.int .i64 (-1)) ∧ Below w.heap.size w w' := by
  go_enter Try.func47, Try.ntmps47
  go_wp2_with fail
  go_ret
  exact ⟨rfl, bal (bal (Below.refl _ _))⟩
theorem mhol_is {D : List Nat} {g : Nat} {wl : List Int} {l : List Bk} {r : Int} (o n : Int) (w : World) (h : Mo w D g wl l r) : Calls Try.prog 47 #[.pointer (some ⟨g, 0, none⟩), .int .i64 o, .int .i64 n] w fun e w' =>
    e = .returned (.int .i64 (oi (hoQ l o n))) ∧ Below w.heap.size w w' := by
  obtain ⟨hlen, hwl, hm⟩ := h.len
  obtain ⟨v, us, hW, hR, hF, hU, hP⟩ := h.rows
  obtain ⟨p, cap, rfl, _, _⟩ := ra_shape hR
  obtain ⟨V, hV⟩ : ∃ V, w.alloc (.cells #[.int .i64 o] 3) = V := ⟨_, rfl⟩
  obtain ⟨W, hWn⟩ : ∃ W, V.alloc (.cells #[.int .i64 n] 3) = W := ⟨_, rfl⟩
  have hb1 : Below w.heap.size w V := by rw [← hV]; exact bal (Below.refl _ _)
  have hb2 : Below V.heap.size V W := by rw [← hWn]; exact bal (Below.refl _ _)
  have hb := below_more hb1 hb2
  have cB : V.cell? ⟨w.heap.size, 0, none⟩ = some (.int .i64 o) := by rw [← hV]; exact Whole.at_ (heap_alloc_new w _) 0
  have cC : W.cell? ⟨V.heap.size, 0, none⟩ = some (.int .i64 n) := by rw [← hWn]; exact Whole.at_ (heap_alloc_new V _) 0
  have cB2 : W.cell? ⟨w.heap.size, 0, none⟩ = some (.int .i64 o) := (hb2.cell (p := ⟨w.heap.size, 0, none⟩) (World.block_lt_of_cell? _ _ cB)).trans cB
  have c1 : W.cell? ⟨g, 1, none⟩ = some (.slice p us.length cap) := by rw [hb.cell (p := ⟨g, 1, none⟩) hW.lt, Whole.at_ hW]; rfl
  have HB := Lib.hid hb
  unfold hoQ
  by_cases h1 : n < 0
  · rw [if_neg (by omega)]
    clear hR hW hF hU hP h hb cB hb1 hb2 cB2 c1 hlen hwl hm
    simp only [oi]
    go_enter Try.func47, Try.ntmps47
    go_wp2_with fail
    go_ret
    exact ⟨rfl, HB.out⟩
  · by_cases h2 : n > 448
    · rw [if_neg (by omega)]
      clear hR hW hF hU hP h hb cB hb1 hb2 cB2 c1 hlen hwl hm
      simp only [oi]
      go_enter Try.func47, Try.ntmps47
      go_wp2_with fail
      go_ret
      exact ⟨rfl, HB.out⟩
    · rw [if_pos (by omega)]
      have C := Lib.hid (xholi_is (B := w.heap.size) (C := V.heap.size) (inO o n) (ra_below hR hb) fun x hx W' hb' => by
        obtain ⟨g1, g2, g3⟩ := hU.ws x hx
        have hxl : x.b ∈ usd l := by rw [← hU.map]; exact List.mem_map.2 ⟨x, hx, rfl⟩
        obtain ⟨_, _, q3, q4, q5, q6, _⟩ := usd_in hm hxl
        obtain ⟨px, cx, e, _⟩ := id g2
        exact hhol_is ((hb'.cell (p := ⟨w.heap.size, 0, none⟩) (World.block_lt_of_cell? _ _ cB2)).trans cB2) ((hb'.cell (p := ⟨V.heap.size, 0, none⟩) (World.block_lt_of_cell? _ _ cC)).trans cC) e ⟨q4, by omega⟩ (by rw [g1, cut_len q4 q3 q5]; omega) ⟨by omega, by omega⟩)
      rw [hU.map] at C
      clear hR hW hF hU hP h hb cB hb1 hb2 cB2 hlen hwl hm
      generalize us.length = L at *
      generalize ixF (inO o n) 0 (usd l) = R at *
      go_enter Try.func47, Try.ntmps47
      go_wp2_with fail
      refine (C.out).mono ?_; rintro e w1 ⟨rfl, b1⟩
      have D1 := Lib.hid (below_more HB.out b1)
      go_wp2_with fail
      go_ret
      exact ⟨rfl, D1.out⟩

theorem mread_nil (o n : Int) (w : World) : Calls Try.prog 23 #[.pointer none, .int .i64 o, .int .i64 n] w fun e w' => e = .returned (.tuple #[.slice none 0 0, .int .i64 1]) ∧ Below w.heap.size w w' := by
  have C := Lib.hid (mhol_nil o n w)
  go_enter Try.func23, Try.ntmps23
  go_wp2_with fail
  refine (C.out).mono ?_; rintro e w1 ⟨rfl, b1⟩
  go_wp2_with fail
  go_ret2
  exact ⟨rfl, b1⟩
set_option maxHeartbeats 2000000 in
theorem mread_is {D : List Nat} {g : Nat} {wl : List Int} {l : List Bk} {r : Int} (o n : Int) (w : World) (h : Mo w D g wl l r) : Calls Try.prog 23 #[.pointer (some ⟨g, 0, none⟩), .int .i64 o, .int .i64 n] w fun e w' =>
    (∃ x, e = .returned (.tuple #[x, .int .i64 (refF wl o n)]) ∧ OwnA byE w.heap.size w' x (rdR wl o n)) ∧ Below w.heap.size w w' := by
  have C := Lib.hid (mhol_is o n w h)
  have hr := ref_of h.hB o n
  have hd : rdR wl o n = if (hoQ l o n).isSome = true then rdL wl o n else [] := by
    rw [rdR, hr]
    cases (hoQ l o n).isSome <;> rfl
  cases e : hoQ l o n with
  | none =>
    rw [e] at C hr hd
    rw [hr, hd]
    simp only [oi, Option.isSome_none, Bool.false_eq_true, if_false] at C ⊢
    clear h e hr hd
    go_enter Try.func23, Try.ntmps23
    go_wp2_with fail
    refine (C.out).mono ?_; rintro e w1 ⟨rfl, b1⟩
    go_wp2_with fail
    go_ret2
    exact ⟨⟨_, rfl, own_nil_by _ _⟩, b1⟩
  | some j =>
    rw [e] at C hr hd
    rw [hr, hd]
    simp only [oi, Option.isSome_some, if_true] at C ⊢
    obtain ⟨hlen, hwl, hm⟩ := h.len
    obtain ⟨v, us, hW, hR, hF, hU, hP⟩ := h.rows
    obtain ⟨hn, hj, h1, h2⟩ := hoQ_some e
    have hju : j < us.length := by rw [hU.len]; exact hj
    obtain ⟨hat, hmem⟩ := hU.at_ hju
    obtain ⟨_, hu, q3, q4, q5, q6, q7⟩ := usd_in hm (getD_mem hj)
    rw [← hat] at h1 h2 hu q3 q4 q5 q7
    obtain ⟨x1, x2, x3⟩ := hU.ws _ hmem
    obtain ⟨px, cx, hxv, _⟩ := id x2
    obtain ⟨b, off, cap, rfl, hlc, hld⟩ := ex_ld hR hju
    have c1 : ∀ w', Below w.heap.size w w' → w'.cell? ⟨g, 1, none⟩ = some (.slice (some ⟨b, off, none⟩) us.length cap) := fun w' hb => by rw [hb.cell (p := ⟨g, 1, none⟩) hW.lt, Whole.at_ hW]; rfl
    have hl1 := cut_len q4 q3 q5
    have hrd := cut_read q4 q3 q5 hn (by rw [← q7]; exact ⟨h1, h2⟩)
    have hk2 := wd_ok (cut_ok h.ok (us.getD j default).b)
    rw [← q7] at hrd
    have CR := Lib.hid (fun (w' : World) (hb : Below w.heap.size w w') => read_is (cut wl (us.getD j default).b) (us.getD j default).v (o - offB (us.getD j default).b.a) n w' (by rw [← x1]; exact ru_below x2 hb) hk2 (by omega) (by omega))
    rw [hrd] at CR
    have n1 : ((j : Int) == -1) = false := beq_eq_false_iff_ne.2 (by omega)
    have i0 : (0 : Int) ≤ (j : Int) := by omega
    have i1 : (j : Int) < (us.length : Int) := by omega
    have i2 : ¬ (j : Int) < 0 := by omega
    have hof : 8 ≤ offB (us.getD j default).b.a ∧ offB (us.getD j default).b.a ≤ 4104 := by omega
    obtain ⟨X, hX⟩ : ∃ X, us.getD j default = X := ⟨_, rfl⟩
    rw [hX] at hld CR hxv h1 h2 hof q4 q5
    have hX1 : X.v.oneCell' = true := by rw [hxv]; rfl
    obtain ⟨y, hy⟩ : ∃ y, offB X.b.a = y := ⟨_, rfl⟩
    have CO := Lib.hid (fun w => off_is X.b y hy w)
    rw [hy] at CR h1 hof
    obtain ⟨F, hF2⟩ : ∃ F, o - y = F := ⟨_, rfl⟩
    have i3 : IntKind.i64.wrap (o - y) = F := by rw [← hF2]; exact IntWalk.i64_in _ (by omega)
    rw [hF2] at CR
    generalize decide (InB (cut wl X.b).length F n) = q at *
    generalize rdL wl o n = B at *
    generalize X.ws.length = M at *
    clear hW hR hF hU hP h hlen hwl hm hn hj hju hat hmem hu q3 q4 q5 q6 q7 x1 x2 x3 hlc hl1 hrd hk2 hof hy hF2 hX h1 h2 e hr hd
    generalize us.length = L at *
    go_enter Try.func23, Try.ntmps23
    go_wp2_with fail
    refine (C.out).mono ?_; rintro e w1 ⟨rfl, b1⟩
    have d1 := c1 w1 b1
    have l1 := hld w1 b1
    have D1 := Lib.hid b1
    obtain ⟨W2, hW2, hst, HW2⟩ := ex_boxed w1 X hX1
    have D2 := Lib.hid (below_more b1 HW2.out.2)
    have e1 : ∀ w', Below W2.heap.size W2 w' → w'.cell? ⟨w1.heap.size, 3, none⟩ = some (.slice px M cx) := fun w' hb => ((HW2.out.1.below hb).c3).trans (by rw [hxv])
    have e2 : ∀ w', Below W2.heap.size W2 w' → (blkLoad (.pointer (some ⟨w1.heap.size, 0, none⟩))).run Try.prog w' = .ok (.agg (bc X.b)) w' := fun w' hb => (HW2.out.1.below hb).block
    rw [hxv] at CR
    generalize X.b = xb at *
    clear b1 C hld c1
    go_wp2_with fail
    go_region_held3 (fun w' => Below W2.heap.size W2 w')
      (first | assumption | exact (Below.refl _ _).drew | exact below_more ‹Below W2.heap.size W2 _› hbq | exact below_more ‹Below W2.heap.size W2 _› hby)
      (first
        | (go_at_call 49; refine (CO.out _).mono ?_; rintro e wq ⟨rfl, hbq⟩)
        | (go_at_call 48; refine (CR.out _ (below_more D2.out (by assumption))).mono ?_; rintro e wy ⟨⟨ux, rfl, ox⟩, hby⟩
           have OX := Lib.hid (ox.mono (B' := w.heap.size) (below_more D2.out (by assumption)).size)
           clear ox))
    have HH := Lib.hid (below_more D2.out ‹Below W2.heap.size W2 wy›)
    go_wp2
    go_ret2
    exact ⟨⟨_, rfl, OX.out⟩, HH.out⟩
end Go.Proofs.Ytkpefnjohdjejaa
