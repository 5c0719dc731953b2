/-
  Blocks of one size are taken till there is no room, as many as fit; given back in either order, all is one free block again. No conditions.
-/
import Derived.Test.YtkfkpjgijepjfaaZmc
import Derived.Test.YtkfkpjgijepjfaaZmd
namespace Go.Proofs.Ytkfkpjgijepjfaa.imageFills
set_option maxRecDepth 100000
open Go.Proofs.Ytkfkpjgijepjfaa Go.ChangeShapes Go.WideShapes Go.ChangeAt Go.RowKit

/-- where the blocks' bytes begin -/
def of1 (r j : Nat) : Int := (((j * r : Nat) : Int) + 1) * 8
def ofs (r k : Nat) : List Int := byF k (of1 r)
theorem ofs_snoc (r k : Nat) : ofs r (k + 1) = ofs r k ++ [of1 r k] := by simp [ofs, byF, List.range_succ]
theorem ofs_length (r k : Nat) : (ofs r k).length = k := byF_length ..

structure FS (W r : Nat) (w0 wr : World) (vw vo : Value) (k : Nat) : Prop where
  up : Below w0.heap.size w0 wr
  ex : ∃ wl l p f, RU wr vw wl ∧ wl.length = W ∧ WordsOk wl ∧ blkF wl = some l ∧ Fil W r k l p f
  of : OwnI w0.heap.size wr vo (ofs r k)

/-- is it still to be given back -/
def rem (back : Bool) (k i j : Nat) : Prop := if back = true then j < k - i else i ≤ j
structure GS (W r k : Nat) (back : Bool) (w0 wr : World) (vw : Value) (i : Nat) : Prop where
  up : Below w0.heap.size w0 wr
  ex : ∃ wl l, RU wr vw wl ∧ wl.length = W ∧ WordsOk wl ∧ blkF wl = some l ∧ cntU l + i = k ∧ ∀ j, j < k → rem back k i j → ∃ b ∈ l, b.u = true ∧ b.a = ((j * r : Nat) : Int)
/-- which one is next -/
def nxt (back : Bool) (k i : Nat) : Nat := if back = true then k - 1 - i else i
theorem FS.room {W r k : Nat} {w0 wr : World} {vw vo : Value} {N : Int} (h : FS W r w0 wr vw vo k) (hr : 2 ≤ r) (hN : needN N = r) (hroom : (k + 1) * r ≤ W) :
    ∃ wl E, RU wr vw wl ∧ 0 < wl.length ∧ wl.length ≤ 1000 ∧ WordsOk wl ∧ E.length ≤ 4000 ∧ alR wl N [] = (E, of1 r k, 0) ∧ (appF wl E).length = W ∧ WordsOk (appF wl E) ∧ ∃ l p f, blkF (appF wl E) = some l ∧ Fil W r (k + 1) l p f := by
  obtain ⟨wl, l, p, f, h1, h2, h3, h4, h5⟩ := h.ex
  have hm := blkF_some h4
  obtain ⟨h8, h9, _⟩ := (mayL_yes.1 hm).1
  rw [h2] at hm
  obtain ⟨q1, q2, p', f', q3⟩ := h5.yes (cs := []) hm hr hroom
  obtain ⟨_, hcan, _⟩ := chN_can hm q1 (by omega)
  have hT := taken h4 h3 hcan
  obtain ⟨g1, _, _, _, _, _, _, _, g2⟩ := hT
  refine ⟨wl, cedF l k r, h1, by omega, by omega, h3, Nat.le_trans (ced_len hm hcan) (by omega), ?_, by rw [g2.len, h2], g2.ok, _, p', f', g1, q3⟩
  have ek : (k + 1) * r = k * r + r := by rw [Nat.add_mul, Nat.one_mul]
  rw [alR_some h4 (by rw [hN]; omega) (by rw [hN]; exact q1), hN, q2, offB_at (by omega) (by omega)]
  rfl
theorem FS.full {W r k : Nat} {w0 wr : World} {vw vo : Value} {N : Int} (h : FS W r w0 wr vw vo k) (hr : 2 ≤ r) (hN : needN N = r) (hroom : ¬ (k + 1) * r ≤ W) :
    ∃ wl, RU wr vw wl ∧ wl.length ≤ 1000 ∧ WordsOk wl ∧ alR wl N [] = ([], 0, 4) ∧ W / r = k ∧ ∀ back w', Below wr.heap.size wr w' → GS W r k back w0 w' vw 0 := by
  obtain ⟨wl, l, p, f, h1, h2, h3, h4, h5⟩ := h.ex
  have hm := blkF_some h4
  obtain ⟨h8, h9, _⟩ := (mayL_yes.1 hm).1
  obtain ⟨q1, q2⟩ := h5.no (cs := []) (by omega)
  obtain ⟨c1, c2⟩ := h5.cnt
  refine ⟨wl, h1, by omega, h3, alR_none h4 (by rw [hN]; omega) (by rw [hN]; exact q1), ?_, fun back w' hb => ⟨below_more h.up hb, wl, l, ru_below h1 hb, h2, h3, h4, by omega, fun j hj _ => c2 j hj⟩⟩
  have e1 : k ≤ W / r := (Nat.le_div_iff_mul_le (by omega)).2 q2
  have e2 : W / r < k + 1 := (Nat.div_lt_iff_lt_mul (by omega)).2 (by omega)
  omega
theorem FS.more {W r k : Nat} {w0 wr w2 w3 w4 : World} {vw vo v3 v4 : Value} {wl : List Int} {E : List Ed} (h : FS W r w0 wr vw vo k) (hb : Below wr.heap.size wr w2) (hb3 : Below w2.heap.size w2 w3) (o3 : OwnU w2.heap.size w3 v3 (appF wl E))
    (hlen : (appF wl E).length = W) (hok : WordsOk (appF wl E)) (hblk : ∃ l p f, blkF (appF wl E) = some l ∧ Fil W r (k + 1) l p f) (hown : OwnI w0.heap.size w4 v4 (ofs r k ++ [of1 r k]))
    (hg : (w3.alloc (.cells #[.int .i64 (of1 r k)] 3)).grownBy w4 vo.ownBlock) : FS W r w0 w4 v3 v4 (k + 1) := by
  obtain ⟨l, p, f, g1, g2⟩ := hblk
  have hB := below_more (below_more h.up hb) hb3
  refine ⟨Below.grown (bal hB) hg (by rw [size_alloc]; exact Nat.le_succ_of_le hB.size) (fun q hq => (World.ownsRow.lt h.of q hq).1), ⟨appF wl E, l, p, f, ?_, hlen, hok, g1, g2⟩, by rw [ofs_snoc]; exact hown⟩
  have o4 : OwnU w2.heap.size (w3.alloc (.cells #[.int .i64 (of1 r k)] 3)) v3 (appF wl E) := World.ownsRow.alloc o3 _
  refine OwnU.ru (World.ownsRow.kept o4 hg ?_)
  cases e : v3.ownBlock with
  | none => exact .inl rfl
  | some b =>
    refine .inr fun q => ?_
    have l1 := (World.ownsRow.lt o3 b e).1
    have l2 := (World.ownsRow.lt h.of b q.symm).2
    have := hb.size
    omega

theorem GS.step {W r k : Nat} {back : Bool} {w0 wr : World} {vw : Value} {i : Nat} (h : GS W r k back w0 wr vw i) (hi : i < k) (hr : 2 ≤ r) :
    ∃ wl X, RU wr vw wl ∧ wl.length = W ∧ WordsOk wl ∧ 0 < wl.length ∧ wl.length ≤ 1000 ∧ frR wl (of1 r (nxt back k i)) = ([X], 0) ∧ ∀ vw' w', Below wr.heap.size wr w' → RU w' vw' (appF wl [X]) → GS W r k back w0 w' vw' (i + 1) := by
  obtain ⟨wl, l, h1, h2, h3, h4, h5, h6⟩ := h.ex
  have hm := blkF_some h4
  obtain ⟨h8, h9, _⟩ := (mayL_yes.1 hm).1
  have hn : nxt back k i < k ∧ rem back k i (nxt back k i) := by
    unfold nxt rem
    cases back
    · exact ⟨hi, Nat.le_refl _⟩
    · rw [if_pos rfl, if_pos rfl]; omega
  obtain ⟨b, hb, hu, ha⟩ := h6 _ hn.1 hn.2
  obtain ⟨kk, q1, q2, q3⟩ := used_at hm hb hu
  have hbi := mayF_sizes (mayL_yes.1 hm).2 b hb
  obtain ⟨⟨b1, _⟩, b2, b3⟩ := hbi
  have ho : offB b.a = of1 r (nxt back k i) := by rw [offB_at b2 (by omega), ha]; rfl
  rw [ho] at q1
  have hcan := isN_can h4 q1
  obtain ⟨g1, g2, g3, _⟩ := given h4 h3 hcan
  refine ⟨wl, medF l kk, h1, h2, h3, by omega, by omega, frR_some h4 q1, fun vw' w' hbw hru => ⟨below_more h.up hbw, _, _, hru, by rw [g2, h2], g3, g1, ?_, fun j hj hrem => ?_⟩⟩
  · have := (mrg_counts hcan).1
    omega
  · have hne : j ≠ nxt back k i ∧ rem back k i j := by
      unfold nxt
      unfold rem at hrem ⊢
      cases back
      · rw [if_neg Bool.false_ne_true] at hrem ⊢
        rw [if_neg Bool.false_ne_true]
        omega
      · rw [if_pos rfl] at hrem ⊢
        rw [if_pos rfl]
        omega
    obtain ⟨c, hc, hcu, hca⟩ := h6 j hj hne.2
    refine ⟨c, mrg_keeps hcan hc hcu ?_, hcu, hca⟩
    rw [q3, hca, ha]
    intro e
    have e2 : j * r = nxt back k i * r := by omega
    exact hne.1 (Nat.eq_of_mul_eq_mul_right (by omega) e2)

set_option maxHeartbeats 4000000 in
theorem near (a0 a1 : Int) (back : Bool) (w : World) :
    Calls Try.prog 6 #[.int .i64 a0, .int .i64 a1, .bool back] w fun e w' => e = .returned (.bool true) ∧ Below w.heap.size w w' := by
  obtain ⟨u0, hu0, _⟩ := u64_nat a0
  obtain ⟨u1, hu1, _⟩ := u64_nat a1
  obtain ⟨q0, hq0⟩ : ∃ q, u0 % 64 = q := ⟨_, rfl⟩
  obtain ⟨q1, hq1⟩ : ∃ q, u1 % 448 = q := ⟨_, rfl⟩
  have t0 : (u0 : Int).tmod 64 = (q0 : Int) := by rw [← hq0]; exact tmod_nat u0 64
  have t1 : (u1 : Int).tmod 448 = (q1 : Int) := by rw [← hq1]; exact tmod_nat u1 448
  have s0 : IntKind.i64.wrap (q0 : Int) = (q0 : Int) := i64_nat _ (by omega)
  have s1 : IntKind.i64.wrap (q1 : Int) = (q1 : Int) := i64_nat _ (by omega)
  obtain ⟨L, hL⟩ : ∃ L, 1 + q0 = L := ⟨_, rfl⟩
  obtain ⟨N, hN⟩ : ∃ L, 1 + q1 = L := ⟨_, rfl⟩
  obtain ⟨W, hW⟩ : ∃ W, 8 * L = W := ⟨_, rfl⟩
  have p0 : IntKind.i64.wrap (1 + (q0 : Int)) = (L : Int) := by rw [show 1 + (q0 : Int) = (L : Int) by omega]; exact i64_nat _ (by omega)
  have p1 : IntKind.i64.wrap (1 + (q1 : Int)) = (N : Int) := by rw [show 1 + (q1 : Int) = (N : Int) by omega]; exact i64_nat _ (by omega)
  have p2 : IntKind.i64.wrap (8 * (L : Int)) = (W : Int) := by rw [show 8 * (L : Int) = (W : Int) by omega]; exact i64_nat _ (by omega)
  obtain ⟨r, hr⟩ : ∃ r : Nat, needN N = r := ⟨(needN N).toNat, by unfold needN; rw [if_pos (by omega)]; omega⟩
  have hr2 : 2 ≤ r := by
    unfold needN at hr
    rw [if_pos (by omega)] at hr
    omega
  have hMw : Mw W := ⟨by omega, by omega, by omega⟩
  obtain ⟨f1, f2, f3⟩ := first_blk hMw
  have C1 := Lib.hid (fun w' => first_is W w')
  have CN := Lib.hid (fun w' => rneed_is N w')
  rw [hr] at CN
  have HR := Lib.hid (And.intro hr2 (show 8 ≤ W ∧ W ≤ 512 by omega))
  have HN := Lib.hid hr
  have HF := Lib.hid (show ∃ l p f, blkF (firstL W) = some l ∧ Fil W r 0 l p f from ⟨_, _, _, f1, Fil.zero (by omega)⟩)
  have HF2 := Lib.hid (And.intro f2 f3)
  clear hq0 hq1 hL hN hW hr hr2 hMw f1 f2 f3
  go_enter Try.func6, Try.ntmps6
  go_wp2_with fail
  refine (C1.out _).mono ?_; rintro e w1 ⟨⟨v1, rfl, o1⟩, b1⟩
  have HS : Hid (FS W r w w1 v1 (.slice none 0 0) 0) := Lib.hid (by
    obtain ⟨l, p, f, g1, g2⟩ := HF.out
    exact ⟨b1, ⟨_, l, p, f, o1.ru, HF2.out.1, HF2.out.2, g1, g2⟩, ownI_nil' _ _⟩)
  clear b1 o1 C1 HF HF2 hu0 hu1 t0 t1 s0 s1 p0 p1
  go_wp2
  go_loopw [7, 8, 31] (fun vw vo i wr => ∃ k : Nat, i = .int .i64 k ∧ Hid (FS W r w wr vw vo k)) (fun _ _ i _ => 600 - (intOf i).toNat)
  case atStart => exact ⟨0, rfl, HS⟩
  case round =>
    obtain ⟨k, rfl, H⟩ := hrel
    have hkW : k * r ≤ W := by
      obtain ⟨_, _, _, _, _, _, _, _, hf⟩ := H.out.ex
      rcases hf.end_ with ⟨_, h⟩ | ⟨_, h, _⟩ <;> omega
    have hk6 : k < 300 := by
      have h2 : k * 2 ≤ k * r := Nat.mul_le_mul_left k HR.out.1
      have := HR.out.2.2
      omega
    have i1 : (k : Int) < 600 := by omega
    have i3 : IntKind.i64.wrap ((k : Int) + 1) = ((k + 1 : Nat) : Int) := by rw [show (k : Int) + 1 = ((k + 1 : Nat) : Int) by omega]; exact i64_nat _ (by omega)
    have HK := Lib.hid hk6
    by_cases hroom : (k + 1) * r ≤ W
    · obtain ⟨wl, E, h1, h2, h3, h4, h5, h6, h7, h8, h9⟩ := H.out.room HR.out.1 HN.out hroom
      have CA := Lib.hid (al_is wl N [] u7 (.slice none 0 0) wr h1 h3 h4 (ri_nil wr))
      rw [h6] at CA
      simp only at CA
      have CP := Lib.hid (fun u w' (hb : Below wr.heap.size wr w') (hu : RA edE w' u E) => rapply_is wl E u7 u w' (ru_below h1 hb) hu h2 h3 h5)
      have MORE : Hid (∀ w2 w3 w4 v3 v4, Below wr.heap.size wr w2 → Below w2.heap.size w2 w3 → OwnU w2.heap.size w3 v3 (appF wl E) → OwnI w.heap.size w4 v4 (ofs r k ++ [of1 r k]) → (w3.alloc (.cells #[.int .i64 (of1 r k)] 3)).grownBy w4 u8.ownBlock → FS W r w w4 v3 v4 (k + 1)) := Lib.hid fun w2 w3 w4 v3 v4 a b c d e => H.out.more a b c h7 h8 h9 d e
      have OF := Lib.hid (fun w' (hb : Below wr.heap.size wr w') => own_below_i' H.out.of hb)
      have HLN : Hid ((ofs r k).length + 1 ≤ 1000000) := Lib.hid (by rw [ofs_length]; have := HK.out; omega)
      have HUP := Lib.hid H.out.up
      clear h1 h2 h3 h4 h5 h6 h7 h8 h9 hroom hkW H hk6
      generalize of1 r k = x at *
      generalize ofs r k = OL at *
      generalize appF wl E = W1 at *
      go_wp2_with fail
      refine (CA.out).mono ?_; rintro e w2 ⟨⟨v2, rfl, o2⟩, b2⟩
      have B2 := Lib.hid b2
      have O2 := Lib.hid o2.ra
      clear o2 b2 CA
      go_wp2_with fail
      refine (CP.out _ _ B2.out O2.out).mono ?_; rintro e w3 ⟨⟨v3, rfl, o3⟩, b3⟩
      have B3 := Lib.hid b3
      have O3 := Lib.hid o3
      have OO := Lib.hid (World.ownsRow.alloc (OF.out w3 (below_more B2.out b3)) (.cells #[.int .i64 x] 3))
      have HB1 : Hid (w.heap.size ≤ (w3.alloc (.cells #[.int .i64 x] 3)).heap.size) := Lib.hid (by
        rw [size_alloc]
        have := HUP.out.size
        have := B2.out.size
        have := b3.size
        omega)
      clear o3 b3 CP O2 OF
      go_wp2_with (at_builtin; refine list_app_int (o := ⟨some 55, _, _, _, _, _⟩) rfl (.tmp 52) (.tmp 54) rfl w.heap.size _ OL rfl OO.out _ [x] rfl (ri_one _ _) HLN.out HB1.out ?_; intro v4 w4 hown hg _)
      have HN4 := Lib.hid (MORE.out _ _ _ _ _ B2.out B3.out O3.out hown hg)
      clear hown hg
      go_wp2
      go_roundw
      case rel => exact ⟨k + 1, by go_num, HN4⟩
      case measure => have := HK.out; simp [intOf]; omega
    · obtain ⟨wl, h1, h2, h3, h4, h5, h6⟩ := H.out.full HR.out.1 HN.out hroom
      have CA := Lib.hid (al_is wl N [] u7 (.slice none 0 0) wr h1 h2 h3 (ri_nil wr))
      rw [h4] at CA
      simp only at CA
      have GS0 := Lib.hid (h6 back)
      have OF := Lib.hid (fun w' (hb : Below wr.heap.size wr w') => (own_below_i' H.out.of hb).ri)
      have d1 : (W : Int).tdiv (r : Int) = (k : Int) := by rw [tdiv_nat, h5]
      have d2 : ((k : Int) != (k : Int)) = false := by simp
      have d3 : IntKind.i64.wrap (k : Int) = (k : Int) := i64_nat _ (by omega)
      have d4 : ¬ (r : Int) = 0 := by have := HR.out.1; omega
      have d5 : ((r : Int) == 0) = false := beq_eq_false_iff_ne.2 d4
      obtain ⟨po, co, rfl⟩ := H.out.of.shape
      rw [ofs_length] at OF ⊢
      clear h1 h2 h3 h4 h5 h6 hroom hkW H hk6
      obtain ⟨wo, rfl⟩ : ∃ x, x = wr := ⟨_, rfl⟩
      go_wp2_with fail
      refine (CA.out).mono ?_; rintro e w2 ⟨⟨v2, rfl, o2⟩, b2⟩
      have B2 := Lib.hid b2
      obtain ⟨p2, c2, rfl, _, _⟩ := o2.shape
      clear o2 b2 CA
      simp only [List.length_nil]
      go_wp2_with fail
      refine (CN.out _).mono ?_; rintro e w3 ⟨rfl, rfl⟩
      have GS1 := Lib.hid (GS0.out w2 B2.out)
      have RO := Lib.hid (fun w' (hb : Below w2.heap.size w2 w') => ri_below (OF.out w2 B2.out) hb)
      clear GS0 OF B2 CN
      go_wp2
      go_loopw [7, 78] (fun vw i wr => ∃ j : Nat, i = .int .i64 j ∧ j ≤ k ∧ Hid (Below w2.heap.size w2 wr ∧ GS W r k back w wr vw j)) (fun _ i _ => k - (intOf i).toNat)
      case atStart => exact ⟨0, rfl, Nat.zero_le _, Lib.hid ⟨Below.refl _ _, GS1.out⟩⟩
      case round =>
        obtain ⟨j, rfl, hjk, G⟩ := hrel
        by_cases hlt : j < k
        · obtain ⟨wl, X, h1, h2, h3, h4, h5, h6, h7⟩ := G.out.2.step hlt HR.out.1
          have CF := Lib.hid (fr_is wl (of1 r (nxt back k j)) u7 wr h1 h5 h3)
          rw [h6] at CF
          simp only at CF
          have CP := Lib.hid (fun u w' (hb : Below wr.heap.size wr w') (hu : RA edE w' u [X]) => rapply_is wl [X] u7 u w' (ru_below h1 hb) hu h4 h5 (by simp))
          have NX := Lib.hid h7
          have BB := Lib.hid G.out.1
          obtain ⟨bo, oo, rfl, _, hfr⟩ := ri_some (RO.out wr G.out.1) (by rw [ofs_length]; omega)
          have c1 := hfr j (by rw [ofs_length]; exact hlt)
          have c2 := hfr (k - 1 - j) (by rw [ofs_length]; omega)
          unfold ofs at c1 c2
          rw [byF_getD _ hlt] at c1
          rw [byF_getD _ (by omega)] at c2
          have i0 : (j : Int) < (k : Int) := by omega
          have i1 : (0 : Int) ≤ (j : Int) := by omega
          have i2 : ¬ (j : Int) < 0 := by omega
          have i3 : IntKind.i64.wrap ((j : Int) + 1) = ((j + 1 : Nat) : Int) := by rw [show (j : Int) + 1 = ((j + 1 : Nat) : Int) by omega]; exact i64_nat _ (by have := HK.out; omega)
          obtain ⟨z, hz⟩ : ∃ z, k - 1 = z := ⟨_, rfl⟩
          obtain ⟨y, hy⟩ : ∃ y, z - j = y := ⟨_, rfl⟩
          have i4 : IntKind.i64.wrap ((k : Int) - 1) = (z : Int) := by rw [show (k : Int) - 1 = (z : Int) by omega]; exact i64_nat _ (by have := HK.out; omega)
          have i5 : IntKind.i64.wrap ((z : Int) - (j : Int)) = (y : Int) := by rw [show (z : Int) - (j : Int) = (y : Int) by omega]; exact i64_nat _ (by have := HK.out; omega)
          have i6 : (y : Int) < (k : Int) := by omega
          have i7 : (0 : Int) ≤ (y : Int) := by omega
          have i8 : ¬ (y : Int) < 0 := by omega
          have HJ := Lib.hid hlt
          have HNX : Hid (nxt back k j = if back = true then y else j) := Lib.hid (by unfold nxt; rw [hz, hy])
          rw [hz, hy] at c2
          rw [HNX.out] at CF
          clear h1 h2 h3 h4 h5 h6 h7 hfr hlt hjk hz hy HNX
          cases back
          · rw [if_neg Bool.false_ne_true] at CF
            generalize of1 r j = x at *
            go_wp2_with fail
            refine (CF.out).mono ?_; rintro e w4 ⟨⟨v4, rfl, o4⟩, b4⟩
            have B4 := Lib.hid b4
            have O4 := Lib.hid o4.ra
            clear o4 b4 CF
            go_wp2_with fail
            refine (CP.out _ _ B4.out O4.out).mono ?_; rintro e w5 ⟨⟨v5, rfl, o5⟩, b5⟩
            have HN5 := Lib.hid (And.intro (below_more BB.out (below_more B4.out b5)) (NX.out v5 w5 (below_more B4.out b5) o5.ru))
            clear o5 b5 CP
            go_wp2
            go_roundw
            case rel => exact ⟨j + 1, by go_num, by have := HJ.out; omega, HN5⟩
            case measure => have := HJ.out; simp [intOf]; omega
          · rw [if_pos rfl] at CF
            generalize of1 r j = x at *
            generalize of1 r y = x2 at *
            go_wp2_with fail
            refine (CF.out).mono ?_; rintro e w4 ⟨⟨v4, rfl, o4⟩, b4⟩
            have B4 := Lib.hid b4
            have O4 := Lib.hid o4.ra
            clear o4 b4 CF
            go_wp2_with fail
            refine (CP.out _ _ B4.out O4.out).mono ?_; rintro e w5 ⟨⟨v5, rfl, o5⟩, b5⟩
            have HN5 := Lib.hid (And.intro (below_more BB.out (below_more B4.out b5)) (NX.out v5 w5 (below_more B4.out b5) o5.ru))
            clear o5 b5 CP
            go_wp2
            go_roundw
            case rel => exact ⟨j + 1, by go_num, by have := HJ.out; omega, HN5⟩
            case measure => have := HJ.out; simp [intOf]; omega
        · obtain rfl : j = k := by omega
          obtain ⟨wl, l, h1, h2, h3, h4, h5, _⟩ := G.out.2.ex
          have hl : l = [⟨0, W, false⟩] := by
            have hm := blkF_some h4
            rw [h2] at hm
            exact none_used hm (by omega)
          subst hl
          have CB := Lib.hid (blocks_is wl u7 _ wr h1 (by have := HR.out.2.2; omega) h3 h4)
          simp only [Option.isSome_some, Option.getD_some] at CB
          have D0 := Lib.hid G.out.2.up
          clear h1 h2 h3 h4 h5 hlt hjk
          go_wp2_with fail
          refine (CB.out).mono ?_; rintro e w4 ⟨⟨v4, rfl, o4⟩, b4⟩
          obtain ⟨p4, c4, rfl, _, _⟩ := o4.shape
          have D4 := Lib.hid (below_more D0.out b4)
          clear o4 b4 CB
          simp only [List.length_singleton]
          go_wp2_with fail
          refine (awake_any _).mono ?_; rintro e w5 ⟨rfl, b5⟩
          have D5 := Lib.hid (below_more D4.out b5)
          clear b5
          go_wp2_with fail
          go_ret
          exact ⟨rfl, D5.out⟩

theorem walk (a0 a1 : Int) (a2 : Bool) (w : World) (_h0 : (Lit.int .i64 a0).wf = true) (_h1 : (Lit.int .i64 a1).wf = true) :
    Calls Try.prog 6 #[.int .i64 a0, .int .i64 a1, .bool a2] w fun e w' => e = .returned (.bool true) ∧ Below w.heap.size w w' := near a0 a1 a2 w

set_option maxRecDepth 100000 in
theorem lifted (os : Os) (started : os.Started) (H : Type) (enc : TypeId × Value → H) :
    ReturnsInHanded {} Try.checked os 6 .any (Rows.imageFillsSpec.pre6 enc Try.prog Try.f6 Rows.imageFillsRow.domain false) (Rows.imageFillsSpec.post enc Try.prog Try.f6 false true false false) := by
  refine returnsInHanded_of_change (C := Try.checked) own started (by kernel_rfl) Try.func6
    (ChangeSpec.witness6 (enc := enc) (C := Try.checked) false ⟨#[], #[.int .i64 0, .int .i64 0, .bool false], []⟩ 8 (by kernel_rfl) (by kernel_rfl) (by kernel_rfl) (by kernel_rfl)) ?_
  intro W base args ds gs before hval0 hW hcnd _
  have hval : ∀ (j : Nat) t v, Try.f6.params[j]? = some t → args[j]? = some v → Value.okWide Try.prog W .any base t v := hval0
  have hW' := hW
  have hlt := hW.lt
  obtain ⟨p, q, hA0, hV, hpq, hfz, hnd⟩ := hW
  have hA : DataW.TrodAll enc Try.prog W 0 (fun _ => true) true Try.f6.params.toList args.toList ds p := hA0
  rw [Try.params6] at hA hval
  obtain ⟨v0, vs0, d0, ds0, p0, q0, hargs, rfl, hp, h0, r0⟩ := trodAll_cons hA
  obtain ⟨v1, vs1, d1, ds1, p1, q1, rfl, rfl, rfl, h1, r1⟩ := trodAll_cons r0
  obtain ⟨v2, vs2, d2, ds2, p2, q2, rfl, rfl, rfl, h2, r2⟩ := trodAll_cons r1
  obtain ⟨rfl, rfl, rfl⟩ := trodAll_nil r2
  obtain rfl : args = #[v0, v1, v2] := by cases args; simp_all
  obtain ⟨rfl, rfl⟩ := trodVars_none hV
  have hlt' : ∀ x ∈ before, x.block < W.heap.size := fun x hx => hlt x hx
  obtain ⟨a0, rfl, rfl, rfl, w0⟩ := open_int Try.underlying3 (hval 0 3 v0 rfl rfl) h0
  obtain ⟨a1, rfl, rfl, rfl, w1⟩ := open_int Try.underlying3 (hval 1 3 v1 rfl rfl) h1
  obtain ⟨a2, rfl, rfl, rfl⟩ := open_bool Try.underlying4 (hval 2 4 v2 rfl rfl) h2
  refine (walk a0 a1 a2 W w0 w1).mono fun e W' ⟨he, hb⟩ => ?_
  subst he
  exact ⟨_, rfl, law_post rfl (by kernel_rfl) hW' (by rw [Try.params6]; intro t ht; simp only [List.mem_cons, List.not_mem_nil, or_false] at ht; (repeat' (first | (rcases ht with rfl | ht) | subst ht)) <;> exact ⟨by kernel_rfl, of_decide_eq_true (by kernel_rfl)⟩) rfl hb⟩

theorem over : Rows.imageFillsRow.holds Try.pinned (OpenSpec.ofChange Rows.imageFillsSpec) :=
  OpenClaim.holds_of_wide 6 Try.f6 rfl rfl rfl rfl rfl rfl rfl ⟨rfl, rfl, rfl, rfl, rfl⟩ rfl rfl rfl rfl rfl (by kernel_rfl) Try.func6 (by kernel_rfl)
    (of_decide_eq_true (by kernel_rfl)) (by unfold Func.isWrapper; first | (rw [if_pos (by decide +kernel)]; kernel_rfl) | (rw [if_neg (by decide +kernel)]; exact ⟨rfl, rfl⟩))
    (fun os started H enc _ => lifted os started H enc)

theorem proved : Rows.ImageFillsSaid := over
end Go.Proofs.Ytkfkpjgijepjfaa.imageFills
