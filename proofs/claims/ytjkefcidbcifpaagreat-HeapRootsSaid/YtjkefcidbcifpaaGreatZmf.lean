import Derived.Deep.RegionLaw
import Derived.Test.YtjkefcidbcifpaaGreatZme
set_option maxRecDepth 100000
set_option maxHeartbeats 8000000
namespace Go.Proofs.YtjkefcidbcifpaaGreat
open Go.ChangeShapes Go.WideShapes Go.ChangeAt Go.RowKit
theorem heavy21b {W0 w : World} (l : List Px) (lim : List Int) (v u : Value) (hv : RA (opE W0) w v l) (hu : RI w u lim) :
 Calls Tryz.prog 12 #[v, u] w fun e w' => (∃ r : Nat, e = .returned (.int .i64 (r : Int)) ∧ r ≤ 81 ∧ (r = 0 → Light l lim)) ∧ Below w.heap.size w w' := by
 have HV := Lib.hid hv
 obtain ⟨p, cap, rfl, h1, h2⟩ := ra_shape hv
 obtain ⟨p2, cap2, rfl, h3, h4, _⟩ := hu
 unfold maxLen at h2 h4
 by_cases c2 : 200 < lim.length
 · have i2 : (lim.length : Int) > 200 := by omega
   clear hv h1 h2 h3 h4 c2
   generalize lim.length = L2 at *
   generalize l.length = L at *
   go_enter Tryz.func12, Tryz.ntmps12
   go_wp2_with fail
   go_ret
   exact ⟨⟨1, rfl, by decide, fun h => by cases h⟩, Below.refl _ _⟩
 have i2 : ¬ (lim.length : Int) > 200 := by omega
 have HL2 : Hid (lim.length ≤ 200) := Lib.hid (by omega)
 clear hv h1 h2 h3 h4 c2
 generalize hm : lim.length = L2 at *
 have HM := Lib.hid hm
 clear hm
 obtain ⟨L, hL⟩ : ∃ L, l.length = L := ⟨_, rfl⟩
 have HLL := Lib.hid hL
 rw [hL]
 clear hL
 go_enter Tryz.func12, Tryz.ntmps12
 go_wp2
 go_loopw [12] (fun i wr => ∃ k : Nat, k ≤ L ∧ i = .int .i64 k ∧ Hid (Below w.heap.size w wr ∧ k ≤ 80 ∧ ∀ j, j < k → (l.getD j default).bl.length ≤ 500)) (fun i _ => L - (intOf i).toNat)
 case atStart => exact ⟨0, Nat.zero_le _, rfl, Lib.hid ⟨Below.refl _ _, by omega, fun j hj => by omega⟩⟩
 case round =>
  obtain ⟨k, hk, rfl, H⟩ := hrel
  by_cases hlt : k < L
  · obtain ⟨b, off, hpp, hb, hx⟩ := px_at (ra_below HV.out H.out.1) (by rw [HLL.out]; omega)
    subst hpp
    obtain ⟨hld, hwf⟩ := hx k (by rw [HLL.out]; exact hlt)
    have HX := Lib.hid (show ∀ j, j < k + 1 → ((l.getD k default).bl.length ≤ 500 → (l.getD j default).bl.length ≤ 500) from fun j hj hh => by
     by_cases e : j = k
     · subst e; exact hh
     · exact H.out.2.2 j (by omega))
    have hvl : ∃ q c, (l.getD k default).v = .slice q (l.getD k default).bl.length c := by
     obtain ⟨q, c, e, _⟩ := ra_shape hwf.rv
     exact ⟨q, c, e⟩
    have hone := hwf.one
    generalize l.getD k default = x at *
    obtain ⟨W1, hW1, hst, HB⟩ := px_boxed wr x hone
    have c4 := HB.out.1.c4
    obtain ⟨q, c, hvv⟩ := hvl
    rw [hvv] at c4
    have B1 := Lib.hid (below_more H.out.1 HB.out.2)
    have HK := Lib.hid (And.intro hlt H.out.2.1)
    have i0 : (0 : Int) ≤ (k : Int) := by omega
    have i1 : (k : Int) < (L : Int) := by omega
    have i3 : ¬ (k : Int) < 0 := by omega
    have i4 : IntKind.i64.wrap ((k : Int) + 1) = ((k + 1 : Nat) : Int) := by rw [show (k : Int) + 1 = ((k + 1 : Nat) : Int) by omega]; exact i64_nat _ (by have := HK.out; omega)
    generalize hbl : x.bl.length = n at *
    by_cases c8 : 80 ≤ k
    · have i5 : (k : Int) ≥ 80 := by omega
      clear hx hb hk hlt hwf hone hvv hbl H HX c8
      go_wp2
      go_ret
      exact ⟨⟨k + 1, rfl, by have := HK.out; omega, fun h => by omega⟩, B1.out⟩
    have i5 : ¬ (k : Int) ≥ 80 := by omega
    have i5' : ¬ 80 ≤ k := c8
    by_cases c5 : 500 < n
    · have i6 : (n : Int) > 500 := by omega
      have i6' : 500 < n := c5
      clear hx hb hk hlt hwf hone hvv hbl H HX c8 c5
      go_wp2
      go_ret
      exact ⟨⟨k + 1, rfl, by have := HK.out; omega, fun h => by omega⟩, B1.out⟩
    · have i6 : ¬ (n : Int) > 500 := by omega
      have i6' : ¬ 500 < n := c5
      have HN : Hid (Below w.heap.size w W1 ∧ k + 1 ≤ 80 ∧ ∀ j, j < k + 1 → (l.getD j default).bl.length ≤ 500) := Lib.hid ⟨B1.out, by omega, fun j hj => HX.out j hj (by omega)⟩
      clear hx hb hk hlt hwf hone hvv hbl H HX c8 c5
      go_wp2
      go_roundw
      case rel => exact ⟨k + 1, by have := HK.out; omega, by go_num, HN⟩
      case measure => have := HK.out; simp [intOf]; omega
  · obtain rfl : k = L := by omega
    have HF : Hid (Light l lim ∧ Below w.heap.size w wr) := Lib.hid ⟨⟨by rw [HM.out]; exact HL2.out, by rw [HLL.out]; exact H.out.2.1, fun j hj => H.out.2.2 j (by rw [HLL.out] at hj; exact hj)⟩, H.out.1⟩
    clear H
    go_wp2
    go_ret
    exact ⟨⟨0, rfl, by decide, fun _ => HF.out.1⟩, HF.out.2⟩
theorem Hp.dlt {w : World} {a : Ha} {S : Hs} (h : Hp w a S) : ∀ k ∈ a.D, k < w.heap.size := by
 intro k hk
 simp only [Ha.D, List.mem_cons, List.not_mem_nil, or_false] at hk
 rcases hk with rfl | rfl | rfl | rfl
 · exact h.hb.lt
 · exact h.hb.lg.nm.lt
 · exact Whole.lt h.hb.lg.tq
 · exact h.cq.ltg

def Teq (s t : Ct) : Prop := s.n = t.n ∧ ∀ q, q < s.n → s.c q = t.c q
theorem Teq.ints {s t : Ct} (h : Teq s t) : s.ints = t.ints := by
 unfold Ct.ints
 rw [← h.1]
 unfold byF
 exact List.map_congr_left fun q hq => by rw [h.2 q (List.mem_range.1 hq)]
theorem Teq.nts {s t : Ct} (h : Teq s t) (L : List Nat) : Teq (nts s L) (nts t L) := by
 refine ⟨by rw [nts_n, nts_n, h.1], fun q hq => ?_⟩
 rw [nts_n] at hq
 rw [nts_c, nts_c, h.2 q hq]
def Apa (a b : Ha) : Prop := a.z ∉ b.D ∧ a.g ∉ b.D ∧ a.y ∉ b.D ∧ a.q ∉ b.D ∧ a.x ∉ b.D ∧ a.k ∉ b.D ∧ a.kg ∉ b.D
theorem Hp.apart {w w' : World} {a b : Ha} {S : Hs} (h : Hp w a S) (q : Apa a b) (hc : Chg b.D w w') : Hp w' a S := h.chg hc q.1 q.2.1 q.2.2.1 q.2.2.2.1 q.2.2.2.2.1 q.2.2.2.2.2.1 q.2.2.2.2.2.2
structure Two (w0 wi : World) (a1 a2 : Ha) (K : Nat) (S1 S2 : Hs) (X : List Int) (r : Nat) : Prop where
 p1 : Hp wi a1 S1
 i1 : HI a1 S1 K X r
 f1 : Free S1.s ∧ S1.worn = false
 p2 : Hp wi a2 S2
 i2 : HI a2 S2 K X r
 f2 : Free S2.s ∧ S2.worn = false
 t : Teq S1.ct S2.ct
 b : Below w0.heap.size w0 wi
 lo1 : ∀ k ∈ a1.D, w0.heap.size ≤ k
 lo2 : ∀ k ∈ a2.D, w0.heap.size ≤ k
 far1 : Apa a1 a2
 far2 : Apa a2 a1
theorem Two.below {w0 wi w' : World} {a1 a2 : Ha} {K : Nat} {S1 S2 : Hs} {X : List Int} {r : Nat} (h : Two w0 wi a1 a2 K S1 S2 X r) (hb : Below wi.heap.size wi w') : Two w0 w' a1 a2 K S1 S2 X r :=
 ⟨h.p1.below hb, h.i1, h.f1, h.p2.below hb, h.i2, h.f2, h.t, below_more h.b hb, h.lo1, h.lo2, h.far1, h.far2⟩
structure Half (W w' : World) (a1 : Ha) (K : Nat) (S1 : Hs) (X : List Int) (r : Nat) (x : Px) (pl : Aim) (v : Value) : Prop where
 own : ∃ S1', Hp w' a1 S1' ∧ HI a1 S1' (K + 1) pl.X pl.r ∧ (Free S1'.s ∧ S1'.worn = false) ∧ S1'.ct = nts S1.ct (pgs pl.L)
 plan : PlanOf X r S1.ct.ints x.d x.o x.nn x.bl pl
 v : OwnA byE W.heap.size w' v pl.data
 c : Chg a1.D W w'
theorem two_first {w0 W : World} {a1 a2 : Ha} {K : Nat} {S1 S2 : Hs} {X : List Int} {r : Nat} (x : Px) (h : Two w0 W a1 a2 K S1 S2 X r) (hK : K < 1000) (hx : PxOk W x) :
 Calls Tryz.prog 31 #[.pointer (some ⟨a1.z, 0, none⟩), .agg (pxc x)] W fun e w' => ∃ pl v, e = .returned (.agg (anc pl.e pl.off v)) ∧ Half W w' a1 K S1 X r x pl v := by
 refine (hdo_is x h.p1 h.i1 hK hx).mono ?_
 intro e w' ho
 obtain ⟨S', pl, v, g1, g2, g3, g4, g5, g6, g7, g8, g9, _⟩ := do_free h.i1 hK h.f1.1 h.f1.2 ho
 exact ⟨pl, v, g4, ⟨S', g1, g6, ⟨g8, g9⟩, g7⟩, g3, g5, g2⟩
theorem two_second {w0 W w' : World} {a1 a2 : Ha} {K : Nat} {S1 S2 : Hs} {X : List Int} {r : Nat} {x : Px} {pl : Aim} {v : Value} (h : Two w0 W a1 a2 K S1 S2 X r) (hK : K < 1000) (hx : PxOk W x) (hxf : x.bl = [] ∨ ∀ k, x.v.ownBlock = some k → k ∉ a1.D) (hH : Half W w' a1 K S1 X r x pl v) :
 Calls Tryz.prog 31 #[.pointer (some ⟨a2.z, 0, none⟩), .agg (pxc x)] w' fun e w'' => ∃ v2, e = .returned (.agg (anc pl.e pl.off v2)) ∧ RA byE w'' v2 pl.data ∧ RA byE w'' v pl.data ∧ (∃ S1' S2', Two w0 w'' a1 a2 (K + 1) S1' S2' pl.X pl.r) ∧ Chg (a1.D ++ a2.D) W w'' := by
 have p2 := h.p2.apart h.far2 hH.c
 have hx' : PxOk w' x := ⟨ra_chg_or hx.v hH.c hxf, hx.len, hx.o, hx.n⟩
 refine (hdo_is x p2 h.i2 hK hx').mono ?_
 intro e w'' ho
 obtain ⟨S', pl2, v2, g1, g2, g3, g4, g5, g6, g7, g8, g9, _⟩ := do_free h.i2 hK h.f2.1 h.f2.2 ho
 rw [← h.t.ints] at g3
 obtain rfl : pl2 = pl := g3.one hH.plan
 obtain ⟨S1', q1, q2, q3, q4⟩ := hH.own
 have c1 : Chg (a1.D ++ a2.D) W w'' := (hH.c.mono fun k hk => List.mem_append_left _ hk).trans (g2.mono fun k hk => List.mem_append_right _ hk)
 refine ⟨v2, g4, g5.ra, ?_, ⟨S1', S', q1.apart h.far1 g2, q2, q3, g1, g6, ⟨g8, g9⟩, by rw [q4, g7]; exact h.t.nts _, ?_, h.lo1, h.lo2, h.far1, h.far2⟩, c1⟩
 · refine (hH.v.chg g2 fun k hk q => ?_).ra
   have := (hH.v.lt k hk).1
   have := h.p2.dlt k q
   omega
 · refine c1.below h.b h.b.size fun k hk => ?_
   rcases List.mem_append.1 hk with hk | hk
   · exact h.lo1 k hk
   · exact h.lo2 k hk
theorem same_self {w : World} {e o : Int} {v v' : Value} {l : List Int} (hv : RA byE w v l) (hv' : RA byE w v' l) : Calls Tryz.prog 41 #[.agg (anc e o v), .agg (anc e o v')] w fun f w' => f = .returned (.bool true) ∧ Below w.heap.size w w' := by
 have h := rsame_is (w := w) (e := e) (o := o) (e' := e) (o' := o) hv hv'
 rwa [show decide (e = e ∧ o = o ∧ l = l) = true by simp] at h
theorem two_new {w0 w6 w7 : World} {N : Nat} {a a' : Ha} {S S' : Hs} (hp : Hp w6 a S) (hi : HI a S 3 (firstL (8 * N : Nat)) 0) (f1 : Free S.s ∧ S.worn = false) (hp' : Hp w7 a' S') (hi' : HI a' S' 3 (firstL (8 * N : Nat)) 0) (f2 : Free S'.s ∧ S'.worn = false) (b6 : Below w0.heap.size w0 w6) (b7 : Below w6.heap.size w6 w7) (hN : a.N = N) (hN' : a'.N = N)
 (hct : ∀ q, q < (N + 3) / 4 → S.ct.c q = 0) (hct' : ∀ q, q < (N + 3) / 4 → S'.ct.c q = 0)
 (hn : w0.heap.size ≤ a.z ∧ w0.heap.size ≤ a.g ∧ w0.heap.size ≤ a.y ∧ w0.heap.size ≤ a.q ∧ w0.heap.size ≤ a.x ∧ w0.heap.size ≤ a.k ∧ w0.heap.size ≤ a.kg)
 (hn' : w6.heap.size ≤ a'.z ∧ w6.heap.size ≤ a'.g ∧ w6.heap.size ≤ a'.y ∧ w6.heap.size ≤ a'.q ∧ w6.heap.size ≤ a'.x ∧ w6.heap.size ≤ a'.k ∧ w6.heap.size ≤ a'.kg) : Two w0 w7 a a' 3 S S' (firstL (8 * N : Nat)) 0 := by
 have h0 := b6.size
 have d := hp.dlt
 have l1 := hp.hb.lt
 have l2 := hp.hb.lg.nm.lt
 have l3 : a.y < w6.heap.size := Whole.lt hp.hb.lg.tq
 have l4 : a.q < w6.heap.size := hp.hb.lg.lq.lt
 have l5 : a.x < w6.heap.size := Whole.lt hp.hb.lg.lb
 have l6 := hp.cq.ltx
 have l7 := hp.cq.ltg
 have lo' : ∀ k ∈ a'.D, w6.heap.size ≤ k := fun k hk => by
  simp only [Ha.D, List.mem_cons, List.not_mem_nil, or_false] at hk
  rcases hk with rfl | rfl | rfl | rfl <;> omega
 refine ⟨hp.below b7, hi, f1, hp', hi', f2, ⟨?_, fun q hq => ?_⟩, below_more b6 b7, fun k hk => ?_, fun k hk => by have := lo' k hk; omega, ?_, ?_⟩
 · rw [hi.cn, hi'.cn, hN, hN']
 · rw [hi.cn, hN] at hq
   rw [hct q hq, hct' q hq]
 · simp only [Ha.D, List.mem_cons, List.not_mem_nil, or_false] at hk
   rcases hk with rfl | rfl | rfl | rfl <;> omega
 · refine ⟨?_, ?_, ?_, ?_, ?_, ?_, ?_⟩ <;> (intro q; have := lo' _ q; omega)
 · refine ⟨?_, ?_, ?_, ?_, ?_, ?_, ?_⟩ <;> (intro q; have := d _ q; omega)
theorem roots_take {N n : Nat} (hN : 1 ≤ N ∧ N ≤ 24) (hn : 1 ≤ n ∧ n ≤ 40) (cs : List Int) : ∃ pl l1, plA (firstL (8 * N : Nat)) 0 cs n = pl ∧ pl.e = 0 ∧ pl.off = 8 ∧ pl.r = 0 ∧ blkF pl.X = some l1 ∧ WordsOk pl.X ∧ ∀ o, (∃ j, isN o l1 = some j) ↔ o = 8 := by
 have hm : Mw ((8 * N : Nat) : Int) := by unfold Mw; omega
 obtain ⟨hB, hl, hok⟩ := first_blk hm
 have hmay := blkF_some hB
 have hneed : needN (n : Int) = ((n : Int) + 7) / 8 + 1 := by unfold needN; rw [if_pos (by omega)]
 have hne : needN (n : Int) ≠ 0 := by rw [hneed]; omega
 have h2 : 2 ≤ needN (n : Int) ∧ needN (n : Int) ≤ ((8 * N : Nat) : Int) := by rw [hneed]; omega
 have hf : fitB (needN (n : Int)) ⟨0, ((8 * N : Nat) : Int), false⟩ = true := fitB_iff.2 ⟨rfl, h2⟩
 obtain ⟨d, hd, _⟩ := chN_some (cs := cs) (fitN_some (List.mem_singleton.2 rfl) hf)
 obtain ⟨d1, hcan, _⟩ := chN_can hmay hd h2.1
 obtain rfl : d = 0 := by simpa using d1
 have ha := alR_some hB hne hd
 have hcrv : crvF [⟨0, ((8 * N : Nat) : Int), false⟩] ((0 : Nat) : Int) (needN (n : Int)) = prtB ⟨0, ((8 * N : Nat) : Int), false⟩ (needN (n : Int)) := by
  unfold crvF
  rw [if_pos hcan]
  simp [bAt]
 obtain ⟨t1, _, _, _, _, _, _, _, T⟩ := taken hB hok hcan
 rw [hcrv] at t1
 have hmay1 := blkF_some t1
 have hp : plA (firstL (8 * N : Nat)) 0 cs n = ⟨0, offB (atL [⟨0, ((8 * N : Nat) : Int), false⟩] 0), [], true, appF (firstL (8 * N : Nat)) (cedF [⟨0, ((8 * N : Nat) : Int), false⟩] ((0 : Nat) : Int) (needN (n : Int))), 0, lnsF (cedF [⟨0, ((8 * N : Nat) : Int), false⟩] ((0 : Nat) : Int) (needN (n : Int))), true⟩ := by
  unfold plA
  rw [if_neg hne, ha, if_pos rfl]
 refine ⟨_, _, hp, rfl, rfl, rfl, t1, T.ok, fun o => ⟨fun ⟨j, hj⟩ => ?_, fun ho => ?_⟩⟩
 · obtain ⟨j1, j2, j3⟩ := isN_some hj
   have hb := getD_mem j1
   have h0 : ((prtB ⟨0, ((8 * N : Nat) : Int), false⟩ (needN (n : Int))).getD j default).a = 0 := by
    generalize (prtB ⟨0, ((8 * N : Nat) : Int), false⟩ (needN (n : Int))).getD j default = b at *
    unfold prtB at hb
    split at hb
    · rw [List.mem_singleton.1 hb]
    · rcases List.mem_cons.1 hb with e | e
      · rw [e]
      · rw [List.mem_singleton.1 e] at j2; cases j2
   rw [h0] at j3
   rw [← j3]; rfl
 · rw [ho]
   have : ∃ b ∈ prtB ⟨0, ((8 * N : Nat) : Int), false⟩ (needN (n : Int)), b.u = true ∧ b.a = 0 := by
    unfold prtB
    split
    · exact ⟨_, List.mem_singleton.2 rfl, rfl, rfl⟩
    · exact ⟨_, List.mem_cons_self .., rfl, rfl⟩
   obtain ⟨b, hb, hu, h0⟩ := this
   have := isN_of hmay1 hb hu
   rw [h0] at this
   exact this
theorem roots_free {X : List Int} {l : List Bk} (hB : blkF X = some l) (hok : WordsOk X) (h : ∀ o, (∃ j, isN o l = some j) ↔ o = 8) : (plF X 0 8).e = 0 ∧ (plF X 0 8).r = 0 ∧ ∃ l2, blkF (plF X 0 8).X = some l2 ∧ WordsOk X ∧ ∀ o, isN o l2 = none := by
 obtain ⟨k, hk⟩ := (h 8).2 rfl
 obtain ⟨a1, a2, a3, a4, a5⟩ := aim_free (r := 0) (o := 8) hok hB
 have hm := blkF_some hB
 have hQ : feQ l 8 (0 : Nat) = 0 := by unfold feQ; rw [hk]; rfl
 have hBf : feB l 8 (0 : Nat) = mrgF l k := by unfold feB; rw [hk]; rfl
 refine ⟨by rw [a1, hQ], a5, mrgF l k, by rw [a3, hBf], hok, fun o => ?_⟩
 cases e : isN o (mrgF l k) with
 | none => rfl
 | some j =>
   exfalso
   obtain ⟨j1, j2, j3⟩ := isN_some e
   obtain ⟨k1, k2, k3⟩ := isN_some hk
   obtain ⟨b1, b2⟩ := mrg_from hm (isN_can hB hk) (getD_mem j1) j2
   obtain ⟨q, hq⟩ := isN_of hm b1 j2
   have e8 := (h _).1 ⟨q, hq⟩
   have c1 := (offB_in hm b1).2.2
   have c2 := (offB_in hm (getD_mem k1)).2.2
   omega
structure Hd (w : World) (a : Ha) (S : Hs) (K : Nat) (X : List Int) (r : Nat) : Prop where
 hp : Hp w a S
 hi : HI a S K X r
 fr : Free S.s ∧ S.worn = false
theorem Hd.below {w w' : World} {a : Ha} {S : Hs} {K : Nat} {X : List Int} {r : Nat} (h : Hd w a S K X r) (hb : Below w.heap.size w w') : Hd w' a S K X r := ⟨h.hp.below hb, h.hi, h.fr⟩
theorem chain_do {w : World} {a : Ha} {S : Hs} {K : Nat} {X : List Int} {r : Nat} (x : Px) (h : Hd w a S K X r) (hK : K < 1000) (hx : PxOk w x) :
 Calls Tryz.prog 31 #[.pointer (some ⟨a.z, 0, none⟩), .agg (pxc x)] w fun e w' => ∃ pl v S', PlanOf X r S.ct.ints x.d x.o x.nn x.bl pl ∧ e = .returned (.agg (anc pl.e pl.off v)) ∧ OwnA byE w.heap.size w' v pl.data ∧ Hd w' a S' (K + 1) pl.X pl.r ∧ Chg a.D w w' := by
 refine (hdo_is x h.hp h.hi hK hx).mono ?_
 intro e w' ho
 obtain ⟨S', pl, v, g1, g2, g3, g4, g5, g6, g7, g8, g9, _⟩ := do_free h.hi hK h.fr.1 h.fr.2 ho
 exact ⟨pl, v, S', g3, g4, g5, ⟨g1, g6, ⟨g8, g9⟩⟩, g2⟩
structure One (X : List Int) (l : List Bk) : Prop where
 b : blkF X = some l
 ok : WordsOk X
 one : ∀ o, (∃ j, isN o l = some j) ↔ o = 8
theorem do_take {w : World} {a : Ha} {S : Hs} {K : Nat} {N n : Nat} (hN : 1 ≤ N ∧ N ≤ 24) (hn : 1 ≤ n ∧ n ≤ 40) (h : Hd w a S K (firstL (8 * N : Nat)) 0) (hK : K < 1000) :
 Calls Tryz.prog 31 #[.pointer (some ⟨a.z, 0, none⟩), .agg (pxc ⟨1, 0, (n : Int), 0, .slice none 0 0, []⟩)] w fun e w' => ∃ v S' X l, e = .returned (.agg (anc 0 8 v)) ∧ v.oneCell' = true ∧ Hd w' a S' (K + 1) X 0 ∧ Chg a.D w w' ∧ One X l := by
 refine (chain_do ⟨1, 0, (n : Int), 0, .slice none 0 0, []⟩ h hK (px_nil w _ _ _ (by decide) (by omega))).mono ?_
 rintro e w' ⟨pl, v, S', g1, rfl, g3, g4, g5⟩
 have g7 := ra_one g3.ra
 have hp : pl = plA (firstL (8 * N : Nat)) 0 S.ct.ints n := g1
 obtain ⟨pl0, l1, e0, e1, e2, e3, e4, e5, e6⟩ := roots_take hN hn S.ct.ints
 obtain rfl : pl = pl0 := hp.trans e0
 rw [e3] at g4
 exact ⟨v, S', pl.X, l1, by rw [e1, e2], g7, g4, g5, ⟨e4, e5, e6⟩⟩
theorem do_root8 {w : World} {a : Ha} {S : Hs} {K : Nat} {X : List Int} {l : List Bk} (hO : One X l) (h : Hd w a S K X 0) (hK : K < 1000) :
 Calls Tryz.prog 31 #[.pointer (some ⟨a.z, 0, none⟩), .agg (pxc ⟨5, 8, 0, 0, .slice none 0 0, []⟩)] w fun e w' => ∃ v S', e = .returned (.agg (anc 0 0 v)) ∧ v.oneCell' = true ∧ Hd w' a S' (K + 1) X 8 ∧ Chg a.D w w' := by
 refine (chain_do ⟨5, 8, 0, 0, .slice none 0 0, []⟩ h hK (px_nil w _ _ _ (by decide) (by decide))).mono ?_
 rintro e w' ⟨pl, v, S', g1, rfl, g3, g4, g5⟩
 have g7 := ra_one g3.ra
 have hp : pl = plR X 0 8 := g1
 have hr : rootB X 8 = true := (rootB_iff hO.b 8).2 (.inr ((hO.one 8).2 rfl))
 unfold plR at hp
 rw [if_pos hr] at hp
 subst hp
 exact ⟨v, S', rfl, g7, g4, g5⟩
theorem do_busy {w : World} {a : Ha} {S : Hs} {K : Nat} {X : List Int} {l : List Bk} (hO : One X l) (h : Hd w a S K X 8) (hK : K < 1000) :
 Calls Tryz.prog 31 #[.pointer (some ⟨a.z, 0, none⟩), .agg (pxc ⟨2, 8, 0, 0, .slice none 0 0, []⟩)] w fun e w' => ∃ v S', e = .returned (.agg (anc 5 0 v)) ∧ v.oneCell' = true ∧ Hd w' a S' (K + 1) X 8 ∧ Chg a.D w w' := by
 refine (chain_do ⟨2, 8, 0, 0, .slice none 0 0, []⟩ h hK (px_nil w _ _ _ (by decide) (by decide))).mono ?_
 rintro e w' ⟨pl, v, S', g1, rfl, g3, g4, g5⟩
 have g7 := ra_one g3.ra
 have hp : pl = plF X 8 8 := g1
 obtain ⟨k, hk⟩ := (hO.one 8).2 rfl
 unfold plF at hp
 rw [frR_some hO.b hk, if_neg (by simp), if_pos (by decide)] at hp
 subst hp
 exact ⟨v, S', rfl, g7, g4, g5⟩
theorem do_get8 {w : World} {a : Ha} {S : Hs} {K : Nat} {X : List Int} (h : Hd w a S K X 8) (hK : K < 1000) :
 Calls Tryz.prog 31 #[.pointer (some ⟨a.z, 0, none⟩), .agg (pxc ⟨6, 0, 0, 0, .slice none 0 0, []⟩)] w fun e w' => ∃ v S', e = .returned (.agg (anc 0 8 v)) ∧ v.oneCell' = true ∧ Hd w' a S' (K + 1) X 8 ∧ Chg a.D w w' ∧ OwnA byE w.heap.size w' v [] := by
 refine (chain_do ⟨6, 0, 0, 0, .slice none 0 0, []⟩ h hK (px_nil w _ _ _ (by decide) (by decide))).mono ?_
 rintro e w' ⟨pl, v, S', g1, rfl, g3, g4, g5⟩
 have g7 := ra_one g3.ra
 have hp : pl = plG X 8 := g1
 subst hp
 exact ⟨v, S', rfl, g7, g4, g5, g3⟩
theorem do_rootany {w : World} {a : Ha} {S : Hs} {K : Nat} {X : List Int} {l : List Bk} (o : Int) (ho : -9223372036854775808 ≤ o ∧ o ≤ 9223372036854775807) (hO : One X l) (h : Hd w a S K X 8) (hK : K < 1000) :
 Calls Tryz.prog 31 #[.pointer (some ⟨a.z, 0, none⟩), .agg (pxc ⟨5, o, 0, 0, .slice none 0 0, []⟩)] w fun e w' => ∃ v S' r, e = .returned (.agg (anc (if o = 0 ∨ o = 8 then 0 else 1) 0 v)) ∧ v.oneCell' = true ∧ Hd w' a S' (K + 1) X r ∧ Chg a.D w w' := by
 refine (chain_do ⟨5, o, 0, 0, .slice none 0 0, []⟩ h hK (px_nil w _ _ _ ho (by decide))).mono ?_
 rintro e w' ⟨pl, v, S', g1, rfl, g3, g4, g5⟩
 have g7 := ra_one g3.ra
 have hp : pl = plR X 8 o := g1
 by_cases hc : o = 0 ∨ o = 8
 · have hr : rootB X o = true := (rootB_iff hO.b o).2 (hc.imp id fun q => (hO.one o).2 q)
   unfold plR at hp
   rw [if_pos hr] at hp
   subst hp
   rw [if_pos hc]
   exact ⟨v, S', _, rfl, g7, g4, g5⟩
 · have hr : ¬ rootB X o = true := fun q => hc (((rootB_iff hO.b o).1 q).imp id fun q => (hO.one o).1 q)
   unfold plR at hp
   rw [if_neg hr] at hp
   subst hp
   rw [if_neg hc]
   exact ⟨v, S', _, rfl, g7, g4, g5⟩
theorem do_root0 {w : World} {a : Ha} {S : Hs} {K : Nat} {X : List Int} {l : List Bk} {r : Nat} (hO : One X l) (h : Hd w a S K X r) (hK : K < 1000) :
 Calls Tryz.prog 31 #[.pointer (some ⟨a.z, 0, none⟩), .agg (pxc ⟨5, 0, 0, 0, .slice none 0 0, []⟩)] w fun e w' => ∃ v S', e = .returned (.agg (anc 0 0 v)) ∧ v.oneCell' = true ∧ Hd w' a S' (K + 1) X 0 ∧ Chg a.D w w' := by
 refine (chain_do ⟨5, 0, 0, 0, .slice none 0 0, []⟩ h hK (px_nil w _ _ _ (by decide) (by decide))).mono ?_
 rintro e w' ⟨pl, v, S', g1, rfl, g3, g4, g5⟩
 have g7 := ra_one g3.ra
 have hp : pl = plR X r 0 := g1
 have hr : rootB X 0 = true := (rootB_iff hO.b 0).2 (.inl rfl)
 unfold plR at hp
 rw [if_pos hr] at hp
 subst hp
 exact ⟨v, S', rfl, g7, g4, g5⟩
theorem do_give {w : World} {a : Ha} {S : Hs} {K : Nat} {X : List Int} {l : List Bk} (hO : One X l) (h : Hd w a S K X 0) (hK : K < 1000) :
 Calls Tryz.prog 31 #[.pointer (some ⟨a.z, 0, none⟩), .agg (pxc ⟨2, 8, 0, 0, .slice none 0 0, []⟩)] w fun e w' => ∃ v S' X2 l2, e = .returned (.agg (anc 0 0 v)) ∧ v.oneCell' = true ∧ Hd w' a S' (K + 1) X2 0 ∧ Chg a.D w w' ∧ blkF X2 = some l2 ∧ ∀ o, isN o l2 = none := by
 refine (chain_do ⟨2, 8, 0, 0, .slice none 0 0, []⟩ h hK (px_nil w _ _ _ (by decide) (by decide))).mono ?_
 rintro e w' ⟨pl, v, S', g1, rfl, g3, g4, g5⟩
 have g7 := ra_one g3.ra
 have hp : pl = plF X 0 8 := g1
 obtain ⟨e1, e2, l2, e3, _, e5⟩ := roots_free hO.b hO.ok hO.one
 have eo : (plF X 0 8).off = 0 := by
  unfold plF plNo
  split
  · rfl
  · split <;> rfl
 rw [← hp] at e1 e2 e3 eo
 rw [e2] at g4
 exact ⟨v, S', pl.X, l2, by rw [e1, eo], g7, g4, g5, e3, e5⟩
theorem do_gone {w : World} {a : Ha} {S : Hs} {K : Nat} {X : List Int} {l : List Bk} (hB : blkF X = some l) (hO : ∀ o, isN o l = none) (h : Hd w a S K X 0) (hK : K < 1000) :
 Calls Tryz.prog 31 #[.pointer (some ⟨a.z, 0, none⟩), .agg (pxc ⟨2, 8, 0, 0, .slice none 0 0, []⟩)] w fun e w' => ∃ v S', e = .returned (.agg (anc 1 0 v)) ∧ v.oneCell' = true ∧ Hd w' a S' (K + 1) X 0 ∧ Chg a.D w w' := by
 refine (chain_do ⟨2, 8, 0, 0, .slice none 0 0, []⟩ h hK (px_nil w _ _ _ (by decide) (by decide))).mono ?_
 rintro e w' ⟨pl, v, S', g1, rfl, g3, g4, g5⟩
 have g7 := ra_one g3.ra
 have hp : pl = plF X 0 8 := g1
 unfold plF at hp
 rw [frR_none hB (hO 8), if_pos (by decide)] at hp
 subst hp
 exact ⟨v, S', rfl, g7, g4, g5⟩
theorem same_get {w : World} {v : Value} {r : Int} (hv : RA byE w v []) : Calls Tryz.prog 41 #[.agg (anc 0 r v), .agg (anc 0 r (.slice none 0 0))] w fun f w' => f = .returned (.bool true) ∧ Below w.heap.size w w' := by
 have h := rsame_is (w := w) (e := 0) (o := r) (e' := 0) (o' := r) (l' := []) hv (own_nil_by 0 _).ra
 rwa [show decide ((0 : Int) = 0 ∧ r = r ∧ ([] : List Int) = []) = true by simp] at h
theorem note_ints {ct : Ct} {q : Nat} (hq : q < ct.n) : (ct.note q).ints = ct.ints.set q (ct.ints.getD q 0 + 1) := by
 have h1 : ct.ints.length = ct.n := byF_length _ _
 have h2 : ct.ints.getD q 0 = (ct.c q : Int) := byF_getD _ hq
 rw [h2]
 unfold Ct.ints
 rw [Ct.note_n]
 refine List.ext_getElem (by simp [byF]) fun i i1 i2 => ?_
 rw [List.getElem_set]
 simp only [byF, List.getElem_map, List.getElem_range]
 rw [Ct.note_c]
 by_cases e : q = i
 · subst e
   rw [if_pos rfl]
   simp [at1]
 · rw [if_neg e]
   simp [at1, Ne.symm e]
def bumps (c : List Int) (L : List Int) : List Int := L.foldl (fun c i => c.set (i.toNat / 4) (c.getD (i.toNat / 4) 0 + 1)) c
theorem bumps_ints : ∀ (L : List Int) (ct : Ct), (∀ q ∈ pgs L, q < ct.n) → bumps ct.ints L = (nts ct (pgs L)).ints
 | [], _, _ => rfl
 | i :: L, ct, h => by
   have hq : i.toNat / 4 < ct.n := h _ (List.mem_cons_self ..)
   show bumps (ct.ints.set (i.toNat / 4) (ct.ints.getD (i.toNat / 4) 0 + 1)) L = (nts (ct.note (i.toNat / 4)) (pgs L)).ints
   rw [← note_ints hq]
   exact bumps_ints L _ fun q k => by rw [Ct.note_n]; exact h q (List.mem_cons_of_mem _ k)
theorem bumps_len (c L : List Int) : (bumps c L).length = c.length := by
 unfold bumps
 induction L generalizing c with
 | nil => rfl
 | cons i L ih => rw [List.foldl_cons, ih, List.length_set]
def LinesOf (pl : Aim) (err : Int) (E : List Ed) : Prop := (err = 0 → pl.e = 0 → pl.L = lnsF E) ∧ (¬ (err = 0 ∧ pl.e = 0) → pl.L = [])
theorem lines_alloc {X : List Int} {r : Nat} {n : Int} {cs : List Int} : LinesOf (plA X r cs n) (alR X n cs).2.2 (alR X n cs).1 := by
 unfold LinesOf plA plNo
 by_cases hn : needN n = 0
 · have h := alR_arg (wl := X) (cs := cs) hn
   rw [if_pos hn, h]
   exact ⟨fun q => (by cases q), fun _ => rfl⟩
 · rw [if_neg hn]
   by_cases h0 : (alR X n cs).2.2 = 0
   · rw [if_pos h0]
     exact ⟨fun _ _ => rfl, fun q => absurd ⟨h0, rfl⟩ q⟩
   · rw [if_neg h0]
     exact ⟨fun q => absurd q h0, fun _ => rfl⟩
theorem lines_free {X : List Int} {r : Nat} {o : Int} : LinesOf (plF X r o) (frR X o).2 (frR X o).1 := by
 unfold LinesOf plF plNo
 by_cases h0 : (frR X o).2 ≠ 0
 · rw [if_pos h0]
   exact ⟨fun q => absurd q h0, fun _ => rfl⟩
 · rw [if_neg h0]
   by_cases h1 : o = (r : Int)
   · rw [if_pos h1]
     exact ⟨fun _ q => (by cases q), fun _ => rfl⟩
   · rw [if_neg h1]
     exact ⟨fun _ _ => rfl, fun q => absurd ⟨Classical.not_not.1 h0, rfl⟩ q⟩
theorem lines_write {X bl : List Int} {r : Nat} {o : Int} {M : List Ed} (hM : WrT X bl o M) : LinesOf (plW X r o bl M) (refF X o bl.length) M := by
 unfold LinesOf plW plNo
 by_cases h0 : refF X o bl.length ≠ 0
 · rw [if_pos (.inl h0)]
   exact ⟨fun q => absurd q h0, fun _ => rfl⟩
 · have h0' : refF X o bl.length = 0 := Classical.not_not.1 h0
   by_cases hb : bl = []
   · rw [if_pos (.inr hb)]
     have hnil : M = [] := by
      subst hb
      unfold WrT at hM
      rw [if_pos h0'] at hM
      unfold Tells at hM
      split at hM
      · exact List.eq_nil_of_length_eq_zero (by rw [hM.len]; simp [cnt])
      · exact hM
     subst hnil
     exact ⟨fun _ _ => Eq.symm (List.eq_nil_iff_forall_not_mem.2 fun x h => by have := ((lnsF_is []).mem x).1 h; cases this), fun _ => rfl⟩
   · rw [if_neg (fun q => by rcases q with q | q; exact h0 q; exact hb q)]
     exact ⟨fun _ _ => rfl, fun q => absurd ⟨h0', rfl⟩ q⟩
theorem lines_other {X : List Int} {r : Nat} {cs : List Int} {d o n : Int} {bl : List Int} {pl : Aim} (c1 : d ≠ 1) (c2 : d ≠ 2) (c4 : d ≠ 4) (h : PlanOf X r cs d o n bl pl) : LinesOf pl 1 [] := by
 refine ⟨fun q => (by cases q), fun _ => ?_⟩
 unfold PlanOf at h
 rw [if_neg c1, if_neg c2] at h
 by_cases c3 : d = 3
 · rw [if_pos c3] at h
   subst h
   rfl
 rw [if_neg c3, if_neg c4] at h
 by_cases c5 : d = 5
 · rw [if_pos c5] at h
   subst h
   unfold plR plNo
   split <;> rfl
 rw [if_neg c5] at h
 by_cases c6 : d = 6
 · rw [if_pos c6] at h
   subst h
   rfl
 rw [if_neg c6] at h
 subst h
 rfl
theorem plan_pgs {X : List Int} {r N : Nat} {cs : List Int} {d o n : Int} {bl : List Int} {pl : Aim} (hl : X.length = 8 * N) (hs : soundB X r = true) (hok : WordsOk X) (h : PlanOf X r cs d o n bl pl) : ∀ q ∈ pgs pl.L, q < (N + 3) / 4 := by
 have hnil : ∀ L : List Int, L = [] → ∀ q ∈ pgs L, q < (N + 3) / 4 := fun L e q hq => by rw [e] at hq; cases hq
 unfold PlanOf at h
 by_cases c1 : d = 1
 · rw [if_pos c1] at h
   subst h
   unfold plA plNo
   split
   · exact hnil _ rfl
   · rename_i hn
     split
     · rename_i h0
       obtain ⟨hg, _⟩ := alR_good hl hs hok hn h0
       exact pgs_lt (hg.fit.lines (lnsF_is _))
     · exact hnil _ rfl
 rw [if_neg c1] at h
 by_cases c2 : d = 2
 · rw [if_pos c2] at h
   subst h
   unfold plF plNo
   split
   · exact hnil _ rfl
   · rename_i h0
     split
     · exact hnil _ rfl
     · rename_i hne
       obtain ⟨hg, _⟩ := frR_good hl hs hok (Classical.not_not.1 h0) hne
       exact pgs_lt (hg.fit.lines (lnsF_is _))
 rw [if_neg c2] at h
 by_cases c3 : d = 3
 · rw [if_pos c3] at h
   subst h
   exact hnil _ rfl
 rw [if_neg c3] at h
 by_cases c4 : d = 4
 · rw [if_pos c4] at h
   obtain ⟨M, hM, rfl⟩ := h
   unfold plW plNo
   split
   · exact hnil _ rfl
   · rename_i q
     have h0 : refF X o bl.length = 0 := Classical.byContradiction fun k => q (.inl k)
     obtain ⟨hg, _⟩ := wr_good hl hs hok hM h0 fun k => q (.inr k)
     exact pgs_lt (hg.fit.lines (lnsF_is _))
 rw [if_neg c4] at h
 by_cases c5 : d = 5
 · rw [if_pos c5] at h
   subst h
   unfold plR plNo
   split <;> exact hnil _ rfl
 rw [if_neg c5] at h
 by_cases c6 : d = 6
 · rw [if_pos c6] at h
   subst h
   exact hnil _ rfl
 rw [if_neg c6] at h
 subst h
 exact hnil _ rfl
theorem chain_cnt {w : World} {a : Ha} {S : Hs} {K : Nat} {X : List Int} {r : Nat} (x : Px) (h : Hd w a S K X r) (hK : K < 1000) (hx : PxOk w x) {err : Int} {E : List Ed} (hE : ∀ pl, PlanOf X r S.ct.ints x.d x.o x.nn x.bl pl → LinesOf pl err E) :
 Calls Tryz.prog 31 #[.pointer (some ⟨a.z, 0, none⟩), .agg (pxc x)] w fun e w' => ∃ (pl : Aim) (v : Value) (S' : Hs), e = .returned (.agg (anc pl.e pl.off v)) ∧ OwnA byE w.heap.size w' v pl.data ∧ Hd w' a S' (K + 1) pl.X pl.r ∧ Chg a.D w w' ∧ S'.ct.n = S.ct.n ∧
  ((err = 0 ∧ pl.e = 0 ∧ S'.ct.ints = bumps S.ct.ints (lnsF E) ∧ ∀ q ∈ pgs (lnsF E), q < S.ct.n) ∨ (¬ (err = 0 ∧ pl.e = 0) ∧ S'.ct.ints = S.ct.ints)) := by
 refine (hdo_is x h.hp h.hi hK hx).mono ?_
 intro e w' ho
 obtain ⟨S', pl, v, g1, g2, g3, g4, g5, g6, g7, g8, g9, _⟩ := do_free h.hi hK h.fr.1 h.fr.2 ho
 have hin := plan_pgs h.hi.len.1 h.hi.hc.snd h.hi.hc.ok g3
 rw [← h.hi.cn] at hin
 refine ⟨pl, v, S', g4, g5, ⟨g1, g6, ⟨g8, g9⟩⟩, g2, by rw [g7, nts_n], ?_⟩
 obtain ⟨e1, e2⟩ := hE pl g3
 by_cases hc : err = 0 ∧ pl.e = 0
 · have eL := e1 hc.1 hc.2
   rw [eL] at hin g7
   exact .inl ⟨hc.1, hc.2, by rw [g7, bumps_ints _ _ hin], hin⟩
 · exact .inr ⟨hc, by rw [g7, e2 hc]; rfl⟩
theorem ri_take {w : World} {b off n c : Nat} {l : List Int} (h : RI w (.slice (some ⟨b, off, none⟩) n c) l) {k : Nat} (hk : k ≤ l.length) : RI w (.slice (some ⟨b, off, none⟩) k c) (l.take k) := by
 obtain ⟨p, cap, e, h1, h2, h3⟩ := h
 cases e
 have hl : (l.take k).length = k := by rw [List.length_take]; omega
 refine ⟨_, _, by rw [hl], by rw [hl]; omega, h2, ?_⟩
 rcases h3 with h3 | ⟨b', o', e, hc⟩
 · exact .inl (by rw [h3]; simp)
 · cases e
   refine .inr ⟨b, off, rfl, fun i hi => ?_⟩
   rw [hl] at hi
   rw [hc i (by omega), List.getD_eq_getElem?_getD, List.getD_eq_getElem?_getD, List.getElem?_take, if_pos hi]
theorem ri_drop {w : World} {b off n c : Nat} {l : List Int} (h : RI w (.slice (some ⟨b, off, none⟩) n c) l) {k : Nat} (hk : k < l.length) : RI w (.slice (some ⟨b, off + k, none⟩) (n - k) (c - k)) (l.drop k) := by
 obtain ⟨p, cap, e, h1, h2, h3⟩ := h
 cases e
 have hl : (l.drop k).length = l.length - k := by rw [List.length_drop]
 refine ⟨_, _, by rw [hl], by rw [hl]; omega, by omega, ?_⟩
 rcases h3 with h3 | ⟨b', o', e, hc⟩
 · rw [h3] at hk; simp at hk
 · cases e
   refine .inr ⟨b, off + k, rfl, fun i hi => ?_⟩
   rw [hl] at hi
   rw [Nat.add_assoc, hc (k + i) (by omega), List.getD_eq_getElem?_getD, List.getD_eq_getElem?_getD, List.getElem?_drop]
theorem ri_none {w : World} {p : Option Addr} {c : Nat} (hc : c ≤ maxLen) : RI w (.slice p 0 c) [] := ⟨p, c, rfl, Nat.zero_le _, hc, .inl rfl⟩
theorem rlines_is (es : List Ed) (u : Value) (w : World) (hu : RA edE w u es) (hel : es.length ≤ 4000) :
 Calls Tryz.prog 47 #[u] w fun e w' => (∃ x l, e = .returned x ∧ OwnI w.heap.size w' x l ∧ IsL es l) ∧ Below w.heap.size w w' := by
 obtain ⟨p, c0, rfl, _, _⟩ := ra_shape hu
 have HE := Lib.hid (fun (w' : World) (hb : Below w.heap.size w w') => ra_below hu hb)
 have HL := Lib.hid hel
 clear hu hel
 go_enter Tryz.func47, Tryz.ntmps47
 go_wp2
 go_loopw [3, 5, 10] (fun y x i wr => ∃ (k : Nat) (l : List Int) (lv : Value), k ≤ es.length ∧ i = .int .i64 k ∧ lv = y ∧ Hid (OwnI w.heap.size wr lv l ∧ (IsL (es.take k) l ∧ l.length ≤ k) ∧ Below w.heap.size w wr)) (fun _ _ i _ => es.length - (intOf i).toNat)
 case atStart => exact ⟨0, [], _, Nat.zero_le _, rfl, rfl, Lib.hid ⟨own_nil_i _ _, ⟨by rw [List.take_zero]; exact IsL.nil, Nat.le_refl _⟩, Below.refl _ _⟩⟩
 case round =>
  obtain ⟨k, l, lv, hk, rfl, rfl, H⟩ := hrel
  by_cases hlt : k < es.length
  · obtain ⟨b, off, rfl, hb, hx⟩ := ed_at (HE.out _ H.out.2.2) (by omega)
    obtain ⟨hld, _, _, hwf⟩ := hx k hlt
    have hI := H.out.2.1.1
    have hll := H.out.2.1.2
    obtain ⟨⟨a, x⟩, hy⟩ : ∃ y, es.getD k default = y := ⟨_, rfl⟩
    rw [hy] at hld hwf
    have hwa := i64_wf hwf.ww
    simp only at hwa
    have hya : (es.getD k default).w = a := by rw [hy]
    obtain ⟨wo, hwo⟩ : ∃ wo, wo = wr := ⟨_, rfl⟩
    subst hwo
    obtain ⟨W, hW, HW⟩ := ed_boxed wo ⟨a, x⟩
    have d0 : W.cell? ⟨wo.heap.size, 0, none⟩ = some (.int .i64 a) := HW.out.1.c0
    have HB := Lib.hid (below_more H.out.2.2 HW.out.2)
    have HO := Lib.hid (own_up_i H.out.1 HW.out.2)
    have i0 : (0 : Int) ≤ (k : Int) := by omega
    have i1 : (k : Int) < (es.length : Int) := by omega
    have i2 : ¬ (k : Int) < 0 := by omega
    have i3 : IntKind.i64.wrap ((k : Int) + 1) = ((k + 1 : Nat) : Int) := by rw [show (k : Int) + 1 = ((k + 1 : Nat) : Int) by omega]; exact i64_nat _ (by have := HL.out; omega)
    have HK := Lib.hid hlt
    have HLl : Hid (l.length ≤ 4000) := Lib.hid (by have := HL.out; omega)
    by_cases h1 : 0 ≤ a
    · obtain ⟨z, rfl⟩ : ∃ z : Nat, a = z := ⟨a.toNat, by omega⟩
      obtain ⟨n, hn⟩ : ∃ n, z / 8 = n := ⟨_, rfl⟩
      have i4 : ¬ (z : Int) < 0 := by omega
      have m2 : IntKind.i64.wrap ((z : Int) / 8) = (n : Int) := by rw [show (z : Int) / 8 = (n : Int) by omega]; exact i64_nat _ (by omega)
      have HPu : Hid (∀ i, i ≤ l.length → (∀ j, j < i → l.getD j 0 < n) → (i < l.length → (n : Int) < l.getD i 0) → IsL (es.take (k + 1)) (l.take i ++ (n : Int) :: l.drop i) ∧ (l.take i ++ (n : Int) :: l.drop i).length ≤ k + 1) := Lib.hid fun i g1 g2 g3 => ⟨hI.put hlt (by rw [hya]; omega) (by rw [hya]; omega) g1 g2 g3, by rw [List.length_append, List.length_cons, List.length_take, List.length_drop]; omega⟩
      have HSa : Hid (∀ i, i < l.length → l.getD i 0 = n → IsL (es.take (k + 1)) l ∧ l.length ≤ k + 1) := Lib.hid fun i g1 g2 => ⟨hI.same hlt (by rw [hya]; omega) g1 (by rw [hya, g2]; omega), by omega⟩
      have SZ : Hid (∀ x : World, Below W.heap.size W x → W.heap.size ≤ x.heap.size) := Lib.hid fun _ h => h.size
      have GR : Hid (∀ (x y : World) (r : Option Nat), Below W.heap.size W x → x.grownBy y r → r = none → Below W.heap.size W y) := Lib.hid fun x y r h g e => by subst e; exact h.grown g h.size (fun k hk => by cases hk)
      have R1 := Lib.hid (fun w1 : World => ri_one w1 (n : Int))
      clear hx hb hk hlt h1 hwf hwa hI hll hy hya hn
      obtain ⟨_, ⟨rfl, h0⟩ | ⟨g, c, cur, rfl, _, _, hlc, hcm, _⟩⟩ := id HO.out
      · obtain rfl : l = [] := List.eq_nil_of_length_eq_zero h0
        clear h0
        go_wp2
        go_loopw [7] (fun y wr => y = .int .i64 0 ∧ W = wr) (fun y _ => 0)
        case atStart => exact ⟨rfl, rfl⟩
        case round =>
         obtain ⟨rfl, rfl⟩ := hrel
         have HPUT := Lib.hid (HPu.out 0 (Nat.zero_le _) (fun j h => by omega) (fun h => by simp at h))
         obtain ⟨l, hl⟩ : ∃ l : List Int, [] = l := ⟨_, rfl⟩
         have hl0 : l = [] := hl.symm
         rw [hl] at HPUT HLl
         clear hl
         have HP : Hid (∀ w', Below W.heap.size W w' → RI w' (.slice none 0 0) (l.take 0) ∧ RI w' (.slice none 0 0) (l.drop 0)) := Lib.hid fun w' hb => ⟨by rw [hl0]; exact ri_nil _, by rw [hl0]; exact ri_nil _⟩
         have N1 : Hid (([] : List Int).length + (l.take 0).length ≤ 1000000) := Lib.hid (by rw [List.length_take]; have := HLl.out; simp only [List.length_nil]; omega)
         have N2 : Hid (([] ++ l.take 0).length + [(n : Int)].length ≤ 1000000) := Lib.hid (by rw [List.nil_append, List.length_take]; have := HLl.out; simp only [List.length_singleton]; omega)
         have N3 : Hid ((([] ++ l.take 0) ++ [(n : Int)]).length + (l.drop 0).length ≤ 1000000) := Lib.hid (by rw [List.nil_append, List.length_append, List.length_take, List.length_drop]; have := HLl.out; simp only [List.length_singleton]; omega)
         obtain ⟨T, hT⟩ : ∃ T, l.take 0 = T := ⟨_, rfl⟩
         obtain ⟨U, hU⟩ : ∃ U, l.drop 0 = U := ⟨_, rfl⟩
         rw [hT] at HP N1 N2 N3
         rw [hU] at HP N3
         have hT' := Lib.hid hT.symm
         have hU' := Lib.hid hU.symm
         clear hT hU
         clear hl0
         go_wp2_with fail
         go_region_law (first
          | (refine step_app_int (o := ⟨some 49, _, _, _, _, _⟩) rfl (.const (.slice none 0 0)) (.tmp 48) rfl W.heap.size (.slice none 0 0) [] (by simp [Act.eval]) (own_nil_i _ _) (.slice none 0 0) T (by simp [Act.eval, Act.put]) (HP.out _ (by repeat' (first | (with_reducible exact Below.refl _ _) | (with_reducible refine Below.drew ?_) | (with_reducible refine bal ?_)))).1 N1.out (SZ.out _ (by repeat' (first | (with_reducible exact Below.refl _ _) | (with_reducible refine Below.drew ?_) | (with_reducible refine bal ?_)))) ?_
             intro vb wb ob gb _
             have OB := Lib.hid ob
             have GB : Hid (Below W.heap.size W wb) := Lib.hid (GR.out _ _ _ (by repeat' (first | (with_reducible exact Below.refl _ _) | (with_reducible refine Below.drew ?_) | (with_reducible refine bal ?_))) gb rfl)
             have GX := Lib.hid ((Below.refl _ _).grown gb (Nat.le_refl _) (by intro k hk; cases hk))
             clear ob)
          | (refine step_app_int (o := ⟨some 52, _, _, _, _, _⟩) rfl (.tmp 49) (.tmp 51) rfl W.heap.size vb ([] ++ T) (by simp [Act.eval]) (own_up_i OB.out (bal (Below.refl _ _))) (.slice (some ⟨wb.heap.size, 0, none⟩) 1 1) [(n : Int)] (by simp [Act.eval]) (R1.out wb) N2.out (SZ.out _ (bal GB.out)) ?_
             intro vc wc oc gc _
             have OC := Lib.hid oc
             have GC := Lib.hid (below_app_i (bal GB.out) (SZ.out _ (bal GB.out)) (own_up_i OB.out (bal (Below.refl _ _))) gc)
             clear oc gc)
          | (refine step_app_int (o := ⟨some 52, _, _, _, _, _⟩) rfl (.tmp 49) (.tmp 51) rfl W.heap.size vb ([] ++ T) (by simp [Act.eval]) OB.out (.slice (some ⟨W.heap.size, 0, none⟩) 1 1) [(n : Int)] (by simp [Act.eval]) (ri_below (ri_below (R1.out W) ((Below.refl _ _).drew)) GX.out) N2.out (SZ.out _ GB.out) ?_
             intro vc wc oc gc _
             have OC := Lib.hid oc
             have GC := Lib.hid (below_app_i GB.out (SZ.out _ GB.out) OB.out gc)
             clear oc gc)
          | (refine step_app_int (o := ⟨some 56, _, _, _, _, _⟩) rfl (.tmp 52) (.tmp 55) rfl W.heap.size vc (([] ++ T) ++ [(n : Int)]) (by simp [Act.eval]) OC.out (.slice none 0 0) U (by simp [Act.eval]) (HP.out _ GC.out).2 N3.out (SZ.out _ GC.out) ?_
             intro vd wd od gd _
             have OD := Lib.hid od
             have GD := Lib.hid (below_app_i GC.out (SZ.out _ GC.out) OC.out gd)
             clear od gd))
         all_goals
          have HN : Hid (OwnI w.heap.size wd vd (T ++ (n : Int) :: U) ∧ Below w.heap.size w wd) := Lib.hid ⟨by have := OD.out; simp only [List.nil_append, List.append_assoc, List.cons_append] at this; exact this.mono HB.out.size, below_more HB.out GD.out⟩
          rw [hT'.out, hU'.out] at HN
          go_wp2
          exact ⟨⟨k + 1, _, _, by have := HK.out; omega, by go_num, rfl, Lib.hid ⟨HN.out.1, HPUT.out, HN.out.2⟩⟩, by have := HK.out; simp [intOf]; omega⟩
      · obtain ⟨K, hK⟩ : ∃ K, l.length = K := ⟨_, rfl⟩
        rw [hK] at hlc HO ⊢
        have HKl := Lib.hid hK
        have HCm := Lib.hid (And.intro hlc hcm)
        clear hK hlc hcm
        go_wp2
        go_loopw [7] (fun y wr => ∃ i : Nat, i ≤ K ∧ y = .int .i64 i ∧ W = wr ∧ Hid (∀ j, j < i → l.getD j 0 < n)) (fun y _ => K - (intOf y).toNat)
        case atStart => exact ⟨0, Nat.zero_le _, rfl, rfl, Lib.hid fun j h => by omega⟩
        case round =>
         obtain ⟨i, hi, rfl, rfl, HJ⟩ := hrel
         by_cases hlt : i < K
         · obtain ⟨bb, oo, e, _, hc⟩ := ri_some HO.out.ri (by rw [HKl.out]; omega)
           cases e
           have cy := hc i (by rw [HKl.out]; exact hlt)
           rw [Nat.zero_add] at cy
           have j0 : (0 : Int) ≤ (i : Int) := by omega
           have j1 : (i : Int) < (K : Int) := by omega
           have j2 : ¬ (i : Int) < 0 := by omega
           have j3 : ¬ i = K := by omega
           have j4 : ((i : Int) == (K : Int)) = false := by simp; omega
           have hil : i < l.length := by rw [HKl.out]; exact hlt
           have HIl := Lib.hid hil
           obtain ⟨y, hy⟩ : ∃ y, l.getD i 0 = y := ⟨_, rfl⟩
           rw [hy] at cy
           have HY := Lib.hid hy
           clear hc hy hil
           by_cases y1 : y < (n : Int)
           · have j5 : IntKind.i64.wrap ((i : Int) + 1) = ((i + 1 : Nat) : Int) := by rw [show (i : Int) + 1 = ((i + 1 : Nat) : Int) by omega]; exact i64_nat _ (by have := HIl.out; have := HLl.out; omega)
             have HN2 : Hid (∀ j, j < i + 1 → l.getD j 0 < n) := Lib.hid fun j h => by
              by_cases e : j = i
              · rw [e, HY.out]; exact y1
              · exact HJ.out j (by omega)
             have HK2 := Lib.hid hlt
             clear hlt hi
             go_wp2
             exact ⟨⟨i + 1, by have := HK2.out; omega, by go_num, trivial, HN2⟩, by have := HK2.out; simp [intOf]; omega⟩
           · by_cases y2 : y = (n : Int)
             · have HS := Lib.hid (HSa.out i HIl.out (by rw [HY.out]; exact y2))
               subst y2
               have j6 : ((n : Int) == (n : Int)) = true := by simp
               clear y1 hlt hi
               go_wp2
               exact ⟨⟨k + 1, l, _, by have := HK.out; omega, by go_num, rfl, Lib.hid ⟨HO.out, HS.out, HB.out⟩⟩, by have := HK.out; simp [intOf]; omega⟩
             · have j6 : (y == (n : Int)) = false := beq_eq_false_iff_ne.2 y2
               have j7 : ¬ y = (n : Int) := y2
               have HPUT := Lib.hid (HPu.out i (Nat.le_of_lt HIl.out) HJ.out (fun _ => by rw [HY.out]; omega))
               have hcc := HCm.out
               have j8 : (i : Int) ≤ (c : Int) := by omega
               have j9 : (i : Int) ≤ (K : Int) := by omega
               have j10 : ¬ c = i := by omega
               have HRI : Hid (∀ w', Below W.heap.size W w' → RI w' (.slice (some ⟨g, 0, none⟩) K c) l) := Lib.hid fun w' hb => ri_below HO.out.ri hb
               clear hcc hi hlt y2
               have HP : Hid (∀ w', Below W.heap.size W w' → RI w' (.slice (some ⟨g, 0, none⟩) i c) (l.take i) ∧ RI w' (.slice (some ⟨g, i, none⟩) (K - i) (c - i)) (l.drop i)) := Lib.hid fun w' hb => ⟨ri_take (HRI.out _ hb) (Nat.le_of_lt HIl.out), by have := ri_drop (HRI.out _ hb) HIl.out; rwa [Nat.zero_add] at this⟩
               have N1 : Hid (([] : List Int).length + (l.take i).length ≤ 1000000) := Lib.hid (by rw [List.length_take]; have := HLl.out; simp only [List.length_nil]; omega)
               have N2 : Hid (([] ++ l.take i).length + [(n : Int)].length ≤ 1000000) := Lib.hid (by rw [List.nil_append, List.length_take]; have := HLl.out; simp only [List.length_singleton]; omega)
               have N3 : Hid ((([] ++ l.take i) ++ [(n : Int)]).length + (l.drop i).length ≤ 1000000) := Lib.hid (by rw [List.nil_append, List.length_append, List.length_take, List.length_drop]; have := HLl.out; simp only [List.length_singleton]; omega)
               obtain ⟨T, hT⟩ : ∃ T, l.take i = T := ⟨_, rfl⟩
               obtain ⟨U, hU⟩ : ∃ U, l.drop i = U := ⟨_, rfl⟩
               rw [hT] at HP N1 N2 N3
               rw [hU] at HP N3
               have hT' := Lib.hid hT.symm
               have hU' := Lib.hid hU.symm
               clear hT hU
               go_wp2_with fail
               go_region_law (first
                | (refine step_app_int (o := ⟨some 49, _, _, _, _, _⟩) rfl (.const (.slice none 0 0)) (.tmp 48) rfl W.heap.size (.slice none 0 0) [] (by simp [Act.eval]) (own_nil_i _ _) (.slice (some ⟨g, 0, none⟩) i c) T (by simp [Act.eval, Act.put]) (HP.out _ (by repeat' (first | (with_reducible exact Below.refl _ _) | (with_reducible refine Below.drew ?_) | (with_reducible refine bal ?_)))).1 N1.out (SZ.out _ (by repeat' (first | (with_reducible exact Below.refl _ _) | (with_reducible refine Below.drew ?_) | (with_reducible refine bal ?_)))) ?_
                   intro vb wb ob gb _
                   have OB := Lib.hid ob
                   have GB : Hid (Below W.heap.size W wb) := Lib.hid (GR.out _ _ _ (by repeat' (first | (with_reducible exact Below.refl _ _) | (with_reducible refine Below.drew ?_) | (with_reducible refine bal ?_))) gb rfl)
                   have GX := Lib.hid ((Below.refl _ _).grown gb (Nat.le_refl _) (by intro k hk; cases hk))
                   clear ob)
                | (refine step_app_int (o := ⟨some 52, _, _, _, _, _⟩) rfl (.tmp 49) (.tmp 51) rfl W.heap.size vb ([] ++ T) (by simp [Act.eval]) (own_up_i OB.out (bal (Below.refl _ _))) (.slice (some ⟨wb.heap.size, 0, none⟩) 1 1) [(n : Int)] (by simp [Act.eval]) (R1.out wb) N2.out (SZ.out _ (bal GB.out)) ?_
                   intro vc wc oc gc _
                   have OC := Lib.hid oc
                   have GC := Lib.hid (below_app_i (bal GB.out) (SZ.out _ (bal GB.out)) (own_up_i OB.out (bal (Below.refl _ _))) gc)
                   clear oc gc)
                | (refine step_app_int (o := ⟨some 52, _, _, _, _, _⟩) rfl (.tmp 49) (.tmp 51) rfl W.heap.size vb ([] ++ T) (by simp [Act.eval]) OB.out (.slice (some ⟨W.heap.size, 0, none⟩) 1 1) [(n : Int)] (by simp [Act.eval]) (ri_below (ri_below (R1.out W) ((Below.refl _ _).drew)) GX.out) N2.out (SZ.out _ GB.out) ?_
                   intro vc wc oc gc _
                   have OC := Lib.hid oc
                   have GC := Lib.hid (below_app_i GB.out (SZ.out _ GB.out) OB.out gc)
                   clear oc gc)
                | (refine step_app_int (o := ⟨some 56, _, _, _, _, _⟩) rfl (.tmp 52) (.tmp 55) rfl W.heap.size vc (([] ++ T) ++ [(n : Int)]) (by simp [Act.eval]) OC.out (.slice (some ⟨g, i, none⟩) (K - i) (c - i)) U (by simp [Act.eval]) (HP.out _ GC.out).2 N3.out (SZ.out _ GC.out) ?_
                   intro vd wd od gd _
                   have OD := Lib.hid od
                   have GD := Lib.hid (below_app_i GC.out (SZ.out _ GC.out) OC.out gd)
                   clear od gd))
               all_goals
                have HN : Hid (OwnI w.heap.size wd vd (T ++ (n : Int) :: U) ∧ Below w.heap.size w wd) := Lib.hid ⟨by have := OD.out; simp only [List.nil_append, List.append_assoc, List.cons_append] at this; exact this.mono HB.out.size, below_more HB.out GD.out⟩
                rw [hT'.out, hU'.out] at HN
                go_wp2
                exact ⟨⟨k + 1, _, _, by have := HK.out; omega, by go_num, rfl, Lib.hid ⟨HN.out.1, HPUT.out, HN.out.2⟩⟩, by have := HK.out; simp [intOf]; omega⟩
         · obtain rfl : i = K := by omega
           have j1 : ¬ (i : Int) < (i : Int) := by omega
           have HPUT := Lib.hid (HPu.out i (by rw [HKl.out]; exact Nat.le_refl _) HJ.out (fun h => by rw [HKl.out] at h; omega))
           have hcc := HCm.out
           have j8 : (i : Int) ≤ (c : Int) := by omega
           have j9 : (i : Int) ≤ (i : Int) := by omega
           have HRI : Hid (∀ w', Below W.heap.size W w' → RI w' (.slice (some ⟨g, 0, none⟩) i c) l) := Lib.hid fun w' hb => ri_below HO.out.ri hb
           have HD0 : Hid (l.drop i = []) := Lib.hid (List.drop_eq_nil_of_le (by rw [HKl.out]; exact Nat.le_refl _))
           clear hi hlt
           by_cases ec : c = i
           · subst ec
             clear hcc
             have HP : Hid (∀ w', Below W.heap.size W w' → RI w' (.slice (some ⟨g, 0, none⟩) c c) (l.take c) ∧ RI w' (.slice (some ⟨g, 0, none⟩) 0 0) (l.drop c)) := Lib.hid fun w' hb => ⟨ri_take (HRI.out _ hb) (by rw [HKl.out]; exact Nat.le_refl _), by rw [HD0.out]; exact ri_none (Nat.zero_le _)⟩
             have N1 : Hid (([] : List Int).length + (l.take c).length ≤ 1000000) := Lib.hid (by rw [List.length_take]; have := HLl.out; simp only [List.length_nil]; omega)
             have N2 : Hid (([] ++ l.take c).length + [(n : Int)].length ≤ 1000000) := Lib.hid (by rw [List.nil_append, List.length_take]; have := HLl.out; simp only [List.length_singleton]; omega)
             have N3 : Hid ((([] ++ l.take c) ++ [(n : Int)]).length + (l.drop c).length ≤ 1000000) := Lib.hid (by rw [List.nil_append, List.length_append, List.length_take, List.length_drop]; have := HLl.out; simp only [List.length_singleton]; omega)
             obtain ⟨T, hT⟩ : ∃ T, l.take c = T := ⟨_, rfl⟩
             obtain ⟨U, hU⟩ : ∃ U, l.drop c = U := ⟨_, rfl⟩
             rw [hT] at HP N1 N2 N3
             rw [hU] at HP N3
             have hT' := Lib.hid hT.symm
             have hU' := Lib.hid hU.symm
             clear hT hU
             go_wp2_with fail
             go_region_law (first
              | (refine step_app_int (o := ⟨some 49, _, _, _, _, _⟩) rfl (.const (.slice none 0 0)) (.tmp 48) rfl W.heap.size (.slice none 0 0) [] (by simp [Act.eval]) (own_nil_i _ _) (.slice (some ⟨g, 0, none⟩) c c) T (by simp [Act.eval, Act.put]) (HP.out _ (by repeat' (first | (with_reducible exact Below.refl _ _) | (with_reducible refine Below.drew ?_) | (with_reducible refine bal ?_)))).1 N1.out (SZ.out _ (by repeat' (first | (with_reducible exact Below.refl _ _) | (with_reducible refine Below.drew ?_) | (with_reducible refine bal ?_)))) ?_
                 intro vb wb ob gb _
                 have OB := Lib.hid ob
                 have GB : Hid (Below W.heap.size W wb) := Lib.hid (GR.out _ _ _ (by repeat' (first | (with_reducible exact Below.refl _ _) | (with_reducible refine Below.drew ?_) | (with_reducible refine bal ?_))) gb rfl)
                 have GX := Lib.hid ((Below.refl _ _).grown gb (Nat.le_refl _) (by intro k hk; cases hk))
                 clear ob)
              | (refine step_app_int (o := ⟨some 52, _, _, _, _, _⟩) rfl (.tmp 49) (.tmp 51) rfl W.heap.size vb ([] ++ T) (by simp [Act.eval]) (own_up_i OB.out (bal (Below.refl _ _))) (.slice (some ⟨wb.heap.size, 0, none⟩) 1 1) [(n : Int)] (by simp [Act.eval]) (R1.out wb) N2.out (SZ.out _ (bal GB.out)) ?_
                 intro vc wc oc gc _
                 have OC := Lib.hid oc
                 have GC := Lib.hid (below_app_i (bal GB.out) (SZ.out _ (bal GB.out)) (own_up_i OB.out (bal (Below.refl _ _))) gc)
                 clear oc gc)
              | (refine step_app_int (o := ⟨some 52, _, _, _, _, _⟩) rfl (.tmp 49) (.tmp 51) rfl W.heap.size vb ([] ++ T) (by simp [Act.eval]) OB.out (.slice (some ⟨W.heap.size, 0, none⟩) 1 1) [(n : Int)] (by simp [Act.eval]) (ri_below (ri_below (R1.out W) ((Below.refl _ _).drew)) GX.out) N2.out (SZ.out _ GB.out) ?_
                 intro vc wc oc gc _
                 have OC := Lib.hid oc
                 have GC := Lib.hid (below_app_i GB.out (SZ.out _ GB.out) OB.out gc)
                 clear oc gc)
              | (refine step_app_int (o := ⟨some 56, _, _, _, _, _⟩) rfl (.tmp 52) (.tmp 55) rfl W.heap.size vc (([] ++ T) ++ [(n : Int)]) (by simp [Act.eval]) OC.out (.slice (some ⟨g, 0, none⟩) 0 0) U (by simp [Act.eval]) (HP.out _ GC.out).2 N3.out (SZ.out _ GC.out) ?_
                 intro vd wd od gd _
                 have OD := Lib.hid od
                 have GD := Lib.hid (below_app_i GC.out (SZ.out _ GC.out) OC.out gd)
                 clear od gd))
             all_goals
              have HN : Hid (OwnI w.heap.size wd vd (T ++ (n : Int) :: U) ∧ Below w.heap.size w wd) := Lib.hid ⟨by have := OD.out; simp only [List.nil_append, List.append_assoc, List.cons_append] at this; exact this.mono HB.out.size, below_more HB.out GD.out⟩
              rw [hT'.out, hU'.out] at HN
              go_wp2
              exact ⟨⟨k + 1, _, _, by have := HK.out; omega, by go_num, rfl, Lib.hid ⟨HN.out.1, HPUT.out, HN.out.2⟩⟩, by have := HK.out; simp [intOf]; omega⟩
           · clear hcc
             have HP : Hid (∀ w', Below W.heap.size W w' → RI w' (.slice (some ⟨g, 0, none⟩) i c) (l.take i) ∧ RI w' (.slice (some ⟨g, i, none⟩) 0 (c - i)) (l.drop i)) := Lib.hid fun w' hb => ⟨ri_take (HRI.out _ hb) (by rw [HKl.out]; exact Nat.le_refl _), by rw [HD0.out]; exact ri_none (by have := HCm.out; unfold maxLen at *; omega)⟩
             have N1 : Hid (([] : List Int).length + (l.take i).length ≤ 1000000) := Lib.hid (by rw [List.length_take]; have := HLl.out; simp only [List.length_nil]; omega)
             have N2 : Hid (([] ++ l.take i).length + [(n : Int)].length ≤ 1000000) := Lib.hid (by rw [List.nil_append, List.length_take]; have := HLl.out; simp only [List.length_singleton]; omega)
             have N3 : Hid ((([] ++ l.take i) ++ [(n : Int)]).length + (l.drop i).length ≤ 1000000) := Lib.hid (by rw [List.nil_append, List.length_append, List.length_take, List.length_drop]; have := HLl.out; simp only [List.length_singleton]; omega)
             obtain ⟨T, hT⟩ : ∃ T, l.take i = T := ⟨_, rfl⟩
             obtain ⟨U, hU⟩ : ∃ U, l.drop i = U := ⟨_, rfl⟩
             rw [hT] at HP N1 N2 N3
             rw [hU] at HP N3
             have hT' := Lib.hid hT.symm
             have hU' := Lib.hid hU.symm
             clear hT hU
             go_wp2_with fail
             go_region_law (first
              | (refine step_app_int (o := ⟨some 49, _, _, _, _, _⟩) rfl (.const (.slice none 0 0)) (.tmp 48) rfl W.heap.size (.slice none 0 0) [] (by simp [Act.eval]) (own_nil_i _ _) (.slice (some ⟨g, 0, none⟩) i c) T (by simp [Act.eval, Act.put]) (HP.out _ (by repeat' (first | (with_reducible exact Below.refl _ _) | (with_reducible refine Below.drew ?_) | (with_reducible refine bal ?_)))).1 N1.out (SZ.out _ (by repeat' (first | (with_reducible exact Below.refl _ _) | (with_reducible refine Below.drew ?_) | (with_reducible refine bal ?_)))) ?_
                 intro vb wb ob gb _
                 have OB := Lib.hid ob
                 have GB : Hid (Below W.heap.size W wb) := Lib.hid (GR.out _ _ _ (by repeat' (first | (with_reducible exact Below.refl _ _) | (with_reducible refine Below.drew ?_) | (with_reducible refine bal ?_))) gb rfl)
                 have GX := Lib.hid ((Below.refl _ _).grown gb (Nat.le_refl _) (by intro k hk; cases hk))
                 clear ob)
              | (refine step_app_int (o := ⟨some 52, _, _, _, _, _⟩) rfl (.tmp 49) (.tmp 51) rfl W.heap.size vb ([] ++ T) (by simp [Act.eval]) (own_up_i OB.out (bal (Below.refl _ _))) (.slice (some ⟨wb.heap.size, 0, none⟩) 1 1) [(n : Int)] (by simp [Act.eval]) (R1.out wb) N2.out (SZ.out _ (bal GB.out)) ?_
                 intro vc wc oc gc _
                 have OC := Lib.hid oc
                 have GC := Lib.hid (below_app_i (bal GB.out) (SZ.out _ (bal GB.out)) (own_up_i OB.out (bal (Below.refl _ _))) gc)
                 clear oc gc)
              | (refine step_app_int (o := ⟨some 52, _, _, _, _, _⟩) rfl (.tmp 49) (.tmp 51) rfl W.heap.size vb ([] ++ T) (by simp [Act.eval]) OB.out (.slice (some ⟨W.heap.size, 0, none⟩) 1 1) [(n : Int)] (by simp [Act.eval]) (ri_below (ri_below (R1.out W) ((Below.refl _ _).drew)) GX.out) N2.out (SZ.out _ GB.out) ?_
                 intro vc wc oc gc _
                 have OC := Lib.hid oc
                 have GC := Lib.hid (below_app_i GB.out (SZ.out _ GB.out) OB.out gc)
                 clear oc gc)
              | (refine step_app_int (o := ⟨some 56, _, _, _, _, _⟩) rfl (.tmp 52) (.tmp 55) rfl W.heap.size vc (([] ++ T) ++ [(n : Int)]) (by simp [Act.eval]) OC.out (.slice (some ⟨g, i, none⟩) 0 (c - i)) U (by simp [Act.eval]) (HP.out _ GC.out).2 N3.out (SZ.out _ GC.out) ?_
                 intro vd wd od gd _
                 have OD := Lib.hid od
                 have GD := Lib.hid (below_app_i GC.out (SZ.out _ GC.out) OC.out gd)
                 clear od gd))
             all_goals
              have HN : Hid (OwnI w.heap.size wd vd (T ++ (n : Int) :: U) ∧ Below w.heap.size w wd) := Lib.hid ⟨by have := OD.out; simp only [List.nil_append, List.append_assoc, List.cons_append] at this; exact this.mono HB.out.size, below_more HB.out GD.out⟩
              rw [hT'.out, hU'.out] at HN
              go_wp2
              exact ⟨⟨k + 1, _, _, by have := HK.out; omega, by go_num, rfl, Lib.hid ⟨HN.out.1, HPUT.out, HN.out.2⟩⟩, by have := HK.out; simp [intOf]; omega⟩
    · have i4 : a < 0 := by omega
      have HN : Hid (OwnI w.heap.size W lv l ∧ (IsL (es.take (k + 1)) l ∧ l.length ≤ k + 1) ∧ Below w.heap.size w W) := Lib.hid ⟨HO.out, ⟨hI.skip hlt (by rw [hya]; exact h1), by omega⟩, HB.out⟩
      clear hx hb hk hlt h1 hwf hwa hI hll hy hya
      go_wp2
      exact ⟨⟨k + 1, l, lv, by have := HK.out; omega, by go_num, rfl, HN⟩, by have := HK.out; simp [intOf]; omega⟩
  · obtain rfl : k = es.length := by omega
    have hF := H.out
    rw [List.take_length] at hF
    have HF := Lib.hid hF
    clear hF H hk hlt
    go_wp2
    go_ret
    exact ⟨⟨_, l, rfl, HF.out.1, HF.out.2.1.1⟩, HF.out.2.2⟩
theorem lnR_pos : ∀ {es : List Ed} {x : Int}, x ∈ lnR es → 0 ≤ x
 | [], _, h => by cases h
 | e :: r, x, h => by
   rw [lnR] at h
   split at h
   · rcases List.mem_cons.1 h with rfl | h
     · omega
     · exact lnR_pos h
   · exact lnR_pos h
theorem lnsF_pos {es : List Ed} {j : Nat} (hj : j < (lnsF es).length) : 0 ≤ (lnsF es).getD j 0 := by
 rw [List.getD_eq_getElem?_getD, List.getElem?_eq_getElem hj]
 exact lnR_pos (((lnsF_is es).mem _).1 (List.getElem_mem hj))
theorem bumps_snoc (c L : List Int) (z : Int) : bumps c (L ++ [z]) = (bumps c L).set (z.toNat / 4) ((bumps c L).getD (z.toNat / 4) 0 + 1) := by
 unfold bumps
 rw [List.foldl_append]; rfl
theorem getD_set_h {c : List Int} {p q : Nat} {x : Int} : (c.set p x).getD q 0 = if p = q ∧ p < c.length then x else c.getD q 0 := by
 rw [List.getD_eq_getElem?_getD, List.getD_eq_getElem?_getD, List.getElem?_set]
 by_cases e : p = q
 · subst e
   by_cases h : p < c.length
   · rw [if_pos rfl, if_pos h, if_pos ⟨rfl, h⟩]; rfl
   · rw [if_pos rfl, if_neg h, if_neg (fun k => h k.2), List.getElem?_eq_none (by omega)]
 · rw [if_neg e, if_neg (fun k => e k.1)]
theorem bumps_in : ∀ (L c : List Int) (M : Int), (∀ q, 0 ≤ c.getD q 0 ∧ c.getD q 0 ≤ M) → ∀ q, 0 ≤ (bumps c L).getD q 0 ∧ (bumps c L).getD q 0 ≤ M + L.length
 | [], _, _, h, q => by have := h q; simp only [bumps, List.foldl_nil, List.length_nil]; omega
 | z :: L, c, M, h, q => by
   have := bumps_in L (c.set (z.toNat / 4) (c.getD (z.toNat / 4) 0 + 1)) (M + 1) (fun p => by
    rw [getD_set_h]
    have h1 := h p
    have h2 := h (z.toNat / 4)
    split <;> omega) q
   simp only [List.length_cons]
   have e : bumps c (z :: L) = bumps (c.set (z.toNat / 4) (c.getD (z.toNat / 4) 0 + 1)) L := rfl
   rw [e]
   omega
theorem ctints_in {ct : Ct} {M : Nat} (h : ∀ q, q < ct.n → ct.c q ≤ M) : ∀ q, 0 ≤ ct.ints.getD q 0 ∧ ct.ints.getD q 0 ≤ M := fun q => by
 by_cases hq : q < ct.n
 · have e : ct.ints.getD q 0 = (ct.c q : Int) := byF_getD _ hq
   have := h q hq
   rw [e]; omega
 · have e : ct.ints.getD q 0 = 0 := by
    rw [List.getD_eq_getElem?_getD, List.getElem?_eq_none (by have : ct.ints.length = ct.n := byF_length _ _; omega)]; rfl
   rw [e]; omega
theorem alR_len {X : List Int} {r N : Nat} {n : Int} {cs : List Int} (hl : X.length = 8 * N) (hs : soundB X r = true) (hok : WordsOk X) (h0 : (alR X n cs).2.2 = 0) : (alR X n cs).1.length ≤ 4000 := by
 by_cases hn : needN n = 0
 · rw [alR_arg hn] at h0; cases h0
 · exact (alR_good hl hs hok hn h0).1.len
theorem frR_len (X : List Int) (o : Int) : (frR X o).1.length ≤ 4000 := by
 unfold frR
 split
 · simp
 · split <;> simp
theorem hi_block {B : Nat} {w : World} {v : Value} {l : List Int} (h : OwnI B w v l) (h0 : 0 < l.length) : ∃ g c, v = .slice (some ⟨g, 0, none⟩) l.length c ∧ B ≤ g ∧ g < w.heap.size := by
 obtain ⟨_, ⟨rfl, h1⟩ | ⟨g, cap, cur, rfl, hb, hg, h1, h2, _⟩⟩ := h
 · omega
 · exact ⟨g, cap, rfl, hb, (Array.getElem?_eq_some_iff.1 hg).1⟩
theorem hi_stored {B g c : Nat} {w : World} {n : Nat} {l : List Int} (hn : n = l.length) (h : OwnI B w (.slice (some ⟨g, 0, none⟩) n c) l) (j : Nat) (x : Int) : OwnI B (w.setCell ⟨g, j, none⟩ (.int .i64 x)) (.slice (some ⟨g, 0, none⟩) n c) (l.set j x) := by
 subst hn
 have := World.ownsRow.stored (g := g) (cap := c) h j (iv x)
 unfold OwnI
 rw [List.length_set, List.map_set]
 exact this.1
theorem hi_cells {B : Nat} {w : World} {g n c : Nat} {l : List Int} (hn : n = l.length) (h : OwnI B w (.slice (some ⟨g, 0, none⟩) n c) l) {j : Nat} (hj : j < l.length) : w.cell? ⟨g, j, none⟩ = some (.int .i64 (l.getD j 0)) ∧ w.frozen? ⟨g, j, none⟩ = false := by
 subst hn
 refine ⟨?_, World.ownsRow.frozenAt (g := g) (cap := c) h j⟩
 rw [World.ownsRow.cellAt (g := g) (cap := c) h j (by omega)]
 simp [hj, iv]
theorem OwnI.below_h {B : Nat} {w w' : World} {v : Value} {l : List Int} (h : OwnI B w v l) (hb : Below w.heap.size w w') : OwnI B w' v l := own_up_i h hb
end Go.Proofs.YtjkefcidbcifpaaGreat
