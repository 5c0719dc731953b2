/-
  Contracts of the reference's model.
-/
import Derived.Test.YtkpefnjohdjejaaMwr
import Derived.Test.YtkpefnjohdjejaaZmd
namespace Go.Proofs.Ytkpefnjohdjejaa
set_option maxRecDepth 100000
open Go.ChangeShapes Go.WideShapes Go.ChangeAt Go.RowKit

def rmBuild (ps : Array (Nat × Value)) : Sem Value := Instr.build 43 ps
@[go_sem ↓] theorem build_rm (ps : Array (Nat × Value)) : Instr.build 43 ps = rmBuild ps := rfl
theorem built_rm1 (p : Option Addr) (n c : Nat) : Try.prog.built 43 [(0, .slice p n c)] = some #[.slice p n c, .int .i64 0] := by kernel_rfl
theorem built_rm2 (p : Option Addr) (n c : Nat) (r : Int) : Try.prog.built 43 [(0, .slice p n c), (1, .int .i64 r)] = some #[.slice p n c, .int .i64 r] := by kernel_rfl
@[go_sem] theorem run_rmBuild1 (w : World) (p : Option Addr) (n c : Nat) : (rmBuild #[(0, .slice p n c)]).run Try.prog w = .ok (.agg #[.slice p n c, .int .i64 0]) w := run_build w _ _ _ (built_rm1 p n c)
@[go_sem] theorem run_rmBuild2 (w : World) (p : Option Addr) (n c : Nat) (r : Int) : (rmBuild #[(0, .slice p n c), (1, .int .i64 r)]).run Try.prog w = .ok (.agg #[.slice p n c, .int .i64 r]) w := run_build w _ _ _ (built_rm2 p n c r)

/-- its words are others now -/
theorem Rm.put {D : List Nat} {g B : Nat} {wl wl' : List Int} {l l' : List Bk} {r : Int} {w wq : World} {u : Value} (h : Rm w D g wl l r) (hb : Below w.heap.size w wq) (ho : OwnU B wq u wl') (hB : w.heap.size ≤ B) (hB' : blkF wl' = some l') (hok : WordsOk wl') : Rm (wq.setCell ⟨g, 0, none⟩ u) D g wl' l' r ∧ Chg [g] w (wq.setCell ⟨g, 0, none⟩ u) := by
  obtain ⟨v, h1, _⟩ := h.rows
  have hc : Chg [g] wq (wq.setCell ⟨g, 0, none⟩ u) := (Chg.refl [g] wq).setCell (p := ⟨g, 0, none⟩) (.inl (List.mem_singleton.2 rfl)) u
  have hDB : ∀ k ∈ D, k < B := fun k hk => Nat.lt_of_lt_of_le (h.dlt k hk) hB
  have hgD : ∀ k ∈ [g], k ∈ D := fun k hk => by rw [List.mem_singleton.1 hk]; exact h.gD
  have hF := far_own_u ho hDB
  have hWq : Whole wq g 43 #[v, .int .i64 r] := (hb.block g h1.lt).trans h1
  exact ⟨⟨hB', hok, h.gD, fun k hk => Nat.lt_of_lt_of_le (h.dlt k hk) (Nat.le_trans hb.size hc.size), u, hWq.set_ 0 u, ru_chg ho.ru hc (fun k hk q => (hF k hk).2 (hgD k q)), hF.grow hc.size⟩, (Chg.of_below hb [g]).trans hc⟩
theorem Rm.root {D : List Nat} {g : Nat} {wl : List Int} {l : List Bk} {r : Int} {w w' : World} (h : Rm w D g wl l r) (hb : Below w.heap.size w w') (o : Int) : Rm (w'.setCell ⟨g, 1, none⟩ (.int .i64 o)) D g wl l o ∧ Chg [g] w (w'.setCell ⟨g, 1, none⟩ (.int .i64 o)) := by
  obtain ⟨v, h1, h2, h3⟩ := (h.below hb).rows
  have hc : Chg [g] w' (w'.setCell ⟨g, 1, none⟩ (.int .i64 o)) := (Chg.refl [g] w').setCell (p := ⟨g, 1, none⟩) (.inl (List.mem_singleton.2 rfl)) _
  have hgD : ∀ k ∈ [g], k ∈ D := fun k hk => by rw [List.mem_singleton.1 hk]; exact h.gD
  exact ⟨⟨h.hB, h.ok, h.gD, fun k hk => Nat.lt_of_lt_of_le ((h.below hb).dlt k hk) hc.size, v, h1.set_ 1 _, ru_chg h2 hc (fun k hk q => (h3 k hk).2 (hgD k q)), h3.grow hc.size⟩, (Chg.of_below hb [g]).trans hc⟩

theorem rnew_no (n : Int) (h : ¬ Mw n) (w : World) : Calls Try.prog 9 #[.int .i64 n] w fun e w' => e = .returned (.pointer none) ∧ w = w' := by
  have C := Lib.hid (rmayw_is n w)
  rw [decide_eq_false h] at C
  clear h
  go_enter Try.func9, Try.ntmps9
  go_wp2_with fail
  refine (C.out).mono ?_; rintro e w1 ⟨rfl, rfl⟩
  go_wp2_with fail
  go_ret
  exact ⟨rfl, rfl⟩
theorem rnew_yes (n : Nat) (h : Mw n) (w : World) : Calls Try.prog 9 #[.int .i64 n] w fun e w' => (∃ g, e = .returned (.pointer (some ⟨g, 0, none⟩)) ∧ w.heap.size ≤ g ∧ g < w'.heap.size ∧ ∀ D : List Nat, (∀ k ∈ D, k < w.heap.size) → Rm w' (g :: D) g (firstL n) [⟨0, n, false⟩] 0) ∧ Below w.heap.size w w' := by
  have C0 := Lib.hid (rmayw_is n w)
  rw [decide_eq_true h] at C0
  have C := Lib.hid (rfirst_is n w)
  have HF := Lib.hid (first_blk h)
  clear h
  go_enter Try.func9, Try.ntmps9
  go_wp2_with fail
  refine (C0.out).mono ?_; rintro e w1 ⟨rfl, rfl⟩
  go_wp2_with fail
  refine (C.out).mono ?_; rintro e w1 ⟨⟨v, rfl, o⟩, b1⟩
  have O1 := Lib.hid o
  obtain ⟨p, c, rfl⟩ := o.shape
  have D1 := Lib.hid b1
  clear b1 o C C0
  have HM : Hid (∀ D : List Nat, (∀ k ∈ D, k < w.heap.size) → Rm (w1.alloc (.cells #[.slice p (firstL n).length c, .int .i64 0] 43)) (w1.heap.size :: D) w1.heap.size (firstL n) [⟨0, n, false⟩] 0) := Lib.hid fun D hD => by
    obtain ⟨q1, q2, q3⟩ := HF.out
    refine ⟨q1, q3, List.mem_cons_self .., fun k hk => ?_, _, heap_alloc_new _ _, ru_below O1.out.ru (bal (Below.refl _ _)), ?_⟩
    · rw [size_alloc]
      rcases List.mem_cons.1 hk with rfl | hk
      · omega
      · have := hD k hk
        have := D1.out.size
        omega
    · exact Far.more (D := D) (far_own_u O1.out hD) (by rw [size_alloc]; omega) (Nat.le_refl _)
  generalize (firstL n).length = L at *
  go_wp2_with fail
  go_ret
  exact ⟨⟨_, rfl, D1.out.size, by rw [size_alloc]; omega, HM.out⟩, bal D1.out⟩

theorem rmblk_is {D : List Nat} {g : Nat} {wl : List Int} {l : List Bk} {r : Int} (w : World) (h : Rm w D g wl l r) : Calls Try.prog 16 #[.pointer (some ⟨g, 0, none⟩)] w fun e w' => (∃ v, e = .returned v ∧ OwnA blkE w.heap.size w' v l) ∧ Below w.heap.size w w' := by
  obtain ⟨_, hwl, _⟩ := h.len
  obtain ⟨v, hW, hv, _⟩ := h.rows
  have T := Lib.hid (rblocks_main wl v (some l) w hv (by omega) h.ok h.hB)
  have c0 : w.cell? ⟨g, 0, none⟩ = some v := by rw [Whole.at_ hW]; rfl
  simp only [Option.isSome_some, Option.getD_some] at T
  clear h hW hv hwl
  go_enter Try.func16, Try.ntmps16
  go_wp2_with fail
  refine (T.out).mono ?_; rintro e w1 ⟨⟨v1, rfl, o1⟩, b1⟩
  go_wp2
  go_ret
  exact ⟨⟨_, rfl, o1⟩, b1⟩

set_option maxHeartbeats 2000000 in
theorem rmfit_is {D : List Nat} {g : Nat} {wl : List Int} {l : List Bk} {r : Int} (n : Int) (w : World) (h : Rm w D g wl l r) :
    Calls Try.prog 30 #[.pointer (some ⟨g, 0, none⟩), .int .i64 n] w fun e w' => (∃ v, e = .returned v ∧ OwnI w.heap.size w' v (fos (needN n) l)) ∧ Below w.heap.size w w' := by
  obtain ⟨hlen, _, _⟩ := h.len
  have C0 := Lib.hid (fun w => rneed_is n w)
  have C1 := Lib.hid (rmblk_is w h)
  generalize needN n = N at *
  have C2 := Lib.hid (fun v w' (hv : RA blkE w' v l) => rfits_is N l v w' hv (by omega))
  have hm : ∀ i ∈ fitN N l, i < l.length := fun i hi => (fitN_mem hi).1
  have hfl : (fitN N l).length ≤ 256 := by
    have := fbl_len N l
    rw [fbl, List.length_map] at this
    omega
  unfold fos fbl
  rw [List.map_map]
  generalize fitN N l = F at *
  have HM := Lib.hid hm
  have HL := Lib.hid (And.intro hlen hfl)
  clear hm hlen hfl h
  go_enter Try.func30, Try.ntmps30
  go_wp2_with fail
  refine (C1.out).mono ?_; rintro e w1 ⟨⟨v1, rfl, o1⟩, b1⟩
  have D1 := Lib.hid b1
  have O1 := Lib.hid o1.ra
  clear b1 o1 C1
  go_wp2_with fail
  refine (C0.out _).mono ?_; rintro e w1 ⟨rfl, rfl⟩
  go_wp2_with fail
  refine (C2.out _ _ O1.out).mono ?_; rintro e w2 ⟨⟨v2, rfl, o2⟩, b2⟩
  have D2 := Lib.hid (below_more D1.out b2)
  have HF := Lib.hid o2.ri
  have O2 := Lib.hid (ra_below O1.out b2)
  obtain ⟨pf, cf, rfl⟩ := o2.shape
  obtain ⟨pl, cl, rfl, _, _⟩ := ra_shape O1.out
  clear b2 o2 C2 O1
  rw [ins_length] at HF ⊢
  go_wp2
  go_loopw [6, 16] (fun y i wr => ∃ (k : Nat), k ≤ F.length ∧ i = .int .i64 k ∧ Hid (OwnI w2.heap.size wr y ((F.take k).map ((fun b : Bk => offB b.a) ∘ fun i => l.getD i default)) ∧ Below w2.heap.size w2 wr)) (fun _ i _ => F.length - (intOf i).toNat)
  case atStart => exact ⟨0, Nat.zero_le _, rfl, Lib.hid ⟨ownI_nil' _ _, Below.refl _ _⟩⟩
  case round =>
    obtain ⟨k, hk, rfl, H⟩ := hrel
    by_cases hlt : k < F.length
    · obtain ⟨bf, of, rfl, _, hfr⟩ := ri_some (ri_below HF.out H.out.2) (by rw [ins_length]; omega)
      have cf1 := hfr k (by rw [ins_length]; exact hlt)
      rw [ins_getD hlt] at cf1
      have hi := HM.out _ (getD_mem_n hlt)
      obtain ⟨b, off, rfl, _, hx⟩ := blk_at (ra_below O2.out H.out.2) (by omega)
      obtain ⟨hld, _, _, _, _⟩ := hx _ hi
      have HS := Lib.hid (map_snoc ((fun b : Bk => offB b.a) ∘ fun i => l.getD i default) hlt)
      have i0 : (0 : Int) ≤ (k : Int) := by omega
      have i1 : (k : Int) < (F.length : Int) := by omega
      have i2 : ¬ (k : Int) < 0 := by omega
      have i3 : IntKind.i64.wrap ((k : Int) + 1) = ((k + 1 : Nat) : Int) := by rw [show (k : Int) + 1 = ((k + 1 : Nat) : Int) by omega]; exact i64_nat _ (by have := HL.out; omega)
      have q1 : ((F.getD k 0 : Nat) : Int) < (l.length : Int) := by omega
      have q3 : ¬ ((F.getD k 0 : Nat) : Int) < 0 := by omega
      have q5 : (0 : Int) ≤ ((F.getD k 0 : Nat) : Int) := by omega
      have HK := Lib.hid hlt
      have hcl : Hid (((F.take k).map ((fun b : Bk => offB b.a) ∘ fun i => l.getD i default)).length + 1 ≤ 1000000) := Lib.hid (by rw [List.length_map, List.length_take]; have := HL.out; omega)
      have HO := Lib.hid H.out.1
      have HB := Lib.hid H.out.2
      clear hfr hk hx hi hlt
      change Hid (_ = _ ++ [offB (l.getD (F.getD k 0) default).a]) at HS
      obtain ⟨Z, hZ⟩ : ∃ Z, (F.take k).map ((fun b : Bk => offB b.a) ∘ fun i => l.getD i default) = Z := ⟨_, rfl⟩
      rw [hZ] at hcl HS HO
      clear H hZ
      generalize F.getD k 0 = I at *
      generalize l.getD I default = X at *
      obtain ⟨x, hx⟩ : ∃ x, offB X.a = x := ⟨_, rfl⟩
      have C := Lib.hid (roff_is X x hx wr)
      rw [hx] at HS
      clear hx
      go_wp2_with fail
      refine (C.out).mono ?_; rintro e w3 ⟨rfl, b3⟩
      have B2 := Lib.hid b3
      clear b3
      go_wp2_with (at_builtin; refine list_app_int rfl _ _ rfl w2.heap.size _ _ rfl (World.ownsRow.alloc (own_below_i HO.out B2.out) _) _ [x] rfl (ri_one _ _) hcl.out (bal (below_more HB.out B2.out)).size ?_)
      intro v3 w4 o3 g3 x3
      have B3 := Lib.hid (Below.grown (bal (below_more HB.out B2.out)) g3 (bal (below_more HB.out B2.out)).size (fun q hq => (World.ownsRow.lt HO.out q hq).1))
      have O3 := Lib.hid o3
      clear o3 g3 x3
      go_wp2
      go_roundw
      case rel => exact ⟨k + 1, by have := HK.out; omega, by go_num, Lib.hid ⟨by rw [HS.out]; exact O3.out, B3.out⟩⟩
      case measure => have := HK.out; simp [intOf]; omega
    · obtain rfl : k = F.length := by omega
      have HF := H.out
      rw [List.take_length] at HF
      go_wp2
      go_ret
      exact ⟨⟨_, rfl, OwnI.mono HF.1 D2.out.size⟩, below_more D2.out HF.2⟩

theorem rmread_is {D : List Nat} {g : Nat} {wl : List Int} {l : List Bk} {r : Int} (o n : Int) (w : World) (h : Rm w D g wl l r) (ho : -9223372036854775808 ≤ o ∧ o ≤ 9223372036854775807) (hn : -9223372036854775808 ≤ n ∧ n ≤ 9223372036854775807) : Calls Try.prog 35 #[.pointer (some ⟨g, 0, none⟩), .int .i64 o, .int .i64 n] w fun e w' =>
    (∃ x, e = .returned (.tuple #[x, .int .i64 (refF wl o n)]) ∧ OwnA byE w.heap.size w' x (rdR wl o n)) ∧ Below w.heap.size w w' := by
  obtain ⟨_, hwl, _⟩ := h.len
  obtain ⟨v, hW, hv, _⟩ := h.rows
  have T := Lib.hid (rrd_is wl o n v w hv (by omega) h.ok ho hn)
  have c0 : w.cell? ⟨g, 0, none⟩ = some v := by rw [Whole.at_ hW]; rfl
  clear h hW hv hwl ho hn
  generalize refF wl o n = R at *
  generalize rdR wl o n = B at *
  go_enter Try.func35, Try.ntmps35
  go_wp2_with fail
  refine (T.out).mono ?_; rintro e w1 ⟨⟨v1, rfl, o1⟩, b1⟩
  go_wp2
  go_ret2
  exact ⟨⟨_, rfl, o1⟩, b1⟩

theorem rmwrite_is {D : List Nat} {g : Nat} {wl : List Int} {l : List Bk} {r : Int} (o : Int) (bl : List Int) (u : Value) (w : World) (h : Rm w D g wl l r) (hu : RA byE w u bl) (hbl : bl.length ≤ 100000) (ho : -9223372036854775808 ≤ o ∧ o ≤ 9223372036854775807) (wl' : List Int) (hwl' : ∀ M, WrT wl bl o M → appF wl M = wl' ∧ M.length ≤ 4000) (hB' : blkF wl' = some l) (hok' : WordsOk wl') : Calls Try.prog 33 #[.pointer (some ⟨g, 0, none⟩), .int .i64 o, u] w fun e w' =>
    e = .returned (.int .i64 (refF wl o bl.length)) ∧ Rm w' D g wl' l r ∧ Chg [g] w w' := by
  obtain ⟨_, hwl, _⟩ := h.len
  obtain ⟨v, hW, hv, _⟩ := h.rows
  have T := Lib.hid (rwr_is wl bl o v u w hv hu (by omega) hbl h.ok ho)
  have c0 : ∀ w', Below w.heap.size w w' → w'.cell? ⟨g, 0, none⟩ = some v := fun w' hb => by rw [hb.cell (p := ⟨g, 0, none⟩) hW.lt, Whole.at_ hW]; rfl
  have f0 : ∀ w', Below w.heap.size w w' → w'.frozen? ⟨g, 0, none⟩ = false := fun w' hb => Whole.free ((hb.block g hW.lt).trans hW) 0
  have CA := Lib.hid (fun (M : List Ed) (v' : Value) (w' : World) (hb : Below w.heap.size w w') (hv' : RA edE w' v' M) (hM : M.length ≤ 4000) => rapply_any wl M v v' w' (ru_below hv hb) hv' (by omega) hM)
  have d0 := c0 w (Below.refl _ _)
  have HA := Lib.hid hwl'
  have FIN := Lib.hid (fun wq uq (hb : Below w.heap.size w wq) (B : Nat) (ho : OwnU B wq uq wl') (hB : w.heap.size ≤ B) => h.put hb ho hB hB' hok')
  have STAY := Lib.hid (fun w' (hb : Below w.heap.size w w') => And.intro (h.below hb) (Chg.of_below hb [g]))
  have hs : Hid (∀ M, WrT wl bl o M → refF wl o bl.length ≠ 0 → wl' = wl) := Lib.hid fun M hM hr => by
    obtain ⟨e, _⟩ := hwl' M hM
    unfold WrT at hM
    rw [if_neg hr] at hM
    rw [← e, hM]
    rfl
  obtain ⟨q, d, rfl, _, _⟩ := ra_shape hu
  clear hW hv hu hbl ho hwl' hB' hok' hwl h
  generalize refF wl o bl.length = R at *
  have HT := Lib.hid T
  generalize bl.length = Z at *
  by_cases h0 : R = 0
  · subst h0
    go_enter Try.func33, Try.ntmps33
    go_wp2_with fail
    refine (T.out).mono ?_; rintro e w1 ⟨⟨x, M, rfl, ox, tx⟩, b1⟩
    have D1 := Lib.hid b1
    have d1 := c0 w1 b1
    have C3 := Lib.hid (CA.out M x w1 b1 ox.ra (HA.out M tx).2)
    have hM := (HA.out M tx).1
    rw [hM] at C3
    clear b1 ox tx
    go_wp2_with fail
    refine (C3.out).mono ?_; rintro e w2 ⟨⟨y, rfl, oy⟩, b2⟩
    have B2 := Lib.hid (below_more D1.out b2)
    have FQ := Lib.hid (FIN.out w2 y B2.out _ oy D1.out.size)
    have f2 := f0 w2 B2.out
    have d2 := c0 w2 B2.out
    obtain ⟨pq, cq, rfl⟩ := oy.shape
    clear oy b2
    go_wp2_with fail
    go_ret
    exact ⟨rfl, FQ.out⟩
  · have e0 : (R == 0) = false := beq_eq_false_iff_ne.2 h0
    have HR := Lib.hid h0
    clear h0
    go_enter Try.func33, Try.ntmps33
    go_wp2_with fail
    refine (T.out).mono ?_; rintro e w1 ⟨⟨x, M, rfl, ox, tx⟩, b1⟩
    have FQ := Lib.hid (STAY.out w1 b1)
    rw [← hs.out M tx HR.out] at FQ
    clear b1 ox tx
    go_wp2_with fail
    go_ret
    exact ⟨rfl, FQ.out⟩
end Go.Proofs.Ytkpefnjohdjejaa
