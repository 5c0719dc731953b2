import Derived.Test.YtjkefcidbcifpaaGreatZmc
set_option maxRecDepth 100000
set_option maxHeartbeats 8000000
namespace Go.Proofs.YtjkefcidbcifpaaGreat
open Go.ChangeShapes Go.WideShapes Go.ChangeAt Go.RowKit
theorem info_tally : (Tryz.prog.info? 148).map (fun i => (i.zero, i.size, i.bytes)) = some (some (.agg #[.int .i64 0, .int .i64 0]), 2, 16) := by kernel_rfl
def cnew (b n : Nat) (l : List Int) (k : Nat) : Ct := ⟨b, n, fun p => if p < k then br (l.getD p 0) else 0, fun p => if p < k then br (l.getD p 0) else 0⟩
theorem cnew_step (b n : Nat) (l : List Int) (k : Nat) : ({ ({ cnew b n l k with c := at1 (cnew b n l k).c k (br (l.getD k 0)) } : Ct) with k := at1 (cnew b n l k).k k (br (l.getD k 0)) } : Ct) = cnew b n l (k + 1) := by
 have e : at1 (cnew b n l k).c k (br (l.getD k 0)) = (cnew b n l (k + 1)).c := by
  funext p
  unfold at1 cnew
  by_cases h : p = k
  · subst h; rw [if_pos rfl]; dsimp only; rw [if_pos (by omega)]
  · rw [if_neg h]; dsimp only
    by_cases hp : p < k
    · rw [if_pos hp, if_pos (by omega)]
    · rw [if_neg hp, if_neg (by omega)]
 have e2 : at1 (cnew b n l k).k k (br (l.getD k 0)) = (cnew b n l (k + 1)).k := e
 rw [e2]; dsimp only; rw [e]; rfl
theorem cnew_ok {b : Nat} {l : List Int} (h1 : 1 ≤ b) (h2 : b ≤ 100) (h3 : l.length ≤ 16) (k : Nat) : (cnew b l.length l k).Ok :=
 ⟨h1, h2, h3, fun _ _ => Nat.le_refl _, fun _ _ => Nat.lt_add_of_pos_right h1⟩
theorem run_make_tally (b n : Nat) (l : List Int) (hn : n ≤ 16) (w : World) :
 (Instr.makeSlice 144 (.int .i64 (n : Int)) (.int .i64 (n : Int))).run Tryz.prog w = .ok (.slice (some ⟨w.heap.size, 0, none⟩) n n) (w.alloc (.cells (tab (n * 2) (cnew b n l 0).f) 148)) := by
 obtain ⟨i, hi, hzz⟩ := Option.map_eq_some_iff.1 info_tally
 simp only [Prod.mk.injEq] at hzz
 obtain ⟨hz, hs, hb⟩ := hzz
 have := run_make (P := Tryz.prog) w 144 148 i _ Tryz.underlying144 hi hz .i64 .i64 n n (by omega) (by omega) (by rw [hb]; omega) (by omega)
 rw [Int.toNat_natCast, hs] at this
 rw [this, made_tab _ _ (cnew b n l 0).f]
 intro j _
 have h2 : (Value.agg #[.int .i64 0, .int .i64 0]).cells.size = 2 := rfl
 rw [h2]
 have e : (cnew b n l 0).f j = .int .i64 0 := by
  simp [Ct.f, cnew]
 rw [e]
 rcases (by omega : j % 2 = 0 ∨ j % 2 = 1) with h | h <;> rw [h] <;> rfl
theorem cnew_no (b : Int) (v : Value) (l : List Int) (w : World) (hr : RI w v l) (h : b < 1 ∨ 100 < b ∨ 16 < l.length) : Calls Tryz.prog 78 #[.int .i64 b, v] w fun e w' => e = .returned (.pointer none) ∧ w = w' := by
 obtain ⟨p, c, rfl, _⟩ := hr
 by_cases h1 : b < 1
 · clear h
   go_enter Tryz.func78, Tryz.ntmps78
   go_wp2_with fail
   go_ret
   exact ⟨rfl, rfl⟩
 · by_cases h2 : b > 100
   · clear h
     go_enter Tryz.func78, Tryz.ntmps78
     go_wp2_with fail
     go_ret
     exact ⟨rfl, rfl⟩
   · have h3 : (l.length : Int) > 16 := by omega
     have h4 : l.length > 16 := by omega
     clear h
     generalize l.length = n at *
     go_enter Tryz.func78, Tryz.ntmps78
     go_wp2_with fail
     go_ret
     exact ⟨rfl, rfl⟩
theorem cnew_yes (b : Nat) (v : Value) (l : List Int) (w : World) (hr : RI w v l) (h1 : 1 ≤ b) (h2 : b ≤ 100) (h3 : l.length ≤ 16) :
 Calls Tryz.prog 78 #[.int .i64 (b : Int), v] w fun e w' => ∃ x g, e = .returned (.pointer (some ⟨x, 0, none⟩)) ∧ w.heap.size ≤ x ∧ w.heap.size ≤ g ∧ Cq w' x g (cnew b l.length l l.length) ∧ Below w.heap.size w w' := by
 have HR := Lib.hid hr
 obtain ⟨p, c, rfl, q1, q2, q3⟩ := hr
 obtain ⟨n, hn⟩ : ∃ n, l.length = n := ⟨_, rfl⟩
 rw [hn]
 rw [hn] at h3 HR
 have hmk := run_make_tally b n l h3
 obtain ⟨W, hW⟩ : ∃ W, (w.alloc (.cells (tab (n * 2) (cnew b n l 0).f) 148)).alloc (.cells #[.int .i64 (b : Int), .slice (some ⟨w.heap.size, 0, none⟩) n n] 146) = W := ⟨_, rfl⟩
 have hs1 : (w.alloc (.cells (tab (n * 2) (cnew b n l 0).f) 148)).heap.size = w.heap.size + 1 := size_alloc _ _
 have CQ : Cq W (w.heap.size + 1) w.heap.size (cnew b n l 0) := by
  refine ⟨by omega, ?_, ?_⟩
  · rw [← hW]
    have := heap_alloc_new (w.alloc (.cells (tab (n * 2) (cnew b n l 0).f) 148)) (.cells #[.int .i64 (b : Int), .slice (some ⟨w.heap.size, 0, none⟩) n n] 146)
    rw [hs1] at this; exact this
  · rw [← hW]
    exact Whole.alloc (heap_alloc_new w _) _
 have BW : Below w.heap.size w W := by rw [← hW]; exact bal (bal (Below.refl _ _))
 have H0 := Lib.hid CQ
 have B0 := Lib.hid BW
 have HN := Lib.hid hn
 have H3 := Lib.hid h3
 have k1 : ¬ (b : Int) < 1 := by omega
 have k2 : ¬ (b : Int) > 100 := by omega
 have k3 : ¬ (n : Int) > 16 := by omega
 have k4 : ¬ n > 16 := by omega
 rw [hn] at q1
 clear CQ BW q1 q2 q3 h1 h2 h3 hn hs1
 go_enter Tryz.func78, Tryz.ntmps78
 go_wp2
 go_loopw [6, 7, 27] (fun _ _ i wr => ∃ k : Nat, k ≤ n ∧ i = .int .i64 k ∧ Hid (Cq wr (w.heap.size + 1) w.heap.size (cnew b n l k) ∧ Below w.heap.size w wr)) (fun _ _ i _ => n - (intOf i).toNat)
 case atStart => exact ⟨0, Nat.zero_le _, rfl, Lib.hid ⟨H0.out, B0.out⟩⟩
 case round =>
  obtain ⟨k, hk, rfl, H⟩ := hrel
  clear hmk
  by_cases hlt : k < n
  · have j0 : IntKind.i64.wrap ((k : Int) + 1) = ((k + 1 : Nat) : Int) := by rw [show (k : Int) + 1 = ((k + 1 : Nat) : Int) by omega]; exact i64_nat _ (by have := H3.out; omega)
    obtain ⟨bb, off, rfl, hbb, hc⟩ := ri_some HR.out (by rw [HN.out]; omega)
    have c0 : wr.cell? ⟨bb, off + k, none⟩ = some (.int .i64 (l.getD k 0)) := (H.out.2.cell (p := ⟨bb, off + k, none⟩) hbb).trans (hc k (by rw [HN.out]; exact hlt))
    have c1 := H.out.1.c1
    have f0 := H.out.1.free (k * 2)
    have f1 := H.out.1.free (k * 2 + 1)
    have p0 := H.out.1.p0 (p := k) hlt
    have p1 := H.out.1.p1 (p := k) hlt
    have i0 : (0 : Int) ≤ (k : Int) := by omega
    have i1 : (k : Int) < (n : Int) := by omega
    have i2 : ¬ (k : Int) < 0 := by omega
    have s1 := H.out.1.setc (p := k) hlt (br (l.getD k 0))
    have s2 := s1.setk (p := k) hlt (br (l.getD k 0))
    have s3 := s2.as (cnew_step b n l k)
    have B1 := (H.out.2.setCell (p := ⟨w.heap.size, k * 2, none⟩) (Nat.le_refl _) (.int .i64 (br (l.getD k 0) : Int))).setCell (p := ⟨w.heap.size, k * 2 + 1, none⟩) (Nat.le_refl _) (.int .i64 (br (l.getD k 0) : Int))
    have HF := Lib.hid (And.intro s3 B1)
    have CB := Lib.hid (bring_is (l.getD k 0) wr)
    have en : (cnew b n l k).n = n := rfl
    rw [en] at c1
    clear s1 s2 s3 B1 hc H en
    generalize br (l.getD k 0) = y at *
    generalize (cnew b n l k).c k = oc at *
    generalize (cnew b n l k).k k = ok at *
    generalize l.getD k 0 = yy at *
    go_wp2_with fail
    refine (CB.out).mono ?_; rintro e w' ⟨rfl, rfl⟩
    go_wp2
    exact ⟨⟨k + 1, by omega, by go_num, HF⟩, by simp [intOf]; omega⟩
  · obtain rfl : k = n := by omega
    go_wp2
    go_ret
    exact ⟨_, _, rfl, Nat.le_succ _, Nat.le_refl _, H.out.1, H.out.2⟩
theorem call_any {x g : Nat} {s : Ct} {w : World} (h : Cq w x g s) (hn : s.n ≤ 16) :
 Calls Tryz.prog 59 #[.pointer (some ⟨x, 0, none⟩)] w fun e w' => e = .returned (.slice (some ⟨w.heap.size, 0, none⟩) s.n s.n) ∧ OwnI w.heap.size w' (.slice (some ⟨w.heap.size, 0, none⟩) s.n s.n) (byF s.n fun p => (s.c p : Int)) ∧ Below w.heap.size w w' := by
 have hmk := run_make_row' (P := Tryz.prog) 24 3 (.int .i64 0) 8 Tryz.underlying24 info_int rfl .i64 .i64 s.n (by omega) (by omega)
 have O0 := made_own_i w s.n (by unfold maxLen; omega)
 rw [byF_zero s.n (f := fun p => if p < 0 then (s.c p : Int) else 0) fun k => rfl] at O0
 obtain ⟨W, hW⟩ : ∃ W, w.alloc (.cells (madeCells #[.int .i64 0] s.n) 3) = W := ⟨_, rfl⟩
 have B0 := bal (o := .cells (madeCells #[.int .i64 0] s.n) 3) (Below.refl w.heap.size w)
 rw [hW] at O0 B0
 have c1 := h.c1
 have d1 : W.cell? ⟨x, 1, none⟩ = some (.slice (some ⟨g, 0, none⟩) s.n s.n) := by rw [← hW]; exact cell_kept c1 _
 have OO := Lib.hid O0
 have BB := Lib.hid B0
 have HQ := Lib.hid h
 have HN := Lib.hid hn
 obtain ⟨n, hsn⟩ : ∃ n, s.n = n := ⟨_, rfl⟩
 rw [hsn] at hmk OO hW c1 d1 HN
 rw [hsn]
 have HS := Lib.hid hsn
 clear h hn O0 B0 hsn
 go_enter Tryz.func59, Tryz.ntmps59
 go_wp2
 go_loopw [4, 5, 19] (fun _ _ i wr => ∃ k : Nat, k ≤ n ∧ i = .int .i64 k ∧ Hid (OwnI w.heap.size wr (.slice (some ⟨w.heap.size, 0, none⟩) n n) (byF n fun p => if p < k then (s.c p : Int) else 0) ∧ Below w.heap.size w wr)) (fun _ _ i _ => n - (intOf i).toNat)
 case atStart => exact ⟨0, Nat.zero_le _, rfl, Lib.hid ⟨OO.out, BB.out⟩⟩
 case round =>
  obtain ⟨k, hk, rfl, H⟩ := hrel
  clear hmk
  by_cases hlt : k < n
  · have j0 : IntKind.i64.wrap ((k : Int) + 1) = ((k + 1 : Nat) : Int) := by rw [show (k : Int) + 1 = ((k + 1 : Nat) : Int) by omega]; exact i64_nat _ (by have := HN.out; omega)
    have Q := HQ.out.below H.out.2
    have p0 := Q.p0 (p := k) (by rw [HS.out]; exact hlt)
    have p1 := Q.p1 (p := k) (by rw [HS.out]; exact hlt)
    have i0 : (0 : Int) ≤ (k : Int) := by omega
    have i1 : (k : Int) < (n : Int) := by omega
    have i2 : ¬ (k : Int) < 0 := by omega
    obtain ⟨V, hV⟩ : ∃ V, wr.alloc (.cells #[.int .i64 (s.c k : Int), .int .i64 (s.k k : Int)] 148) = V := ⟨_, rfl⟩
    have hlv : Below wr.heap.size wr V := by rw [← hV]; exact bal (Below.refl _ _)
    have n0 : V.cell? ⟨wr.heap.size, 0, none⟩ = some (.int .i64 (s.c k : Int)) := by rw [← hV]; exact (Whole.at_ (heap_alloc_new wr _) 0).trans rfl
    have OV := own_below_i H.out.1 hlv
    obtain ⟨o1, o2⟩ := own_cell_i OV (j := k) (by rw [byF_length]; exact hlt)
    have OS := own_stored_i OV k (s.c k : Int)
    rw [byF_set (f' := fun p => if p < k + 1 then (s.c p : Int) else 0) (by rw [if_pos (by omega)]) (fun q hq => by
     by_cases h : q < k
     · rw [if_pos h, if_pos (by omega)]
     · rw [if_neg h, if_neg (by omega)])] at OS
    have BS := (below_more H.out.2 hlv).setCell (p := ⟨w.heap.size, k, none⟩) (Nat.le_refl _) (.int .i64 (s.c k : Int))
    have HF := Lib.hid (And.intro OS BS)
    generalize (byF n fun p => if p < k then (s.c p : Int) else 0).getD k 0 = ov at o1
    clear Q OV OS BS hlv H
    go_wp2
    exact ⟨⟨k + 1, by omega, by go_num, HF⟩, by simp [intOf]; omega⟩
  · obtain rfl : k = n := by omega
    go_wp2
    go_ret
    refine ⟨rfl, ?_, H.out.2⟩
    have e : (byF k fun p => if p < k then (s.c p : Int) else 0) = byF k fun p => (s.c p : Int) := by
     unfold byF
     refine List.map_congr_left fun p hp => ?_
     rw [if_pos (List.mem_range.1 hp)]
    rw [← e]; exact H.out.1

def May (l s p b : Int) : Prop := (1 ≤ l ∧ l ≤ 64) ∧ (0 ≤ s ∧ s ≤ 16) ∧ (1 ≤ p ∧ p ≤ 1000) ∧ 1 ≤ b ∧ b ≤ 100
instance (l s p b : Int) : Decidable (May l s p b) := by unfold May; infer_instance
theorem within_yes {n a b : Int} (h1 : a ≤ n) (h2 : n ≤ b) (w : World) : Calls Tryz.prog 102 #[.int .i64 n, .int .i64 a, .int .i64 b] w fun e w' => e = .returned (.bool true) ∧ w = w' := by
 have i1 : n ≥ a := h1
 go_enter Tryz.func102, Tryz.ntmps102
 go_wp2_with fail
 go_ret
 exact ⟨rfl, rfl⟩
theorem within_no {n a b : Int} (h : n < a ∨ b < n) (w : World) : Calls Tryz.prog 102 #[.int .i64 n, .int .i64 a, .int .i64 b] w fun e w' => e = .returned (.bool false) ∧ w = w' := by
 by_cases h1 : n < a
 · have i1 : ¬ n ≥ a := by omega
   have i2 : ¬ a ≤ n := by omega
   clear h
   go_enter Tryz.func102, Tryz.ntmps102
   go_wp2_with fail
   go_ret
   exact ⟨rfl, rfl⟩
 · have i1 : n ≥ a := by omega
   have i2 : ¬ n ≤ b := by omega
   have i3 : a ≤ n := by omega
   clear h h1
   go_enter Tryz.func102, Tryz.ntmps102
   go_wp2_with fail
   go_ret
   exact ⟨rfl, rfl⟩
theorem pmay_yes {l s p b : Int} (h : May l s p b) (w : World) : Calls Tryz.prog 60 #[(Value.agg #[Value.int IntKind.i64 l, Value.int IntKind.i64 s, Value.int IntKind.i64 p, Value.int IntKind.i64 b])] w fun e w' => e = .returned (.bool true) ∧ Below w.heap.size w w' := by
 obtain ⟨⟨h1, h2⟩, ⟨h3, h4⟩, ⟨h5, h6⟩, h7, h8⟩ := h
 have HB := Lib.hid (bal (o := .cells #[.int .i64 l, .int .i64 s, .int .i64 p, .int .i64 b] 23) (Below.refl w.heap.size w))
 go_enter Tryz.func60, Tryz.ntmps60
 go_wp2_with fail
 refine (within_yes h1 h2 _).mono ?_; rintro e w' ⟨rfl, rfl⟩
 go_wp2_with fail
 refine (within_yes h3 h4 _).mono ?_; rintro e w' ⟨rfl, rfl⟩
 go_wp2_with fail
 refine (within_yes h5 h6 _).mono ?_; rintro e w' ⟨rfl, rfl⟩
 go_wp2_with fail
 refine (within_yes h7 h8 _).mono ?_; rintro e w' ⟨rfl, rfl⟩
 go_wp2_with fail
 go_ret
 exact ⟨rfl, HB.out⟩
theorem pmay_no {l s p b : Int} (h : ¬ May l s p b) (w : World) : Calls Tryz.prog 60 #[(Value.agg #[Value.int IntKind.i64 l, Value.int IntKind.i64 s, Value.int IntKind.i64 p, Value.int IntKind.i64 b])] w fun e w' => e = .returned (.bool false) ∧ Below w.heap.size w w' := by
 have HB := Lib.hid (bal (o := .cells #[.int .i64 l, .int .i64 s, .int .i64 p, .int .i64 b] 23) (Below.refl w.heap.size w))
 by_cases g1 : 1 ≤ l ∧ l ≤ 64
 · by_cases g2 : 0 ≤ s ∧ s ≤ 16
   · by_cases g3 : 1 ≤ p ∧ p ≤ 1000
     · have g4 : b < 1 ∨ 100 < b := by unfold May at h; omega
       clear h
       have C1 := Lib.hid (within_yes g1.1 g1.2); have C2 := Lib.hid (within_yes g2.1 g2.2); have C3 := Lib.hid (within_yes g3.1 g3.2); have C4 := Lib.hid (within_no g4)
       clear g1 g2 g3 g4
       go_enter Tryz.func60, Tryz.ntmps60
       go_wp2_with fail
       refine (C1.out _).mono ?_; rintro e w' ⟨rfl, rfl⟩
       go_wp2_with fail
       refine (C2.out _).mono ?_; rintro e w' ⟨rfl, rfl⟩
       go_wp2_with fail
       refine (C3.out _).mono ?_; rintro e w' ⟨rfl, rfl⟩
       go_wp2_with fail
       refine (C4.out _).mono ?_; rintro e w' ⟨rfl, rfl⟩
       go_wp2_with fail
       go_ret
       exact ⟨rfl, HB.out⟩
     · have g4 : p < 1 ∨ 1000 < p := by omega
       clear h
       have C1 := Lib.hid (within_yes g1.1 g1.2); have C2 := Lib.hid (within_yes g2.1 g2.2); have C3 := Lib.hid (within_no g4)
       clear g1 g2 g3 g4
       go_enter Tryz.func60, Tryz.ntmps60
       go_wp2_with fail
       refine (C1.out _).mono ?_; rintro e w' ⟨rfl, rfl⟩
       go_wp2_with fail
       refine (C2.out _).mono ?_; rintro e w' ⟨rfl, rfl⟩
       go_wp2_with fail
       refine (C3.out _).mono ?_; rintro e w' ⟨rfl, rfl⟩
       go_wp2_with fail
       go_ret
       exact ⟨rfl, HB.out⟩
   · have g4 : s < 0 ∨ 16 < s := by omega
     clear h
     have C1 := Lib.hid (within_yes g1.1 g1.2); have C2 := Lib.hid (within_no g4)
     clear g1 g2 g4
     go_enter Tryz.func60, Tryz.ntmps60
     go_wp2_with fail
     refine (C1.out _).mono ?_; rintro e w' ⟨rfl, rfl⟩
     go_wp2_with fail
     refine (C2.out _).mono ?_; rintro e w' ⟨rfl, rfl⟩
     go_wp2_with fail
     go_ret
     exact ⟨rfl, HB.out⟩
 · have g4 : l < 1 ∨ 64 < l := by omega
   clear h
   have C1 := Lib.hid (within_no g4)
   clear g1 g4
   go_enter Tryz.func60, Tryz.ntmps60
   go_wp2_with fail
   refine (C1.out _).mono ?_; rintro e w' ⟨rfl, rfl⟩
   go_wp2_with fail
   go_ret
   exact ⟨rfl, HB.out⟩
theorem rmay_yes {l s p b : Int} (h : May l s p b) (w : World) : Calls Tryz.prog 39 #[(Value.agg #[Value.int IntKind.i64 l, Value.int IntKind.i64 s, Value.int IntKind.i64 p, Value.int IntKind.i64 b])] w fun e w' => e = .returned (.bool true) ∧ Below w.heap.size w w' := by
 obtain ⟨⟨h1, h2⟩, ⟨h3, h4⟩, ⟨h5, h6⟩, h7, h8⟩ := h
 have i1 : l ≥ 1 := h1
 have i3 : s ≥ 0 := h3
 have i5 : p ≥ 1 := h5
 have i7 : b ≥ 1 := h7
 have HB := Lib.hid (bal (o := .cells #[.int .i64 l, .int .i64 s, .int .i64 p, .int .i64 b] 23) (Below.refl w.heap.size w))
 go_enter Tryz.func39, Tryz.ntmps39
 go_wp2_with fail
 go_ret
 exact ⟨rfl, HB.out⟩
theorem rmay_no {l s p b : Int} (h : ¬ May l s p b) (w : World) : Calls Tryz.prog 39 #[(Value.agg #[Value.int IntKind.i64 l, Value.int IntKind.i64 s, Value.int IntKind.i64 p, Value.int IntKind.i64 b])] w fun e w' => e = .returned (.bool false) ∧ Below w.heap.size w w' := by
 have HB := Lib.hid (bal (o := .cells #[.int .i64 l, .int .i64 s, .int .i64 p, .int .i64 b] 23) (Below.refl w.heap.size w))
 unfold May at h
 by_cases g1 : 1 ≤ l
 · have i1 : l ≥ 1 := g1
   by_cases g2 : l ≤ 64
   · by_cases g3 : 0 ≤ s
     · have i3 : s ≥ 0 := g3
       by_cases g4 : s ≤ 16
       · by_cases g5 : 1 ≤ p
         · have i5 : p ≥ 1 := g5
           by_cases g6 : p ≤ 1000
           · by_cases g7 : 1 ≤ b
             · have i7 : b ≥ 1 := g7
               have g8 : ¬ b ≤ 100 := by omega
               clear h
               go_enter Tryz.func39, Tryz.ntmps39
               go_wp2_with fail
               go_ret
               exact ⟨rfl, HB.out⟩
             · have i7 : ¬ b ≥ 1 := g7
               clear h
               go_enter Tryz.func39, Tryz.ntmps39
               go_wp2_with fail
               go_ret
               exact ⟨rfl, HB.out⟩
           · clear h
             go_enter Tryz.func39, Tryz.ntmps39
             go_wp2_with fail
             go_ret
             exact ⟨rfl, HB.out⟩
         · have i5 : ¬ p ≥ 1 := g5
           clear h
           go_enter Tryz.func39, Tryz.ntmps39
           go_wp2_with fail
           go_ret
           exact ⟨rfl, HB.out⟩
       · clear h
         go_enter Tryz.func39, Tryz.ntmps39
         go_wp2_with fail
         go_ret
         exact ⟨rfl, HB.out⟩
     · have i3 : ¬ s ≥ 0 := g3
       clear h
       go_enter Tryz.func39, Tryz.ntmps39
       go_wp2_with fail
       go_ret
       exact ⟨rfl, HB.out⟩
   · clear h
     go_enter Tryz.func39, Tryz.ntmps39
     go_wp2_with fail
     go_ret
     exact ⟨rfl, HB.out⟩
 · have i1 : ¬ l ≥ 1 := g1
   clear h
   go_enter Tryz.func39, Tryz.ntmps39
   go_wp2_with fail
   go_ret
   exact ⟨rfl, HB.out⟩
theorem info_plan : (Tryz.prog.info? 23).map (·.size) = some 4 := by kernel_rfl
def planLoad (p : Value) : Sem Value := Instr.loadAt 23 p
@[go_sem ↓] theorem loadAt_plan (p : Value) : Instr.loadAt 23 p = planLoad p := rfl
def Pq (w : World) (g : Nat) (l s p b : Int) : Prop := Whole w g 23 #[Value.int IntKind.i64 l, Value.int IntKind.i64 s, Value.int IntKind.i64 p, Value.int IntKind.i64 b]
theorem Pq.c0 {w : World} {g : Nat} {l s p b : Int} (h : Pq w g l s p b) : w.cell? ⟨g, 0, none⟩ = some (.int .i64 l) := Whole.at_ h 0
theorem Pq.c1 {w : World} {g : Nat} {l s p b : Int} (h : Pq w g l s p b) : w.cell? ⟨g, 1, none⟩ = some (.int .i64 s) := Whole.at_ h 1
theorem Pq.load {w : World} {g : Nat} {l s p b : Int} (h : Pq w g l s p b) : (planLoad (.pointer (some ⟨g, 0, none⟩))).run Tryz.prog w = .ok (Value.agg #[Value.int IntKind.i64 l, Value.int IntKind.i64 s, Value.int IntKind.i64 p, Value.int IntKind.i64 b]) w :=
 run_loadAt_mid (P := Tryz.prog) w g 0 23 [.int .i64 l, .int .i64 s, .int .i64 p, .int .i64 b] _ (fun j v hv => by
  rw [Whole.at_ h, Nat.zero_add, ← hv]; simp) Tryz.underlying23 rfl (by rw [info_plan]; rfl)
theorem Pq.below {w w' : World} {g : Nat} {l s p b : Int} (h : Pq w g l s p b) (hb : Below w.heap.size w w') : Pq w' g l s p b := (hb.block g (Whole.lt h)).trans h
theorem plan_boxed (w : World) (l s p b : Int) : ∃ W, w.alloc (.cells #[Value.int IntKind.i64 l, Value.int IntKind.i64 s, Value.int IntKind.i64 p, Value.int IntKind.i64 b] 23) = W ∧ Hid (Pq W w.heap.size l s p b ∧ Below w.heap.size w W) :=
 ⟨_, rfl, Lib.hid ⟨heap_alloc_last w _, bal (Below.refl _ _)⟩⟩
def MayN (l s p b : Nat) : Prop := (1 ≤ l ∧ l ≤ 64) ∧ s ≤ 16 ∧ (1 ≤ p ∧ p ≤ 1000) ∧ 1 ≤ b ∧ b ≤ 100
theorem MayN.may {l s p b : Nat} (h : MayN l s p b) : May (l : Int) (s : Int) (p : Int) (b : Int) := by unfold MayN at h; unfold May; omega
theorem May.nat {l s p b : Int} (h : May l s p b) : ∃ L S P B : Nat, l = L ∧ s = S ∧ p = P ∧ b = B ∧ MayN L S P B := by
 unfold May at h
 exact ⟨l.toNat, s.toNat, p.toNat, b.toNat, by omega, by omega, by omega, by omega, by unfold MayN; omega⟩
theorem words_yes {l s p b v : Nat} (h : MayN l s p b) (hv : l * 8 = v) (w : World) : Calls Tryz.prog 83 #[(Value.agg #[Value.int IntKind.i64 (l : Int), Value.int IntKind.i64 (s : Int), Value.int IntKind.i64 (p : Int), Value.int IntKind.i64 (b : Int)])] w fun e w' => e = .returned (.int .i64 (v : Int)) ∧ Below w.heap.size w w' := by
 obtain ⟨W, hW, H⟩ := plan_boxed w l s p b
 have l0 := H.out.1.load
 have C := Lib.hid (pmay_yes h.may W)
 obtain ⟨⟨h1, h2⟩, h4, _⟩ := h
 have k0 : IntKind.i64.wrap ((l : Int) * 8) = v := by rw [show (l : Int) * 8 = (v : Int) by omega]; exact i64_nat _ (by omega)
 clear h1 h2 h4 hv
 go_enter Tryz.func83, Tryz.ntmps83
 go_wp2_with fail
 refine (C.out).mono ?_; rintro e w' ⟨rfl, hb⟩
 have HB := Lib.hid (below_more H.out.2 hb)
 have c0 := (H.out.1.below hb).c0
 have c1 := (H.out.1.below hb).c1
 clear hb
 go_wp2_with fail
 go_ret
 exact ⟨rfl, HB.out⟩
theorem logical_yes {l s p b v : Nat} (h : MayN l s p b) (hv : 16 + l = v) (w : World) : Calls Tryz.prog 87 #[(Value.agg #[Value.int IntKind.i64 (l : Int), Value.int IntKind.i64 (s : Int), Value.int IntKind.i64 (p : Int), Value.int IntKind.i64 (b : Int)])] w fun e w' => e = .returned (.int .i64 (v : Int)) ∧ Below w.heap.size w w' := by
 obtain ⟨W, hW, H⟩ := plan_boxed w l s p b
 have l0 := H.out.1.load
 have C := Lib.hid (pmay_yes h.may W)
 obtain ⟨⟨h1, h2⟩, h4, _⟩ := h
 have k0 : IntKind.i64.wrap (16 + (l : Int)) = v := by rw [show 16 + (l : Int) = (v : Int) by omega]; exact i64_nat _ (by omega)
 clear h1 h2 h4 hv
 go_enter Tryz.func87, Tryz.ntmps87
 go_wp2_with fail
 refine (C.out).mono ?_; rintro e w' ⟨rfl, hb⟩
 have HB := Lib.hid (below_more H.out.2 hb)
 have c0 := (H.out.1.below hb).c0
 have c1 := (H.out.1.below hb).c1
 clear hb
 go_wp2_with fail
 go_ret
 exact ⟨rfl, HB.out⟩
theorem pages_yes {l s p b v : Nat} (h : MayN l s p b) (hv : (l + 3) / 4 = v) (w : World) : Calls Tryz.prog 22 #[(Value.agg #[Value.int IntKind.i64 (l : Int), Value.int IntKind.i64 (s : Int), Value.int IntKind.i64 (p : Int), Value.int IntKind.i64 (b : Int)])] w fun e w' => e = .returned (.int .i64 (v : Int)) ∧ Below w.heap.size w w' := by
 obtain ⟨W, hW, H⟩ := plan_boxed w l s p b
 have l0 := H.out.1.load
 have C := Lib.hid (pmay_yes h.may W)
 obtain ⟨⟨h1, h2⟩, h4, _⟩ := h
 obtain ⟨m, hm⟩ : ∃ m, l - 1 = m := ⟨_, rfl⟩
 have k0 : IntKind.i64.wrap ((l : Int) - 1) = m := by rw [show (l : Int) - 1 = (m : Int) by omega]; exact i64_nat _ (by omega)
 have k1 : IntKind.i64.wrap (((m / 4 : Nat) : Int) + 1) = v := by rw [show ((m / 4 : Nat) : Int) + 1 = (v : Int) by omega]; exact i64_nat _ (by omega)
 have P := Lib.hid (page_is m (by omega))
 generalize m / 4 = q at *
 clear hm
 clear h1 h2 h4 hv
 go_enter Tryz.func22, Tryz.ntmps22
 go_wp2_with fail
 refine (C.out).mono ?_; rintro e w' ⟨rfl, hb⟩
 have HB := Lib.hid (below_more H.out.2 hb)
 have c0 := (H.out.1.below hb).c0
 have c1 := (H.out.1.below hb).c1
 clear hb
 go_wp2_with fail
 refine (P.out _).mono ?_; rintro e w' ⟨rfl, rfl⟩
 go_wp2_with fail
 go_ret
 exact ⟨rfl, HB.out⟩
theorem rdevice_yes {l s p b v : Nat} (h : MayN l s p b) (hv : 17 + l + s = v) (w : World) : Calls Tryz.prog 40 #[(Value.agg #[Value.int IntKind.i64 (l : Int), Value.int IntKind.i64 (s : Int), Value.int IntKind.i64 (p : Int), Value.int IntKind.i64 (b : Int)])] w fun e w' => e = .returned (.int .i64 (v : Int)) ∧ Below w.heap.size w w' := by
 obtain ⟨W, hW, H⟩ := plan_boxed w l s p b
 have l0 := H.out.1.load
 have C := Lib.hid (rmay_yes h.may W)
 obtain ⟨⟨h1, h2⟩, h4, _⟩ := h
 have k0 : IntKind.i64.wrap (16 + (l : Int)) = ((16 + l : Nat) : Int) := by rw [show 16 + (l : Int) = ((16 + l : Nat) : Int) by omega]; exact i64_nat _ (by omega)
 have k1 : IntKind.i64.wrap (((16 + l : Nat) : Int) + 1) = ((17 + l : Nat) : Int) := by rw [show ((16 + l : Nat) : Int) + 1 = ((17 + l : Nat) : Int) by omega]; exact i64_nat _ (by omega)
 have k2 : IntKind.i64.wrap (((17 + l : Nat) : Int) + (s : Int)) = v := by rw [show ((17 + l : Nat) : Int) + (s : Int) = (v : Int) by omega]; exact i64_nat _ (by omega)
 generalize 16 + l = x at *
 generalize 17 + l = y at *
 clear h1 h2 h4 hv
 go_enter Tryz.func40, Tryz.ntmps40
 go_wp2_with fail
 refine (C.out).mono ?_; rintro e w' ⟨rfl, hb⟩
 have HB := Lib.hid (below_more H.out.2 hb)
 have c0 := (H.out.1.below hb).c0
 have c1 := (H.out.1.below hb).c1
 clear hb
 go_wp2_with fail
 go_ret
 exact ⟨rfl, HB.out⟩
theorem device_yes {l s p b v : Nat} (h : MayN l s p b) (hv : 17 + l + s = v) (w : World) : Calls Tryz.prog 38 #[(Value.agg #[Value.int IntKind.i64 (l : Int), Value.int IntKind.i64 (s : Int), Value.int IntKind.i64 (p : Int), Value.int IntKind.i64 (b : Int)])] w fun e w' => e = .returned (.int .i64 (v : Int)) ∧ Below w.heap.size w w' := by
 obtain ⟨W, hW, H⟩ := plan_boxed w l s p b
 have l0 := H.out.1.load
 have C := Lib.hid (pmay_yes h.may W)
 have LG := Lib.hid (logical_yes h rfl)
 obtain ⟨⟨h1, h2⟩, h4, _⟩ := h
 have k1 : IntKind.i64.wrap (((16 + l : Nat) : Int) + 1) = ((17 + l : Nat) : Int) := by rw [show ((16 + l : Nat) : Int) + 1 = ((17 + l : Nat) : Int) by omega]; exact i64_nat _ (by omega)
 have k2 : IntKind.i64.wrap (((17 + l : Nat) : Int) + (s : Int)) = v := by rw [show ((17 + l : Nat) : Int) + (s : Int) = (v : Int) by omega]; exact i64_nat _ (by omega)
 generalize 16 + l = x at *
 generalize 17 + l = y at *
 clear h1 h2 h4 hv
 go_enter Tryz.func38, Tryz.ntmps38
 go_wp2_with fail
 refine (C.out).mono ?_; rintro e w' ⟨rfl, hb⟩
 have B1 := Lib.hid (below_more H.out.2 hb)
 have r0 : ∀ w1 : World, Below w'.heap.size w' w1 → (planLoad (.pointer (some ⟨w.heap.size, 0, none⟩))).run Tryz.prog w1 = .ok (Value.agg #[Value.int IntKind.i64 (l : Int), Value.int IntKind.i64 (s : Int), Value.int IntKind.i64 (p : Int), Value.int IntKind.i64 (b : Int)]) w1 := fun _ hc => ((H.out.1.below hb).below hc).load
 have r1 : ∀ w1 : World, Below w'.heap.size w' w1 → w1.cell? ⟨w.heap.size, 1, none⟩ = some (.int .i64 (s : Int)) := fun _ hc => ((H.out.1.below hb).below hc).c1
 clear hb
 go_wp2_with fail
 go_region_held3 (fun w1 => Below w'.heap.size w' w1)
  (first | assumption | exact (Below.refl _ _).drew | exact below_more ‹Below w'.heap.size w' _› hbq)
  ((go_at_call 87; refine (LG.out _).mono ?_; rintro e wq ⟨rfl, hbq⟩))
 have HB := Lib.hid (below_more B1.out ‹Below w'.heap.size w' wq›)
 go_wp2
 go_ret
 exact ⟨rfl, HB.out⟩
theorem home_yes {l s p b i v : Nat} (h : MayN l s p b) (hi : i < l) (hv : 16 + i = v) (w : World) : Calls Tryz.prog 85 #[(Value.agg #[Value.int IntKind.i64 (l : Int), Value.int IntKind.i64 (s : Int), Value.int IntKind.i64 (p : Int), Value.int IntKind.i64 (b : Int)]), .int .i64 (i : Int)] w fun e w' => e = .returned (.int .i64 (v : Int)) ∧ Below w.heap.size w w' := by
 obtain ⟨W, hW, H⟩ := plan_boxed w l s p b
 have l0 := H.out.1.load
 have C := Lib.hid (pmay_yes h.may W)
 obtain ⟨⟨h1, h2⟩, h4, _⟩ := h
 obtain ⟨m, hm⟩ : ∃ m, l - 1 = m := ⟨_, rfl⟩
 have k0 : IntKind.i64.wrap ((l : Int) - 1) = m := by rw [show (l : Int) - 1 = (m : Int) by omega]; exact i64_nat _ (by omega)
 have k1 : IntKind.i64.wrap (16 + (i : Int)) = v := by rw [show 16 + (i : Int) = (v : Int) by omega]; exact i64_nat _ (by omega)
 have D := Lib.hid (within_yes (n := (i : Int)) (a := 0) (b := (m : Int)) (by omega) (by omega))
 clear h1 h2 h4 hv hm hi
 go_enter Tryz.func85, Tryz.ntmps85
 go_wp2_with fail
 refine (C.out).mono ?_; rintro e w' ⟨rfl, hb⟩
 have HB := Lib.hid (below_more H.out.2 hb)
 have c0 := (H.out.1.below hb).c0
 clear hb
 go_wp2_with fail
 refine (D.out _).mono ?_; rintro e w' ⟨rfl, rfl⟩
 go_wp2_with fail
 go_ret
 exact ⟨rfl, HB.out⟩
def wdM (l : Int) : Int := l * 8
def pgM (l : Int) : Int := (l + 3) / 4
def lgM (l : Int) : Int := 16 + l
def dvM (l s : Int) : Int := 17 + l + s
def hmM (l i : Int) : Int := if 0 ≤ i ∧ i < l then 16 + i else -1
def pageM (i : Int) : Int := i / 4
theorem device_any {l s p b v : Int} (h : May l s p b) (hv : dvM l s = v) (w : World) : Calls Tryz.prog 38 #[(Value.agg #[Value.int IntKind.i64 l, Value.int IntKind.i64 s, Value.int IntKind.i64 p, Value.int IntKind.i64 b])] w fun e w' => e = .returned (.int .i64 v) ∧ Below w.heap.size w w' := by
 obtain ⟨L, S, P, B, rfl, rfl, rfl, rfl, hN⟩ := h.nat
 unfold dvM at hv
 obtain rfl : ((17 + L + S : Nat) : Int) = v := by omega
 exact device_yes hN rfl w
theorem rdevice_any {l s p b v : Int} (h : May l s p b) (hv : dvM l s = v) (w : World) : Calls Tryz.prog 40 #[(Value.agg #[Value.int IntKind.i64 l, Value.int IntKind.i64 s, Value.int IntKind.i64 p, Value.int IntKind.i64 b])] w fun e w' => e = .returned (.int .i64 v) ∧ Below w.heap.size w w' := by
 obtain ⟨L, S, P, B, rfl, rfl, rfl, rfl, hN⟩ := h.nat
 unfold dvM at hv
 obtain rfl : ((17 + L + S : Nat) : Int) = v := by omega
 exact rdevice_yes hN rfl w
theorem trod_struct4 {H : Type} {enc : TypeId × Value → H} {P : Program} {w : World} {base : Nat} {spare : Nat → Bool} {held : Bool} {t : TypeId} {f0 f1 f2 f3 : Field} {fuel : Nat} {cs : List Value} {x : DataW H × List MemPlace}
 (ht : P.underlying t = some (.struct #[f0, f1, f2, f3])) (h : DataW.trod enc P w base spare held fuel t cs = some x) :
 ∃ y0 y1 y2 y3 n, cs.length = P.cellsOf t ∧ DataW.trod enc P w base spare held n f0.type ((cs.drop f0.offset).take (P.cellsOf f0.type)) = some y0 ∧
  DataW.trod enc P w base spare held n f1.type ((cs.drop f1.offset).take (P.cellsOf f1.type)) = some y1 ∧ DataW.trod enc P w base spare held n f2.type ((cs.drop f2.offset).take (P.cellsOf f2.type)) = some y2 ∧
  DataW.trod enc P w base spare held n f3.type ((cs.drop f3.offset).take (P.cellsOf f3.type)) = some y3 := by
 obtain ⟨xs, n, _, rfl, hl, hlen, hf⟩ := DataW.trod_struct ht h
 match xs, hlen with
 | [y0, y1, y2, y3], _ => exact ⟨y0, y1, y2, y3, n, hl, by simpa using hf 0 f0 rfl, by simpa using hf 1 f1 rfl, by simpa using hf 2 f2 rfl, by simpa using hf 3 f3 rfl⟩
theorem cells_plan : Tryz.prog.cellsOf 23 = 4 := by kernel_rfl
theorem cells_int1 : Tryz.prog.cellsOf 3 = 1 := by kernel_rfl
theorem plan_in {H : Type} {enc : TypeId × Value → H} {W : World} {base : Nat} {v : Value} {d : DataW H} {q : List MemPlace}
 (hval : Value.okWide Tryz.prog W .any base 23 v) (h : DataW.Trod enc Tryz.prog W 0 (fun _ => true) true 23 v d q) :
 ∃ l s p b : Int, v = (Value.agg #[Value.int IntKind.i64 l, Value.int IntKind.i64 s, Value.int IntKind.i64 p, Value.int IntKind.i64 b]) ∧ (Lit.int .i64 l).wf = true ∧ (Lit.int .i64 s).wf = true ∧ (Lit.int .i64 p).wf = true ∧ (Lit.int .i64 b).wf = true := by
 obtain ⟨cs, rfl, hsz, _⟩ : ∃ cs, v = .agg cs ∧ cs.size = Tryz.prog.cellsOf 23 ∧ Row.okWide Tryz.prog W .any base 23 cs := by
  simpa [Value.okWide, Tryz.underlying23] using hval
 obtain ⟨fuel, hf⟩ := h
 obtain ⟨y0, y1, y2, y3, k, hl, g0, g1, g2, g3⟩ := trod_struct4 Tryz.underlying23 hf
 rw [cells_plan] at hl
 dsimp only at g0 g1 g2 g3
 rw [cells_int1] at g0 g1 g2 g3
 obtain ⟨l, e0, _, w0⟩ := DataW.trod_int Tryz.underlying3 g0
 obtain ⟨s, e1, _, w1⟩ := DataW.trod_int Tryz.underlying3 g1
 obtain ⟨p, e2, _, w2⟩ := DataW.trod_int Tryz.underlying3 g2
 obtain ⟨b, e3, _, w3⟩ := DataW.trod_int Tryz.underlying3 g3
 refine ⟨l, s, p, b, ?_, w0, w1, w2, w3⟩
 obtain ⟨cl⟩ := cs
 simp [Value.cells] at hl e0 e1 e2 e3
 match cl, hl with
 | [c0, c1, c2, c3], _ =>
   simp at e0 e1 e2 e3
   simp [e0, e1, e2, e3]
structure Ha where
 z : Nat
 g : Nat
 y : Nat
 q : Nat
 x : Nat
 k : Nat
 kg : Nat
 N : Nat
 P : Nat
 per : Nat
 b : Nat
def Ha.D (a : Ha) : List Nat := [a.z, a.g, a.y, a.kg]
structure Hs where
 s : Nv
 p : Nat
 ct : Ct
 wf : Bool
def htop (a : Ha) (kv : Value) (wf : Bool) : Array Value := #[.pointer (some ⟨a.g, 0, none⟩), .int .i64 (a.N : Int), .int .i64 (a.P : Int), .int .i64 (a.per : Int), .int .i64 (a.b : Int), .pointer (some ⟨a.y, 0, none⟩), .pointer (some ⟨a.x, 0, none⟩), kv, .bool wf]
structure Hb (w : World) (a : Ha) (kv : Value) (wf : Bool) (s : Nv) (p : Nat) : Prop where
 top : Whole w a.z 98 (htop a kv wf)
 lg : Lg w a.x a.g a.y a.q (16 + a.N) a.P a.per p s
 zz : a.z ≠ a.g ∧ a.z ≠ a.y ∧ a.z ≠ a.q ∧ a.z ≠ a.x
structure Hp (w : World) (a : Ha) (S : Hs) : Prop where
 hb : Hb w a (.pointer (some ⟨a.k, 0, none⟩)) S.wf S.s S.p
 cq : Cq w a.k a.kg S.ct
 far : a.z ≠ a.k ∧ a.z ≠ a.kg ∧ a.k ≠ a.g ∧ a.k ≠ a.y ∧ a.kg ≠ a.g ∧ a.kg ≠ a.y ∧ a.kg ≠ a.q ∧ a.kg ≠ a.x
section
variable {w w' : World} {a : Ha} {S : Hs} {kv : Value} {wf : Bool} {s : Nv} {p : Nat}
theorem Hb.below (h : Hb w a kv wf s p) (hb : Below w.heap.size w w') : Hb w' a kv wf s p := ⟨(hb.block a.z (Whole.lt h.top)).trans h.top, h.lg.below hb, h.zz⟩
theorem Hb.chg {D : List Nat} (h : Hb w a kv wf s p) (hc : Chg D w w') (h1 : a.z ∉ D) (h2 : a.g ∉ D) (h3 : a.y ∉ D) (h4 : a.q ∉ D) (h5 : a.x ∉ D) : Hb w' a kv wf s p := ⟨hc.whole h.top h1, h.lg.chg hc h5 h2 h3 h4, h.zz⟩
theorem Hb.c0 (h : Hb w a kv wf s p) : w.cell? ⟨a.z, 0, none⟩ = some (.pointer (some ⟨a.g, 0, none⟩)) := Whole.at_ h.top 0
theorem Hb.c1 (h : Hb w a kv wf s p) : w.cell? ⟨a.z, 1, none⟩ = some (.int .i64 (a.N : Int)) := Whole.at_ h.top 1
theorem Hb.c6 (h : Hb w a kv wf s p) : w.cell? ⟨a.z, 6, none⟩ = some (.pointer (some ⟨a.x, 0, none⟩)) := Whole.at_ h.top 6
theorem Hb.c7 (h : Hb w a kv wf s p) : w.cell? ⟨a.z, 7, none⟩ = some kv := Whole.at_ h.top 7
theorem Hb.c8 (h : Hb w a kv wf s p) : w.cell? ⟨a.z, 8, none⟩ = some (.bool wf) := Whole.at_ h.top 8
theorem Hb.free (h : Hb w a kv wf s p) (i : Nat) : w.frozen? ⟨a.z, i, none⟩ = false := Whole.free h.top i
theorem Hb.lt (h : Hb w a kv wf s p) : a.z < w.heap.size := Whole.lt h.top
theorem Hb.plan (h : Hb w a kv wf s p) : (planLoad (.pointer (some ⟨a.z, 1, none⟩))).run Tryz.prog w = .ok (Value.agg #[Value.int IntKind.i64 (a.N : Int), Value.int IntKind.i64 (a.P : Int), Value.int IntKind.i64 (a.per : Int), Value.int IntKind.i64 (a.b : Int)]) w :=
 run_loadAt_mid (P := Tryz.prog) w a.z 1 23 #[Value.int IntKind.i64 (a.N : Int), Value.int IntKind.i64 (a.P : Int), Value.int IntKind.i64 (a.per : Int), Value.int IntKind.i64 (a.b : Int)].toList _ (fun j u hj => by rw [Whole.at_ h.top]; match j, hj with | 0, hj => exact hj | 1, hj => exact hj | 2, hj => exact hj | 3, hj => exact hj | j + 4, hj => simp at hj) Tryz.underlying23 rfl info_plan
theorem Hp.below (h : Hp w a S) (hb : Below w.heap.size w w') : Hp w' a S := ⟨h.hb.below hb, h.cq.below hb, h.far⟩
theorem Hp.chg {D : List Nat} (h : Hp w a S) (hc : Chg D w w') (h1 : a.z ∉ D) (h2 : a.g ∉ D) (h3 : a.y ∉ D) (h4 : a.q ∉ D) (h5 : a.x ∉ D) (h6 : a.k ∉ D) (h7 : a.kg ∉ D) : Hp w' a S := ⟨h.hb.chg hc h1 h2 h3 h4 h5, h.cq.chg hc h6 h7, h.far⟩
end
section
variable {P : Program} {ops : Array Oper} {Q : Exit → Act → World → Prop} {w : World}
def yields (P : Program) (ops : Array Oper) (w : World) (K : Act → Prop) : List Oper → Act → Prop
 | [], a => K a
 | o :: l, a => Region.wanted o (yielded ops a.tmps) = true ∧ ∃ v, (execOp a.eval o).run P w = .ok (.value v) w ∧ yields P ops w K l (a.put o.dst v)
def dyingB (ops : Array Oper) : List Nat → Array Bool → List Nat → Bool
 | [], listed, rs => (Region.ready .any ops listed == rs) && !rs.isEmpty
 | i :: l, listed, rs => Region.free .any ops listed i && (Region.ready .any ops listed).contains i && dyingB ops l (listed.setIfInBounds i true) rs
def diesAt (P : Program) (ops : Array Oper) (R : Value → World → Prop) (w : World) (a : Act) (i : Nat) : Prop :=
 ∃ o v w', ops[i]? = some o ∧ Region.wanted o (yielded ops a.tmps) = true ∧ (execOp a.eval o).run P w = .halt (.panic v) w' ∧ R v w'
end
section
variable {w : World} {a : Ha} {S : Hs} {kv : Value} {wf : Bool} {s : Nv} {p : Nat}
theorem hopd_nil (w : World) : Calls Tryz.prog 56 #[.pointer none] w fun e w' => e = .returned (.bool false) ∧ w = w' := by
 go_enter Tryz.func56, Tryz.ntmps56
 go_wp2_with fail
 go_ret
 exact ⟨rfl, rfl⟩
theorem hopd_is (h : Hb w a kv wf s p) : Calls Tryz.prog 56 #[.pointer (some ⟨a.z, 0, none⟩)] w fun e w' => e = .returned (.bool true) ∧ w = w' := by
 have c := h.c0
 generalize a.z = z at *
 generalize a.g = g at *
 clear h
 go_enter Tryz.func56, Tryz.ntmps56
 go_wp2_with fail
 go_ret
 exact ⟨rfl, rfl⟩
def Hs.worn (S : Hs) : Bool := S.wf || decide (lk S.s ≠ 0)
theorem hworn_nil (w : World) : Calls Tryz.prog 20 #[.pointer none] w fun e w' => e = .returned (.bool false) ∧ w = w' := by
 have C := Lib.hid (hopd_nil w)
 go_enter Tryz.func20, Tryz.ntmps20
 go_wp2_with fail
 refine (C.out).mono ?_; rintro e w' ⟨rfl, rfl⟩
 go_wp2_with fail
 go_ret
 exact ⟨rfl, rfl⟩
theorem hworn_is (h : Hp w a S) (hd : S.s.dark = false) (hr : S.s.rg 1 = (lk S.s : Int)) : Calls Tryz.prog 20 #[.pointer (some ⟨a.z, 0, none⟩)] w fun e w' => e = .returned (.bool S.worn) ∧ w = w' := by
 have C := Lib.hid (hopd_is h.hb)
 have C2 := Lib.hid (pd_live (decide (lk S.s ≠ 0)) h.hb.lg hd hr (by simp))
 have c8 := h.hb.c8
 have c6 := h.hb.c6
 unfold Hs.worn
 generalize decide (lk S.s ≠ 0) = r at *
 generalize a.z = z at *
 generalize a.x = x at *
 clear h hd hr
 generalize S.wf = b at *
 cases b with
 | true =>
   go_enter Tryz.func20, Tryz.ntmps20
   go_wp2_with fail
   refine (C.out).mono ?_; rintro e w' ⟨rfl, rfl⟩
   go_wp2_with fail
   go_ret
   exact ⟨rfl, rfl⟩
 | false =>
   go_enter Tryz.func20, Tryz.ntmps20
   go_wp2_with fail
   refine (C.out).mono ?_; rintro e w' ⟨rfl, rfl⟩
   go_wp2_with fail
   refine (C2.out).mono ?_; rintro e w' ⟨rfl, rfl⟩
   go_wp2_with fail
   go_ret
   exact ⟨rfl, rfl⟩
theorem hcnt_nil (w : World) : Calls Tryz.prog 21 #[.pointer none] w fun e w' => e = .returned (.slice none 0 0) ∧ w = w' := by
 have C := Lib.hid (hopd_nil w)
 go_enter Tryz.func21, Tryz.ntmps21
 go_wp2_with fail
 refine (C.out).mono ?_; rintro e w' ⟨rfl, rfl⟩
 go_wp2_with fail
 go_ret
 exact ⟨rfl, rfl⟩
def Ct.ints (s : Ct) : List Int := byF s.n fun p => (s.c p : Int)
theorem hcnt_is (h : Hp w a S) (hn : S.ct.n ≤ 16) : Calls Tryz.prog 21 #[.pointer (some ⟨a.z, 0, none⟩)] w fun e w' => (∃ v, e = .returned v ∧ OwnI w.heap.size w' v S.ct.ints) ∧ Below w.heap.size w w' := by
 have C := Lib.hid (hopd_is h.hb)
 have C2 := Lib.hid (call_any h.cq hn)
 have c7 := h.hb.c7
 unfold Ct.ints
 generalize a.z = z at *
 generalize a.k = k at *
 generalize byF S.ct.n (fun p => (S.ct.c p : Int)) = l at *
 generalize S.ct.n = n at *
 clear h hn
 go_enter Tryz.func21, Tryz.ntmps21
 go_wp2_with fail
 refine (C.out).mono ?_; rintro e w' ⟨rfl, rfl⟩
 go_wp2_with fail
 refine (C2.out).mono ?_; rintro e w1 ⟨rfl, o, b⟩
 have O := Lib.hid o
 have B := Lib.hid b
 clear o b
 go_wp2_with fail
 go_ret
 exact ⟨⟨_, rfl, O.out⟩, B.out⟩
theorem hmov_nil (w : World) : Calls Tryz.prog 35 #[.pointer none] w fun e w' => e = .returned (.int .i64 0) ∧ w = w' := by
 have C := Lib.hid (hopd_nil w)
 go_enter Tryz.func35, Tryz.ntmps35
 go_wp2_with fail
 refine (C.out).mono ?_; rintro e w' ⟨rfl, rfl⟩
 go_wp2_with fail
 go_ret
 exact ⟨rfl, rfl⟩
theorem hleft_nil (w : World) : Calls Tryz.prog 19 #[.pointer none] w fun e w' => e = .returned (.int .i64 0) ∧ w = w' := by
 have C := Lib.hid (hopd_nil w)
 go_enter Tryz.func19, Tryz.ntmps19
 go_wp2_with fail
 refine (C.out).mono ?_; rintro e w' ⟨rfl, rfl⟩
 go_wp2_with fail
 go_ret
 exact ⟨rfl, rfl⟩
theorem hchk_ok (e : Int) (h : e ≠ 2) (w : World) : Calls Tryz.prog 105 #[.int .i64 e] w fun e w' => e = .returned (.tuple #[]) ∧ w = w' := by
 have i1 : (e == 2) = false := beq_eq_false_iff_ne.2 h
 go_enter Tryz.func105, Tryz.ntmps105
 go_wp2_with fail
 go_end0
 exact ⟨rfl, rfl⟩
def Dies (e : Ending) : Prop := ∃ u pv, e = .panicked [{ v := .iface u pv, recovered := false }]
theorem hchk_dies (w : World) : Calls Tryz.prog 105 #[.int .i64 2] w fun e w' => Dies e ∧ w = w' := by
 go_enter Tryz.func105, Tryz.ntmps105
 go_wp2_with fail
 exact ⟨rfl, ⟨_, _, rfl⟩, rfl⟩
theorem hreg_is {k v : Nat} (h : Hb w a kv wf s p) (hd : s.dark = false) (hk : k < 35) (hv : s.rg k = (v : Int)) (hv2 : v < 4611686018427387904) : Calls Tryz.prog 116 #[.pointer (some ⟨a.z, 0, none⟩), .int .i64 (k : Int)] w fun e w' => e = .returned (.int .i64 (v : Int)) ∧ w = w' := by
 have hR : hasR (k : Int) = true := by simp [hasR]; omega
 have C := Lib.hid (reg_yes a.g s k w h.lg.nm (by simp [Nv.rdy, hR, hd]))
 rw [hv] at C
 have C2 := Lib.hid (fun w => hchk_ok 0 (by decide) w)
 have c0 := h.c0
 have j1 : IntKind.i64.wrap (v : Int) = (v : Int) := i64_nat _ (by omega)
 have i1 : ¬ (9223372036854775807 : Int) < (v : Int) := by omega
 have i2 : (v : Int) < 9223372036854775807 := by omega
 have i3 : (v : Int) ≤ 9223372036854775807 := by omega
 generalize a.z = z at *
 generalize a.g = g at *
 clear h hd hk hv hv2 hR
 go_enter Tryz.func116, Tryz.ntmps116
 go_wp2_with fail
 refine (C.out).mono ?_; rintro e w' ⟨rfl, rfl⟩
 go_wp2_with fail
 refine (C2.out _).mono ?_; rintro e w1 ⟨rfl, rfl⟩
 go_wp2_with fail
 go_ret
 exact ⟨rfl, rfl⟩
end
@[go_sem] theorem run_arrayAt_line (w : World) (q : Option Addr) (c : Nat) : (Instr.arrayAt 110 (.slice q 8 c)).run Tryz.prog w = .ok (.pointer q) w := by
  simp [Instr.arrayAt, run_underlying Tryz.underlying110, go_sem]
theorem slice_words (b off n cap lo hi : Nat) (h1 : lo < hi) (h2 : hi ≤ cap) (w : World) :
 (Instr.slice 44 (.slice (some ⟨b, off, none⟩) n cap) (some (.int .i64 (lo : Int))) (some (.int .i64 (hi : Int))) none).run Tryz.prog w = .ok (.slice (some ⟨b, off + lo, none⟩) (hi - lo) (cap - lo)) w := by
 obtain ⟨i0, hinf, hz0, hz1, hz2⟩ := info_parts info_u64
 have e2 : ∀ w, (Instr.sliceBound (.int .i64 (hi : Int)) cap .sliceAcap).run Tryz.prog w = .ok hi w := fun w => by rw [run_sliceBound (P := Tryz.prog) (w := w) .i64 hi cap .sliceAcap (by omega) (by omega)]; simp
 have e3 : ∀ w, (Instr.sliceBound (.int .i64 (lo : Int)) hi .sliceB).run Tryz.prog w = .ok lo w := fun w => by rw [run_sliceBound (P := Tryz.prog) (w := w) .i64 lo hi .sliceB (by omega) (by omega)]; simp
 unfold Instr.slice
 simp only [Sem.run_bind, run_underlying Tryz.underlying44, Result.andThen_ok]
 unfold Instr.sliceBounds sizeOf typeInfo
 simp [hinf, hz1, e2, e3, Addr.add_mid]
 omega
theorem sliceAt_words (b off n cap lo hi k c : Nat) (h1 : lo < hi) (h2 : hi ≤ cap) (hk : hi - lo = k) (hc : cap - lo = c) (w : World) :
 (Instr.sliceAt 44 (.slice (some ⟨b, off, none⟩) n cap) (some (.int .i64 (lo : Int))) (some (.int .i64 (hi : Int))) none).run Tryz.prog w = .ok (.slice (some ⟨b, off + lo, none⟩) k c) w := by
 subst hk hc
 exact (run_sliceAt_slice (h := Tryz.underlying44) ..).trans (slice_words b off n cap lo hi h1 h2 w)
theorem hlnof_is {X : List Int} {N i : Nat} {v : Value} (w : World) (hv : RU w v X) (hX : X.length = 8 * N) (hN : N ≤ 100) (hi : i < N) : Calls Tryz.prog 86 #[v, .int .i64 (i : Int)] w fun e w' => e = .returned (.agg (lc (lnO X i))) ∧ Below w.heap.size w w' := by
 obtain ⟨q, c, rfl, h1, h2, _⟩ := id hv
 obtain ⟨b, off, rfl, hcell⟩ := ru_at hv (by omega)
 have hl := lnO_length hX hi
 obtain ⟨W, hW⟩ : ∃ W, w.alloc (.cells (lc [0, 0, 0, 0, 0, 0, 0, 0]) 110) = W := ⟨_, rfl⟩
 have HW : Hid (Ln W w.heap.size [0, 0, 0, 0, 0, 0, 0, 0] ∧ Below w.heap.size w W) := Lib.hid (by rw [← hW]; exact ⟨Ln.new w rfl, bal (Below.refl _ _)⟩)
 have LD : (lineLoad (.pointer (some ⟨b, off + i * 8, none⟩))).run Tryz.prog W = .ok (.agg (lc (lnO X i))) W := by
  refine run_loadAt_mid (P := Tryz.prog) W b (off + i * 8) 110 ((lnO X i).map uv) _ (fun j u hj => ?_) Tryz.underlying110 rfl (by rw [info_line, List.length_map, hl])
  have hj8 : j < 8 := by
   have := (List.getElem?_eq_some_iff.1 hj).1
   rw [List.length_map, hl] at this
   exact this
  obtain ⟨b', off', e, hcell'⟩ := ru_at (ru_below hv HW.out.2) (by omega)
  cases e
  rw [show off + i * 8 + j = off + (8 * i + j) by omega, hcell' (8 * i + j) (by omega), ← lnO_getD i hj8, ← hj]
  simp [uv, hl, hj8]
 have hst := HW.out.1.store hl
 obtain ⟨V, hV⟩ : ∃ V, W.setRow w.heap.size (lc (lnO X i)) = V := ⟨_, rfl⟩
 rw [hV] at hst
 have HV : Hid (Ln V w.heap.size (lnO X i) ∧ Below w.heap.size w V) := Lib.hid (by
  rw [← hV]
  exact ⟨HW.out.1.put hl, below_row HW.out.2 (Nat.le_refl _)⟩)
 have j1 : IntKind.i64.wrap ((i : Int) * 8) = ((i * 8 : Nat) : Int) := by rw [show (i : Int) * 8 = ((i * 8 : Nat) : Int) by omega]; exact i64_nat _ (by omega)
 have j2 : IntKind.i64.wrap ((i : Int) + 1) = ((i + 1 : Nat) : Int) := by rw [show (i : Int) + 1 = ((i + 1 : Nat) : Int) by omega]; exact i64_nat _ (by omega)
 have j3 : IntKind.i64.wrap (((i + 1 : Nat) : Int) * 8) = (((i + 1) * 8 : Nat) : Int) := by rw [show ((i + 1 : Nat) : Int) * 8 = (((i + 1) * 8 : Nat) : Int) by omega]; exact i64_nat _ (by omega)
 have hs := fun w => sliceAt_words b off X.length c (i * 8) ((i + 1) * 8) 8 (c - i * 8) (by omega) (by omega) (by omega) rfl w
 have HL := Lib.hid hl
 generalize (i + 1) * 8 = i9 at *
 generalize i * 8 = i8 at *
 generalize i + 1 = i1 at *
 generalize c - i8 = c8 at *
 generalize lnO X i = Y at *
 generalize X.length = n at *
 clear hv hcell hX hN hi h1 h2 hl
 go_enter Tryz.func86, Tryz.ntmps86
 go_wp2
 exact bodyPost_ret (v := .agg (lc Y)) (results_cell_row rfl _ _ _ _ _ _ _ rfl HV.out.1.1 Tryz.underlying110 rfl (by rw [info_line, lc_size, HL.out])) rfl ⟨rfl, HV.out.2⟩
theorem appF_take {l : List Int} {es : List Ed} {k : Nat} (h : k < es.length) : appF l (es.take (k + 1)) = if 0 ≤ (es.getD k default).w ∧ (es.getD k default).w < (appF l (es.take k)).length then (appF l (es.take k)).set (es.getD k default).w.toNat (es.getD k default).v else appF l (es.take k) := by
 rw [List.take_add_one, appF_app, List.getElem?_eq_getElem h, List.getD_eq_getElem?_getD, List.getElem?_eq_getElem h]
 rfl
theorem made_words (n : Nat) : (madeCells #[.int .u64 0] n).toList = List.replicate n (.int .u64 0) := by rw [toList_madeCells_one]
theorem size_u64s : (Tryz.prog.info? 58).map (·.size) = some 1 := by kernel_rfl
theorem apply_is (l : List Int) (es : List Ed) (v u : Value) (w : World) (hv : RU w v l) (hu : RA edE w u es) (hl : l.length ≤ 1000) (hel : es.length ≤ 4000) :
 Calls Tryz.prog 163 #[v, u] w fun e w' => (∃ x, e = .returned x ∧ OwnU w.heap.size w' x (appF l es)) ∧ Below w.heap.size w w' := by
 obtain ⟨p, c, rfl, _, _⟩ := ra_shape hu
 obtain ⟨p2, c2, rfl, _, _, _⟩ := id hv
 have hmk := run_make_row' (P := Tryz.prog) 44 58 (.int .u64 0) 8 Tryz.underlying44 info_u64 rfl .i64 .i64 l.length (by omega) (by omega)
 obtain ⟨W, hW⟩ : ∃ W, w.alloc (.cells (madeCells #[.int .u64 0] l.length) 58) = W := ⟨_, rfl⟩
 have hB : Below w.heap.size w W := by rw [← hW]; exact bal (Below.refl _ _)
 have hg : W.heap[w.heap.size]? = some (.cells (List.replicate l.length (.int .u64 0)).toArray 58 (0, 0)) := by
  rw [← hW, ← made_words, Array.toArray_toList]; exact heap_alloc_new w _
 have HG := Lib.hid hg
 have HBW := Lib.hid hB
 have HE := Lib.hid (fun (w' : World) (hb : Below w.heap.size w w') => ra_below hu hb)
 have HV := Lib.hid (ru_below hv hB)
 have HL := Lib.hid (And.intro hl hel)
 have CS : Hid ((l.map uv).length = Nat.min l.length l.length) := Lib.hid (by simp)
 have CF : Hid (0 + (l.map uv).length ≤ (List.replicate l.length (Value.int .u64 0)).length) := Lib.hid (by simp)
 have CP : Hid (0 < (l.map uv).length → some (⟨w.heap.size, 0, none⟩ : Addr) = some ⟨w.heap.size, 0, none⟩ ∧ ∃ ad, p2 = some ad ∧ ∀ j v, (l.map uv)[j]? = some v → W.cell? (ad.add j) = some v) := Lib.hid fun h0 => by
  obtain ⟨b, off, rfl, _, hc⟩ := ru_some HV.out (by simpa using h0)
  refine ⟨rfl, _, rfl, fun j v hj => ?_⟩
  have hj' : j < l.length := by have := (List.getElem?_eq_some_iff.1 hj).1; simpa using this
  have e : (⟨b, off, none⟩ : Addr).add j = ⟨b, off + j, none⟩ := Go.WideShapes.add_plain ..
  rw [e, hc j hj']
  simp [hj', uv] at hj ⊢
  exact hj
 have FIN : Hid (∀ w', w'.heap[w.heap.size]? = some (.cells (splice (List.replicate l.length (Value.int .u64 0)) 0 (l.map uv)).toArray 58 (0, 0)) → OwnU w.heap.size w' (.slice (some ⟨w.heap.size, 0, none⟩) l.length l.length) l) := Lib.hid fun w' h => by
  have es : splice (List.replicate l.length (Value.int .u64 0)) 0 (l.map uv) = l.map uv := by simp [splice]
  rw [es] at h
  refine ⟨by simp, .inr ⟨w.heap.size, l.length, _, rfl, Nat.le_refl _, h, Nat.le_refl _, by unfold maxLen; omega, by simp, by simp [List.take_of_length_le]⟩⟩
 clear hu hv hl hel hB hg
 obtain ⟨R0, hR0⟩ : ∃ R0, List.replicate l.length (Value.int .u64 0) = R0 := ⟨_, rfl⟩
 obtain ⟨C0, hC0⟩ : ∃ C0, l.map uv = C0 := ⟨_, rfl⟩
 rw [hR0] at HG CF FIN
 rw [hC0] at CS CF CP FIN
 have CO : Hid (∀ v ∈ C0, v.oneCell' = true) := Lib.hid (by rw [← hC0]; exact uv_one l)
 clear hR0 hC0
 go_enter Tryz.func163, Tryz.ntmps163
 go_wp2_with (refine wpList_copy_splice (o := ⟨some 13, _, _, _, _, _⟩) rfl (.tmp 11) (.tmp 12) 44 44 rfl 58 Tryz.underlying44 size_u64s _ _ _ _ _ _ rfl rfl w.heap.size 0 R0 58 HG.out C0 CS.out CP.out CF.out CO.out w.heap.size w HBW.out (Nat.le_refl _) ?_)
 intro w1 hg1 hb1
 have O1 := Lib.hid (FIN.out _ hg1.out)
 have D1 := Lib.hid hb1
 clear hg1 hb1 FIN CP CF CO HG CS
 go_wp2
 go_loopw [7, 16] (fun x i wr => ∃ k : Nat, k ≤ es.length ∧ i = .int .i64 k ∧ Hid (OwnU w.heap.size wr (.slice (some ⟨w.heap.size, 0, none⟩) l.length l.length) (appF l (es.take k)) ∧ Below w.heap.size w wr)) (fun _ i _ => es.length - (intOf i).toNat)
 case atStart => exact ⟨0, Nat.zero_le _, rfl, Lib.hid ⟨O1.out, D1.out⟩⟩
 case round =>
  obtain ⟨k, hk, rfl, H⟩ := hrel
  by_cases hlt : k < es.length
  · obtain ⟨b, off, rfl, hb, hx⟩ := ed_at (HE.out _ H.out.2) (by omega)
    obtain ⟨hld, _, _, hwf⟩ := hx k hlt
    have hF := appF_take (l := l) hlt
    rw [appF_length] at hF
    generalize es.getD k default = y at *
    obtain ⟨a, x⟩ := y
    simp only at hF
    obtain ⟨W, hW, HW⟩ := ed_boxed wr ⟨a, x⟩
    have c0 : W.cell? ⟨wr.heap.size, 0, none⟩ = some (.int .i64 a) := HW.out.1.c0
    have c1 : W.cell? ⟨wr.heap.size, 1, none⟩ = some (.int .u64 x) := HW.out.1.c1
    have hB := below_more H.out.2 HW.out.2
    have hO := H.out.1.below HW.out.2
    have i0 : (0 : Int) ≤ (k : Int) := by omega
    have i1 : (k : Int) < (es.length : Int) := by omega
    have i2 : ¬ (k : Int) < 0 := by omega
    have i3 : IntKind.i64.wrap ((k : Int) + 1) = ((k + 1 : Nat) : Int) := by rw [show (k : Int) + 1 = ((k + 1 : Nat) : Int) by omega]; exact i64_nat _ (by have := HL.out; omega)
    have HK := Lib.hid hlt
    by_cases h1 : 0 ≤ a
    · by_cases h2 : a < (l.length : Int)
      · rw [if_pos ⟨h1, h2⟩] at hF
        obtain ⟨z, rfl⟩ : ∃ z : Nat, a = z := ⟨a.toNat, by omega⟩
        rw [Int.toNat_natCast] at hF
        have i4 : (z : Int) ≥ 0 := by omega
        have i5 : ¬ (z : Int) < 0 := by omega
        have i6 : ¬ (l.length : Int) ≤ (z : Int) := by omega
        obtain ⟨_, z3⟩ := OwnU.cells hO (j := z) (by rw [appF_length]; omega)
        obtain ⟨c3, _⟩ := OwnU.cells hO (j := z) (by rw [appF_length]; omega)
        generalize (appF l (es.take k)).getD z 0 = y at c3
        have HN : Hid (OwnU w.heap.size (W.setCell ⟨w.heap.size, z, none⟩ (.int .u64 x)) (.slice (some ⟨w.heap.size, 0, none⟩) l.length l.length) (appF l (es.take (k + 1))) ∧ Below w.heap.size w (W.setCell ⟨w.heap.size, z, none⟩ (.int .u64 x))) := Lib.hid ⟨by rw [hF]; exact OwnU.stored hO z x, hB.setCell (p := ⟨w.heap.size, z, none⟩) (Nat.le_refl _) _⟩
        clear hx hF hB hO hb hk hlt h1 hwf
        go_wp2
        go_roundw
        case rel => exact ⟨k + 1, by have := HK.out; omega, by go_num, HN⟩
        case measure => have := HK.out; simp [intOf]; omega
      · rw [if_neg (by omega)] at hF
        have HN := Lib.hid (And.intro hO hB)
        rw [← hF] at HN
        clear hx hF hB hO hb hk hlt hwf
        go_wp2
        go_roundw
        case rel => exact ⟨k + 1, by have := HK.out; omega, by go_num, HN⟩
        case measure => have := HK.out; simp [intOf]; omega
    · rw [if_neg (by omega)] at hF
      have HN := Lib.hid (And.intro hO hB)
      rw [← hF] at HN
      clear hx hF hB hO hb hk hlt hwf
      go_wp2
      go_roundw
      case rel => exact ⟨k + 1, by have := HK.out; omega, by go_num, HN⟩
      case measure => have := HK.out; simp [intOf]; omega
  · obtain rfl : k = es.length := by omega
    have hF := H.out
    rw [List.take_length] at hF
    have HF := Lib.hid hF
    clear hF
    go_wp2
    go_ret
    exact ⟨⟨_, rfl, HF.out.1⟩, HF.out.2⟩
structure HNum (a : Ha) : Prop where
 N : 1 ≤ a.N ∧ a.N ≤ 64
 P : a.P ≤ 16
 per : 1 ≤ a.per ∧ a.per ≤ 1000
 b : 1 ≤ a.b ∧ a.b ≤ 100
theorem HNum.may {a : Ha} (h : HNum a) : MayN a.N a.P a.per a.b := ⟨h.N, h.P, h.per, h.b⟩
theorem line_ru {w : World} {g : Nat} {Y : List Int} (h : Ln w g Y) : RU w (.slice (some ⟨g, 0, none⟩) 8 8) Y :=
 ⟨some ⟨g, 0, none⟩, 8, by rw [h.2], by rw [h.2]; decide, by unfold maxLen; omega, .inr ⟨g, 0, rfl, fun i hi => by rw [Nat.zero_add]; exact (h.cell (by rw [← h.2]; exact hi)).1⟩⟩
theorem hwords_is {w : World} {a : Ha} {kv : Value} {wf : Bool} {s : Nv} {p : Nat} {X : List Int} (h : Hb w a kv wf s p) (hn : HNum a) (L : LgOk s (16 + a.N) a.P) (hd : s.dark = false) (H : Has s a.N a.P X) :
 Calls Tryz.prog 64 #[.pointer (some ⟨a.z, 0, none⟩)] w fun e w' => (∃ v, e = .returned v ∧ OwnU w.heap.size w' v X) ∧ Below w.heap.size w w' := by
 have c1 := h.c1
 have HM := Lib.hid hn.may
 have HNn : Hid (1 ≤ a.N ∧ a.N ≤ 64) := Lib.hid hn.N
 have GC := Lib.hid (fun (i : Nat) (hi : i < a.N) (w' : World) (hb : Below w.heap.size w w') => (show Calls Tryz.prog 104 #[.pointer (some ⟨a.x, 0, none⟩), .int .i64 ((16 + i : Nat) : Int)] w' fun e w2 => e = .returned (.tuple #[.agg (lc (lnO X i)), .int .i64 0]) ∧ Below w'.heap.size w' w2 from by
  have hN := hn.N
  have := gt_live (h.below hb).lg L hd (by omega) (a := 16 + i) (by omega) (by omega)
  rw [H.at_ i hi] at this
  exact this))
 have CC := Lib.hid (fun w => hchk_ok 0 (by decide) w)
 have HT := Lib.hid (fun (i : Nat) => lnO_take X i)
 have HT8 := Lib.hid (fun (i : Nat) (hi : i < a.N) => lnO_length H.len hi)
 have HTA : Hid (X.take (8 * a.N) = X) := Lib.hid (List.take_of_length_le (by rw [H.len]; exact Nat.le_refl _))
 have HTL : Hid (∀ k, (X.take k).length ≤ 512) := Lib.hid fun k => by have := H.len; have := hn.N; rw [List.length_take]; omega
 have CX := Lib.hid (fun (w' : World) (hb : Below w.heap.size w w') => (h.below hb).c6)
 have CP := Lib.hid (fun (w' : World) (hb : Below w.heap.size w w') => (h.below hb).plan)
 clear h L hd H hn
 generalize a.z = z at *
 generalize a.x = x at *
 generalize a.N = N at *
 generalize a.P = P at *
 generalize a.per = per at *
 generalize a.b = b at *
 go_enter Tryz.func64, Tryz.ntmps64
 go_wp2
 go_loopw [12, 3] (fun i v wr => ∃ k : Nat, k ≤ N ∧ i = .int .i64 k ∧ Hid (OwnU w.heap.size wr v (X.take (8 * k)) ∧ Below w.heap.size w wr)) (fun i _ _ => N - (intOf i).toNat)
 case atStart => exact ⟨0, Nat.zero_le _, rfl, Lib.hid ⟨own_nil_u _ _, Below.refl _ _⟩⟩
 case round =>
  obtain ⟨k, hk, rfl, H⟩ := hrel
  by_cases hlt : k < N
  · have cx : ∀ w' : World, Kept (Below wr.heap.size wr w') → w'.cell? ⟨z, 6, none⟩ = some (.pointer (some ⟨x, 0, none⟩)) := fun w' hb => CX.out w' (below_more H.out.2 hb.out)
    have cp : ∀ w' : World, Kept (Below wr.heap.size wr w') → (planLoad (.pointer (some ⟨z, 1, none⟩))).run Tryz.prog w' = .ok (Value.agg #[Value.int IntKind.i64 (N : Int), Value.int IntKind.i64 (P : Int), Value.int IntKind.i64 (per : Int), Value.int IntKind.i64 (b : Int)]) w' := fun w' hb => CP.out w' (below_more H.out.2 hb.out)
    have GC1 := Lib.hid (fun (w' : World) (hb : Kept (Below wr.heap.size wr w')) => GC.out k hlt w' (below_more H.out.2 hb.out))
    have HC := Lib.hid (fun w => home_yes HM.out hlt rfl w)
    have h8 := HT8.out k hlt
    have HTk := Lib.hid (HT.out k)
    have j0 : IntKind.i64.wrap ((k : Int) + 1) = ((k + 1 : Nat) : Int) := by rw [show (k : Int) + 1 = ((k + 1 : Nat) : Int) by omega]; exact i64_nat _ (by have := HNn.out; omega)
    have HK := Lib.hid hlt
    have i1 : (k : Int) < (N : Int) := by omega
    generalize lnO X k = Y at *
    generalize 16 + k = kk at *
    clear hk
    go_upto_region 5 with fail
    go_cut [5, 6, 12] from 12 to 34 (fun v5 v6 v12 wx => ∃ g' : Nat, v5 = .pointer (some ⟨g', 0, none⟩) ∧ v6 = .int .i64 0 ∧ v12 = .int .i64 (k : Int) ∧ Hid (Ln wx g' Y ∧ Below wr.heap.size wr wx))
    case first =>
     go_region_held3 (fun w' => Kept (Below wr.heap.size wr w'))
      (((refine ⟨?_⟩); (repeat' (with_reducible (first | exact Below.refl _ _ | refine Below.drew ?_ | refine below_more ?_ (by assumption) | refine bal ?_ | refine below_row ?_ ?_ | (simp only [Hid, size_alloc, size_drew] at *; omega))))))
      (first
        | (go_at_call 85; refine (HC.out _).mono ?_; rintro e wq ⟨rfl, hbq⟩; have zq := Lib.hid hbq.size)
        | (go_at_call 104; refine (GC1.out _ (by first | assumption | ((refine ⟨?_⟩); (repeat' (with_reducible (first | exact Below.refl _ _ | refine Below.drew ?_ | refine below_more ?_ (by assumption) | refine bal ?_)))))).mono ?_; rintro e wq ⟨rfl, hbq⟩; have zq := Lib.hid hbq.size)
        | (rw [run_store_is (by (repeat' (first
            | ((with_reducible refine IsLn.fresh _ _ ?_ ?_); (focus (with_reducible rfl)); (focus (first | assumption | rfl)))
            | (with_reducible refine IsLn.up ?_ _) | (with_reducible refine IsLn.drew ?_) | (with_reducible refine IsLn.row ?_ (by assumption)) | (with_reducible refine IsLn.call (by assumption) ?_)))) (by assumption)]))
     all_goals (go_wp2_with fail; go_meet)
     all_goals
      refine ⟨_, rfl, rfl, rfl, Lib.hid ⟨?_, Kept.out ‹Kept (Below wr.heap.size wr _)›⟩⟩ <;>
      (repeat' (first
        | ((with_reducible refine Ln.fresh _ _ ?_ ?_); (focus (with_reducible rfl)); (focus (first | assumption | rfl)))
        | ((with_reducible refine put_at ?_ ?_ ?_); (focus (with_reducible rfl)))
        | ((with_reducible refine Ln.past ?_ ?_); rotate_left; (focus (simp only [Hid, size_alloc, size_drew] at *; omega)))
        | (with_reducible refine Ln.alloc ?_ _) | (with_reducible refine Ln.drew ?_)
        | ((with_reducible refine IsLn.fresh _ _ ?_ ?_); (focus (with_reducible rfl)); (focus (first | assumption | rfl)))
        | (with_reducible refine IsLn.up ?_ _) | (with_reducible refine IsLn.drew ?_) | (with_reducible refine IsLn.row ?_ (by assumption)) | (with_reducible refine IsLn.call (by assumption) ?_) | assumption))
    case rest =>
     obtain ⟨g', rfl, rfl, rfl, HC2⟩ := hcut
     have O1 := Lib.hid (H.out.1.below HC2.out.2)
     have BW := Lib.hid (below_more H.out.2 HC2.out.2)
     have HR := Lib.hid (line_ru HC2.out.1)
     obtain ⟨q, c, rfl⟩ := H.out.1.shape
     have HL8 : Hid ((X.take (8 * k)).length + Y.length ≤ 1000000) := Lib.hid (by have := HTL.out (8 * k); omega)
     have HTk' := Lib.hid HTk.out
     clear HC2 cx cp GC1 HC HTk H
     generalize X.take (8 * k) = T at *
     generalize hTn : T.length = tn at *
     go_wp2_with fail
     refine (CC.out _).mono ?_; rintro e w1 ⟨rfl, rfl⟩
     go_wp2_with (at_builtin; refine list_app_u64 rfl _ _ rfl w.heap.size _ T rfl O1.out _ Y rfl HR.out (by rw [hTn]; exact HL8.out) BW.out.size ?_)
     intro v' w2 o2 g2 _
     have BW2 := Lib.hid (below_app_u BW.out BW.out.size O1.out g2)
     rw [← HTk'.out] at o2
     have O2 := Lib.hid o2
     clear g2 o2
     go_wp2
     exact ⟨⟨k + 1, by have := HK.out; omega, by go_num, Lib.hid ⟨O2.out, BW2.out⟩⟩, by have := HK.out; simp [intOf]; omega⟩
  · obtain rfl : k = N := by omega
    have O := Lib.hid H.out.1
    rw [HTA.out] at O
    go_wp2
    go_ret
    exact ⟨⟨_, rfl, O.out⟩, H.out.2⟩
theorem sort_own {B : Nat} {w : World} {v : Value} {R : List Int} (h : OwnI B w v R) (hl : R.length ≤ 1000000) : Calls Tryz.prog 189 #[v] w fun e w' => e = .returned (.tuple #[]) ∧ OwnI B w' v (R.mergeSort fun x y => decide (x ≤ y)) ∧ w.grownBy w' v.ownBlock := by
 obtain ⟨hlen, ⟨rfl, h0⟩ | ⟨g, cap, cur, rfl, hb, hg, h1, h2, h3, h4⟩⟩ := id h
 · obtain rfl : R = [] := List.eq_nil_of_length_eq_zero h0
   refine (Any.slices_Sort_int_none Tryz.lays189 none 0 w).mono ?_
   rintro e w' ⟨rfl, rfl⟩
   exact ⟨rfl, by simpa using h, World.grownBy.refl _ _⟩
 · rw [Nat.mul_one] at h4
   have hH := holds_of_blockI (ss := R) hg h4
   refine (Any.slices_Sort_int Tryz.lays189 g 0 cap R w hH (Array.getElem?_eq_some_iff.1 hg).1 (by omega)).mono ?_
   rintro e w' ⟨rfl, n, os, rfl⟩
   have ho := ownsRow_sortedI (n := n) (os := os) (ts := R.mergeSort fun x y => decide (x ≤ y)) (ss := R) (by simp) hb hg h1 h2 (by rw [h3])
   refine ⟨rfl, ?_, grownBy_sortedI _⟩
   unfold OwnI
   rw [List.length_mergeSort]
   exact ho
theorem own_take_i {B g c n : Nat} {w : World} {l : List Int} (h : OwnI B w (.slice (some ⟨g, 0, none⟩) n c) l) {m : Nat} (hm : m ≤ l.length) : OwnI B w (.slice (some ⟨g, 0, none⟩) m c) (l.take m) := by
 obtain ⟨hlen, h0 | ⟨g', cap, cur, e, hb, hg, h1, h2, h3, h4⟩⟩ := h
 · cases h0.1
 · cases e
   have hlt : (l.take m).length = m := by rw [List.length_take]; omega
   refine ⟨by simp, .inr ⟨g, c, cur, by rw [hlt], hb, hg, by rw [hlt]; omega, h2, h3, ?_⟩⟩
   rw [hlt, Nat.mul_one, List.map_take, ← h4, Nat.mul_one, List.take_take, Nat.min_eq_left hm]
theorem compact_own {B : Nat} {w : World} {v : Value} {R : List Int} (h : OwnI B w v R) (hl : R.length ≤ 1000000) : Calls Tryz.prog 190 #[v] w fun e w' => (∃ u, e = .returned u ∧ OwnI B w' u (Lib.compact R)) ∧ w.grownBy w' v.ownBlock := by
 obtain ⟨hlen, ⟨rfl, h0⟩ | ⟨g, cap, cur, rfl, hb, hg, h1, h2, h3, h4⟩⟩ := id h
 · obtain rfl : R = [] := List.eq_nil_of_length_eq_zero h0
   refine (Any.slices_Compact_int_empty Tryz.laysNm220 none 0 w).mono ?_
   rintro e w' ⟨rfl, rfl⟩
   exact ⟨⟨_, rfl, h⟩, World.grownBy.refl _ _⟩
 · rw [Nat.mul_one] at h4
   have hH := holds_of_blockI (ss := R) hg h4
   refine (Any.slices_Compact_int Tryz.laysNm220 g 0 cap R w hH (by omega) h1).mono ?_
   rintro e w' ⟨rfl, q, rfl⟩
   have hcl : (Lib.compact R).length ≤ R.length := by
    unfold Lib.compact Lib.compactUpTo
    rw [List.length_map]
    have := List.length_filter_le (Lib.keeps R.toArray) (List.range R.length)
    rw [List.length_range] at this
    exact this
   have eg : ∀ x : World, Sort.grow x #[] = x := fun x => by simp [Sort.grow]
   have ho := ownsRow_sortedI (n := q) (os := #[]) (ts := Lib.compact R ++ List.replicate (R.length - (Lib.compact R).length) 0) (ss := R) (by simp; omega) hb hg h1 h2 (by rw [h3])
   rw [eg] at ho
   have ho2 : OwnI B (Sort.putRow (Value.int .i64) (Sort.ahead w q) g 0 (Lib.compact R ++ List.replicate (R.length - (Lib.compact R).length) 0).toArray) (.slice (some ⟨g, 0, none⟩) R.length cap) (Lib.compact R ++ List.replicate (R.length - (Lib.compact R).length) 0) := by
    unfold OwnI
    have : (Lib.compact R ++ List.replicate (R.length - (Lib.compact R).length) 0).length = R.length := by simp; omega
    rw [this]
    exact ho
   have ho3 := own_take_i ho2 (m := (Lib.compact R).length) (by simp)
   rw [List.take_left'  rfl] at ho3
   have hgr := grownBy_sortedI (w := w) (g := g) (n := q) (os := #[]) (Lib.compact R ++ List.replicate (R.length - (Lib.compact R).length) 0).toArray
   rw [eg] at hgr
   exact ⟨⟨_, rfl, ho3⟩, hgr⟩
theorem own_nil_i (B : Nat) (w : World) : OwnI B w (.slice none 0 0) [] := World.ownsRow_nil _ _ _ _
theorem own_up_i {B : Nat} {w w' : World} {v : Value} {l : List Int} (h : OwnI B w v l) (hb : Below w.heap.size w w') : OwnI B w' v l := by
 refine ⟨h.1, h.2.imp id ?_⟩
 rintro ⟨g, cap, cur, hv, h1, hg, r⟩
 exact ⟨g, cap, cur, hv, h1, (hb.block g (Array.getElem?_eq_some_iff.1 hg).1).trans hg, r⟩
theorem below_app_i {B : Nat} {w w1 w2 : World} {v : Value} {l : List Int} (h : Below B w w1) (hB : B ≤ w1.heap.size) (ho : OwnI B w1 v l) (hg : w1.grownBy w2 v.ownBlock) : Below B w w2 := h.grown hg hB (fun k hk => (World.ownsRow.lt ho k hk).1)
theorem lines_is (es : List Ed) (u : Value) (w : World) (hu : RA edE w u es) (hel : es.length ≤ 4000) :
 Calls Tryz.prog 160 #[u] w fun e w' => (∃ x, e = .returned x ∧ OwnI w.heap.size w' x (Lib.compact ((lnR es).mergeSort fun x y => decide (x ≤ y)))) ∧ Below w.heap.size w w' := by
 obtain ⟨p, c, rfl, _, _⟩ := ra_shape hu
 have HE := Lib.hid (fun (w' : World) (hb : Below w.heap.size w w') => ra_below hu hb)
 have HL := Lib.hid hel
 clear hu hel
 go_enter Tryz.func160, Tryz.ntmps160
 go_wp2
 go_loopw [3, 5, 8] (fun y x i wr => ∃ (k : Nat) (lv : Value), k ≤ es.length ∧ i = .int .i64 k ∧ lv = y ∧ Hid (OwnI w.heap.size wr lv (lnR (es.take k)) ∧ Below w.heap.size w wr)) (fun _ _ i _ => es.length - (intOf i).toNat)
 case atStart => exact ⟨0, _, Nat.zero_le _, rfl, rfl, Lib.hid ⟨own_nil_i _ _, Below.refl _ _⟩⟩
 case round =>
  obtain ⟨k, lv, hk, rfl, rfl, H⟩ := hrel
  by_cases hlt : k < es.length
  · obtain ⟨b, off, rfl, hb, hx⟩ := ed_at (HE.out _ H.out.2) (by omega)
    obtain ⟨hld, _, _, hwf⟩ := hx k hlt
    have hF := lnR_take hlt
    have hl1 := lnR_length (es.take k)
    rw [List.length_take] at hl1
    generalize es.getD k default = y at *
    obtain ⟨a, x⟩ := y
    obtain ⟨W, hW, HW⟩ := ed_boxed wr ⟨a, x⟩
    have c0 : W.cell? ⟨wr.heap.size, 0, none⟩ = some (.int .i64 a) := HW.out.1.c0
    have HB := Lib.hid (below_more H.out.2 HW.out.2)
    have HO := Lib.hid (own_up_i H.out.1 HW.out.2)
    have i0 : (0 : Int) ≤ (k : Int) := by omega
    have i1 : (k : Int) < (es.length : Int) := by omega
    have i2 : ¬ (k : Int) < 0 := by omega
    have i3 : IntKind.i64.wrap ((k : Int) + 1) = ((k + 1 : Nat) : Int) := by rw [show (k : Int) + 1 = ((k + 1 : Nat) : Int) by omega]; exact i64_nat _ (by have := HL.out; omega)
    have HK := Lib.hid hlt
    have hwa := i64_wf hwf.ww
    simp only at hF hwa
    by_cases h1 : 0 ≤ a
    · rw [if_pos h1] at hF
      obtain ⟨z, rfl⟩ : ∃ z : Nat, a = z := ⟨a.toNat, by omega⟩
      obtain ⟨Q, hQ⟩ : ∃ Q, z / 8 = Q := ⟨_, rfl⟩
      have i4 : (z : Int) ≥ 0 := by omega
      have m2 : IntKind.i64.wrap ((z : Int) / 8) = (Q : Int) := by rw [show (z : Int) / 8 = (Q : Int) by omega]; exact i64_nat _ (by omega)
      have eQ : (z : Int) / 8 = (Q : Int) := by omega
      rw [eQ] at hF
      have HF := Lib.hid hF
      have hlen : Hid ((lnR (es.take k)).length + [(Q : Int)].length ≤ 1000000) := Lib.hid (by have := HL.out; simp only [List.length_singleton]; omega)
      have O2 : Hid (OwnI w.heap.size (W.alloc (.cells #[.int .i64 (Q : Int)] 3)) lv (lnR (es.take k))) := Lib.hid (own_up_i HO.out (bal (Below.refl _ _)))
      have B2 : Hid (Below w.heap.size w (W.alloc (.cells #[.int .i64 (Q : Int)] 3))) := Lib.hid (bal HB.out)
      clear hx hF hb hk hlt h1 hwf hwa hQ hl1 eQ
      go_wp2_with (at_builtin; refine list_app_int (o := ⟨some 20, _, _, _, _, _⟩) rfl (.tmp 15) (.tmp 19) rfl w.heap.size _ (lnR (es.take k)) rfl O2.out _ [(Q : Int)] rfl (ri_one _ _) hlen.out B2.out.size ?_)
      intro v' w' ho hg hx
      have HN : Hid (OwnI w.heap.size w' v' (lnR (es.take (k + 1))) ∧ Below w.heap.size w w') := Lib.hid ⟨by rw [HF.out]; exact ho, below_app_i B2.out B2.out.size O2.out hg⟩
      clear ho hg hx
      go_wp2
      go_roundw
      case rel => exact ⟨k + 1, _, by have := HK.out; omega, by go_num, rfl, HN⟩
      case measure => have := HK.out; simp [intOf]; omega
    · rw [if_neg h1, List.append_nil] at hF
      have i4 : ¬ a ≥ 0 := h1
      have HN : Hid (OwnI w.heap.size W lv (lnR (es.take (k + 1))) ∧ Below w.heap.size w W) := Lib.hid ⟨by rw [hF]; exact HO.out, HB.out⟩
      clear hx hF hb hk hlt h1 hwf hwa hl1
      go_wp2
      go_roundw
      case rel => exact ⟨k + 1, _, by have := HK.out; omega, by go_num, rfl, HN⟩
      case measure => have := HK.out; simp [intOf]; omega
  · obtain rfl : k = es.length := by omega
    have hF := H.out
    rw [List.take_length] at hF
    have hl1 := lnR_length es
    have S1 := Lib.hid (sort_own hF.1 (by have := HL.out; omega))
    have HF := Lib.hid hF
    clear hF H hk hlt
    go_wp2_with fail
    refine (S1.out).mono ?_; rintro e w2 ⟨rfl, o2, g2⟩
    have B2 := Lib.hid (below_app_i HF.out.2 HF.out.2.size HF.out.1 g2)
    have S2 := Lib.hid (compact_own o2 (by rw [List.length_mergeSort]; have := HL.out; omega))
    have O2 := Lib.hid o2
    clear o2 g2 S1
    go_wp2_with fail
    refine (S2.out).mono ?_; rintro e w3 ⟨⟨u3, rfl, o3⟩, g3⟩
    have R3 := Lib.hid (And.intro o3 (below_app_i B2.out B2.out.size O2.out g3))
    clear o3 g3 S2
    go_wp2
    go_ret
    exact ⟨⟨_, rfl, R3.out.1⟩, R3.out.2⟩
def rootB (X : List Int) (o : Int) : Bool := (o == 0) || isB X o
theorem hmr_is {X : List Int} (o : Int) {v : Value} (w : World) (hv : RU w v X) (hl : X.length ≤ 1000) (hw : WordsOk X) : Calls Tryz.prog 123 #[v, .int .i64 o] w fun e w' => e = .returned (.bool (rootB X o)) ∧ Below w.heap.size w w' := by
 have C := Lib.hid (is_is X o v w hv hl hw)
 obtain ⟨p, c, rfl, _⟩ := hv
 unfold rootB
 generalize isB X o = r at *
 generalize X.length = n at *
 by_cases h0 : o = 0
 · subst h0
   go_enter Tryz.func123, Tryz.ntmps123
   go_wp2_with fail
   go_ret
   exact ⟨rfl, Below.refl _ _⟩
 · have i0 : (o == 0) = false := beq_eq_false_iff_ne.2 h0
   rw [i0]
   go_enter Tryz.func123, Tryz.ntmps123
   go_wp2_with fail
   refine (C.out).mono ?_; rintro e w1 ⟨rfl, b⟩
   have B := Lib.hid b
   clear b
   go_wp2_with fail
   go_ret
   exact ⟨rfl, B.out⟩
theorem byF_take (n : Nat) (f : Nat → Int) (k : Nat) (h : k < n) : (byF n f).take (k + 1) = (byF n f).take k ++ [f k] := by
 rw [List.take_add_one]
 congr 1
 simp [byF, h]
theorem hkept_is {w : World} {a : Ha} {kv : Value} {wf : Bool} {s : Nv} {p : Nat} {F : Nat → Nat} (h : Hb w a kv wf s p) (hn : HNum a) (hd : s.dark = false) (hF : ∀ q, q < (a.N + 3) / 4 → s.rg (19 + q) = (F q : Int) ∧ F q < 4611686018427387904) :
 Calls Tryz.prog 79 #[.pointer (some ⟨a.z, 0, none⟩)] w fun e w' => (∃ v, e = .returned v ∧ OwnI w.heap.size w' v (byF ((a.N + 3) / 4) fun q => (F q : Int))) ∧ Below w.heap.size w w' := by
 have hnN := hn.N
 have cp := h.plan
 have PC1 := Lib.hid (fun w => pages_yes hn.may rfl w)
 have HNn : Hid ((a.N + 3) / 4 ≤ 16) := Lib.hid (by omega)
 have RC := Lib.hid (fun (q : Nat) (hq : q < (a.N + 3) / 4) (w' : World) (hb : Below w.heap.size w w') => hreg_is (k := 19 + q) (h.below hb) hd (by omega) (hF q hq).1 (hF q hq).2)
 clear h hd hF hn hnN
 generalize a.z = z at *
 generalize (a.N + 3) / 4 = n at *
 generalize a.N = N at *
 generalize a.P = P at *
 generalize a.per = per at *
 generalize a.b = b at *
 go_enter Tryz.func79, Tryz.ntmps79
 go_wp2_with fail
 refine (PC1.out _).mono ?_; rintro e w1 ⟨rfl, b1⟩
 have B1 := Lib.hid b1
 clear b1 PC1
 have FT := Lib.hid (fun k (hk : k < n) => byF_take n (fun q => (F q : Int)) k hk)
 have FL : Hid ((byF n fun q => (F q : Int)).length = n) := Lib.hid (byF_length _ _)
 obtain ⟨G, hG⟩ : ∃ G, (byF n fun q => (F q : Int)) = G := ⟨_, rfl⟩
 rw [hG] at FT FL
 have HG := Lib.hid hG
 clear hG
 go_wp2
 go_loopw [10, 3] (fun i v wr => ∃ (k : Nat) (lv : Value), k ≤ n ∧ i = .int .i64 k ∧ lv = v ∧ Hid (OwnI w.heap.size wr lv (G.take k) ∧ Below w.heap.size w wr)) (fun i _ _ => n - (intOf i).toNat)
 case atStart => exact ⟨0, _, Nat.zero_le _, rfl, rfl, Lib.hid ⟨own_nil_i _ _, B1.out⟩⟩
 case round =>
  obtain ⟨k, lv, hk, rfl, rfl, H⟩ := hrel
  by_cases hlt : k < n
  · have R1 := Lib.hid (RC.out k hlt wr H.out.2)
    have HF := Lib.hid (FT.out k hlt)
    have i1 : (k : Int) < (n : Int) := by omega
    have i3 : IntKind.i64.wrap ((k : Int) + 1) = ((k + 1 : Nat) : Int) := by rw [show (k : Int) + 1 = ((k + 1 : Nat) : Int) by omega]; exact i64_nat _ (by have := HNn.out; omega)
    have i4 : IntKind.i64.wrap (19 + (k : Int)) = ((19 + k : Nat) : Int) := by rw [show 19 + (k : Int) = ((19 + k : Nat) : Int) by omega]; exact i64_nat _ (by have := HNn.out; omega)
    have HK := Lib.hid hlt
    have hlen : Hid ((G.take k).length + [(F k : Int)].length ≤ 1000000) := Lib.hid (by have := HNn.out; rw [List.length_take]; simp only [List.length_singleton]; omega)
    have O2 : Hid (OwnI w.heap.size (wr.alloc (.cells #[.int .i64 (F k : Int)] 3)) lv (G.take k)) := Lib.hid (own_up_i H.out.1 (bal (Below.refl _ _)))
    have B2 : Hid (Below w.heap.size w (wr.alloc (.cells #[.int .i64 (F k : Int)] 3))) := Lib.hid (bal H.out.2)
    clear hk hlt H
    generalize F k = fk at *
    generalize 19 + k = k19 at *
    go_wp2_with fail
    refine (R1.out).mono ?_; rintro e w2 ⟨rfl, rfl⟩
    go_wp2_with (at_builtin; refine list_app_int (o := ⟨some 19, _, _, _, _, _⟩) rfl (.tmp 13) (.tmp 18) rfl w.heap.size _ (G.take k) rfl O2.out _ [(fk : Int)] rfl (ri_one _ _) hlen.out B2.out.size ?_)
    intro v' w' ho hg hx
    have HN : Hid (OwnI w.heap.size w' v' (G.take (k + 1)) ∧ Below w.heap.size w w') := Lib.hid ⟨by rw [HF.out]; exact ho, below_app_i B2.out B2.out.size O2.out hg⟩
    clear ho hg hx
    go_wp2
    go_roundw
    case rel => exact ⟨k + 1, _, by have := HK.out; omega, by go_num, rfl, HN⟩
    case measure => have := HK.out; simp [intOf]; omega
  · obtain rfl : k = n := by omega
    have hO := H.out.1
    rw [List.take_of_length_le (by rw [FL.out]; exact Nat.le_refl _), ← HG.out] at hO
    have O := Lib.hid hO
    clear hO
    go_wp2
    go_ret
    exact ⟨⟨_, rfl, O.out⟩, H.out.2⟩
def soundB (X : List Int) (r : Int) : Bool := (blkF X).isSome && rootB X r
theorem hsound_is {w : World} {a : Ha} {kv : Value} {wf : Bool} {s : Nv} {p : Nat} {X : List Int} {r : Nat} (h : Hb w a kv wf s p) (hn : HNum a) (L : LgOk s (16 + a.N) a.P) (hd : s.dark = false) (H : Has s a.N a.P X) (hw : WordsOk X) (hr : s.rg 2 = (r : Int)) (hr2 : r < 4611686018427387904) :
 Calls Tryz.prog 77 #[.pointer (some ⟨a.z, 0, none⟩)] w fun e w' => e = .returned (.bool (soundB X (r : Int))) ∧ Below w.heap.size w w' := by
 have hX : X.length ≤ 1000 := by have := H.len; have := hn.N; omega
 have C1 := Lib.hid (hwords_is h hn L hd H)
 have C2 := Lib.hid (fun v w' (hv : RU w' v X) => blocks_is X v (blkF X) w' hv hX hw rfl)
 have C3 := Lib.hid (fun w' (hb : Below w.heap.size w w') => hreg_is (k := 2) (h.below hb) hd (by decide) hr hr2)
 have C4 := Lib.hid (fun v w' (hv : RU w' v X) => hmr_is (r : Int) w' hv hX hw)
 unfold soundB
 generalize rootB X r = rb at *
 generalize (blkF X).isSome = bb at *
 clear h hn L hd H hw hr hr2 hX
 generalize a.z = z at *
 go_enter Tryz.func77, Tryz.ntmps77
 go_wp2_with fail
 refine (C1.out).mono ?_; rintro e w1 ⟨⟨v, rfl, o1⟩, b1⟩
 have O1 := Lib.hid o1
 have D1 := Lib.hid b1
 obtain ⟨q, c, rfl⟩ := o1.shape
 clear o1 b1
 go_wp2_with fail
 refine (C2.out _ _ O1.out.ru).mono ?_; rintro e w2 ⟨⟨v, rfl, o2⟩, b2⟩
 have O2 := Lib.hid (O1.out.below b2)
 have D2 := Lib.hid (below_more D1.out b2)
 obtain ⟨q2, c2, rfl, _⟩ := o2.shape
 clear o2 b2
 cases bb with
 | false =>
   go_wp2_with fail
   go_ret
   exact ⟨rfl, D2.out⟩
 | true =>
   go_wp2_with fail
   refine (C3.out _ D2.out).mono ?_; rintro e w3 ⟨rfl, rfl⟩
   go_wp2_with fail
   refine (C4.out _ _ O2.out.ru).mono ?_; rintro e w3 ⟨rfl, b3⟩
   have D3 := Lib.hid (below_more D2.out b3)
   clear b3
   go_wp2_with fail
   go_ret
   exact ⟨by simp, D3.out⟩
theorem eight {l : List Int} (h : l.length = 8) : ∃ a b c d e f g i, l = [a, b, c, d, e, f, g, i] := by
 match l, h with
 | [a, b, c, d, e, f, g, i], _ => exact ⟨a, b, c, d, e, f, g, i, rfl⟩
theorem built_home2 (i a b c d e f g k : Int) : Tryz.prog.built 174 [(0, .int .i64 i), (1, .agg #[.int .u64 a, .int .u64 b, .int .u64 c, .int .u64 d, .int .u64 e, .int .u64 f, .int .u64 g, .int .u64 k])] = some (hmc ⟨i, [a, b, c, d, e, f, g, k]⟩) := by kernel_rfl
theorem built_home1 (i : Int) : Tryz.prog.built 174 [(0, .int .i64 i)] = some (hmc ⟨i, zeros⟩) := by kernel_rfl
def homeBuild (ps : Array (Nat × Value)) : Sem Value := Instr.build 174 ps
@[go_sem ↓] theorem build_home (ps : Array (Nat × Value)) : Instr.build 174 ps = homeBuild ps := rfl
@[go_sem] theorem run_homeBuild2 (w : World) (i a b c d e f g k : Int) : (homeBuild #[(0, .int .i64 i), (1, .agg #[.int .u64 a, .int .u64 b, .int .u64 c, .int .u64 d, .int .u64 e, .int .u64 f, .int .u64 g, .int .u64 k])]).run Tryz.prog w = .ok (.agg (hmc ⟨i, [a, b, c, d, e, f, g, k]⟩)) w := run_build w _ _ _ (built_home2 i a b c d e f g k)
@[go_sem] theorem run_homeBuild1 (w : World) (i : Int) : (homeBuild #[(0, .int .i64 i)]).run Tryz.prog w = .ok (.agg (hmc ⟨i, zeros⟩)) w := run_build w _ _ _ (built_home1 i)
@[go_sem] theorem run_homeBuildL (w : World) (i : Int) (l : List Int) (h : l.length = 8) : (homeBuild #[(0, .int .i64 i), (1, .agg (lc l))]).run Tryz.prog w = .ok (.agg (hmc ⟨i, l⟩)) w := by
  obtain ⟨a, b, c, d, e, f, g, k, rfl⟩ := eight h
  exact run_homeBuild2 w i a b c d e f g k
theorem built_slice1 (w : World) (i a b c d e f g k : Int) : (Instr.buildSlice 160 1 #[(0, .agg #[.int .i64 i, .int .u64 a, .int .u64 b, .int .u64 c, .int .u64 d, .int .u64 e, .int .u64 f, .int .u64 g, .int .u64 k])]).run Tryz.prog w =
 .ok (.slice (some ⟨w.heap.size, 0, none⟩) 1 1) (w.alloc (.cells #[.int .i64 i, .int .u64 a, .int .u64 b, .int .u64 c, .int .u64 d, .int .u64 e, .int .u64 f, .int .u64 g, .int .u64 k] 174)) := by
 simp [Instr.buildSlice, run_underlying Tryz.underlying160, Instr.fill, go_sem]
theorem built_slice2 (w : World) (i a b c d e f g k i' a' b' c' d' e' f' g' k' : Int) :
 (Instr.buildSlice 160 2 #[(0, .agg #[.int .i64 i, .int .u64 a, .int .u64 b, .int .u64 c, .int .u64 d, .int .u64 e, .int .u64 f, .int .u64 g, .int .u64 k]), (1, .agg #[.int .i64 i', .int .u64 a', .int .u64 b', .int .u64 c', .int .u64 d', .int .u64 e', .int .u64 f', .int .u64 g', .int .u64 k'])]).run Tryz.prog w =
 .ok (.slice (some ⟨w.heap.size, 0, none⟩) 2 2) (w.alloc (.cells #[.int .i64 i, .int .u64 a, .int .u64 b, .int .u64 c, .int .u64 d, .int .u64 e, .int .u64 f, .int .u64 g, .int .u64 k, .int .i64 i', .int .u64 a', .int .u64 b', .int .u64 c', .int .u64 d', .int .u64 e', .int .u64 f', .int .u64 g', .int .u64 k'] 174)) := by
 simp [Instr.buildSlice, run_underlying Tryz.underlying160, Instr.fill, go_sem]
theorem built_slice0 (w : World) : (Instr.buildSlice 160 0 #[]).run Tryz.prog w = .ok (.slice (some ⟨w.heap.size, 0, none⟩) 0 0) (w.alloc (.cells #[] 174)) := by
 simp [Instr.buildSlice, run_underlying Tryz.underlying160, Instr.fill, go_sem]
def homeSlice (n : Nat) (ps : Array (Nat × Value)) : Sem Value := Instr.buildSlice 160 n ps
@[go_sem ↓] theorem slice_home (n : Nat) (ps : Array (Nat × Value)) : Instr.buildSlice 160 n ps = homeSlice n ps := rfl
@[go_sem] theorem run_homeSlice0 (w : World) : (homeSlice 0 #[]).run Tryz.prog w = .ok (.slice (some ⟨w.heap.size, 0, none⟩) 0 0) (w.alloc (.cells #[] 174)) := built_slice0 w
@[go_sem] theorem run_homeSlice1 (w : World) (c : Hm) (h : c.l.length = 8) : (homeSlice 1 #[(0, .agg (hmc c))]).run Tryz.prog w = .ok (.slice (some ⟨w.heap.size, 0, none⟩) 1 1) (w.alloc (.cells (hmc c) 174)) := by
  obtain ⟨i, l⟩ := c
  obtain ⟨a, b, c, d, e, f, g, k, rfl⟩ := eight h
  exact built_slice1 w i a b c d e f g k
@[go_sem] theorem run_homeSlice2 (w : World) (c c' : Hm) (h : c.l.length = 8) (h' : c'.l.length = 8) : (homeSlice 2 #[(0, .agg (hmc c)), (1, .agg (hmc c'))]).run Tryz.prog w = .ok (.slice (some ⟨w.heap.size, 0, none⟩) 2 2) (w.alloc (.cells (c.cells ++ c'.cells).toArray 174)) := by
  obtain ⟨i, l⟩ := c
  obtain ⟨i', l'⟩ := c'
  obtain ⟨a, b, c, d, e, f, g, k, rfl⟩ := eight h
  obtain ⟨a', b', c', d', e', f', g', k', rfl⟩ := eight h'
  exact built_slice2 w i a b c d e f g k i' a' b' c' d' e' f' g' k'
section
variable {ops : Array Oper} {rest : List Oper} {o : Oper} {a : Act} {w : World} {Q : Exit → Act → World → Prop}
theorem app_home_h (hgd : o.guard = none) (s x : Operand) (ho : o.op = .call { callee := .builtin .append, args := #[s, x], argTypes := #[160, 160] }) (B : Nat) (v : Value) (l : List Hm) (hs : a.eval s = v) (hown : OwnA homeE B w v l)
 (u : Value) (r : List Hm) (hx : a.eval x = u) (hr : RA homeE w u r) (hlen : Hid (l.length + r.length ≤ 1000)) (hB : B ≤ w.heap.size)
 (h : ∀ v' w', OwnA homeE B w' v' (l ++ r) → w.grownBy w' v.ownBlock → (v'.ownBlock = v.ownBlock ∨ v'.ownBlock = some w.heap.size) → wpList Tryz.prog ops Q rest (a.put o.dst v') w') : wpList Tryz.prog ops Q (o :: rest) a w :=
 list_app homeE hgd s x ho B v l hs hown u r hx hr (by have := hlen.out; show _ * 72 ≤ _; omega) hB h
end
theorem home_one_h {i : Int} {l : List Int} (h8 : l.length = 8) (h : -100 ≤ i ∧ i ≤ 100) : AllOk homeE [⟨i, l⟩] := fun z hz => by
 rw [List.mem_singleton.1 hz]
 refine ⟨h8, ?_⟩
 simp [Lit.wf, IntKind.min, IntKind.max, IntKind.signed, IntKind.bits]; omega
theorem own_home_h (V : World) {c : Hm} (h : AllOk homeE [c]) : OwnA homeE V.heap.size (V.alloc (.cells (hmc c) 174)) (.slice (some ⟨V.heap.size, 0, none⟩) 1 1) [c] := by
 have := own_lit_a homeE V (l := [c]) h (by unfold maxLen; show 1 ≤ _; decide)
 have e : V.alloc (.cells (([c].flatMap homeE.enc).toArray) homeE.e) = V.alloc (.cells (hmc c) 174) := by
  show V.alloc (.cells (Hm.cells _ ++ []).toArray _) = _
  rw [List.append_nil]; rfl
 rw [e] at this
 exact this
theorem below_app_h {B : Nat} {w w1 w2 : World} {v : Value} {l : List Hm} (h : Below B w w1) (hB : B ≤ w1.heap.size) (ho : OwnA homeE B w1 v l) (hg : w1.grownBy w2 v.ownBlock) : Below B w w2 := h.grown hg hB (fun k hk => (ho.lt k hk).1)
theorem take_snoc_h {L : List Int} {k : Nat} (h : k < L.length) : L.take (k + 1) = L.take k ++ [L.getD k 0] := by
 rw [List.take_add_one, List.getD_eq_getElem?_getD, List.getElem?_eq_getElem h]; rfl
theorem hhomes_is {w : World} {a : Ha} {kv : Value} {wf : Bool} {s : Nv} {p : Nat} {X L : List Int} {v u : Value} (h : Hb w a kv wf s p) (hn : HNum a) (hv : RU w v X) (hX : X.length = 8 * a.N) (hu : RI w u L) (hL : LnOk a.N L) :
 Calls Tryz.prog 162 #[.pointer (some ⟨a.z, 0, none⟩), v, u] w fun e w' => (∃ r, e = .returned r ∧ OwnA homeE w.heap.size w' r (hms X L)) ∧ Below w.heap.size w w' := by
 have hnN := hn.N
 have CP := Lib.hid (fun (w' : World) (hb : Below w.heap.size w w') => (h.below hb).plan)
 have HM := Lib.hid hn.may
 have HV := Lib.hid (fun (w' : World) (hb : Below w.heap.size w w') => ru_below hv hb)
 have HU := Lib.hid (fun (w' : World) (hb : Below w.heap.size w w') => ri_below hu hb)
 have HI := Lib.hid (fun (k : Nat) (hk : k < L.length) => (show ∃ m : Nat, L.getD k 0 = (m : Int) ∧ m < a.N from by
  have := hL.in_ (L.getD k 0) (by rw [List.getD_eq_getElem?_getD, List.getElem?_eq_getElem hk]; exact List.getElem_mem hk)
  exact ⟨(L.getD k 0).toNat, by omega, by omega⟩))
 have HXl : Hid (X.length = 8 * a.N ∧ a.N ≤ 64) := Lib.hid ⟨hX, hnN.2⟩
 have HLl : Hid (L.length ≤ 14) := Lib.hid hL.hi
 obtain ⟨pv, cv, rfl, _⟩ := hv
 obtain ⟨pu, cu, rfl, _⟩ := hu
 clear h hn hX hL hnN
 generalize a.z = z at *
 generalize a.N = N at *
 generalize a.P = P at *
 generalize a.per = per at *
 generalize a.b = b at *
 go_enter Tryz.func162, Tryz.ntmps162
 go_wp2
 go_loopw [12, 7] (fun i v wr => ∃ (k : Nat) (lv : Value), k ≤ L.length ∧ i = .int .i64 k ∧ lv = v ∧ Hid (OwnA homeE w.heap.size wr lv (hms X (L.take k)) ∧ Below w.heap.size w wr)) (fun i _ _ => L.length - (intOf i).toNat)
 case atStart => exact ⟨0, _, Nat.zero_le _, rfl, rfl, Lib.hid ⟨own_nil_a _ _ _, Below.refl _ _⟩⟩
 case round =>
  obtain ⟨k, lv, hk, rfl, rfl, H⟩ := hrel
  by_cases hlt : k < L.length
  · obtain ⟨m, hm, hmN⟩ := HI.out k hlt
    obtain ⟨bu, ou, rfl, hbu, hcu⟩ := ri_some (HU.out wr H.out.2) (by omega)
    have c1 := hcu k hlt
    rw [hm] at c1
    have cp := CP.out wr H.out.2
    have i0 : (0 : Int) ≤ (k : Int) := by omega
    have i1 : (k : Int) < (L.length : Int) := by omega
    have i2 : ¬ (k : Int) < 0 := by omega
    have i3 : IntKind.i64.wrap ((k : Int) + 1) = ((k + 1 : Nat) : Int) := by rw [show (k : Int) + 1 = ((k + 1 : Nat) : Int) by omega]; exact i64_nat _ (by have := HLl.out; omega)
    have C1 := Lib.hid (home_yes HM.out hmN rfl wr)
    have C2 := Lib.hid (fun (w' : World) (hb : Below wr.heap.size wr w') => hlnof_is w' (HV.out w' (below_more H.out.2 hb)) HXl.out.1 (by have := HXl.out; omega) hmN)
    have hl8 := lnO_length HXl.out.1 hmN
    have OK1 := Lib.hid (home_one_h (i := ((16 + m : Nat) : Int)) hl8 (by have := HXl.out; omega))
    have EH : Hid (hms X (L.take (k + 1)) = hms X (L.take k) ++ [⟨((16 + m : Nat) : Int), lnO X m⟩]) := Lib.hid (by
     rw [take_snoc_h hlt, hm]; simp [hms])
    have HK := Lib.hid hlt
    have HLh : Hid ((hms X (L.take k)).length ≤ 14) := Lib.hid (by rw [hms_length, List.length_take]; have := HLl.out; omega)
    generalize lnO X m = Y at *
    generalize 16 + m = m16 at *
    clear hk hlt hcu hbu hm hmN
    go_wp2_with fail
    refine (C1.out).mono ?_; rintro e w1 ⟨rfl, b1⟩
    have D1 := Lib.hid b1
    clear b1
    go_wp2_with fail
    refine (C2.out _ D1.out).mono ?_; rintro e w2 ⟨rfl, b2⟩
    have D2 := Lib.hid (below_more D1.out b2)
    have O2 : Hid (OwnA homeE w.heap.size (w2.alloc (.cells (hmc ⟨(m16 : Int), Y⟩) 174)) lv (hms X (L.take k))) := Lib.hid (H.out.1.below (bal D2.out))
    have B2 : Hid (Below w.heap.size w (w2.alloc (.cells (hmc ⟨(m16 : Int), Y⟩) 174))) := Lib.hid (bal (below_more H.out.2 D2.out))
    have RO := Lib.hid (own_home_h w2 OK1.out).ra
    clear b2
    go_wp2_with (at_builtin; refine app_home_h (o := ⟨some 28, _, _, _, _, _⟩) rfl (.tmp 16) (.tmp 27) rfl w.heap.size _ (hms X (L.take k)) rfl O2.out _ [⟨(m16 : Int), Y⟩] rfl RO.out (Lib.hid (by have := HLh.out; simp only [List.length_singleton]; omega)) B2.out.size ?_)
    intro v' w' ho hg hx
    have HN : Hid (OwnA homeE w.heap.size w' v' (hms X (L.take (k + 1))) ∧ Below w.heap.size w w') := Lib.hid ⟨by rw [EH.out]; exact ho, below_app_h B2.out B2.out.size O2.out hg⟩
    clear ho hg hx
    go_wp2
    go_roundw
    case rel => exact ⟨k + 1, _, by have := HK.out; omega, by go_num, rfl, HN⟩
    case measure => have := HK.out; simp [intOf]; omega
  · obtain rfl : k = L.length := by omega
    have hO := H.out.1
    rw [List.take_length] at hO
    have O := Lib.hid hO
    clear hO
    go_wp2
    go_ret
    exact ⟨⟨_, rfl, O.out⟩, H.out.2⟩
theorem set_done_h {s : Nv} {i v : Int} (h : s.setE i = 0) : (s.set i v).rg = upd s.rg i.toNat v := by
 unfold Nv.setE at h
 unfold Nv.set
 by_cases hr : s.rdy (hasR i) = 0
 · rw [if_pos hr] at h ⊢
   unfold Nv.told at h
   unfold Nv.by_
   by_cases hg : s.goes = true
   · rw [if_pos hg] at h; cases h
   · rw [if_neg hg]; rfl
 · rw [if_neg hr] at h; exact absurd h hr
theorem setE_three {s : Nv} {i : Int} : s.setE i ≠ 3 := by
 unfold Nv.setE Nv.told Nv.rdy
 intro h
 repeat' split at h
 all_goals first | cases h | omega
theorem tb_far {s : Nv} {i v : Int} {P : Nat} (hi : i < 3 ∨ 19 ≤ i) (hP : P ≤ 16) : (s.set i v).tb P = s.tb P := by
 refine list_ext (by simp [Nv.tb]) fun k hk => ?_
 rw [Nv.tb_length] at hk
 rw [Nv.tb_getD _ hk, Nv.tb_getD _ hk, s.set_rg _ v (by omega)]
theorem left_pos {t : List Int} (h : zeroT t < t.length) : leftT t ≠ 0 := by
 have := leftT_set h (zeroT_at h) (x := 1) (by decide)
 omega
theorem left_no {t : List Int} (h : ¬ zeroT t < t.length) : leftT t = 0 := leftT_zero fun j hj => zeroT_before (by omega)
theorem repl_left {S P : Nat} {a : Int} {d : List Int} : ∀ (n : Nat) (t : List Int) (s : Nv), t = s.tb P → leftT t < n → (repl S a d n t s).1 = 3 → leftT ((repl S a d n t s).2.tb P) = 0
 | 0, _, _, _, h, _ => absurd h (Nat.not_lt_zero _)
 | n + 1, t, s, ht, hl, h3 => by
   rw [repl] at h3 ⊢
   by_cases hz : zeroT t < t.length
   · rw [if_pos hz] at h3 ⊢
     have htl : t.length = P := by rw [ht, Nv.tb_length]
     by_cases h0 : s.putE ((S : Int) + (zeroT t : Int)) = 0
     · rw [if_pos h0] at h3
       exact absurd h3 setE_three
     · rw [if_neg h0] at h3 ⊢
       by_cases h4 : s.putE ((S : Int) + (zeroT t : Int)) = 3
       · rw [if_pos h4] at h3 ⊢
         by_cases hs : (s.put ((S : Int) + (zeroT t : Int)) d).setE (3 + (zeroT t : Int)) = 0
         · rw [if_pos hs] at h3 ⊢
           refine repl_left n _ _ ?_ ?_ h3
           · rw [Nv.tb_set (s := s) (k := zeroT t) (x := (S : Int) + 1) (by omega) (by rw [set_done_h hs, Nv.put_rg, show (3 + (zeroT t : Int)).toNat = 3 + zeroT t by omega]), ← ht]
           · have := leftT_set hz (zeroT_at hz) (x := (S : Int) + 1) (by omega)
             omega
         · rw [if_neg hs] at h3
           exact absurd h3 setE_three
       · rw [if_neg h4] at h3
         exact absurd h3 h4
   · rw [if_neg hz]
     show leftT (s.tb P) = 0
     rw [← ht]
     exact left_no hz
theorem repl_stay {S : Nat} {a : Int} {d : List Int} (n : Nat) (t : List Int) (s : Nv) (ht : leftT t = 0) : (repl S a d n t s).2 = s := by
 cases n with
 | zero => rfl
 | succ n =>
   rw [repl, if_neg fun h => left_pos h ht]
theorem lput_left {S P : Nat} {a : Int} {d : List Int} {s : Nv} (h : (lput S P a d s).1 = 3) : leftT ((lput S P a d s).2.tb P) = 0 := by
 unfold lput at h ⊢
 split at h
 · rename_i ha
   rw [if_pos ha]
   split at h
   · cases h
   · rename_i hd
     rw [if_neg hd]
     split at h
     · rename_i h3
       rw [if_pos h3]
       have := leftT_le (s.tb P)
       rw [Nv.tb_length] at this
       exact repl_left _ _ _ (Nv.tb_congr (Nv.put_rg ..) P).symm (by omega) h
     · rename_i h3
       exact absurd h h3
 · cases h
theorem lput_stay {S P : Nat} {a : Int} {d : List Int} {s : Nv} (h : leftT (s.tb P) = 0) : leftT ((lput S P a d s).2.tb P) = 0 := by
 unfold lput
 split
 · split
   · exact h
   · split
     · rw [repl_stay _ _ _ h, Nv.tb_congr (Nv.put_rg ..) P]; exact h
     · dsimp only
       rw [Nv.tb_congr (Nv.put_rg ..) P]; exact h
 · exact h
theorem tmove_left {n P M : Nat} {s : Nv} (h : (tmove n P M s).1 = 3) : leftT ((tmove n P M s).2.tb P) = 0 := by
 unfold tmove at h ⊢
 split at h
 · exact absurd h setE_three
 · rename_i h0
   rw [if_neg h0]
   exact lput_left h
theorem tmove_stay {n P M : Nat} {s : Nv} (hP : P ≤ 16) (h : leftT (s.tb P) = 0) : leftT ((tmove n P M s).2.tb P) = 0 := by
 unfold tmove
 split
 · dsimp only
   rw [tb_far (.inl (by decide)) hP]; exact lput_stay h
 · exact lput_stay h
theorem tput_left {n P per p M a : Nat} {d : List Int} {s : Nv} (h : (tput n P per p M a d s).1 = 3) : leftT ((tput n P per p M a d s).2.tb P) = 0 := by
 unfold tput at h ⊢
 split at h
 · rename_i hp
   rw [if_pos hp]
   split at h
   · rename_i h0
     rw [if_pos h0]
     exact lput_left h
   · rename_i h0
     rw [if_neg h0]
     exact tmove_left h
 · rename_i hp
   rw [if_neg hp]
   exact lput_left h
theorem tput_stay {n P per p M a : Nat} {d : List Int} {s : Nv} (hP : P ≤ 16) (h : leftT (s.tb P) = 0) : leftT ((tput n P per p M a d s).2.tb P) = 0 := by
 unfold tput
 split
 · split
   · exact lput_stay (tmove_stay hP h)
   · exact tmove_stay hP h
 · exact lput_stay h
theorem tputs_left {n P per : Nat} : ∀ (l : List (Nat × List Int)) (p : Nat) (s : Nv), (tputs n P per p l s).1 = 3 → leftT ((tputs n P per p l s).2.2.tb P) = 0
 | [], _, _, h => by cases h
 | x :: l, p, s, h => by
   rw [tputs] at h ⊢
   split at h
   · rename_i h0
     rw [if_pos h0]
     exact tputs_left l _ _ h
   · rename_i h0
     rw [if_neg h0]
     exact tput_left h
theorem tputs_stay {n P per : Nat} (hP : P ≤ 16) : ∀ (l : List (Nat × List Int)) (p : Nat) (s : Nv), leftT (s.tb P) = 0 → leftT ((tputs n P per p l s).2.2.tb P) = 0
 | [], _, _, h => h
 | x :: l, p, s, h => by
   rw [tputs]
   split
   · exact tputs_stay hP l _ _ (tput_stay hP h)
   · exact tput_stay hP h
theorem lfin_left {n P per p : Nat} {C : List Hm} {s : Nv} (h : (lfin n P per p C s).1 = 0) (hk : lk (lfin n P per p C s).2.2 ≠ 0) : leftT ((lfin n P per p C s).2.2.tb P) = 0 := by
 unfold lfin at h hk ⊢
 by_cases h0 : (tputs n P per p (hmP C) s).1 = 0
 · rw [if_pos h0] at h hk
   refine absurd ?_ hk
   unfold lk
   dsimp only
   rw [set_done_h h]
   rfl
 · rw [if_neg h0] at h hk ⊢
   by_cases h3 : (tputs n P per p (hmP C) s).1 = 3
   · rw [if_pos h3]
     exact tputs_left _ _ _ h3
   · rw [if_neg h3] at h
     exact absurd h h0
theorem lfin_three {n P per p : Nat} {C : List Hm} {s : Nv} : (lfin n P per p C s).1 ≠ 3 := by
 unfold lfin
 split
 · exact setE_three
 · split
   · exact fun h => by cases h
   · assumption
theorem lfin_stay {n P per p : Nat} {C : List Hm} {s : Nv} (hP : P ≤ 16) (h : leftT (s.tb P) = 0) : leftT ((lfin n P per p C s).2.2.tb P) = 0 := by
 have := tputs_stay (n := n) (per := per) hP (hmP C) p s h
 unfold lfin
 split
 · dsimp only
   rw [tb_far (.inl (by decide)) hP]; exact this
 · split <;> exact this
theorem lcom_left {n P per p : Nat} {h : List Hm} {s : Nv} (h0 : (lcom n P per p h s).1 = 0 ∨ (lcom n P per p h s).1 = 3) (hk : (lcom n P per p h s).1 = 3 ∨ lk (lcom n P per p h s).2.2 ≠ 0) : leftT ((lcom n P per p h s).2.2.tb P) = 0 := by
 unfold lcom at h0 hk ⊢
 by_cases c : (tputs n P per p (lgP h) s).1 = 0
 · rw [if_pos c] at h0 hk ⊢
   by_cases e : (tputs n P per p (lgP h) s).2.2.setE ((1 : Nat) : Int) = 0
   · rw [if_pos e] at h0 hk ⊢
     have h1 := h0.resolve_right lfin_three
     exact lfin_left h1 (hk.resolve_left lfin_three)
   · rw [if_neg e] at h0
     rcases h0 with q | q
     · exact absurd q e
     · exact absurd q setE_three
 · rw [if_neg c] at h0 hk ⊢
   exact tputs_left _ _ _ (h0.resolve_left c)
theorem lcom_stay {n P per p : Nat} {h : List Hm} {s : Nv} (hP : P ≤ 16) (hl : leftT (s.tb P) = 0) : leftT ((lcom n P per p h s).2.2.tb P) = 0 := by
 have := tputs_stay (n := n) (per := per) hP (lgP h) p s hl
 unfold lcom
 split
 · split
   · exact lfin_stay hP (by rw [tb_far (.inl (by decide)) hP]; exact this)
   · dsimp only
     rw [tb_far (.inl (by decide)) hP]; exact this
 · exact this
theorem lrec_left {n P per p : Nat} {s : Nv} (h0 : (lrec n P per p s).1 = 0) (hk : lk (lrec n P per p s).2.2 ≠ 0) : leftT ((lrec n P per p s).2.2.tb P) = 0 := by
 unfold lrec at h0 hk ⊢
 by_cases c : lk s = 0
 · rw [if_pos c] at hk
   exact absurd c hk
 · rw [if_neg c] at h0 hk ⊢
   exact lfin_left h0 hk
theorem Hp.note {w w' : World} {a : Ha} {S : Hs} {ct : Ct} (h : Hp w a S) (hc : Chg [a.kg] w w') (hk : Cq w' a.k a.kg ct) : Hp w' a { S with ct := ct } := by
 have f := h.far
 have z := h.hb.zz
 refine ⟨h.hb.chg hc ?_ ?_ ?_ ?_ ?_, hk, f⟩ <;> rw [List.mem_singleton]
 · exact f.2.1
 · exact fun e => f.2.2.2.2.1 e.symm
 · exact fun e => f.2.2.2.2.2.1 e.symm
 · exact fun e => f.2.2.2.2.2.2.1 e.symm
 · exact fun e => f.2.2.2.2.2.2.2 e.symm
theorem Hp.set {w w' : World} {a : Ha} {S : Hs} {s' : Nv} (h : Hp w a S) (hc : Chg [a.g] w w') (hN : Nm w' a.g s') : Hp w' a { S with s := s' } := by
 have f := h.far
 have z := h.hb.zz
 refine ⟨⟨hc.whole h.hb.top (by rw [List.mem_singleton]; exact z.1), h.hb.lg.mem hc hN, z⟩, h.cq.chg hc (by rw [List.mem_singleton]; exact f.2.2.1) (by rw [List.mem_singleton]; exact f.2.2.2.2.1), f⟩
theorem Ct.note_k (ct : Ct) (q : Nat) : (ct.note q).k = if ct.due q = true then at1 ct.k q (ct.c q + 1) else ct.k := by
 unfold Ct.note
 split
 · show at1 ct.k q (at1 ct.c q (ct.c q + 1) q) = _
   simp [at1]
 · rfl
structure Nts (S S' : Hs) (n P M j : Nat) : Prop where
 lg : LgOk S'.s n P
 vw : ∀ b, view S'.s n P b = view S.s n P b
 lk : lk S'.s = lk S.s
 tm : tm S'.s = tm S.s
 la : S'.s.la = S.s.la
 comes : S'.s.comes = S.s.comes
 r2 : S'.s.rg 2 = S.s.rg 2
 p : S'.p = S.p
 wf : S'.wf = S.wf
 c : S'.s.c ≤ S.s.c + j
 rgs : ∀ q, q < 16 → S'.s.rg (19 + q) = S.s.rg (19 + q) ∨ ∃ v : Nat, S'.s.rg (19 + q) = (v : Int) ∧ v ≤ M
 tb : S'.s.tb P = S.s.tb P
theorem Nts.refl {S : Hs} {n P : Nat} (M : Nat) (L : LgOk S.s n P) : Nts S S n P M 0 := ⟨L, fun _ => rfl, rfl, rfl, rfl, rfl, rfl, rfl, rfl, by omega, fun _ _ => .inl rfl, rfl⟩
theorem Nts.ct {S S' : Hs} {n P M j : Nat} (h : Nts S S' n P M j) (ct : Ct) : Nts S { S' with ct := ct } n P M j := ⟨h.lg, h.vw, h.lk, h.tm, h.la, h.comes, h.r2, h.p, h.wf, h.c, h.rgs, h.tb⟩
theorem Nts.more {S S' : Hs} {n P M j i : Nat} (h : Nts S S' n P M j) (hi : j ≤ i) : Nts S S' n P M i := ⟨h.lg, h.vw, h.lk, h.tm, h.la, h.comes, h.r2, h.p, h.wf, by have := h.c; omega, h.rgs, h.tb⟩
theorem Nts.set {S S' : Hs} {n P M j q v : Nat} (h : Nts S S' n P M j) (hq : q < 16) (hv : v ≤ M) : Nts S { S' with s := S'.s.set ((19 + q : Nat) : Int) (v : Int) } n P M (j + 1) := by
 obtain ⟨l1, l2, l3, l4, l5, l6⟩ := h.lg.set (k := 19 + q) (.inr (by omega)) (v : Int)
 refine ⟨l1, fun b => (l4 b).trans (h.vw b), l2.trans h.lk, l3.trans h.tm, (Nv.set_la _ _ _).trans h.la, (Nv.set_comes _ _ _).trans h.comes, (l6 2 (by omega)).trans h.r2, h.p, h.wf, ?_, fun i hi => ?_, (tb_far (.inr (by omega)) h.lg.g.pp).trans h.tb⟩
 · have := S'.s.set_c ((19 + q : Nat) : Int) (v : Int)
   have := h.c
   dsimp only
   omega
 · by_cases e : i = q
   · subst e
     rcases l5 with e | e
     · rw [e]; exact h.rgs i hi
     · exact .inr ⟨v, e, hv⟩
   · show (S'.s.set ((19 + q : Nat) : Int) (v : Int)).rg (19 + i) = _ ∨ _
     rw [l6 (19 + i) (by omega)]; exact h.rgs i hi
def Keeps (s : Nv) (ct : Ct) : Prop := ∀ q, q < ct.n → s.rg (19 + q) = (ct.k q : Int)
theorem pgs_take {L : List Int} {k m : Nat} (h : k < L.length) (hm : L.getD k 0 = (m : Int)) : pgs (L.take (k + 1)) = pgs (L.take k) ++ [m / 4] := by
 rw [take_snoc_h h, hm]; simp [pgs]
def NOut (w w' : World) (a : Ha) (S : Hs) (L : List Int) (n M : Nat) (e : Ending) : Prop :=
 ∃ S', Hp w' a S' ∧ Chg [a.g, a.kg] w w' ∧ Nts S S' n a.P M L.length ∧
  ((e = .returned (.tuple #[]) ∧ S'.s.dark = false ∧ S'.ct = nts S.ct (pgs L) ∧ Keeps S'.s S'.ct) ∨ (Dies e ∧ S.s.comes = true))
theorem hnote_is {w : World} {a : Ha} {S : Hs} {L : List Int} {u : Value} {n M : Nat} (h : Hp w a S) (hnn : a.N ≤ 64) (hu : ∀ w', Chg [a.g, a.kg] w w' → RI w' u L) (hL : LnOk a.N L) (hG : LgOk S.s n a.P) (hd : S.s.dark = false) (hc : S.s.c + 100 < 4611686018427387904)
 (hct : S.ct.Ok) (hcn : S.ct.n = (a.N + 3) / 4) (hK : Keeps S.s S.ct) (hM : ∀ q, q < S.ct.n → S.ct.c q + 14 ≤ M) (hM2 : M < 1099511627776) :
 Calls Tryz.prog 164 #[.pointer (some ⟨a.z, 0, none⟩), u] w fun e w' => NOut w w' a S L n M e := by
 have HU := Lib.hid hu
 have HH := Lib.hid h
 have HI := Lib.hid (fun (k : Nat) (hk : k < L.length) => (show ∃ m : Nat, L.getD k 0 = (m : Int) ∧ m < a.N from by
  have := hL.in_ (L.getD k 0) (by rw [List.getD_eq_getElem?_getD, List.getElem?_eq_getElem hk]; exact List.getElem_mem hk)
  exact ⟨(L.getD k 0).toNat, by omega, by omega⟩))
 have HP := Lib.hid (fun (k : Nat) q (hq : q ∈ pgs (L.take k)) => (show q < S.ct.n from by
  rw [hcn]
  refine pgs_lt hL q ?_
  rw [pgs, List.map_take] at hq
  exact List.mem_of_mem_take hq))
 have HLl : Hid (L.length ≤ 14) := Lib.hid hL.hi
 have HN64 := Lib.hid hnn
 have HG := Lib.hid hG
 have HD := Lib.hid hd
 have HC := Lib.hid hc
 have HCT := Lib.hid hct
 have HCN := Lib.hid hcn
 have HK0 := Lib.hid hK
 have HM := Lib.hid (And.intro hM hM2)
 obtain ⟨pu, cu, rfl, _⟩ := hu w (Chg.refl _ _)
 clear h hu hL hG hd hc hct hcn hK hM hM2 hnn
 go_enter Tryz.func164, Tryz.ntmps164
 go_wp2
 go_loopw [11] (fun i wr => ∃ (k : Nat) (S1 : Hs), k ≤ L.length ∧ i = .int .i64 k ∧ Hid (Hp wr a S1 ∧ Chg [a.g, a.kg] w wr ∧ Nts S S1 n a.P M k ∧ S1.s.dark = false ∧ S1.ct = nts S.ct (pgs (L.take k)) ∧ Keeps S1.s S1.ct)) (fun i _ => L.length - (intOf i).toNat)
 case atStart => exact ⟨0, S, Nat.zero_le _, rfl, Lib.hid ⟨HH.out, Chg.refl _ _, Nts.refl M HG.out, HD.out, rfl, HK0.out⟩⟩
 case round =>
  obtain ⟨k, S1, hk, rfl, H⟩ := hrel
  by_cases hlt : k < L.length
  · obtain ⟨m, hm, hmN⟩ := HI.out k hlt
    obtain ⟨bu, ou, rfl, hbu, hcu⟩ := ri_some (HU.out wr H.out.2.1) (by omega)
    have c1 := hcu k hlt
    rw [hm] at c1
    obtain ⟨H1, H2, H3, H4, H5, H6⟩ := H.out
    have i0 : (0 : Int) ≤ (k : Int) := by omega
    have i1 : (k : Int) < (L.length : Int) := by omega
    have i2 : ¬ (k : Int) < 0 := by omega
    have i3 : IntKind.i64.wrap ((k : Int) + 1) = ((k + 1 : Nat) : Int) := by rw [show (k : Int) + 1 = ((k + 1 : Nat) : Int) by omega]; exact i64_nat _ (by have := HLl.out; omega)
    obtain ⟨q, hq⟩ : ∃ q, m / 4 = q := ⟨_, rfl⟩
    have hpg := pgs_take hlt hm
    rw [hq] at hpg
    have hn1 : S1.ct.n = S.ct.n := by rw [H5, nts_n]
    have hqn : q < S1.ct.n := by rw [hn1]; exact HP.out (k + 1) q (by rw [hpg]; simp)
    have hok1 : S1.ct.Ok := by rw [H5]; exact nts_ok _ HCT.out fun x hx => HP.out k x hx
    have hcq : S1.ct.c q + 1 ≤ M := by
     rw [H5]
     have a1 := nts_le (pgs (L.take k)) S.ct q
     rw [pgs_length, List.length_take] at a1
     have := HM.out.1 q (by rw [← hn1]; exact hqn)
     have := HLl.out
     omega
    have hq16 : q < 16 := by have := HCN.out; have := HN64.out; omega
    have hM2 := HM.out.2
    have C1 := Lib.hid (page_is m (by have := HN64.out; omega) wr)
    rw [hq] at C1
    have C2 := Lib.hid (cnote_yes H1.cq hok1 hqn (by omega))
    have c4 := H1.hb.c7
    have e5 : S1.ct.note q = nts S.ct (pgs (L.take (k + 1))) := by rw [hpg, nts_app, ← H5]; rfl
    have HQ := Lib.hid (And.intro hq16 (And.intro hcq hlt))
    have K1 := S1.ct.note_k q
    obtain ⟨du, hdu⟩ : ∃ du, S1.ct.due q = du := ⟨_, rfl⟩
    rw [hdu] at C2 K1
    have hct2 : ∀ w2, Cq w2 a.k a.kg (S1.ct.note q) → Chg [a.kg] wr w2 → Hp w2 a { S1 with ct := S1.ct.note q } ∧ Chg [a.g, a.kg] w w2 := fun w2 hq2 hc2 => ⟨H1.note hc2 hq2, H2.trans (hc2.mono fun x hx => by rw [List.mem_singleton.1 hx]; simp)⟩
    have HCT2 := Lib.hid hct2
    cases du with
    | false =>
      rw [if_neg (by decide)] at K1
      have HF : Hid (∀ w2, Cq w2 a.k a.kg (S1.ct.note q) → Chg [a.kg] wr w2 → ∃ S2, Hp w2 a S2 ∧ Chg [a.g, a.kg] w w2 ∧ Nts S S2 n a.P M (k + 1) ∧ S2.s.dark = false ∧ S2.ct = nts S.ct (pgs (L.take (k + 1))) ∧ Keeps S2.s S2.ct) := Lib.hid fun w2 q1 q2 => by
       obtain ⟨g1, g2⟩ := HCT2.out w2 q1 q2
       refine ⟨_, g1, g2, (H3.ct _).more (by omega), H4, e5, fun i hi => ?_⟩
       show S1.s.rg (19 + i) = ((S1.ct.note q).k i : Int)
       rw [K1]
       exact H6 i (by rw [Ct.note_n] at hi; exact hi)
      clear hct2 HCT2 K1 hdu e5 hcq hok1 hqn hn1 hpg H1 H2 H3 H4 H5 H6 hm hmN hcu hbu hk hlt hq16 hM2 hq
      generalize a.z = z at *
      generalize a.k = kk at *
      generalize S1.ct.c q + 1 = cv at *
      generalize S1.ct.note q = ctn at *
      go_wp2_with fail
      refine (C1.out).mono ?_; rintro e w1 ⟨rfl, rfl⟩
      go_wp2_with fail
      refine (C2.out).mono ?_; rintro e w2 ⟨rfl, q1, q2⟩
      obtain ⟨S2, HS2⟩ := HF.out w2 q1 q2
      have HS2 := Lib.hid HS2
      clear q1 q2
      go_wp2
      go_roundw
      case rel => exact ⟨k + 1, S2, by have := HQ.out; omega, by go_num, HS2⟩
      case measure => have := HQ.out; simp [intOf]; omega
    | true =>
      rw [if_pos rfl] at K1
      have hset := fun w2 (q1 : Cq w2 a.k a.kg (S1.ct.note q)) (q2 : Chg [a.kg] wr w2) => set_any a.g S1.s ((19 + q : Nat) : Int) ((S1.ct.c q + 1 : Nat) : Int) w2 (HCT2.out w2 q1 q2).1.hb.lg.nm H3.lg.g.ok (by have := H3.c; have := HC.out; have := HLl.out; omega)
      have hN2 := H3.set (q := q) (v := S1.ct.c q + 1) hq16 hcq
      have c0 := fun w2 (q1 : Cq w2 a.k a.kg (S1.ct.note q)) (q2 : Chg [a.kg] wr w2) => (HCT2.out w2 q1 q2).1.hb.c0
      have i5 : IntKind.i64.wrap (19 + (q : Int)) = ((19 + q : Nat) : Int) := by rw [show 19 + (q : Int) = ((19 + q : Nat) : Int) by omega]; exact i64_nat _ (by omega)
      have i6 : IntKind.u64.wrap ((S1.ct.c q + 1 : Nat) : Int) = ((S1.ct.c q + 1 : Nat) : Int) := u64_same (by omega) (by omega)
      have HS1 := Lib.hid hset
      have HC0 := Lib.hid c0
      rcases Nv.set_ok (s := S1.s) (k := 19 + q) (by omega) H4 ((S1.ct.c q + 1 : Nat) : Int) with ⟨e0, r0, d0⟩ | ⟨e2, co⟩
      · have HF : Hid (∀ w2 w3, Cq w2 a.k a.kg (S1.ct.note q) → Chg [a.kg] wr w2 → Nm w3 a.g (S1.s.set ((19 + q : Nat) : Int) ((S1.ct.c q + 1 : Nat) : Int)) → Chg [a.g] w2 w3 → ∃ S2, Hp w3 a S2 ∧ Chg [a.g, a.kg] w w3 ∧ Nts S S2 n a.P M (k + 1) ∧ S2.s.dark = false ∧ S2.ct = nts S.ct (pgs (L.take (k + 1))) ∧ Keeps S2.s S2.ct) := Lib.hid fun w2 w3 q1 q2 q3 q4 => by
         obtain ⟨g1, g2⟩ := HCT2.out w2 q1 q2
         refine ⟨_, g1.set q4 q3, g2.trans (q4.mono fun x hx => by rw [List.mem_singleton.1 hx]; simp), hN2.ct _, d0, e5, fun i hi => ?_⟩
         show (S1.s.set ((19 + q : Nat) : Int) ((S1.ct.c q + 1 : Nat) : Int)).rg (19 + i) = ((S1.ct.note q).k i : Int)
         rw [K1]
         have hi' : i < S1.ct.n := by rw [← Ct.note_n S1.ct q]; exact hi
         by_cases e : i = q
         · subst e; rw [r0]; simp [at1]
         · have l6 := (H3.lg.set (k := 19 + q) (.inr (by omega)) ((S1.ct.c q + 1 : Nat) : Int)).2.2.2.2.2
           rw [l6 (19 + i) (by omega), at1, if_neg e]
           exact H6 i hi'
        rw [e0] at HS1
        have CK := Lib.hid (fun w => hchk_ok 0 (by decide) w)
        clear hct2 HCT2 K1 hdu e5 hcq hok1 hqn hn1 hpg H1 H2 H3 H4 H5 H6 hm hmN hcu hbu hk hlt hq16 hM2 hq hset c0 e0 r0 d0 hN2
        generalize S1.s.set ((19 + q : Nat) : Int) ((S1.ct.c q + 1 : Nat) : Int) = s2 at *
        generalize a.z = z at *
        generalize a.k = kk at *
        generalize a.g = g at *
        generalize S1.ct.c q + 1 = cv at *
        generalize S1.ct.note q = ctn at *
        generalize 19 + q = q19 at *
        go_wp2_with fail
        refine (C1.out).mono ?_; rintro e w1 ⟨rfl, rfl⟩
        go_wp2_with fail
        refine (C2.out).mono ?_; rintro e w2 ⟨rfl, q1, q2⟩
        have cc := HC0.out w2 q1 q2
        have CS := Lib.hid (HS1.out w2 q1 q2)
        have HF2 := Lib.hid (HF.out w2 · q1 q2)
        clear q1 q2
        go_wp2_with fail
        refine (CS.out).mono ?_; rintro e w3 ⟨rfl, q3, q4⟩
        obtain ⟨S2, HS2⟩ := HF2.out w3 q3 q4
        have HS2 := Lib.hid HS2
        clear q3 q4 cc
        go_wp2_with fail
        refine (CK.out _).mono ?_; rintro e w4 ⟨rfl, rfl⟩
        go_wp2
        go_roundw
        case rel => exact ⟨k + 1, S2, by have := HQ.out; omega, by go_num, HS2⟩
        case measure => have := HQ.out; simp [intOf]; omega
      · have HF : Hid (∀ w2 w3 e, Cq w2 a.k a.kg (S1.ct.note q) → Chg [a.kg] wr w2 → Nm w3 a.g (S1.s.set ((19 + q : Nat) : Int) ((S1.ct.c q + 1 : Nat) : Int)) → Chg [a.g] w2 w3 → Dies e → NOut w w3 a S L n M e) := Lib.hid fun w2 w3 e q1 q2 q3 q4 q5 => by
         obtain ⟨g1, g2⟩ := HCT2.out w2 q1 q2
         exact ⟨_, g1.set q4 q3, g2.trans (q4.mono fun x hx => by rw [List.mem_singleton.1 hx]; simp), (hN2.ct _).more (by omega), .inr ⟨q5, H3.comes ▸ co⟩⟩
        rw [e2] at HS1
        have CK := Lib.hid (fun w => hchk_dies w)
        clear hct2 HCT2 K1 hdu e5 hcq hok1 hqn hn1 hpg H1 H2 H3 H4 H5 H6 hm hmN hcu hbu hk hlt hq16 hM2 hq hset c0 e2 co hN2
        generalize S1.s.set ((19 + q : Nat) : Int) ((S1.ct.c q + 1 : Nat) : Int) = s2 at *
        generalize a.z = z at *
        generalize a.k = kk at *
        generalize a.g = g at *
        generalize S1.ct.c q + 1 = cv at *
        generalize S1.ct.note q = ctn at *
        generalize 19 + q = q19 at *
        go_wp2_with fail
        refine (C1.out).mono ?_; rintro e w1 ⟨rfl, rfl⟩
        go_wp2_with fail
        refine (C2.out).mono ?_; rintro e w2 ⟨rfl, q1, q2⟩
        have cc := HC0.out w2 q1 q2
        have CS := Lib.hid (HS1.out w2 q1 q2)
        have HF2 := Lib.hid (fun w3 e => HF.out w2 w3 e q1 q2)
        clear q1 q2
        go_wp2_with fail
        refine (CS.out).mono ?_; rintro e w3 ⟨rfl, q3, q4⟩
        have HF3 := Lib.hid (fun e => HF2.out w3 e q3 q4)
        clear q3 q4 cc
        go_wp2_with fail
        refine (CK.out _).mono ?_; rintro e w4 ⟨⟨u, pv, rfl⟩, rfl⟩
        go_wp2
        exact ⟨rfl, HF3.out _ ⟨_, _, rfl⟩⟩
  · obtain rfl : k = L.length := by omega
    obtain ⟨H1, H2, H3, H4, H5, H6⟩ := H.out
    rw [List.take_length] at H5
    have HO : Hid (NOut w wr a S L n M (.returned (.tuple #[]))) := Lib.hid ⟨S1, H1, H2, H3, .inl ⟨rfl, H4, H5, H6⟩⟩
    clear H H1 H2 H3 H4 H5 H6
    go_wp2
    go_end0
    exact HO.out
structure HC (s : Nv) (N P K : Nat) (X : List Int) (r : Nat) : Prop where
 lg : LgOk s (16 + N) P
 has : Has s N P X
 ok : WordsOk X
 snd : soundB X r = true
 rt : s.rg 2 = (r : Int)
 rlt : r ≤ 5000
 rgs : ∀ q, q < 16 → ∃ v : Nat, s.rg (19 + q) = (v : Int) ∧ v ≤ 14 * K
 m : tm s ≤ 40 * K
 c : s.c ≤ 4000 * K
 K : K ≤ 1000
structure HI (a : Ha) (S : Hs) (K : Nat) (X : List Int) (r : Nat) : Prop where
 hc : HC S.s a.N a.P K X r
 live : S.s.dark = false
 num : HNum a
 ct : S.ct.Ok
 cn : S.ct.n = (a.N + 3) / 4
 cb : S.ct.b = a.b
 kp : Keeps S.s S.ct
 cm : ∀ q, q < S.ct.n → S.ct.c q ≤ 14 * K
 p : S.p ≤ 40 * K
 wl : S.wf = true ∨ lk S.s ≠ 0 → leftT (S.s.tb a.P) = 0
theorem HI.room {a : Ha} {S : Hs} {K : Nat} {X : List Int} {r : Nat} (h : HI a S K X r) : Room (16 + a.N) a.P a.per S.p S.s := by
 have := h.num.N
 have := h.num.P
 have := h.num.per
 have := h.hc.m
 have := h.hc.c
 have := h.hc.K
 have := h.p
 exact ⟨by omega, by omega, by omega, by omega, by omega, by omega⟩
theorem HI.len {a : Ha} {S : Hs} {K : Nat} {X : List Int} {r : Nat} (h : HI a S K X r) : X.length = 8 * a.N ∧ X.length ≤ 512 := by
 have := h.num.N
 have := h.hc.has.len
 exact ⟨this, by omega⟩
def lnsF (E : List Ed) : List Int := Lib.compact ((lnR E).mergeSort fun x y => decide (x ≤ y))
theorem lnsF_is (E : List Ed) : IsL E (lnsF E) := (lines_are E).1
def COut (w w' : World) (a : Ha) (S : Hs) (K : Nat) (X : List Int) (r : Nat) (X' L : List Int) (e : Ending) : Prop :=
 ∃ S', Hp w' a S' ∧ Chg a.D w w' ∧ S'.s.la = S.s.la ∧ S'.s.comes = S.s.comes ∧ S'.s.n = S.s.n ∧
  ((e = .returned (.int .i64 0) ∧ HI a S' (K + 1) X' r ∧ S'.ct = nts S.ct (pgs L) ∧ S'.wf = S.wf ∧ (Free S.s → Free S'.s ∧ lk S'.s = 0)) ∨
   (e = .returned (.int .i64 3) ∧ HI a S' (K + 1) X r ∧ S'.ct = S.ct ∧ S'.wf = true ∧ ¬ Free S.s) ∨
   ((e = .returned (.int .i64 2) ∨ Dies e) ∧ S.s.comes = true ∧ (HC S'.s a.N a.P (K + 1) X r ∨ HC S'.s a.N a.P (K + 1) X' r)))
theorem rgs_more {s s' : Nv} {K : Nat} (h : ∀ q, q < 16 → ∃ v : Nat, s.rg (19 + q) = (v : Int) ∧ v ≤ 14 * K) (he : ∀ q, q < 16 → s'.rg (19 + q) = s.rg (19 + q) ∨ ∃ v : Nat, s'.rg (19 + q) = (v : Int) ∧ v ≤ 14 * (K + 1)) : ∀ q, q < 16 → ∃ v : Nat, s'.rg (19 + q) = (v : Int) ∧ v ≤ 14 * (K + 1) := fun q hq => by
 rcases he q hq with e | e
 · obtain ⟨v, e1, e2⟩ := h q hq
   exact ⟨v, e.trans e1, by omega⟩
 · exact e
structure CMid (a : Ha) (S : Hs) (K : Nat) (X : List Int) (r : Nat) (X' L : List Int) (R : Int × Nat × Nv) : Prop where
 lg : LgOk R.2.2 (16 + a.N) a.P
 la : R.2.2.la = S.s.la
 comes : R.2.2.comes = S.s.comes
 n : R.2.2.n = S.s.n
 r2 : R.2.2.rg 2 = S.s.rg 2
 rgs : ∀ q, q < 16 → R.2.2.rg (19 + q) = S.s.rg (19 + q)
 m : tm R.2.2 ≤ tm S.s + 32
 c : R.2.2.c ≤ S.s.c + 2624
 p : R.2.1 ≤ S.p + 30
 own : (R.1 = 0 ∧ R.2.2.dark = false ∧ Has R.2.2 a.N a.P X' ∧ (Free S.s → Free R.2.2 ∧ lk R.2.2 = 0)) ∨ (R.1 = 3 ∧ R.2.2.dark = false ∧ Has R.2.2 a.N a.P X ∧ ¬ Free S.s) ∨ (R.1 = 2 ∧ S.s.comes = true ∧ (Has R.2.2 a.N a.P X ∨ Has R.2.2 a.N a.P X'))
 wl : (R.1 = 3 ∨ (R.1 = 0 ∧ lk R.2.2 ≠ 0) ∨ leftT (S.s.tb a.P) = 0) → leftT (R.2.2.tb a.P) = 0
theorem cmid {a : Ha} {S : Hs} {K : Nat} {X : List Int} {r : Nat} {E : List Ed} (h : HI a S K X r) (hk : lk S.s = 0) (hE : EdFit a.N E) : CMid a S K X r (appF X E) (lnsF E) (lcom (16 + a.N) a.P a.per S.p (hms (appF X E) (lnsF E)) S.s) := by
 have hL := hE.lines (lnsF_is E)
 have hXl := h.len.1
 have hX' : (appF X E).length = 8 * a.N := (appF_length ..).trans hXl
 have hM := hL.may (appF X E)
 have hw := hL.wide hX'
 have hR := h.room
 have hP := h.num.P
 obtain ⟨o1, o2, o3⟩ := lcom_out a.per S.p h.hc.lg h.live hk hM hw hR.m
 have hg := fun F => lcom_go a.per S.p h.hc.lg hM hw F hR.m
 have hr := fun q => lcom_rgh (16 + a.N) a.P a.per S.p (hms (appF X E) (lnsF E)) S.s (k := 19 + q) (by omega) hP
 have hwl : ((lcom (16 + a.N) a.P a.per S.p (hms (appF X E) (lnsF E)) S.s).1 = 3 ∨ ((lcom (16 + a.N) a.P a.per S.p (hms (appF X E) (lnsF E)) S.s).1 = 0 ∧ lk (lcom (16 + a.N) a.P a.per S.p (hms (appF X E) (lnsF E)) S.s).2.2 ≠ 0) ∨ leftT (S.s.tb a.P) = 0) → leftT ((lcom (16 + a.N) a.P a.per S.p (hms (appF X E) (lnsF E)) S.s).2.2.tb a.P) = 0 := fun q => by
  rcases q with q | ⟨q1, q2⟩ | q
  · exact lcom_left (.inr q) (.inl q)
  · exact lcom_left (.inl q1) (.inr q2)
  · exact lcom_stay hP q
 generalize lcom (16 + a.N) a.P a.per S.p (hms (appF X E) (lnsF E)) S.s = R at *
 have hsame : ∀ i, i < a.N → (i : Int) ∉ lnsF E → lnO (appF X E) i = lnO X i := fun i hi hn => appF_line hXl (lnsF_is E) hi hn
 have hn : R.2.2.n = S.s.n := o1.lg.g.nn.trans h.hc.lg.g.nn.symm
 refine ⟨o1.lg, o1.la, o1.comes, hn, o1.r2, fun q _ => hr q, o1.hi, by have := o1.c; omega, o2, ?_, hwl⟩
 rcases o3 with ⟨e, d, v⟩ | ⟨e, d, _, v⟩ | ⟨e, d, v | v⟩
 · exact .inl ⟨e, d, has_com h.hc.has hX' hL hsame v, fun F => (hg F).2⟩
 · exact .inr (.inl ⟨e, d, h.hc.has.same v, fun F => by have := (hg F).1; omega⟩)
 · exact .inr (.inr ⟨e, d, .inl (h.hc.has.same v)⟩)
 · exact .inr (.inr ⟨e, d, .inr (has_com h.hc.has hX' hL hsame v)⟩)
theorem Hp.com {w w' : World} {a : Ha} {S : Hs} {p' : Nat} {s' : Nv} (h : Hp w a S) (hc : Chg [a.g, a.y] w w') (hL : Lg w' a.x a.g a.y a.q (16 + a.N) a.P a.per p' s') : Hp w' a { S with s := s', p := p' } := by
 have f := h.far
 have z := h.hb.zz
 exact ⟨⟨hc.whole h.hb.top (by simp; exact ⟨z.1, z.2.1⟩), hL, z⟩, h.cq.chg hc (by simp; exact ⟨f.2.2.1, f.2.2.2.1⟩) (by simp; exact ⟨f.2.2.2.2.1, f.2.2.2.2.2.1⟩), f⟩
theorem Hp.wear {w : World} {a : Ha} {S : Hs} (h : Hp w a S) : Hp (w.setCell ⟨a.z, 8, none⟩ (.bool true)) a { S with wf := true } ∧ Chg [a.z] w (w.setCell ⟨a.z, 8, none⟩ (.bool true)) := by
 have f := h.far
 have z := h.hb.zz
 have hc : Chg [a.z] w (w.setCell ⟨a.z, 8, none⟩ (.bool true)) := (Chg.refl [a.z] w).setCell (p := ⟨a.z, 8, none⟩) (.inl (List.mem_singleton.2 rfl)) _
 have hs := h.hb.top.set_ 8 (.bool true)
 refine ⟨⟨⟨?_, h.hb.lg.chg hc (by simpa using fun e => z.2.2.2 e.symm) (by simpa using fun e => z.1 e.symm) (by simpa using fun e => z.2.1 e.symm) (by simpa using fun e => z.2.2.1 e.symm), z⟩, h.cq.chg hc (by simpa using fun e => f.1 e.symm) (by simpa using fun e => f.2.1 e.symm), f⟩, hc⟩
 simpa [htop] using hs
theorem cout_down {w w3 : World} {a : Ha} {S : Hs} {K : Nat} {X : List Int} {r : Nat} {X' L : List Int} {R : Int × Nat × Nv} (h : HI a S K X r) (hK : K < 1000) (M : CMid a S K X r X' L R) (hok : WordsOk X') (hs : soundB X' r = true)
 (hp : Hp w3 a { S with s := R.2.2, p := R.2.1 }) (hc : Chg a.D w w3) (h2 : R.1 = 2) : COut w w3 a S K X r X' L (.returned (.int .i64 2)) := by
 have hm := M.m
 have hcc := M.c
 have h3 := h.hc.m
 have h4 := h.hc.c
 refine ⟨_, hp, hc, M.la, M.comes, M.n, .inr (.inr ⟨.inl rfl, ?_⟩)⟩
 rcases M.own with ⟨e, _⟩ | ⟨e, _⟩ | ⟨_, co, v⟩
 · omega
 · omega
 · refine ⟨co, ?_⟩
   have rg := rgs_more h.hc.rgs (s' := R.2.2) fun q hq => .inl (M.rgs q hq)
   rcases v with v | v
   · exact .inl ⟨M.lg, v, h.hc.ok, h.hc.snd, M.r2.trans h.hc.rt, h.hc.rlt, rg, by dsimp only; omega, by dsimp only; omega, by omega⟩
   · exact .inr ⟨M.lg, v, hok, hs, M.r2.trans h.hc.rt, h.hc.rlt, rg, by dsimp only; omega, by dsimp only; omega, by omega⟩
theorem cout_worn {w w3 : World} {a : Ha} {S : Hs} {K : Nat} {X : List Int} {r : Nat} {X' L : List Int} {R : Int × Nat × Nv} (h : HI a S K X r) (hK : K < 1000) (M : CMid a S K X r X' L R)
 (hp : Hp w3 a { S with s := R.2.2, p := R.2.1 }) (hc : Chg a.D w w3) (h3 : R.1 = 3) : COut w (w3.setCell ⟨a.z, 8, none⟩ (.bool true)) a S K X r X' L (.returned (.int .i64 3)) := by
 have hm := M.m
 have hcc := M.c
 have hpp := M.p
 have h5 := h.hc.m
 have h4 := h.hc.c
 have h6 := h.p
 obtain ⟨g1, g2⟩ := hp.wear
 refine ⟨_, g1, hc.trans (g2.mono fun x hx => by rw [List.mem_singleton.1 hx]; simp [Ha.D]), M.la, M.comes, M.n, .inr (.inl ⟨rfl, ?_⟩)⟩
 rcases M.own with ⟨e, _⟩ | ⟨_, d, v, nf⟩ | ⟨e, _⟩
 · omega
 · have rg := rgs_more h.hc.rgs (s' := R.2.2) fun q hq => .inl (M.rgs q hq)
   refine ⟨⟨⟨M.lg, v, h.hc.ok, h.hc.snd, M.r2.trans h.hc.rt, h.hc.rlt, rg, by dsimp only; omega, by dsimp only; omega, by omega⟩, d, h.num, h.ct, h.cn, h.cb, fun q (hq : q < S.ct.n) => ?_, fun q (hq : q < S.ct.n) => (by have := h.cm q hq; omega : S.ct.c q ≤ 14 * (K + 1)), by dsimp only; omega, fun _ => M.wl (.inl h3)⟩, rfl, rfl, nf⟩
   have := h.kp q hq
   have hq16 : q < 16 := by have := h.num.N; have := h.cn; omega
   exact (M.rgs q hq16).trans this
 · omega
theorem cout_note {w w3 w4 : World} {a : Ha} {S : Hs} {K : Nat} {X : List Int} {r : Nat} {X' L : List Int} {R : Int × Nat × Nv} {e : Ending} (h : HI a S K X r) (hK : K < 1000) (M : CMid a S K X r X' L R) (hok : WordsOk X') (hs : soundB X' r = true) (hL : LnOk a.N L)
 (hc : Chg a.D w w3) (h0 : R.1 = 0) (hN : NOut w3 w4 a { S with s := R.2.2, p := R.2.1 } L (16 + a.N) (14 * (K + 1)) e) :
 (e = .returned (.tuple #[]) ∧ COut w w4 a S K X r X' L (.returned (.int .i64 0))) ∨ (Dies e ∧ COut w w4 a S K X r X' L e) := by
 obtain ⟨S', g1, g2, g3, g4⟩ := hN
 have hm := M.m
 have hcc := M.c
 have hpp := M.p
 have h5 := h.hc.m
 have h4 := h.hc.c
 have h6 := h.p
 have hl14 := hL.hi
 have hc3 := g3.c
 have htm := g3.tm
 have hp3 := g3.p
 dsimp only at hc3 htm hp3
 have hD : Chg a.D w w4 := hc.trans (g2.mono fun x hx => by simp at hx; rcases hx with rfl | rfl <;> simp [Ha.D])
 have rg : ∀ q, q < 16 → ∃ v : Nat, S'.s.rg (19 + q) = (v : Int) ∧ v ≤ 14 * (K + 1) := rgs_more h.hc.rgs fun q hq => by
  rcases g3.rgs q hq with e | e
  · exact .inl (e.trans (M.rgs q hq))
  · exact .inr e
 have hn' : S'.s.n = S.s.n := g3.lg.g.nn.trans h.hc.lg.g.nn.symm
 rcases M.own with ⟨_, d, v, fr⟩ | ⟨e3, _⟩ | ⟨e2, _⟩
 · have hHC : HC S'.s a.N a.P (K + 1) X' r := ⟨g3.lg, v.same fun b _ _ => g3.vw b, hok, hs, g3.r2.trans (M.r2.trans h.hc.rt), h.hc.rlt, rg, by omega, by omega, by omega⟩
   rcases g4 with ⟨rfl, d', c', k'⟩ | ⟨hd, co⟩
   · refine .inl ⟨rfl, S', g1, hD, g3.la.trans M.la, g3.comes.trans M.comes, hn', .inl ⟨rfl, ⟨hHC, d', h.num, ?_, ?_, ?_, k', fun q hq => ?_, by omega, fun q => ?_⟩, c', g3.wf, fun F => ?_⟩⟩
     · rw [c']; exact nts_ok _ h.ct fun q hq => by rw [h.cn]; exact pgs_lt hL q hq
     · rw [c', nts_n]; exact h.cn
     · rw [c', nts_b]; exact h.cb
     · rw [c', nts_n] at hq
       have := h.cm q hq
       have := nts_le (pgs L) S.ct q
       rw [pgs_length] at this
       rw [c']
       dsimp only
       omega
     · rw [show S'.s.tb a.P = R.2.2.tb a.P from g3.tb]
       rcases q with q | q
       · exact M.wl (.inr (.inr (h.wl (.inl (g3.wf.symm.trans q)))))
       · exact M.wl (.inr (.inl ⟨h0, fun k => q (g3.lk.trans k)⟩))
     · obtain ⟨F1, F2⟩ := fr F
       refine ⟨F1.of ⟨d', g3.comes.trans F1.calm.2⟩ g3.la (hn'.trans M.n.symm), g3.lk.trans F2⟩
   · exact .inr ⟨hd, S', g1, hD, g3.la.trans M.la, g3.comes.trans M.comes, hn', .inr (.inr ⟨.inr hd, M.comes ▸ co, .inr hHC⟩)⟩
 · omega
 · omega
theorem own_chg_h {B : Nat} {D : List Nat} {w w' : World} {v : Value} {l : List Int} (h : OwnI B w v l) (hc : Chg D w w') (hD : ∀ k ∈ D, k < B) : OwnI B w' v l := by
 refine ⟨h.1, h.2.imp id ?_⟩
 rintro ⟨g, cap, cur, hv, h1, hg, r⟩
 exact ⟨g, cap, cur, hv, h1, (hc.block g (Array.getElem?_eq_some_iff.1 hg).1 (fun hm => by have := hD g hm; omega)).trans hg, r⟩
theorem hcommit_is {w : World} {a : Ha} {S : Hs} {K : Nat} {X : List Int} {r : Nat} {E : List Ed} {v u : Value} (hp : Hp w a S) (h : HI a S K X r) (hK : K < 1000) (hk : lk S.s = 0) (hv : RU w v X) (hu : RA edE w u E) (hE : EdFit a.N E) (hEl : E.length ≤ 4000) (hok : WordsOk (appF X E)) (hs : soundB (appF X E) r = true) :
 Calls Tryz.prog 141 #[.pointer (some ⟨a.z, 0, none⟩), v, u] w fun e w' => COut w w' a S K X r (appF X E) (lnsF E) e := by
 have hL := hE.lines (lnsF_is E)
 have C1 := Lib.hid (lines_is E u w hu hEl)
 have HM := Lib.hid (cmid h hk hE)
 have HL := Lib.hid hL
 have HH := Lib.hid hp
 have HI' := Lib.hid h
 have HV := Lib.hid (fun (w' : World) (hb : Below w.heap.size w w') => ru_below hv hb)
 have HU := Lib.hid (fun (w' : World) (hb : Below w.heap.size w w') => ra_below hu hb)
 have HXl := Lib.hid h.len
 have HX' : Hid ((appF X E).length = 8 * a.N) := Lib.hid ((appF_length ..).trans h.len.1)
 have HOK := Lib.hid (And.intro hok hs)
 have HK := Lib.hid hK
 have HK0 := Lib.hid hk
 have HEl := Lib.hid hEl
 have HWd := Lib.hid (hL.wide HX'.out)
 have HMay := Lib.hid (hL.may (appF X E))
 obtain ⟨pv, cv, rfl, _⟩ := hv
 obtain ⟨pu, cu, rfl, _⟩ := ra_shape hu
 have C1' : Hid (Calls Tryz.prog 160 #[.slice pu E.length cu] w fun e w' => (∃ x, e = .returned x ∧ OwnI w.heap.size w' x (lnsF E)) ∧ Below w.heap.size w w') := C1
 clear hu hE hEl hok hs hK hk h hp hL C1
 generalize hX' : appF X E = X' at *
 generalize hLn : lnsF E = L at *
 generalize hR : lcom (16 + a.N) a.P a.per S.p (hms X' L) S.s = R at *
 go_enter Tryz.func141, Tryz.ntmps141
 go_wp2_with fail
 refine (C1'.out).mono ?_; rintro e W ⟨⟨lv, rfl, ol⟩, b1⟩
 have OL := Lib.hid ol
 have B1 := Lib.hid b1
 obtain ⟨ql, cl, rfl⟩ : ∃ q c, lv = .slice q L.length c := by
  obtain ⟨q, c, e, _⟩ := ol.ri
  exact ⟨q, c, e⟩
 clear ol b1
 have H1 := Lib.hid (HH.out.below B1.out)
 have hbd : Below W.heap.size W W.drew := (Below.refl _ _).drew
 have PA := Lib.hid (apply_is X E (.slice pv X.length cv) (.slice pu E.length cu) W.drew (ru_below (HV.out W B1.out) hbd) (ra_below (HU.out W B1.out) hbd) (by have := HXl.out; omega) HEl.out)
 rw [hX'] at PA
 have hzD : Hid (a.z ∉ [a.g, a.y]) := Lib.hid (by have := HH.out.hb.zz; simp; exact ⟨this.1, this.2.1⟩)
 have c6 : ∀ w', Chg [a.g, a.y] W w' → w'.cell? ⟨a.z, 6, none⟩ = some (.pointer (some ⟨a.x, 0, none⟩)) := fun w' hc => by
  rw [Whole.at_ (hc.whole H1.out.hb.top hzD.out)]; rfl
 have HHm := Lib.hid (fun (w' : World) (hb : Below W.heap.size W w') (x : Value) (hx : RU w' x X') => hhomes_is (u := .slice ql L.length cl) (H1.out.hb.below hb) HI'.out.num hx HX'.out (ri_below OL.out.ri hb) HL.out)
 have HCm := Lib.hid (fun (w' : World) (hb : Below W.heap.size W w') (x : Value) (hx : ∀ w2, Chg [a.g, a.y] w' w2 → RA homeE w2 x (hms X' L)) => cmt_is hR (H1.out.hb.lg.below hb) HI'.out.hc.lg HI'.out.live HI'.out.room HK0.out hx HMay.out)
 have HGY : Hid (a.g < W.heap.size ∧ a.y < W.heap.size) := Lib.hid ⟨H1.out.hb.lg.nm.lt, Whole.lt H1.out.hb.lg.tq⟩
 go_wp2
 go_region_held3 (fun w' => Chg [a.g, a.y] W w')
  (first | assumption | exact (Chg.refl _ _).drew)
  (first
    | (go_at_call 163; refine (PA.out).mono ?_; rintro e wz ⟨⟨xv, rfl, ox⟩, hbz⟩
       have OX := Lib.hid ox
       obtain ⟨qx, cx, rfl⟩ := ox.shape
       have BZ := Lib.hid (hbd.trans hbz)
       have CZ := Lib.hid (Chg.of_below (hbd.trans hbz) [a.g, a.y])
       clear hbz ox)
    | (go_at_call 162; refine (HHm.out _ BZ.out _ OX.out.ru).mono ?_; rintro e wy ⟨⟨hv, rfl, oh⟩, hby⟩
       obtain ⟨qh, ch, rfl, _⟩ := oh.shape
       have BY := Lib.hid (below_more BZ.out hby)
       have CY := Lib.hid (Chg.of_below (below_more BZ.out hby) [a.g, a.y])
       have OH : Hid (∀ w2, Chg [a.g, a.y] wy w2 → RA homeE w2 (.slice qh (hms X' L).length ch) (hms X' L)) := Lib.hid (fun w2 hc => (oh.chg hc (fun g hg => (by have := (oh.lt g hg).1; have := HGY.out; have := BZ.out.size; simp; omega))).ra)
       clear hby oh)
    | (go_at_call 161; refine (HCm.out _ BY.out _ OH.out).mono ?_; rintro e wx ⟨rfl, hLx, hCx⟩
       have LX := Lib.hid hLx
       have CX := Lib.hid (CY.out.trans hCx)
       clear hLx hCx))
 have HP3 := Lib.hid (H1.out.com CX.out LX.out)
 have HCC : Hid (Chg a.D w wx) := Lib.hid ((Chg.of_below B1.out a.D).trans (CX.out.mono fun x hx => by simp at hx; rcases hx with rfl | rfl <;> simp [Ha.D]))
 have HOL : Hid (∀ w', Chg [a.g, a.kg] wx w' → RI w' (.slice ql L.length cl) L) := Lib.hid fun w' hc => by
  have n1 := HH.out.hb.lg.nm.lt
  have n2 := Whole.lt HH.out.hb.lg.tq
  have n3 := HH.out.cq.ltg
  have o1 := own_chg_h OL.out CX.out fun k hk => by simp at hk; rcases hk with rfl | rfl <;> assumption
  exact (own_chg_h o1 hc fun k hk => by simp at hk; rcases hk with rfl | rfl <;> assumption).ri
 clear c6 PA HHm HCm HGY OL LX CX OH BY CY OX BZ CZ
 have H01 := Lib.hid HM.out.own
 rcases H01.out with ⟨h0, hd0, _⟩ | ⟨h3, _⟩ | ⟨h2, _⟩
 · have HN := Lib.hid (hnote_is (u := .slice ql L.length cl) (M := 14 * (K + 1)) HP3.out HI'.out.num.N.2 HOL.out HL.out HM.out.lg hd0 (by have := HM.out.c; have := HI'.out.hc.c; have := HI'.out.hc.K; dsimp only; omega) HI'.out.ct HI'.out.cn (fun q hq => by
    have hq16 : q < 16 := by have := HI'.out.num.N; have := HI'.out.cn; dsimp only at hq; omega
    exact (HM.out.rgs q hq16).trans (HI'.out.kp q hq)) (fun q hq => by have := HI'.out.cm q hq; dsimp only; omega) (by have := HK.out; omega))
   have HF := Lib.hid (fun w4 e hN => cout_note (w4 := w4) (e := e) HI'.out HK.out HM.out HOK.out.1 HOK.out.2 HL.out HCC.out h0 hN)
   rw [h0]
   clear HOL HP3 HM HI' HH HL h0 hd0 H1 HCC HWd HMay
   generalize a.z = z at *
   go_wp2_with fail
   refine (HN.out).mono ?_; rintro e w4 hN
   rcases HF.out w4 e hN with ⟨rfl, hO⟩ | ⟨⟨u, pv, rfl⟩, hO⟩
   · have HO := Lib.hid hO
     clear hO hN
     go_wp2_with fail
     go_ret
     exact HO.out
   · have HO := Lib.hid hO
     clear hO hN
     go_wp2
     exact ⟨rfl, HO.out⟩
 · have c8 := HP3.out.hb.c8
   have f8 := HP3.out.hb.free 8
   have HF := Lib.hid (cout_worn HI'.out HK.out HM.out HP3.out HCC.out h3)
   rw [h3]
   clear HOL HP3 HM HI' HH HL h3 H1 HCC HWd HMay
   generalize a.z = z at *
   go_wp2_with fail
   go_ret
   exact HF.out
 · have HF := Lib.hid (cout_down HI'.out HK.out HM.out HOK.out.1 HOK.out.2 HP3.out HCC.out h2)
   rw [h2]
   clear HOL HP3 HM HI' HH HL h2 H1 HCC HWd HMay
   generalize a.z = z at *
   go_wp2_with fail
   go_ret
   exact HF.out
structure Aim where
 e : Int
 off : Int
 data : List Int
 ch : Bool
 X : List Int
 r : Nat
 L : List Int
 hasL : Bool
def plNo (X : List Int) (r : Nat) (e : Int) : Aim := ⟨e, 0, [], false, X, r, [], false⟩
def plA (X : List Int) (r : Nat) (cs : List Int) (n : Int) : Aim :=
 if needN n = 0 then plNo X r 1
 else if (alR X n cs).2.2 = 0 then ⟨0, (alR X n cs).2.1, [], true, appF X (alR X n cs).1, r, lnsF (alR X n cs).1, true⟩
 else ⟨(alR X n cs).2.2, 0, [], true, X, r, [], false⟩
def plF (X : List Int) (r : Nat) (o : Int) : Aim :=
 if (frR X o).2 ≠ 0 then plNo X r (frR X o).2
 else if o = (r : Int) then plNo X r 5
 else ⟨0, 0, [], true, appF X (frR X o).1, r, lnsF (frR X o).1, true⟩
def plW (X : List Int) (r : Nat) (o : Int) (bl : List Int) (M : List Ed) : Aim :=
 if refF X o bl.length ≠ 0 ∨ bl = [] then plNo X r (refF X o bl.length)
 else ⟨0, 0, [], true, appF X M, r, lnsF M, true⟩
def plR (X : List Int) (r : Nat) (o : Int) : Aim :=
 if rootB X o = true then ⟨0, 0, [], true, X, o.toNat, [], false⟩ else plNo X r 1
def plD (X : List Int) (r : Nat) (o n : Int) : Aim := ⟨refF X o n, 0, rdR X o n, false, X, r, [], false⟩
def plG (X : List Int) (r : Nat) : Aim := ⟨0, (r : Int), [], false, X, r, [], false⟩
def PlanOf (X : List Int) (r : Nat) (cs : List Int) (d o n : Int) (bl : List Int) (pl : Aim) : Prop :=
 if d = 1 then pl = plA X r cs n
 else if d = 2 then pl = plF X r o
 else if d = 3 then pl = plD X r o n
 else if d = 4 then ∃ M, WrT X bl o M ∧ pl = plW X r o bl M
 else if d = 5 then pl = plR X r o
 else if d = 6 then pl = plG X r
 else pl = plNo X r 1
theorem PlanOf.one {X : List Int} {r : Nat} {cs : List Int} {d o n : Int} {bl : List Int} {pl pl' : Aim} (h : PlanOf X r cs d o n bl pl) (h' : PlanOf X r cs d o n bl pl') : pl = pl' := by
 unfold PlanOf at h h'
 by_cases c1 : d = 1
 · rw [if_pos c1] at h h'; rw [h, h']
 rw [if_neg c1] at h h'
 by_cases c2 : d = 2
 · rw [if_pos c2] at h h'; rw [h, h']
 rw [if_neg c2] at h h'
 by_cases c3 : d = 3
 · rw [if_pos c3] at h h'; rw [h, h']
 rw [if_neg c3] at h h'
 by_cases c4 : d = 4
 · rw [if_pos c4] at h h'
   obtain ⟨M, a, rfl⟩ := h
   obtain ⟨M', a', rfl⟩ := h'
   rw [a.one a']
 rw [if_neg c4] at h h'
 by_cases c5 : d = 5
 · rw [if_pos c5] at h h'; rw [h, h']
 rw [if_neg c5] at h h'
 by_cases c6 : d = 6
 · rw [if_pos c6] at h h'; rw [h, h']
 rw [if_neg c6] at h h'
 rw [h, h']
theorem rootB_iff {X : List Int} {l : List Bk} (hB : blkF X = some l) (r : Int) : rootB X r = true ↔ r = 0 ∨ ∃ j, isN r l = some j := by
 unfold rootB isB
 rw [hB]
 simp [Option.isSome_iff_exists]
theorem sound_some {X : List Int} {r : Int} (h : soundB X r = true) : ∃ l, blkF X = some l ∧ (r = 0 ∨ ∃ j, isN r l = some j) := by
 unfold soundB at h
 rw [Bool.and_eq_true] at h
 obtain ⟨l, hl⟩ := Option.isSome_iff_exists.1 h.1
 exact ⟨l, hl, (rootB_iff hl r).1 h.2⟩
theorem sound_of {X : List Int} {r : Int} {l : List Bk} (hB : blkF X = some l) (h : r = 0 ∨ ∃ j, isN r l = some j) : soundB X r = true := by
 unfold soundB
 rw [hB, (rootB_iff hB r).2 h]
 rfl
theorem isN_of {n : Int} {l : List Bk} (h : mayL n l = true) {b : Bk} (hb : b ∈ l) (hu : b.u = true) : ∃ j, isN (offB b.a) l = some j := by
 obtain ⟨k, hk, _⟩ := used_at h hb hu
 exact ⟨k, hk⟩
structure GoodE (N : Nat) (X : List Int) (r : Nat) (E : List Ed) : Prop where
 fit : EdFit N E
 len : E.length ≤ 4000
 ok : WordsOk (appF X E)
 snd : soundB (appF X E) r = true
theorem alR_good {X : List Int} {r N : Nat} {n : Int} {cs : List Int} (hl : X.length = 8 * N) (hs : soundB X r = true) (hok : WordsOk X) (hn : needN n ≠ 0) (h0 : (alR X n cs).2.2 = 0) : GoodE N X r (alR X n cs).1 ∧ ∃ l d, blkF X = some l ∧ chN (needN n) cs l = some d ∧ alR X n cs = (cedF l d (needN n), offB (atL l d), 0) ∧ canC l d (needN n) = true := by
 obtain ⟨l, hB, hr⟩ := sound_some hs
 have hm := blkF_some hB
 rw [hl] at hm
 obtain ⟨n2, n57⟩ := need_two hn
 cases hc : chN (needN n) cs l with
 | none => rw [alR_none hB hn hc] at h0; cases h0
 | some d =>
   have ha := alR_some hB hn hc
   rw [ha]
   obtain ⟨_, hcan, _⟩ := chN_can hm hc n2
   obtain ⟨t1, _, _, _, _, _, _, _, T⟩ := taken hB hok hcan
   refine ⟨⟨ced_fit hm hcan n57, by have := ced_len hm hcan; dsimp only; omega, T.ok, sound_of t1 ?_⟩, l, d, hB, hc, rfl, hcan⟩
   rcases hr with h | ⟨j, hj⟩
   · exact .inl h
   · obtain ⟨j1, j2, j3⟩ := isN_some hj
     have := isN_of (mayL_crv hm hcan) (crv_keeps hcan (getD_mem j1) j2) j2
     rw [j3] at this
     exact .inr this
theorem frR_good {X : List Int} {r N : Nat} {o : Int} (hl : X.length = 8 * N) (hs : soundB X r = true) (hok : WordsOk X) (h0 : (frR X o).2 = 0) (hne : o ≠ (r : Int)) : GoodE N X r (frR X o).1 ∧ ∃ l k, blkF X = some l ∧ isN o l = some k ∧ frR X o = ([medF l k], 0) := by
 obtain ⟨l, hB, hr⟩ := sound_some hs
 have hm := blkF_some hB
 rw [hl] at hm
 cases hi : isN o l with
 | none => rw [frR_none hB hi] at h0; cases h0
 | some k =>
   have ha := frR_some hB hi
   rw [ha]
   have hcan := isN_can hB hi
   obtain ⟨g1, _, g3, _⟩ := given hB hok hcan
   refine ⟨⟨med_fit hm hcan, by simp, g3, sound_of g1 ?_⟩, l, k, hB, hi, rfl⟩
   rcases hr with h | ⟨j, hj⟩
   · exact .inl h
   · obtain ⟨j1, j2, j3⟩ := isN_some hj
     obtain ⟨i1, i2, i3⟩ := isN_some hi
     have := isN_of (mayL_mrg hm hcan) (mrg_keeps hcan (getD_mem j1) j2 fun e => hne (by rw [← i3, ← j3, e])) j2
     rw [j3] at this
     exact .inr this
theorem wrT_len_h {wl bl : List Int} {o : Int} {M : List Ed} (h : WrT wl bl o M) : M.length ≤ 4000 := by
 unfold WrT at h
 split at h
 · unfold Tells at h
   split at h
   · rename_i hi
     obtain ⟨_, _, h3, _⟩ := hi
     rw [h.len]
     unfold cnt
     split <;> omega
   · rw [h]; simp
 · rw [h]; simp
theorem wr_isE {X : List Int} {l : List Bk} {o : Int} {bl : List Int} {M : List Ed} (hB : blkF X = some l) (hM : WrT X bl o M) (h0 : refF X o bl.length = 0) :
 ∃ b ∈ l, ∃ f : Nat, b.u = true ∧ o.toNat = 8 * (b.a.toNat + 1) + f ∧ f + bl.length ≤ 8 * (b.s.toNat - 1) ∧ IsE X (8 * (b.a.toNat + 1) + f) bl.length (fun k => bl.getD k 0) M ∧ 0 ≤ b.a ∧ b.a + b.s ≤ X.length ∧ bl.length ≤ 448 := by
 have hm := blkF_some hB
 have hin : inL o bl.length l = true := by
  unfold refF at h0
  rw [hB] at h0
  dsimp only at h0
  split at h0
  · assumption
  · cases h0
 obtain ⟨⟨_, h448⟩, b, hb, hu, h1, h2⟩ := inL_yes.1 hin
 obtain ⟨a0, a5, ae⟩ := offB_in hm hb
 obtain ⟨⟨s1, _⟩, s2, s3⟩ := mayF_sizes (mayL_yes.1 hm).2 b hb
 rw [ae] at h1
 obtain ⟨f, hf⟩ : ∃ f : Nat, o.toNat = 8 * (b.a.toNat + 1) + f := ⟨o.toNat - 8 * (b.a.toNat + 1), by omega⟩
 refine ⟨b, hb, f, hu, hf, by omega, ?_, s2, s3, by omega⟩
 unfold WrT at hM
 rw [if_pos h0] at hM
 unfold Tells at hM
 rw [if_pos ⟨by omega, by omega, by omega, by omega⟩, hf] at hM
 exact hM
theorem wr_good {X : List Int} {r N : Nat} {o : Int} {bl : List Int} {M : List Ed} (hl : X.length = 8 * N) (hs : soundB X r = true) (hok : WordsOk X) (hM : WrT X bl o M) (h0 : refF X o bl.length = 0) (hne : bl ≠ []) : GoodE N X r M ∧ ∃ l, blkF X = some l ∧ blkF (appF X M) = some l := by
 obtain ⟨l, hB, hr⟩ := sound_some hs
 obtain ⟨b, hb, f, hu, hf, hf2, hE, a0, a1, h448⟩ := wr_isE hB hM h0
 obtain ⟨w1, w2, _⟩ := wrote hB hok hb hE hf2
 have hpos : 0 < bl.length := List.length_pos_iff.2 hne
 have hm := blkF_some hB
 obtain ⟨⟨s1, _⟩, s2, s3⟩ := mayF_sizes (mayL_yes.1 hm).2 b hb
 exact ⟨⟨isE_fit hE hpos h448 (by omega), wrT_len_h hM, w2, sound_of w1 hr⟩, l, hB, w1⟩
def POut (w w' : World) (a : Ha) (S : Hs) (K : Nat) (X : List Int) (r : Nat) (pl : Aim) (nr : Prop) (t : Option Int) : Prop :=
 ∃ S', Hp w' a S' ∧ Chg a.D w w' ∧ S'.s.la = S.s.la ∧ S'.s.comes = S.s.comes ∧ S'.s.n = S.s.n ∧
  ((t = some 3 ∧ pl.ch = true ∧ S.worn = true ∧ S' = S) ∨
   (t = some pl.e ∧ (pl.ch = true → pl.e ≠ 0 ∧ S.worn = false) ∧ S' = S) ∨
   (t = some 0 ∧ pl.ch = true ∧ pl.e = 0 ∧ S.worn = false ∧ HI a S' (K + 1) pl.X pl.r ∧ S'.ct = nts S.ct (pgs pl.L) ∧ S'.wf = S.wf ∧ (Free S.s → Free S'.s ∧ lk S'.s = 0)) ∨
   (t = some 3 ∧ pl.ch = true ∧ pl.e = 0 ∧ S.worn = false ∧ nr ∧ HI a S' (K + 1) X r ∧ S'.ct = S.ct ∧ S'.wf = true ∧ ¬ Free S.s) ∨
   ((t = some 2 ∨ t = none) ∧ pl.ch = true ∧ pl.e = 0 ∧ S.worn = false ∧ S.s.comes = true ∧ (HC S'.s a.N a.P (K + 1) X r ∨ HC S'.s a.N a.P (K + 1) pl.X pl.r)))
def EndI (e : Ending) : Option Int → Prop
 | some x => e = .returned (.int .i64 x)
 | none => Dies e
theorem pout_same {w w' : World} {a : Ha} {S : Hs} {K : Nat} {X : List Int} {r : Nat} {pl : Aim} {nr : Prop} (hp : Hp w a S) (hb : Below w.heap.size w w') (hc : pl.ch = true → pl.e ≠ 0 ∧ S.worn = false) : POut w w' a S K X r pl nr (some pl.e) :=
 ⟨S, hp.below hb, Chg.of_below hb _, rfl, rfl, rfl, .inr (.inl ⟨rfl, hc, rfl⟩)⟩
theorem pout_worn {w w' : World} {a : Ha} {S : Hs} {K : Nat} {X : List Int} {r : Nat} {pl : Aim} {nr : Prop} (hp : Hp w a S) (hb : Below w.heap.size w w') (hc : pl.ch = true) (hw : S.worn = true) : POut w w' a S K X r pl nr (some 3) :=
 ⟨S, hp.below hb, Chg.of_below hb _, rfl, rfl, rfl, .inl ⟨rfl, hc, hw, rfl⟩⟩
theorem cout_cases {w w3 w' : World} {a : Ha} {S : Hs} {K : Nat} {X : List Int} {r : Nat} {X' L : List Int} {e : Ending} {pl : Aim} (hb : Below w.heap.size w w3) (h : COut w3 w' a S K X r X' L e) (hw : S.worn = false) (h1 : pl.ch = true) (h2 : pl.e = 0) (h3 : pl.X = X') (h4 : pl.r = r) (h5 : pl.L = L) :
 (e = .returned (.int .i64 0) ∧ POut w w' a S K X r pl True (some 0)) ∨ (e = .returned (.int .i64 3) ∧ POut w w' a S K X r pl True (some 3)) ∨ (e = .returned (.int .i64 2) ∧ POut w w' a S K X r pl True (some 2)) ∨ (Dies e ∧ POut w w' a S K X r pl True none) := by
 obtain ⟨S', g1, g2, g3, g4, g5, h⟩ := h
 have hD := (Chg.of_below hb a.D).trans g2
 subst h3 h4 h5
 rcases h with ⟨rfl, q1, q2, q3, q4⟩ | ⟨rfl, q1, q2, q3, q4⟩ | ⟨rfl | hd, q1, q2⟩
 · exact .inl ⟨rfl, S', g1, hD, g3, g4, g5, .inr (.inr (.inl ⟨rfl, h1, h2, hw, q1, q2, q3, q4⟩))⟩
 · exact .inr (.inl ⟨rfl, S', g1, hD, g3, g4, g5, .inr (.inr (.inr (.inl ⟨rfl, h1, h2, hw, trivial, q1, q2, q3, q4⟩)))⟩)
 · exact .inr (.inr (.inl ⟨rfl, S', g1, hD, g3, g4, g5, .inr (.inr (.inr (.inr ⟨.inl rfl, h1, h2, hw, q1, q2⟩)))⟩))
 · exact .inr (.inr (.inr ⟨hd, S', g1, hD, g3, g4, g5, .inr (.inr (.inr (.inr ⟨.inr rfl, h1, h2, hw, q1, q2⟩)))⟩))
theorem worn_no {S : Hs} (h : S.worn = false) : S.wf = false ∧ lk S.s = 0 := by
 unfold Hs.worn at h
 simpa using h
def EndA (e : Ending) (off : Int) : Option Int → Prop
 | some x => e = .returned (.tuple #[.int .i64 (if x = 0 then off else 0), .int .i64 x])
 | none => Dies e
theorem halloc_is {w : World} {a : Ha} {S : Hs} {K : Nat} {X : List Int} {r : Nat} (n : Int) (hp : Hp w a S) (h : HI a S K X r) (hK : K < 1000) :
 Calls Tryz.prog 111 #[.pointer (some ⟨a.z, 0, none⟩), .int .i64 n] w fun e w' => ∃ t, EndA e (plA X r S.ct.ints n).off t ∧ POut w w' a S K X r (plA X r S.ct.ints n) True t := by
 have C1 := Lib.hid (hwords_is hp.hb h.num h.hc.lg h.live h.hc.has)
 have C2 := Lib.hid (fun w => need_is n w)
 have C3 := Lib.hid (fun w' (hb : Below w.heap.size w w') => hworn_is (hp.below hb) h.live h.hc.lg.r1)
 have C4 := Lib.hid (fun w' (hb : Below w.heap.size w w') => hcnt_is (hp.below hb) (by have := h.cn; have := h.num.N; omega))
 have hX := h.len
 have C5 := Lib.hid (fun w' v u (hv : RU w' v X) (hu : RI w' u S.ct.ints) => al_is X n S.ct.ints v u w' hv (by omega) h.hc.ok hu)
 have HH := Lib.hid (And.intro hp h)
 have HK := Lib.hid hK
 obtain ⟨N, hN⟩ : ∃ N, needN n = N := ⟨_, rfl⟩
 obtain ⟨pl, hpl⟩ : ∃ pl, plA X r S.ct.ints n = pl := ⟨_, rfl⟩
 rw [hpl]
 by_cases h0 : needN n = 0
 · have e1 : pl = plNo X r 1 := by rw [← hpl, plA, if_pos h0]
   have HF := Lib.hid (fun w' (hb : Below w.heap.size w w') => (show ∃ t, EndA (.returned (.tuple #[.int .i64 0, .int .i64 1])) pl.off t ∧ POut w w' a S K X r pl True t from ⟨some pl.e, by rw [e1]; rfl, pout_same HH.out.1 hb (by rw [e1]; intro q; cases q)⟩))
   rw [h0] at C2
   clear hp h hX hK hN hpl e1 h0 C3 C4 C5
   generalize a.z = z at *
   go_enter Tryz.func111, Tryz.ntmps111
   go_wp2_with fail
   refine (C1.out).mono ?_; rintro e w1 ⟨⟨v, rfl, o1⟩, b1⟩
   have D1 := Lib.hid b1
   obtain ⟨q, c, rfl⟩ := o1.shape
   clear o1 b1
   go_wp2_with fail
   refine (C2.out _).mono ?_; rintro e w2 ⟨rfl, rfl⟩
   go_wp2_with fail
   go_ret2
   exact HF.out _ D1.out
 have i0 : (N == 0) = false := beq_eq_false_iff_ne.2 (hN ▸ h0)
 rw [hN] at C2
 obtain ⟨b, hb⟩ : ∃ b, S.worn = b := ⟨_, rfl⟩
 rw [hb] at C3
 cases b with
 | true =>
   have e1 : pl.ch = true := by
    rw [← hpl, plA, if_neg h0]
    split <;> rfl
   have HF := Lib.hid (fun w' (hb' : Below w.heap.size w w') => (show ∃ t, EndA (.returned (.tuple #[.int .i64 0, .int .i64 3])) pl.off t ∧ POut w w' a S K X r pl True t from ⟨some 3, rfl, pout_worn HH.out.1 hb' e1 hb⟩))
   clear hp h hX hK hpl e1 h0 C4 C5 hb hN
   generalize a.z = z at *
   go_enter Tryz.func111, Tryz.ntmps111
   go_wp2_with fail
   refine (C1.out).mono ?_; rintro e w1 ⟨⟨v, rfl, o1⟩, b1⟩
   have D1 := Lib.hid b1
   obtain ⟨q, c, rfl⟩ := o1.shape
   clear o1 b1
   go_wp2_with fail
   refine (C2.out _).mono ?_; rintro e w2 ⟨rfl, rfl⟩
   go_wp2_with fail
   refine (C3.out _ D1.out).mono ?_; rintro e w2 ⟨rfl, rfl⟩
   go_wp2_with fail
   go_ret2
   exact HF.out _ D1.out
 | false =>
 obtain ⟨E, off, er, hA⟩ : ∃ E off er, alR X n S.ct.ints = (E, off, er) := ⟨_, _, _, rfl⟩
 rw [hA] at C5
 dsimp only at C5
 by_cases h4 : er = 0
 · subst h4
   obtain ⟨hg, _⟩ := alR_good hX.1 h.hc.snd h.hc.ok h0 (by rw [hA] : (alR X n S.ct.ints).2.2 = 0)
   rw [hA] at hg
   have e1 : pl = ⟨0, off, [], true, appF X E, r, lnsF E, true⟩ := by rw [← hpl, plA, if_neg h0, hA, if_pos rfl]
   have C6 := Lib.hid (fun w' (hb' : Below w.heap.size w w') v u (hv : RU w' v X) (hu : RA edE w' u E) => hcommit_is (HH.out.1.below hb') HH.out.2 HK.out (worn_no hb).2 hv hu hg.fit hg.len hg.ok hg.snd)
   have HF := Lib.hid (fun w3 w' e (hb3 : Below w.heap.size w w3) (hc : COut w3 w' a S K X r (appF X E) (lnsF E) e) => cout_cases (pl := pl) hb3 hc hb (by rw [e1]) (by rw [e1]) (by rw [e1]) (by rw [e1]) (by rw [e1]))
   have ho : pl.off = off := by rw [e1]
   clear hp h hX hK hpl e1 h0 hb hN hA hg
   generalize a.z = z at *
   generalize S.ct.ints = cs at *
   go_enter Tryz.func111, Tryz.ntmps111
   go_wp2_with fail
   refine (C1.out).mono ?_; rintro e w1 ⟨⟨v, rfl, o1⟩, b1⟩
   have D1 := Lib.hid b1
   have O1 := Lib.hid o1
   obtain ⟨q, c, rfl⟩ := o1.shape
   clear o1 b1
   go_wp2_with fail
   refine (C2.out _).mono ?_; rintro e w2 ⟨rfl, rfl⟩
   go_wp2_with fail
   refine (C3.out _ D1.out).mono ?_; rintro e w2 ⟨rfl, rfl⟩
   go_wp2_with fail
   refine (C4.out _ D1.out).mono ?_; rintro e w2 ⟨⟨u, rfl, o2⟩, b2⟩
   have D2 := Lib.hid (below_more D1.out b2)
   have O2 := Lib.hid (O1.out.below b2)
   have U2 := Lib.hid o2.ri
   obtain ⟨q2, c2, rfl, _⟩ := o2.ri
   clear o2 b2
   go_wp2_with fail
   refine (C5.out _ _ _ O2.out.ru U2.out).mono ?_; rintro e w3 ⟨⟨x, rfl, o3⟩, b3⟩
   have D3 := Lib.hid (below_more D2.out b3)
   have O3 := Lib.hid (O2.out.below b3)
   have E3 := Lib.hid o3.ra
   obtain ⟨q3, c3, rfl, _⟩ := o3.shape
   clear o3 b3
   go_wp2_with fail
   refine (C6.out _ D3.out _ _ O3.out.ru E3.out).mono ?_; rintro e w4 hc
   rcases HF.out _ _ _ D3.out hc with ⟨rfl, g⟩ | ⟨rfl, g⟩ | ⟨rfl, g⟩ | ⟨⟨u, pv, rfl⟩, g⟩
   · have G := Lib.hid g
     clear g hc
     go_wp2_with fail
     go_ret2
     exact ⟨some 0, by rw [ho]; rfl, G.out⟩
   · have G := Lib.hid g
     clear g hc
     go_wp2_with fail
     go_ret2
     exact ⟨some 3, rfl, G.out⟩
   · have G := Lib.hid g
     clear g hc
     go_wp2_with fail
     go_ret2
     exact ⟨some 2, rfl, G.out⟩
   · have G := Lib.hid g
     clear g hc
     go_wp2
     exact ⟨rfl, none, ⟨_, _, rfl⟩, G.out⟩
 · have e1 : pl = ⟨er, 0, [], true, X, r, [], false⟩ := by rw [← hpl, plA, if_neg h0, hA, if_neg h4]
   have i4 : (er == 0) = false := beq_eq_false_iff_ne.2 h4
   have i5 : (er != 0) = true := by simpa using h4
   have HF := Lib.hid (fun w' (hb' : Below w.heap.size w w') => (show ∃ t, EndA (.returned (.tuple #[.int .i64 0, .int .i64 er])) pl.off t ∧ POut w w' a S K X r pl True t from ⟨some pl.e, by
    rw [e1]
    show _ = Ending.returned _
    rw [if_neg h4], pout_same HH.out.1 hb' (by rw [e1]; intro _; exact ⟨h4, hb⟩)⟩))
   clear hp h hX hK hpl e1 h0 hb hN hA
   generalize a.z = z at *
   generalize S.ct.ints = cs at *
   go_enter Tryz.func111, Tryz.ntmps111
   go_wp2_with fail
   refine (C1.out).mono ?_; rintro e w1 ⟨⟨v, rfl, o1⟩, b1⟩
   have D1 := Lib.hid b1
   have O1 := Lib.hid o1
   obtain ⟨q, c, rfl⟩ := o1.shape
   clear o1 b1
   go_wp2_with fail
   refine (C2.out _).mono ?_; rintro e w2 ⟨rfl, rfl⟩
   go_wp2_with fail
   refine (C3.out _ D1.out).mono ?_; rintro e w2 ⟨rfl, rfl⟩
   go_wp2_with fail
   refine (C4.out _ D1.out).mono ?_; rintro e w2 ⟨⟨u, rfl, o2⟩, b2⟩
   have D2 := Lib.hid (below_more D1.out b2)
   have O2 := Lib.hid (O1.out.below b2)
   have U2 := Lib.hid o2.ri
   obtain ⟨q2, c2, rfl, _⟩ := o2.ri
   clear o2 b2
   go_wp2_with fail
   refine (C5.out _ _ _ O2.out.ru U2.out).mono ?_; rintro e w3 ⟨⟨x, rfl, o3⟩, b3⟩
   have D3 := Lib.hid (below_more D2.out b3)
   obtain ⟨q3, c3, rfl, _⟩ := o3.shape
   clear o3 b3
   go_wp2_with fail
   go_ret2
   exact HF.out _ D3.out
theorem cout_end {w w3 w' : World} {a : Ha} {S : Hs} {K : Nat} {X : List Int} {r : Nat} {X' L : List Int} {e : Ending} {pl : Aim} (hb : Below w.heap.size w w3) (h : COut w3 w' a S K X r X' L e) (hw : S.worn = false) (h1 : pl.ch = true) (h2 : pl.e = 0) (h3 : pl.X = X') (h4 : pl.r = r) (h5 : pl.L = L) :
 (∃ x, e = .returned (.int .i64 x) ∧ POut w w' a S K X r pl True (some x)) ∨ (Dies e ∧ POut w w' a S K X r pl True none) := by
 rcases cout_cases hb h hw h1 h2 h3 h4 h5 with ⟨e1, g⟩ | ⟨e1, g⟩ | ⟨e1, g⟩ | g
 · exact .inl ⟨_, e1, g⟩
 · exact .inl ⟨_, e1, g⟩
 · exact .inl ⟨_, e1, g⟩
 · exact .inr g
theorem pout_ret {w w' : World} {a : Ha} {S : Hs} {K : Nat} {X : List Int} {r : Nat} {pl : Aim} {nr : Prop} {x : Int} (h : POut w w' a S K X r pl nr (some x)) : ∃ t, EndI (.returned (.int .i64 x)) t ∧ POut w w' a S K X r pl nr t := ⟨some x, rfl, h⟩
theorem hfree_is {w : World} {a : Ha} {S : Hs} {K : Nat} {X : List Int} {r : Nat} (o : Int) (hp : Hp w a S) (h : HI a S K X r) (hK : K < 1000) :
 Calls Tryz.prog 112 #[.pointer (some ⟨a.z, 0, none⟩), .int .i64 o] w fun e w' => ∃ t, EndI e t ∧ POut w w' a S K X r (plF X r o) True t := by
 have C1 := Lib.hid (hwords_is hp.hb h.num h.hc.lg h.live h.hc.has)
 have C3 := Lib.hid (fun w' (hb : Below w.heap.size w w') => hworn_is (hp.below hb) h.live h.hc.lg.r1)
 have C4 := Lib.hid (fun w' (hb : Below w.heap.size w w') => hreg_is (k := 2) (hp.below hb).hb h.live (by decide) h.hc.rt (by have := h.hc.rlt; omega))
 have hX := h.len
 have C5 := Lib.hid (fun w' v (hv : RU w' v X) => fr_is X o v w' hv (by omega) h.hc.ok)
 have HH := Lib.hid (And.intro hp h)
 have HK := Lib.hid hK
 obtain ⟨pl, hpl⟩ : ∃ pl, plF X r o = pl := ⟨_, rfl⟩
 rw [hpl]
 obtain ⟨E, er, hA⟩ : ∃ E er, frR X o = (E, er) := ⟨_, _, rfl⟩
 rw [hA] at C5
 dsimp only at C5
 by_cases h4 : er = 0
 · subst h4
   by_cases hr : o = (r : Int)
   · have e1 : pl = plNo X r 5 := by rw [← hpl, plF, hA, if_neg (by simp), if_pos hr]
     have HF := Lib.hid (fun w' (hb' : Below w.heap.size w w') => pout_ret (show POut w w' a S K X r pl True (some 5) from by
      have := pout_same (pl := pl) (nr := True) (K := K) (X := X) (r := r) HH.out.1 hb' (by rw [e1]; intro q; cases q)
      rwa [e1] at this ⊢))
     subst hr
     clear hp h hX hK hpl e1 hA C3
     generalize a.z = z at *
     go_enter Tryz.func112, Tryz.ntmps112
     go_wp2_with fail
     refine (C1.out).mono ?_; rintro e w1 ⟨⟨v, rfl, o1⟩, b1⟩
     have D1 := Lib.hid b1
     have O1 := Lib.hid o1
     obtain ⟨q, c, rfl⟩ := o1.shape
     clear o1 b1
     go_wp2_with fail
     refine (C5.out _ _ O1.out.ru).mono ?_; rintro e w3 ⟨⟨x, rfl, o3⟩, b3⟩
     have D3 := Lib.hid (below_more D1.out b3)
     obtain ⟨q3, c3, rfl, _⟩ := o3.shape
     clear o3 b3
     go_wp2_with fail
     refine (C4.out _ D3.out).mono ?_; rintro e w2 ⟨rfl, rfl⟩
     go_wp2_with fail
     go_ret
     exact HF.out _ D3.out
   have i0 : (o == (r : Int)) = false := beq_eq_false_iff_ne.2 hr
   obtain ⟨b, hb⟩ : ∃ b, S.worn = b := ⟨_, rfl⟩
   rw [hb] at C3
   obtain ⟨hg, _⟩ := frR_good hX.1 h.hc.snd h.hc.ok (by rw [hA] : (frR X o).2 = 0) hr
   rw [hA] at hg
   have e1 : pl = ⟨0, 0, [], true, appF X E, r, lnsF E, true⟩ := by rw [← hpl, plF, hA, if_neg (by simp), if_neg hr]
   cases b with
   | true =>
     have HF := Lib.hid (fun w' (hb' : Below w.heap.size w w') => pout_ret (show POut w w' a S K X r pl True (some 3) from pout_worn HH.out.1 hb' (by rw [e1]) hb))
     clear hp h hX hK hpl e1 hA hb hg hr
     generalize a.z = z at *
     generalize (r : Int) = ri at *
     go_enter Tryz.func112, Tryz.ntmps112
     go_wp2_with fail
     refine (C1.out).mono ?_; rintro e w1 ⟨⟨v, rfl, o1⟩, b1⟩
     have D1 := Lib.hid b1
     have O1 := Lib.hid o1
     obtain ⟨q, c, rfl⟩ := o1.shape
     clear o1 b1
     go_wp2_with fail
     refine (C5.out _ _ O1.out.ru).mono ?_; rintro e w3 ⟨⟨x, rfl, o3⟩, b3⟩
     have D3 := Lib.hid (below_more D1.out b3)
     obtain ⟨q3, c3, rfl, _⟩ := o3.shape
     clear o3 b3
     go_wp2_with fail
     refine (C4.out _ D3.out).mono ?_; rintro e w2 ⟨rfl, rfl⟩
     go_wp2_with fail
     refine (C3.out _ D3.out).mono ?_; rintro e w2 ⟨rfl, rfl⟩
     go_wp2_with fail
     go_ret
     exact HF.out _ D3.out
   | false =>
     have C6 := Lib.hid (fun w' (hb' : Below w.heap.size w w') v u (hv : RU w' v X) (hu : RA edE w' u E) => hcommit_is (HH.out.1.below hb') HH.out.2 HK.out (worn_no hb).2 hv hu hg.fit hg.len hg.ok hg.snd)
     have HF := Lib.hid (fun w3 w' e (hb3 : Below w.heap.size w w3) (hc : COut w3 w' a S K X r (appF X E) (lnsF E) e) => cout_end (pl := pl) hb3 hc hb (by rw [e1]) (by rw [e1]) (by rw [e1]) (by rw [e1]) (by rw [e1]))
     clear hp h hX hK hpl e1 hA hb hg hr
     generalize a.z = z at *
     generalize (r : Int) = ri at *
     go_enter Tryz.func112, Tryz.ntmps112
     go_wp2_with fail
     refine (C1.out).mono ?_; rintro e w1 ⟨⟨v, rfl, o1⟩, b1⟩
     have D1 := Lib.hid b1
     have O1 := Lib.hid o1
     obtain ⟨q, c, rfl⟩ := o1.shape
     clear o1 b1
     go_wp2_with fail
     refine (C5.out _ _ O1.out.ru).mono ?_; rintro e w3 ⟨⟨x, rfl, o3⟩, b3⟩
     have D3 := Lib.hid (below_more D1.out b3)
     have O3 := Lib.hid (O1.out.below b3)
     have E3 := Lib.hid o3.ra
     obtain ⟨q3, c3, rfl, _⟩ := o3.shape
     clear o3 b3
     go_wp2_with fail
     refine (C4.out _ D3.out).mono ?_; rintro e w2 ⟨rfl, rfl⟩
     go_wp2_with fail
     refine (C3.out _ D3.out).mono ?_; rintro e w2 ⟨rfl, rfl⟩
     go_wp2_with fail
     refine (C6.out _ D3.out _ _ O3.out.ru E3.out).mono ?_; rintro e w4 hc
     rcases HF.out _ _ _ D3.out hc with ⟨x, rfl, g⟩ | ⟨⟨u, pv, rfl⟩, g⟩
     · have G := Lib.hid g
       clear g hc
       go_wp2_with fail
       go_ret
       exact pout_ret G.out
     · have G := Lib.hid g
       clear g hc
       go_wp2
       exact ⟨rfl, none, ⟨_, _, rfl⟩, G.out⟩
 · have e1 : pl = plNo X r er := by rw [← hpl, plF, hA, if_pos h4]
   have i4 : (er == 0) = false := beq_eq_false_iff_ne.2 h4
   have i5 : (er != 0) = true := by simpa using h4
   have HF := Lib.hid (fun w' (hb' : Below w.heap.size w w') => pout_ret (show POut w w' a S K X r pl True (some er) from by
    have := pout_same (pl := pl) (nr := True) (K := K) (X := X) (r := r) HH.out.1 hb' (by rw [e1]; intro q; cases q)
    rwa [e1] at this ⊢))
   clear hp h hX hK hpl e1 hA C3 C4
   generalize a.z = z at *
   go_enter Tryz.func112, Tryz.ntmps112
   go_wp2_with fail
   refine (C1.out).mono ?_; rintro e w1 ⟨⟨v, rfl, o1⟩, b1⟩
   have D1 := Lib.hid b1
   have O1 := Lib.hid o1
   obtain ⟨q, c, rfl⟩ := o1.shape
   clear o1 b1
   go_wp2_with fail
   refine (C5.out _ _ O1.out.ru).mono ?_; rintro e w3 ⟨⟨x, rfl, o3⟩, b3⟩
   have D3 := Lib.hid (below_more D1.out b3)
   obtain ⟨q3, c3, rfl, _⟩ := o3.shape
   clear o3 b3
   go_wp2_with fail
   go_ret
   exact HF.out _ D3.out
theorem hwrite_is {w : World} {a : Ha} {S : Hs} {K : Nat} {X : List Int} {r : Nat} (o : Int) {bl : List Int} {bv : Value} (hp : Hp w a S) (h : HI a S K X r) (hK : K < 1000) (hbv : RA byE w bv bl) (hbl : bl.length ≤ 100000) (ho : -9223372036854775808 ≤ o ∧ o ≤ 9223372036854775807) :
 Calls Tryz.prog 114 #[.pointer (some ⟨a.z, 0, none⟩), .int .i64 o, bv] w fun e w' => ∃ M t, WrT X bl o M ∧ EndI e t ∧ POut w w' a S K X r (plW X r o bl M) True t := by
 have C1 := Lib.hid (hwords_is hp.hb h.num h.hc.lg h.live h.hc.has)
 have C3 := Lib.hid (fun w' (hb : Below w.heap.size w w') => hworn_is (hp.below hb) h.live h.hc.lg.r1)
 have hX := h.len
 have C5 := Lib.hid (fun w' v (hb : Below w.heap.size w w') (hv : RU w' v X) => wr_is X bl o v bv w' hv (ra_below hbv hb) (by omega) hbl h.hc.ok ho)
 have HH := Lib.hid (And.intro hp h)
 have HK := Lib.hid hK
 have HXl := Lib.hid hX
 obtain ⟨qb, cb, rfl, _⟩ := ra_shape hbv
 obtain ⟨er, hA⟩ : ∃ er, refF X o bl.length = er := ⟨_, rfl⟩
 rw [hA] at C5
 have HA := Lib.hid hA
 by_cases h4 : er ≠ 0 ∨ bl = []
 · have HF := Lib.hid (fun w' M (hb' : Below w.heap.size w w') (hM : WrT X bl o M) => (show ∃ M t, WrT X bl o M ∧ EndI (.returned (.int .i64 er)) t ∧ POut w w' a S K X r (plW X r o bl M) True t from by
    have e1 : plW X r o bl M = plNo X r er := by rw [plW, HA.out, if_pos h4]
    refine ⟨M, some er, hM, rfl, ?_⟩
    rw [e1]
    exact pout_same (pl := plNo X r er) HH.out.1 hb' (by intro q; cases q)))
   by_cases h5 : er = 0
   · subst h5
     have hb0 : bl = [] := by
      rcases h4 with q | q
      · exact absurd rfl q
      · exact q
     subst hb0
     have C5' : Hid (∀ w' v, Below w.heap.size w w' → RU w' v X → Calls Tryz.prog 145 #[v, .int .i64 o, .slice qb 0 cb] w' fun e w2 => (∃ x L, e = .returned (.tuple #[x, .int .i64 0]) ∧ OwnA edE w'.heap.size w2 x L ∧ WrT X [] o L) ∧ Below w'.heap.size w' w2) := C5
     rw [List.length_nil]
     clear hp h hX hK hA C3 hbv hbl h4 C5
     generalize a.z = z at *
     go_enter Tryz.func114, Tryz.ntmps114
     go_wp2_with fail
     refine (C1.out).mono ?_; rintro e w1 ⟨⟨v, rfl, o1⟩, b1⟩
     have D1 := Lib.hid b1
     have O1 := Lib.hid o1
     obtain ⟨q, c, rfl⟩ := o1.shape
     clear o1 b1
     go_wp2_with fail
     refine (C5'.out _ _ D1.out O1.out.ru).mono ?_; rintro e w3 ⟨⟨x, M, rfl, o3, hM⟩, b3⟩
     have D3 := Lib.hid (below_more D1.out b3)
     have HM := Lib.hid hM
     obtain ⟨q3, c3, rfl, _⟩ := o3.shape
     clear o3 b3 hM
     go_wp2_with fail
     go_ret
     exact HF.out _ _ D3.out HM.out
   · have i4 : (er == 0) = false := beq_eq_false_iff_ne.2 h5
     have i5 : (er != 0) = true := by simpa using h5
     clear hp h hX hK hA C3 hbv hbl h4
     generalize a.z = z at *
     generalize bl.length = n at *
     go_enter Tryz.func114, Tryz.ntmps114
     go_wp2_with fail
     refine (C1.out).mono ?_; rintro e w1 ⟨⟨v, rfl, o1⟩, b1⟩
     have D1 := Lib.hid b1
     have O1 := Lib.hid o1
     obtain ⟨q, c, rfl⟩ := o1.shape
     clear o1 b1
     go_wp2_with fail
     refine (C5.out _ _ D1.out O1.out.ru).mono ?_; rintro e w3 ⟨⟨x, M, rfl, o3, hM⟩, b3⟩
     have D3 := Lib.hid (below_more D1.out b3)
     have HM := Lib.hid hM
     obtain ⟨q3, c3, rfl, _⟩ := o3.shape
     clear o3 b3 hM
     go_wp2_with fail
     go_ret
     exact HF.out _ _ D3.out HM.out
 have h5 : er = 0 := Classical.byContradiction fun q => h4 (.inl q)
 have h6 : bl ≠ [] := fun q => h4 (.inr q)
 subst h5
 have i0 : ((bl.length : Int) == 0) = false := beq_eq_false_iff_ne.2 (by have := List.length_pos_iff.2 h6; omega)
 have i1 : ¬ bl.length = 0 := by have := List.length_pos_iff.2 h6; omega
 have e1 : ∀ M, plW X r o bl M = ⟨0, 0, [], true, appF X M, r, lnsF M, true⟩ := fun M => by rw [plW, HA.out, if_neg h4]
 have H6 := Lib.hid h6
 obtain ⟨b, hb⟩ : ∃ b, S.worn = b := ⟨_, rfl⟩
 rw [hb] at C3
 cases b with
 | true =>
   have HF := Lib.hid (fun w' M (hb' : Below w.heap.size w w') (hM : WrT X bl o M) => (show ∃ M t, WrT X bl o M ∧ EndI (.returned (.int .i64 3)) t ∧ POut w w' a S K X r (plW X r o bl M) True t from ⟨M, some 3, hM, rfl, by
    rw [e1]; exact pout_worn HH.out.1 hb' rfl hb⟩))
   clear hp h hX hK hA hbv hbl h4 hb e1 h6
   generalize a.z = z at *
   generalize bl.length = n at *
   go_enter Tryz.func114, Tryz.ntmps114
   go_wp2_with fail
   refine (C1.out).mono ?_; rintro e w1 ⟨⟨v, rfl, o1⟩, b1⟩
   have D1 := Lib.hid b1
   have O1 := Lib.hid o1
   obtain ⟨q, c, rfl⟩ := o1.shape
   clear o1 b1
   go_wp2_with fail
   refine (C5.out _ _ D1.out O1.out.ru).mono ?_; rintro e w3 ⟨⟨x, M, rfl, o3, hM⟩, b3⟩
   have D3 := Lib.hid (below_more D1.out b3)
   have HM := Lib.hid hM
   obtain ⟨q3, c3, rfl, _⟩ := o3.shape
   clear o3 b3 hM
   go_wp2_with fail
   refine (C3.out _ D3.out).mono ?_; rintro e w2 ⟨rfl, rfl⟩
   go_wp2_with fail
   go_ret
   exact HF.out _ _ D3.out HM.out
 | false =>
   have C6 := Lib.hid (fun w' M (hb' : Below w.heap.size w w') v u (hv : RU w' v X) (hu : RA edE w' u M) (hM : WrT X bl o M) => (show Calls Tryz.prog 141 #[.pointer (some ⟨a.z, 0, none⟩), v, u] w' fun e w' => COut _ w' a S K X r (appF X M) (lnsF M) e from by
    obtain ⟨hg, _⟩ := wr_good HXl.out.1 HH.out.2.hc.snd HH.out.2.hc.ok hM HA.out H6.out
    exact hcommit_is (HH.out.1.below hb') HH.out.2 HK.out (worn_no hb).2 hv hu hg.fit hg.len hg.ok hg.snd))
   have HF := Lib.hid (fun w3 w' M e (hb3 : Below w.heap.size w w3) (hc : COut w3 w' a S K X r (appF X M) (lnsF M) e) => cout_end (pl := plW X r o bl M) hb3 hc hb (by rw [e1]) (by rw [e1]) (by rw [e1]) (by rw [e1]) (by rw [e1]))
   clear hp h hX hK hA hbv hbl h4 hb e1 h6
   generalize a.z = z at *
   generalize bl.length = n at *
   go_enter Tryz.func114, Tryz.ntmps114
   go_wp2_with fail
   refine (C1.out).mono ?_; rintro e w1 ⟨⟨v, rfl, o1⟩, b1⟩
   have D1 := Lib.hid b1
   have O1 := Lib.hid o1
   obtain ⟨q, c, rfl⟩ := o1.shape
   clear o1 b1
   go_wp2_with fail
   refine (C5.out _ _ D1.out O1.out.ru).mono ?_; rintro e w3 ⟨⟨x, M, rfl, o3, hM⟩, b3⟩
   have D3 := Lib.hid (below_more D1.out b3)
   have HM := Lib.hid hM
   have O3 := Lib.hid (O1.out.below b3)
   have E3 := Lib.hid o3.ra
   obtain ⟨q3, c3, rfl, _⟩ := o3.shape
   clear o3 b3 hM
   go_wp2_with fail
   refine (C3.out _ D3.out).mono ?_; rintro e w2 ⟨rfl, rfl⟩
   go_wp2_with fail
   refine (C6.out _ _ D3.out _ _ O3.out.ru E3.out HM.out).mono ?_; rintro e w4 hc
   rcases HF.out _ _ _ _ D3.out hc with ⟨x, rfl, g⟩ | ⟨⟨u, pv, rfl⟩, g⟩
   · have G := Lib.hid (pout_ret g)
     clear g hc
     obtain ⟨t, G1, G2⟩ := G.out
     go_wp2_with fail
     go_ret
     exact ⟨M, t, HM.out, G1, G2⟩
   · have G := Lib.hid g
     clear g hc
     go_wp2
     exact ⟨rfl, M, none, HM.out, ⟨_, _, rfl⟩, G.out⟩
theorem HI.root {a : Ha} {S : Hs} {K : Nat} {X : List Int} {r : Nat} (h : HI a S K X r) (hK : K < 1000) {o : Int} (hr : rootB X o = true) :
 0 ≤ o ∧ o ≤ 5000 ∧ (HC (S.s.set ((2 : Nat) : Int) o) a.N a.P (K + 1) X r ∨ HC (S.s.set ((2 : Nat) : Int) o) a.N a.P (K + 1) X o.toNat) ∧
 ((S.s.setE ((2 : Nat) : Int) = 0 ∧ HI a { S with s := S.s.set ((2 : Nat) : Int) o } (K + 1) X o.toNat ∧ lk (S.s.set ((2 : Nat) : Int) o) = lk S.s) ∨ (S.s.setE ((2 : Nat) : Int) = 2 ∧ S.s.comes = true)) := by
 obtain ⟨l, hB, hrr⟩ := sound_some h.hc.snd
 have hm := blkF_some hB
 have ho := (rootB_iff hB o).1 hr
 have hb : 0 ≤ o ∧ o ≤ 5000 := by
  rcases ho with rfl | ⟨j, hj⟩
  · omega
  · obtain ⟨j1, j2, j3⟩ := isN_some hj
    have := offB_in hm (getD_mem j1)
    rw [← j3]
    omega
 obtain ⟨l1, l2, l3, l4, l5, l6⟩ := h.hc.lg.set (k := 2) (.inl rfl) o
 have hcc := S.s.set_c ((2 : Nat) : Int) o
 have h4 := h.hc.c
 have h5 := h.hc.m
 have hs : soundB X ((o.toNat : Nat) : Int) = true := by
  rw [show ((o.toNat : Nat) : Int) = o by omega]
  exact sound_of hB ho
 have hv : Has (S.s.set ((2 : Nat) : Int) o) a.N a.P X := h.hc.has.same fun b _ _ => l4 b
 have rg : ∀ q, q < 16 → ∃ v : Nat, (S.s.set ((2 : Nat) : Int) o).rg (19 + q) = (v : Int) ∧ v ≤ 14 * (K + 1) := rgs_more h.hc.rgs fun q _ => .inl (l6 (19 + q) (by omega))
 have one : ∀ x : Nat, (S.s.set ((2 : Nat) : Int) o).rg 2 = (x : Int) → soundB X (x : Int) = true → x ≤ 5000 → HC (S.s.set ((2 : Nat) : Int) o) a.N a.P (K + 1) X x := fun x e1 e2 e3 => ⟨l1, hv, h.hc.ok, e2, e1, e3, rg, by omega, by omega, by omega⟩
 refine ⟨hb.1, hb.2, ?_, ?_⟩
 · rcases l5 with e | e
   · exact .inl (one r (e.trans h.hc.rt) h.hc.snd h.hc.rlt)
   · exact .inr (one o.toNat (by rw [e]; omega) hs (by omega))
 · rcases Nv.set_ok (s := S.s) (k := 2) (by decide) h.live o with ⟨e0, r0, d0⟩ | q
   · refine .inl ⟨e0, ⟨one o.toNat (by rw [r0]; omega) hs (by omega), d0, h.num, h.ct, h.cn, h.cb, fun q hq => ?_, fun q (hq : q < S.ct.n) => (by have := h.cm q hq; omega : S.ct.c q ≤ 14 * (K + 1)), by have := h.p; dsimp only; omega, fun q => (congrArg leftT (tb_far (.inl (by decide)) h.hc.lg.g.pp)).trans (h.wl (q.imp id fun k e => k (l2.trans e)))⟩, l2⟩
     show (S.s.set ((2 : Nat) : Int) o).rg (19 + q) = _
     rw [l6 (19 + q) (by omega)]
     exact h.kp q hq
   · exact .inr q
theorem hsetr_is {w : World} {a : Ha} {S : Hs} {K : Nat} {X : List Int} {r : Nat} (o : Int) (hp : Hp w a S) (h : HI a S K X r) (hK : K < 1000) :
 Calls Tryz.prog 115 #[.pointer (some ⟨a.z, 0, none⟩), .int .i64 o] w fun e w' => ∃ t, EndI e t ∧ POut w w' a S K X r (plR X r o) False t := by
 have C1 := Lib.hid (hwords_is hp.hb h.num h.hc.lg h.live h.hc.has)
 have C3 := Lib.hid (fun w' (hb : Below w.heap.size w w') => hworn_is (hp.below hb) h.live h.hc.lg.r1)
 have hX := h.len
 have C5 := Lib.hid (fun w' v (hv : RU w' v X) => hmr_is o w' hv (by omega) h.hc.ok)
 have HH := Lib.hid (And.intro hp h)
 have HK := Lib.hid hK
 obtain ⟨pl, hpl⟩ : ∃ pl, plR X r o = pl := ⟨_, rfl⟩
 rw [hpl]
 obtain ⟨rb, hA⟩ : ∃ rb, rootB X o = rb := ⟨_, rfl⟩
 rw [hA] at C5
 cases rb with
 | false =>
   have e1 : pl = plNo X r 1 := by rw [← hpl, plR, hA, if_neg (by decide)]
   have HF := Lib.hid (fun w' (hb' : Below w.heap.size w w') => pout_ret (show POut w w' a S K X r pl False (some 1) from by
    have := pout_same (pl := pl) (nr := False) (K := K) (X := X) (r := r) HH.out.1 hb' (by rw [e1]; intro q; cases q)
    rwa [e1] at this ⊢))
   clear hp h hX hK hpl e1 hA C3
   generalize a.z = z at *
   go_enter Tryz.func115, Tryz.ntmps115
   go_wp2_with fail
   refine (C1.out).mono ?_; rintro e w1 ⟨⟨v, rfl, o1⟩, b1⟩
   have D1 := Lib.hid b1
   have O1 := Lib.hid o1
   obtain ⟨q, c, rfl⟩ := o1.shape
   clear o1 b1
   go_wp2_with fail
   refine (C5.out _ _ O1.out.ru).mono ?_; rintro e w3 ⟨rfl, b3⟩
   have D3 := Lib.hid (below_more D1.out b3)
   clear b3
   go_wp2_with fail
   go_ret
   exact HF.out _ D3.out
 | true =>
 have e1 : pl = ⟨0, 0, [], true, X, o.toNat, [], false⟩ := by rw [← hpl, plR, hA, if_pos rfl]
 obtain ⟨b, hb⟩ : ∃ b, S.worn = b := ⟨_, rfl⟩
 rw [hb] at C3
 cases b with
 | true =>
   have HF := Lib.hid (fun w' (hb' : Below w.heap.size w w') => pout_ret (show POut w w' a S K X r pl False (some 3) from pout_worn HH.out.1 hb' (by rw [e1]) hb))
   clear hp h hX hK hpl e1 hA hb
   generalize a.z = z at *
   go_enter Tryz.func115, Tryz.ntmps115
   go_wp2_with fail
   refine (C1.out).mono ?_; rintro e w1 ⟨⟨v, rfl, o1⟩, b1⟩
   have D1 := Lib.hid b1
   have O1 := Lib.hid o1
   obtain ⟨q, c, rfl⟩ := o1.shape
   clear o1 b1
   go_wp2_with fail
   refine (C5.out _ _ O1.out.ru).mono ?_; rintro e w3 ⟨rfl, b3⟩
   have D3 := Lib.hid (below_more D1.out b3)
   clear b3
   go_wp2_with fail
   refine (C3.out _ D3.out).mono ?_; rintro e w2 ⟨rfl, rfl⟩
   go_wp2_with fail
   go_ret
   exact HF.out _ D3.out
 | false =>
   obtain ⟨o0, o5, hcs, hout⟩ := h.root hK hA
   have CS := Lib.hid (fun w' (hb' : Below w.heap.size w w') => set_any a.g S.s ((2 : Nat) : Int) o w' (hp.below hb').hb.lg.nm h.hc.lg.g.ok (by have := h.hc.c; have := h.hc.K; omega))
   have HF := Lib.hid (fun w' w2 (hb' : Below w.heap.size w w') (hN : Nm w2 a.g (S.s.set ((2 : Nat) : Int) o)) (hc : Chg [a.g] w' w2) => pout_ret (show POut w w2 a S K X r pl False (some (S.s.setE ((2 : Nat) : Int))) from by
    refine ⟨_, (HH.out.1.below hb').set hc hN, (Chg.of_below hb' _).trans (hc.mono fun x hx => by rw [List.mem_singleton.1 hx]; simp [Ha.D]), S.s.set_la _ _, S.s.set_comes _ _, S.s.set_n _ _, ?_⟩
    rw [e1]
    rcases hout with ⟨h0, h1, h2⟩ | ⟨h0, h1⟩
    · rw [h0]
      refine .inr (.inr (.inl ⟨rfl, rfl, rfl, hb, h1, rfl, rfl, fun F => ⟨(set_go F (k := 2) (by decide) o).2, h2.trans (worn_no hb).2⟩⟩))
    · rw [h0]
      exact .inr (.inr (.inr (.inr ⟨.inl rfl, rfl, rfl, hb, h1, hcs⟩)))))
   have c0 := fun w' (hb' : Below w.heap.size w w') => (hp.below hb').hb.c0
   have HC0 := Lib.hid c0
   have j1 : IntKind.u64.wrap o = o := u64_same (by omega) (by omega)
   generalize S.s.setE ((2 : Nat) : Int) = se at *
   generalize S.s.set ((2 : Nat) : Int) o = s2 at *
   clear hp h hX hK hpl e1 hA hb hcs hout c0
   generalize a.z = z at *
   generalize a.g = g at *
   go_enter Tryz.func115, Tryz.ntmps115
   go_wp2_with fail
   refine (C1.out).mono ?_; rintro e w1 ⟨⟨v, rfl, o1⟩, b1⟩
   have D1 := Lib.hid b1
   have O1 := Lib.hid o1
   obtain ⟨q, c, rfl⟩ := o1.shape
   clear o1 b1
   go_wp2_with fail
   refine (C5.out _ _ O1.out.ru).mono ?_; rintro e w3 ⟨rfl, b3⟩
   have D3 := Lib.hid (below_more D1.out b3)
   clear b3
   go_wp2_with fail
   refine (C3.out _ D3.out).mono ?_; rintro e w2 ⟨rfl, rfl⟩
   have cc := HC0.out _ D3.out
   go_wp2_with fail
   refine (CS.out _ D3.out).mono ?_; rintro e w4 ⟨rfl, q3, q4⟩
   have G := Lib.hid (HF.out _ _ D3.out q3 q4)
   clear q3 q4
   go_wp2_with fail
   go_ret
   exact G.out
structure Px where
 d : Int
 o : Int
 nn : Int
 msk : Int
 v : Value
 bl : List Int
instance : Inhabited Px := ⟨⟨0, 0, 0, 0, .slice none 0 0, []⟩⟩
def Px.cells (x : Px) : List Value := [.int .i64 x.d, .int .i64 x.o, .int .i64 x.nn, .int .i64 x.msk, x.v]
def pxc (x : Px) : Array Value := x.cells.toArray
structure Px.Wf (W : World) (x : Px) : Prop where
 wd : (Lit.int .i64 x.d).wf = true
 wo : (Lit.int .i64 x.o).wf = true
 wn : (Lit.int .i64 x.nn).wf = true
 wm : (Lit.int .i64 x.msk).wf = true
 one : x.v.oneCell' = true
 rv : RA byE W x.v x.bl
theorem cells_hop : Tryz.prog.cellsOf 37 = 5 := by kernel_rfl
theorem cells_int_h : Tryz.prog.cellsOf 3 = 1 := by kernel_rfl
theorem cells_bs_h : Tryz.prog.cellsOf 35 = 1 := by kernel_rfl
theorem info_hop : (Tryz.prog.info? 37).map (·.size) = some 5 := by kernel_rfl
theorem trod_five {H : Type} {enc : TypeId × Value → H} {P : Program} {w : World} {base : Nat} {spare : Nat → Bool} {held : Bool} {t : TypeId} {f0 f1 f2 f3 f4 : Field} {fuel : Nat} {cs : List Value} {x : DataW H × List MemPlace}
 (ht : P.underlying t = some (.struct #[f0, f1, f2, f3, f4])) (h : DataW.trod enc P w base spare held fuel t cs = some x) :
 ∃ y0 y1 y2 y3 y4 n, cs.length = P.cellsOf t ∧ DataW.trod enc P w base spare held n f0.type ((cs.drop f0.offset).take (P.cellsOf f0.type)) = some y0 ∧
  DataW.trod enc P w base spare held n f1.type ((cs.drop f1.offset).take (P.cellsOf f1.type)) = some y1 ∧ DataW.trod enc P w base spare held n f2.type ((cs.drop f2.offset).take (P.cellsOf f2.type)) = some y2 ∧
  DataW.trod enc P w base spare held n f3.type ((cs.drop f3.offset).take (P.cellsOf f3.type)) = some y3 ∧ DataW.trod enc P w base spare held n f4.type ((cs.drop f4.offset).take (P.cellsOf f4.type)) = some y4 := by
 obtain ⟨xs, n, _, rfl, hl, hlen, hf⟩ := DataW.trod_struct ht h
 match xs, hlen with
 | [y0, y1, y2, y3, y4], _ => exact ⟨y0, y1, y2, y3, y4, n, hl, by simpa using hf 0 f0 rfl, by simpa using hf 1 f1 rfl, by simpa using hf 2 f2 rfl, by simpa using hf 3 f3 rfl, by simpa using hf 4 f4 rfl⟩
theorem byte_elh {H : Type} {enc : TypeId × Value → H} {W : World} {base n : Nat} {sp : Nat → Bool} {held : Bool} {c : List Value} {y : DataW H × List MemPlace} (hy : DataW.trod enc Tryz.prog W base sp held n 5 c = some y) : ∃ a, c = byE.enc a ∧ byE.ok a := by
 obtain ⟨i, e0, _, w0⟩ := DataW.trod_int Tryz.underlying5 hy
 refine ⟨i, e0, ?_⟩
 have : 0 ≤ i ∧ i ≤ 255 := by simpa [Lit.wf, IntKind.min, IntKind.max, IntKind.signed, IntKind.bits] using w0
 show By i
 unfold By; omega
theorem hop_cells {H : Type} {enc : TypeId × Value → H} {W : World} {n : Nat} {sp : Nat → Bool} {held : Bool} {cs : List Value} {y : DataW H × List MemPlace}
 (h : DataW.trod enc Tryz.prog W 0 sp held n 37 cs = some y) : ∃ c : Px, cs = c.cells ∧ c.Wf W := by
 obtain ⟨y0, y1, y2, y3, y4, k, hl, g0, g1, g2, g3, g4⟩ := trod_five Tryz.underlying37 h
 rw [cells_hop] at hl
 dsimp only at g0 g1 g2 g3 g4
 rw [cells_int_h] at g0 g1 g2 g3
 rw [cells_bs_h] at g4
 obtain ⟨d, e0, _, w0⟩ := DataW.trod_int Tryz.underlying3 g0
 obtain ⟨o, e1, _, w1⟩ := DataW.trod_int Tryz.underlying3 g1
 obtain ⟨i, e2, _, w2⟩ := DataW.trod_int Tryz.underlying3 g2
 obtain ⟨m, e3, _, w3⟩ := DataW.trod_int Tryz.underlying3 g3
 obtain ⟨u, l, e4, hr⟩ := elems_in byE g4 (fun _ _ _ hy _ => byte_elh hy)
 obtain ⟨q, c, eu, _⟩ := ra_shape hr
 refine ⟨⟨d, o, i, m, u, l⟩, ?_, ⟨w0, w1, w2, w3, by rw [eu]; rfl, hr⟩⟩
 match cs, hl with
 | [c0, c1, c2, c3, c4], _ =>
   simp at e0 e1 e2 e3 e4
   simp [Px.cells, e0, e1, e2, e3, e4]
theorem hop_in {H : Type} {enc : TypeId × Value → H} {W : World} {base : Nat} {v : Value} {d : DataW H} {p : List MemPlace}
 (hval : Value.okWide Tryz.prog W .any base 37 v) (h : DataW.Trod enc Tryz.prog W 0 (fun _ => true) true 37 v d p) : ∃ c : Px, v = .agg (pxc c) ∧ c.Wf W := by
 obtain ⟨cs, rfl, hsz, _⟩ : ∃ cs, v = .agg cs ∧ cs.size = Tryz.prog.cellsOf 37 ∧ Row.okWide Tryz.prog W .any base 37 cs := by
  simpa [Value.okWide, Tryz.underlying37] using hval
 obtain ⟨fuel, hf⟩ := h
 obtain ⟨c, hc, hw⟩ := hop_cells hf
 refine ⟨c, ?_, hw⟩
 have : cs.toList = c.cells := by simpa [Value.cells] using hc
 rw [pxc, ← this]
def opE (W : World) : Elm Tryz.prog Px where
 t := 25
 e := 37
 size := 5
 bytes := 56
 z := .agg #[.int .i64 0, .int .i64 0, .int .i64 0, .int .i64 0, .slice none 0 0]
 enc := Px.cells
 ok := Px.Wf W
 ht := Tryz.underlying25
 hi := by kernel_rfl
 hzs := rfl
 pos := by decide
 bpos := by decide
 len := fun _ _ => rfl
 one := fun a ha u hu => by
  simp only [Px.cells, List.mem_cons, List.not_mem_nil, or_false] at hu
  rcases hu with rfl | rfl | rfl | rfl | rfl
  · rfl
  · rfl
  · rfl
  · rfl
  · exact ha.one
theorem hops_in {H : Type} {enc : TypeId × Value → H} {W : World} {base : Nat} {v : Value} {d : DataW H} {p : List MemPlace}
 (hval : Value.okWide Tryz.prog W .any base 25 v) (h : DataW.Trod enc Tryz.prog W 0 (fun _ => true) true 25 v d p) : ∃ l : List Px, RA (opE W) W v l := by
 obtain ⟨va, vl, vc, rfl⟩ := okWide_slice Tryz.underlying25 hval
 obtain ⟨fuel, hf⟩ := h
 obtain ⟨u, l, e, hr⟩ := elems_in (opE W) hf (fun _ _ _ hy _ => hop_cells hy)
 have e' : Value.slice va vl vc = u := by simpa [Value.cells] using e
 exact ⟨l, by rw [e']; exact hr⟩
@[go_sem] theorem pxc_ne (x : Px) : (pxc x = #[]) = False := by simp [pxc, Px.cells]
theorem pxc_size (x : Px) : (pxc x).size = 5 := rfl
def Pxv (w : World) (g : Nat) (x : Px) : Prop := Whole w g 37 (pxc x)
section
variable {w w' : World} {g : Nat} {x : Px}
theorem Pxv.below (h : Pxv w g x) (hb : Below w.heap.size w w') : Pxv w' g x := (hb.block g (Whole.lt h)).trans h
theorem Pxv.chg {D : List Nat} (h : Pxv w g x) (hb : Chg D w w') (hg : g ∉ D) : Pxv w' g x := hb.whole h hg
theorem Pxv.new (w : World) (x : Px) : Pxv (w.alloc (.cells (pxc x) 37)) w.heap.size x := heap_alloc_new w _
theorem Pxv.c0 (h : Pxv w g x) : w.cell? ⟨g, 0, none⟩ = some (.int .i64 x.d) := Whole.at_ h 0
theorem Pxv.c1 (h : Pxv w g x) : w.cell? ⟨g, 1, none⟩ = some (.int .i64 x.o) := Whole.at_ h 1
theorem Pxv.c2 (h : Pxv w g x) : w.cell? ⟨g, 2, none⟩ = some (.int .i64 x.nn) := Whole.at_ h 2
theorem Pxv.c4 (h : Pxv w g x) : w.cell? ⟨g, 4, none⟩ = some x.v := Whole.at_ h 4
end
def pxLoad (p : Value) : Sem Value := Instr.loadAt 37 p
def pxStore (p v : Value) : Sem Unit := Instr.storeAt 37 p v
@[go_sem ↓] theorem loadAt_px (p : Value) : Instr.loadAt 37 p = pxLoad p := rfl
@[go_sem ↓] theorem storeAt_px (p v : Value) : Instr.storeAt 37 p v = pxStore p v := rfl
theorem run_pxLoad {w : World} {b o : Nat} {c : Px} (h : w.rangeAt b o c.cells) : (pxLoad (.pointer (some ⟨b, o, none⟩))).run Tryz.prog w = .ok (.agg (pxc c)) w :=
 run_loadAt_mid (P := Tryz.prog) w b o 37 c.cells _ h Tryz.underlying37 rfl info_hop
theorem run_pxStore (w : World) {z : Array Value} (hz : z.size = 5) (c : Px) (h1 : c.v.oneCell' = true) :
 (pxStore (.pointer (some ⟨w.heap.size, 0, none⟩)) (.agg (pxc c))).run Tryz.prog (w.alloc (.cells z 37)) = .ok () (w.alloc (.cells (pxc c) 37)) := by
 unfold pxStore
 simp only [Instr.storeAt, Instr.sureAddr, Sem.run_bind, Sem.run_pure, Result.andThen]
 rw [run_storeVar_row _ _ 37 37 z (pxc c) (heap_alloc_new w _) (by rw [info_hop, pxc_size]) (by rw [hz, pxc_size]) (by simpa [pxc, Px.cells, Value.oneCell'] using h1), World.setRow_alloc_new]
theorem px_at {W w : World} {p : Option Addr} {n cap : Nat} {l : List Px} (h : RA (opE W) w (.slice p n cap) l) (h0 : 0 < l.length) :
 ∃ b off, p = some ⟨b, off, none⟩ ∧ b < w.heap.size ∧ ∀ k, k < l.length → (pxLoad (.pointer (some ⟨b, off + k * 5, none⟩))).run Tryz.prog w = .ok (.agg (pxc (l.getD k default))) w ∧ (l.getD k default).Wf W := by
 obtain ⟨b, off, e, hb, hr⟩ := ra_at h h0
 refine ⟨b, off, e, hb, fun k hk => ?_⟩
 have hk2 := hr k hk
 exact ⟨run_pxLoad hk2, (ra_ok h).at_ hk⟩
theorem px_boxed (w : World) (c : Px) (h1 : c.v.oneCell' = true) : ∃ W, w.alloc (.cells (pxc c) 37) = W ∧ (pxStore (.pointer (some ⟨w.heap.size, 0, none⟩)) (.agg (pxc c))).run Tryz.prog (w.alloc (.cells #[.int .i64 0, .int .i64 0, .int .i64 0, .int .i64 0, .slice none 0 0] 37)) = .ok () W ∧ Hid (Pxv W w.heap.size c ∧ Below w.heap.size w W) :=
 ⟨_, rfl, run_pxStore w rfl c h1, Lib.hid ⟨Pxv.new w c, bal (Below.refl _ _)⟩⟩
theorem info_ans : (Tryz.prog.info? 60).map (·.size) = some 3 := by kernel_rfl
def anc (e o : Int) (v : Value) : Array Value := #[.int .i64 e, .int .i64 o, v]
@[go_sem] theorem anc_ne (e o : Int) (v : Value) : (anc e o v = #[]) = False := by simp [anc]
def anLoad (p : Value) : Sem Value := Instr.loadAt 60 p
def anStore (p v : Value) : Sem Unit := Instr.storeAt 60 p v
@[go_sem ↓] theorem loadAt_an (p : Value) : Instr.loadAt 60 p = anLoad p := rfl
@[go_sem ↓] theorem storeAt_an (p v : Value) : Instr.storeAt 60 p v = anStore p v := rfl
def Anv (w : World) (g : Nat) (e o : Int) (v : Value) : Prop := Whole w g 60 (anc e o v)
section
variable {w w' : World} {g : Nat} {e o e' o' : Int} {v v' : Value}
theorem Anv.below (h : Anv w g e o v) (hb : Below w.heap.size w w') : Anv w' g e o v := (hb.block g (Whole.lt h)).trans h
theorem Anv.chg {D : List Nat} (h : Anv w g e o v) (hc : Chg D w w') (hg : g ∉ D) : Anv w' g e o v := hc.whole h hg
theorem Anv.new (w : World) (e o : Int) (v : Value) : Anv (w.alloc (.cells (anc e o v) 60)) w.heap.size e o v := heap_alloc_new w _
theorem Anv.c0 (h : Anv w g e o v) : w.cell? ⟨g, 0, none⟩ = some (.int .i64 e) := Whole.at_ h 0
theorem Anv.c1 (h : Anv w g e o v) : w.cell? ⟨g, 1, none⟩ = some (.int .i64 o) := Whole.at_ h 1
theorem Anv.c2 (h : Anv w g e o v) : w.cell? ⟨g, 2, none⟩ = some v := Whole.at_ h 2
theorem Anv.load (h : Anv w g e o v) : (anLoad (.pointer (some ⟨g, 0, none⟩))).run Tryz.prog w = .ok (.agg (anc e o v)) w :=
 run_loadAt_mid (P := Tryz.prog) w g 0 60 [.int .i64 e, .int .i64 o, v] _ (fun j u hj => by rw [Whole.at_ h, Nat.zero_add, ← hj]; simp [anc]) Tryz.underlying60 rfl info_ans
theorem Anv.store (h : Anv w g e o v) (h1 : v'.oneCell' = true) : (anStore (.pointer (some ⟨g, 0, none⟩)) (.agg (anc e' o' v'))).run Tryz.prog w = .ok () (w.setRow g (anc e' o' v')) := by
 unfold anStore
 simp only [Instr.storeAt, Instr.sureAddr, Sem.run_bind, Sem.run_pure, Result.andThen]
 exact run_storeVar_row w g 60 60 (anc e o v) (anc e' o' v') h (by rw [info_ans]; rfl) rfl (by have a : ∀ k i, (Value.int k i).oneCell' = true := fun _ _ => rfl; simp [anc, h1, a])
theorem Anv.put (h : Anv w g e o v) : Anv (w.setRow g (anc e' o' v')) g e' o' v' := by
 have q : w.heap[g]? = some (.cells (anc e o v) 60 (0, 0)) := h
 unfold Anv Whole
 simp [World.setRow, Array.getElem?_modify, q]
end
def anBuild (ps : Array (Nat × Value)) : Sem Value := Instr.build 60 ps
@[go_sem ↓] theorem build_an (ps : Array (Nat × Value)) : Instr.build 60 ps = anBuild ps := rfl
theorem built_an0 (e : Int) : Tryz.prog.built 60 [(0, .int .i64 e)] = some (anc e 0 (.slice none 0 0)) := by kernel_rfl
theorem built_an1 (o : Int) : Tryz.prog.built 60 [(1, .int .i64 o)] = some (anc 0 o (.slice none 0 0)) := by kernel_rfl
theorem built_an01 (e o : Int) : Tryz.prog.built 60 [(0, .int .i64 e), (1, .int .i64 o)] = some (anc e o (.slice none 0 0)) := by kernel_rfl
theorem built_an02 (e : Int) (p : Option Addr) (n c : Nat) : Tryz.prog.built 60 [(0, .int .i64 e), (2, .slice p n c)] = some (anc e 0 (.slice p n c)) := by kernel_rfl
@[go_sem] theorem run_anBuild0 (w : World) (e : Int) : (anBuild #[(0, .int .i64 e)]).run Tryz.prog w = .ok (.agg (anc e 0 (.slice none 0 0))) w := run_build w _ _ _ (built_an0 e)
@[go_sem] theorem run_anBuild1 (w : World) (o : Int) : (anBuild #[(1, .int .i64 o)]).run Tryz.prog w = .ok (.agg (anc 0 o (.slice none 0 0))) w := run_build w _ _ _ (built_an1 o)
@[go_sem] theorem run_anBuild01 (w : World) (e o : Int) : (anBuild #[(0, .int .i64 e), (1, .int .i64 o)]).run Tryz.prog w = .ok (.agg (anc e o (.slice none 0 0))) w := run_build w _ _ _ (built_an01 e o)
@[go_sem] theorem run_anBuild02 (w : World) (e : Int) (p : Option Addr) (n c : Nat) : (anBuild #[(0, .int .i64 e), (2, .slice p n c)]).run Tryz.prog w = .ok (.agg (anc e 0 (.slice p n c))) w := run_build w _ _ _ (built_an02 e p n c)
theorem POut.nr {w w' : World} {a : Ha} {S : Hs} {K : Nat} {X : List Int} {r : Nat} {pl : Aim} {A B : Prop} {t : Option Int} (h : POut w w' a S K X r pl A t) (hab : A → B) : POut w w' a S K X r pl B t := by
 obtain ⟨S', g1, g2, g3, g4, g5, h⟩ := h
 refine ⟨S', g1, g2, g3, g4, g5, ?_⟩
 rcases h with h | h | h | ⟨q1, q2, q3, q4, q5, q⟩ | h
 · exact .inl h
 · exact .inr (.inl h)
 · exact .inr (.inr (.inl h))
 · exact .inr (.inr (.inr (.inl ⟨q1, q2, q3, q4, hab q5, q⟩)))
 · exact .inr (.inr (.inr (.inr h)))
theorem POut.from_below {w w0 w' : World} {a : Ha} {S : Hs} {K : Nat} {X : List Int} {r : Nat} {pl : Aim} {A : Prop} {t : Option Int} (hb : Below w.heap.size w w0) (h : POut w0 w' a S K X r pl A t) : POut w w' a S K X r pl A t := by
 obtain ⟨S', g1, g2, h⟩ := h
 exact ⟨S', g1, (Chg.of_below hb _).trans g2, h⟩
theorem POut.row {w w1 : World} {a : Ha} {S : Hs} {K : Nat} {X : List Int} {r : Nat} {pl : Aim} {A : Prop} {t : Option Int} (h : POut w w1 a S K X r pl A t) (hp : Hp w a S) {g : Nat} (hg : w.heap.size ≤ g) (c : Array Value) : POut w (w1.setRow g c) a S K X r pl A t := by
 obtain ⟨S', g1, g2, h⟩ := h
 have hc : Chg [g] w1 (w1.setRow g c) := (Chg.refl _ _).setRow (.inl (List.mem_singleton.2 rfl)) c
 have hne : ∀ k, k < w.heap.size → k ∉ [g] := fun k hk q => by rw [List.mem_singleton.1 q] at hk; omega
 exact ⟨S', g1.chg hc (hne _ hp.hb.lt) (hne _ hp.hb.lg.nm.lt) (hne _ (Whole.lt hp.hb.lg.tq)) (hne _ (Whole.lt hp.hb.lg.lq)) (hne _ hp.hb.lg.xlt) (hne _ hp.cq.ltx) (hne _ hp.cq.ltg), g2.setRow (.inr hg) c, h⟩
theorem POut.keep {w w1 : World} {a : Ha} {S : Hs} {K : Nat} {X : List Int} {r : Nat} {pl : Aim} {A : Prop} {t : Option Int} (h : POut w w1 a S K X r pl A t) : Chg a.D w w1 := by
 obtain ⟨S', g1, g2, h⟩ := h
 exact g2
def tld (pl : Aim) (x : Int) : Int × List Int := if x = pl.e then (pl.off, pl.data) else (0, [])
def AnsE (e : Ending) (B : Nat) (w' : World) (pl : Aim) : Option Int → Prop
 | some x => ∃ v, e = .returned (.agg (anc x (tld pl x).1 v)) ∧ OwnA byE B w' v (tld pl x).2
 | none => Dies e
def ActOut (w w' : World) (a : Ha) (S : Hs) (K : Nat) (X : List Int) (r : Nat) (x : Px) (e : Ending) : Prop :=
 ∃ pl t, PlanOf X r S.ct.ints x.d x.o x.nn x.bl pl ∧ AnsE e w.heap.size w' pl t ∧ POut w w' a S K X r pl (x.d ≠ 5) t
theorem act_plain {w w' : World} {a : Ha} {S : Hs} {K : Nat} {X : List Int} {r : Nat} {x : Px} {pl : Aim} {er : Int} (hP : PlanOf X r S.ct.ints x.d x.o x.nn x.bl pl) (h : POut w w' a S K X r pl (x.d ≠ 5) (some er)) (h0 : pl.off = 0) (h1 : pl.data = []) : ActOut w w' a S K X r x (.returned (.agg (anc er 0 (.slice none 0 0)))) := by
 refine ⟨pl, some er, hP, ⟨.slice none 0 0, ?_, ?_⟩, h⟩
 · unfold tld; split
   · rw [h0]
   · rfl
 · unfold tld; split
   · rw [h1]; exact own_nil_a _ _ _
   · exact own_nil_a _ _ _
theorem act_dies {w w' : World} {a : Ha} {S : Hs} {K : Nat} {X : List Int} {r : Nat} {x : Px} {pl : Aim} {e : Ending} (hP : PlanOf X r S.ct.ints x.d x.o x.nn x.bl pl) (h : POut w w' a S K X r pl (x.d ≠ 5) none) (hd : Dies e) : ActOut w w' a S K X r x e := ⟨pl, none, hP, hd, h⟩
theorem plA_off (X : List Int) (r : Nat) (cs : List Int) (n : Int) : (plA X r cs n).data = [] ∧ ((plA X r cs n).e ≠ 0 → (plA X r cs n).off = 0) := by
 unfold plA plNo
 split
 · exact ⟨rfl, fun _ => rfl⟩
 · split
   · exact ⟨rfl, fun q => absurd rfl q⟩
   · exact ⟨rfl, fun _ => rfl⟩
theorem pout_zero {w w' : World} {a : Ha} {S : Hs} {K : Nat} {X : List Int} {r : Nat} {pl : Aim} {A : Prop} (h : POut w w' a S K X r pl A (some 0)) : pl.e = 0 := by
 obtain ⟨S', g1, g2, g3, g4, g5, h⟩ := h
 rcases h with ⟨q, _⟩ | ⟨q, _⟩ | ⟨_, _, q, _⟩ | ⟨q, _⟩ | ⟨q | q, _⟩
 · cases q
 · exact (Option.some.inj q).symm
 · exact q
 · cases q
 · cases q
 · cases q
theorem tldA {w w' : World} {a : Ha} {S : Hs} {K : Nat} {X : List Int} {r : Nat} {n : Int} {A : Prop} {y : Int} (h : POut w w' a S K X r (plA X r S.ct.ints n) A (some y)) : tld (plA X r S.ct.ints n) y = (if y = 0 then (plA X r S.ct.ints n).off else 0, []) := by
 obtain ⟨h1, h2⟩ := plA_off X r S.ct.ints n
 unfold tld
 rw [h1]
 by_cases hy : y = 0
 · subst hy
   rw [pout_zero h, if_pos rfl, if_pos rfl]
 · rw [if_neg hy]
   split
   · rename_i q
     rw [h2 (by omega)]
   · rfl
theorem planA {X : List Int} {r : Nat} {cs : List Int} {o n : Int} {bl : List Int} : PlanOf X r cs 1 o n bl (plA X r cs n) := by unfold PlanOf; rw [if_pos rfl]
theorem planF {X : List Int} {r : Nat} {cs : List Int} {o n : Int} {bl : List Int} : PlanOf X r cs 2 o n bl (plF X r o) := by unfold PlanOf; simp
theorem planD {X : List Int} {r : Nat} {cs : List Int} {o n : Int} {bl : List Int} : PlanOf X r cs 3 o n bl (plD X r o n) := by unfold PlanOf; simp
theorem planW {X : List Int} {r : Nat} {cs : List Int} {o n : Int} {bl : List Int} {M : List Ed} (h : WrT X bl o M) : PlanOf X r cs 4 o n bl (plW X r o bl M) := by unfold PlanOf; simp; exact ⟨M, h, rfl⟩
theorem planR {X : List Int} {r : Nat} {cs : List Int} {o n : Int} {bl : List Int} : PlanOf X r cs 5 o n bl (plR X r o) := by unfold PlanOf; simp
theorem planG {X : List Int} {r : Nat} {cs : List Int} {o n : Int} {bl : List Int} : PlanOf X r cs 6 o n bl (plG X r) := by unfold PlanOf; simp
theorem planE {X : List Int} {r : Nat} {cs : List Int} {d o n : Int} {bl : List Int} (h : ¬ (1 ≤ d ∧ d ≤ 6)) : PlanOf X r cs d o n bl (plNo X r 1) := by
 unfold PlanOf
 rw [if_neg (by omega), if_neg (by omega), if_neg (by omega), if_neg (by omega), if_neg (by omega), if_neg (by omega)]
theorem plF_z (X : List Int) (r : Nat) (o : Int) : (plF X r o).off = 0 ∧ (plF X r o).data = [] := by
 unfold plF plNo; split
 · exact ⟨rfl, rfl⟩
 · split <;> exact ⟨rfl, rfl⟩
theorem plW_z (X : List Int) (r : Nat) (o : Int) (bl : List Int) (M : List Ed) : (plW X r o bl M).off = 0 ∧ (plW X r o bl M).data = [] := by
 unfold plW plNo; split <;> exact ⟨rfl, rfl⟩
theorem plR_z (X : List Int) (r : Nat) (o : Int) : (plR X r o).off = 0 ∧ (plR X r o).data = [] := by
 unfold plR plNo; split <;> exact ⟨rfl, rfl⟩
theorem act_var {w W w1 : World} {a : Ha} {S : Hs} {K : Nat} {X : List Int} {r : Nat} {pl : Aim} {A : Prop} {t : Option Int} {g : Nat} (hp : Hp w a S) (hb : Below w.heap.size w W) (hA : Anv W g 0 0 (.slice none 0 0)) (hg : w.heap.size ≤ g) (h : POut W w1 a S K X r pl A t) :
 Anv w1 g 0 0 (.slice none 0 0) ∧ ∀ c, POut w (w1.setRow g c) a S K X r pl A t := by
 refine ⟨hA.chg h.keep fun q => ?_, fun c => (h.from_below hb).row hp hg c⟩
 have h1 := hp.hb.lt
 have h2 := hp.hb.lg.nm.lt
 have h3 := Whole.lt hp.hb.lg.tq
 have h4 := hp.cq.ltg
 simp [Ha.D] at q
 omega
theorem hact2 {w : World} {a : Ha} {S : Hs} {K : Nat} {X : List Int} {r : Nat} (x : Px) (hp : Hp w a S) (h : HI a S K X r) (hK : K < 1000) (hv : RA byE w x.v x.bl) (_hbl : x.bl.length ≤ 100000) (_ho : -9223372036854775808 ≤ x.o ∧ x.o ≤ 9223372036854775807) (_hn : -9223372036854775808 ≤ x.nn ∧ x.nn ≤ 9223372036854775807) (hd : x.d = 2) :
 Calls Tryz.prog 71 #[.pointer (some ⟨a.z, 0, none⟩), .agg (pxc x)] w fun e w' => ActOut w w' a S K X r x e := by
 obtain ⟨W0, hW0⟩ : ∃ W0, w.alloc (.cells (pxc x) 37) = W0 := ⟨_, rfl⟩
 obtain ⟨W, hW⟩ : ∃ W, W0.alloc (.cells #[.int .i64 0, .int .i64 0, .slice none 0 0] 60) = W := ⟨_, rfl⟩
 have hs0 : W0.heap.size = w.heap.size + 1 := by rw [← hW0, size_alloc]
 have HB : Below w.heap.size w W := by rw [← hW, ← hW0]; exact bal (bal (Below.refl _ _))
 have HP : Pxv W w.heap.size x := by
  have := (Pxv.new w x).below (bal (o := .cells #[.int .i64 0, .int .i64 0, .slice none 0 0] 60) (Below.refl _ _))
  rw [← hW, ← hW0]; exact this
 have HA : Anv W (w.heap.size + 1) 0 0 (.slice none 0 0) := by
  have := Anv.new W0 0 0 (.slice none 0 0)
  rw [← hs0, ← hW]; exact this
 have HWp := hp.below HB
 have HWv := ra_below hv HB
 have c0 := HP.c0
 have c1 := HP.c1
 have AV := Lib.hid (fun w1 pl A t (q : POut W w1 a S K X r pl A t) => act_var hp HB HA (Nat.le_succ _) q)
 have C := Lib.hid (hfree_is x.o HWp h hK)
 have HPl : PlanOf X r S.ct.ints x.d x.o x.nn x.bl (plF X r x.o) := by rw [hd]; exact planF
 have HF := Lib.hid (fun w1 y (q : POut W w1 a S K X r (plF X r x.o) True (some y)) => (show Anv w1 (w.heap.size + 1) 0 0 (.slice none 0 0) ∧ ∀ c, ActOut w (w1.setRow (w.heap.size + 1) c) a S K X r x (.returned (.agg (anc y 0 (.slice none 0 0)))) from by
  obtain ⟨q1, q2⟩ := AV.out _ _ _ _ q
  exact ⟨q1, fun c => act_plain HPl ((q2 c).nr (fun _ => (by rw [hd]; decide))) (plF_z X r x.o).1 (plF_z X r x.o).2⟩))
 have HD := Lib.hid (fun w1 e (hde : Dies e) (q : POut W w1 a S K X r (plF X r x.o) True none) => act_dies (x := x) HPl ((q.from_below HB).nr (fun _ => (by rw [hd]; decide))) hde)
 rw [hd] at c0
 clear hp h hK hv _hbl _ho _hn hd HPl HA HP HWp HWv AV HB
 generalize a.z = z at *
 generalize x.o = xo at *
 generalize x.nn = xn at *
 go_enter Tryz.func71, Tryz.ntmps71
 go_wp2_with fail
 refine (C.out).mono ?_; rintro e w1 ⟨t, hE, hP⟩
 cases t with
 | none =>
   obtain ⟨u, pv, rfl⟩ := hE
   have G := Lib.hid (HD.out _ _ ⟨u, pv, rfl⟩ hP)
   clear hP
   go_wp2
   exact ⟨rfl, G.out⟩
 | some y =>
   obtain rfl := hE
   obtain ⟨g1, g2⟩ := HF.out _ _ hP
   have G := Lib.hid (g2 (anc y 0 (.slice none 0 0)))
   clear hP g2
   have hst := g1.store (e' := y) (o' := 0) (v' := .slice none 0 0) rfl
   have AP := Lib.hid (g1.put (e' := y) (o' := 0) (v' := .slice none 0 0))
   clear g1
   obtain ⟨V, hV⟩ : ∃ V, w1.setRow (w.heap.size + 1) (anc y 0 (.slice none 0 0)) = V := ⟨_, rfl⟩
   rw [hV] at hst AP G
   go_wp2
   exact bodyPost_ret (v := .agg (anc y 0 (.slice none 0 0))) (results_cell_row rfl _ _ _ _ _ _ _ rfl AP.out Tryz.underlying60 rfl (by rw [info_ans]; rfl)) rfl G.out
theorem hact5 {w : World} {a : Ha} {S : Hs} {K : Nat} {X : List Int} {r : Nat} (x : Px) (hp : Hp w a S) (h : HI a S K X r) (hK : K < 1000) (hv : RA byE w x.v x.bl) (_hbl : x.bl.length ≤ 100000) (_ho : -9223372036854775808 ≤ x.o ∧ x.o ≤ 9223372036854775807) (_hn : -9223372036854775808 ≤ x.nn ∧ x.nn ≤ 9223372036854775807) (hd : x.d = 5) :
 Calls Tryz.prog 71 #[.pointer (some ⟨a.z, 0, none⟩), .agg (pxc x)] w fun e w' => ActOut w w' a S K X r x e := by
 obtain ⟨W0, hW0⟩ : ∃ W0, w.alloc (.cells (pxc x) 37) = W0 := ⟨_, rfl⟩
 obtain ⟨W, hW⟩ : ∃ W, W0.alloc (.cells #[.int .i64 0, .int .i64 0, .slice none 0 0] 60) = W := ⟨_, rfl⟩
 have hs0 : W0.heap.size = w.heap.size + 1 := by rw [← hW0, size_alloc]
 have HB : Below w.heap.size w W := by rw [← hW, ← hW0]; exact bal (bal (Below.refl _ _))
 have HP : Pxv W w.heap.size x := by
  have := (Pxv.new w x).below (bal (o := .cells #[.int .i64 0, .int .i64 0, .slice none 0 0] 60) (Below.refl _ _))
  rw [← hW, ← hW0]; exact this
 have HA : Anv W (w.heap.size + 1) 0 0 (.slice none 0 0) := by
  have := Anv.new W0 0 0 (.slice none 0 0)
  rw [← hs0, ← hW]; exact this
 have HWp := hp.below HB
 have HWv := ra_below hv HB
 have c0 := HP.c0
 have c1 := HP.c1
 have AV := Lib.hid (fun w1 pl A t (q : POut W w1 a S K X r pl A t) => act_var hp HB HA (Nat.le_succ _) q)
 have C := Lib.hid (hsetr_is x.o HWp h hK)
 have HPl : PlanOf X r S.ct.ints x.d x.o x.nn x.bl (plR X r x.o) := by rw [hd]; exact planR
 have HF := Lib.hid (fun w1 y (q : POut W w1 a S K X r (plR X r x.o) False (some y)) => (show Anv w1 (w.heap.size + 1) 0 0 (.slice none 0 0) ∧ ∀ c, ActOut w (w1.setRow (w.heap.size + 1) c) a S K X r x (.returned (.agg (anc y 0 (.slice none 0 0)))) from by
  obtain ⟨q1, q2⟩ := AV.out _ _ _ _ q
  exact ⟨q1, fun c => act_plain HPl ((q2 c).nr (fun q => q.elim)) (plR_z X r x.o).1 (plR_z X r x.o).2⟩))
 have HD := Lib.hid (fun w1 e (hde : Dies e) (q : POut W w1 a S K X r (plR X r x.o) False none) => act_dies (x := x) HPl ((q.from_below HB).nr (fun q => q.elim)) hde)
 rw [hd] at c0
 clear hp h hK hv _hbl _ho _hn hd HPl HA HP HWp HWv AV HB
 generalize a.z = z at *
 generalize x.o = xo at *
 generalize x.nn = xn at *
 go_enter Tryz.func71, Tryz.ntmps71
 go_wp2_with fail
 refine (C.out).mono ?_; rintro e w1 ⟨t, hE, hP⟩
 cases t with
 | none =>
   obtain ⟨u, pv, rfl⟩ := hE
   have G := Lib.hid (HD.out _ _ ⟨u, pv, rfl⟩ hP)
   clear hP
   go_wp2
   exact ⟨rfl, G.out⟩
 | some y =>
   obtain rfl := hE
   obtain ⟨g1, g2⟩ := HF.out _ _ hP
   have G := Lib.hid (g2 (anc y 0 (.slice none 0 0)))
   clear hP g2
   have hst := g1.store (e' := y) (o' := 0) (v' := .slice none 0 0) rfl
   have AP := Lib.hid (g1.put (e' := y) (o' := 0) (v' := .slice none 0 0))
   clear g1
   obtain ⟨V, hV⟩ : ∃ V, w1.setRow (w.heap.size + 1) (anc y 0 (.slice none 0 0)) = V := ⟨_, rfl⟩
   rw [hV] at hst AP G
   go_wp2
   exact bodyPost_ret (v := .agg (anc y 0 (.slice none 0 0))) (results_cell_row rfl _ _ _ _ _ _ _ rfl AP.out Tryz.underlying60 rfl (by rw [info_ans]; rfl)) rfl G.out
theorem hact4 {w : World} {a : Ha} {S : Hs} {K : Nat} {X : List Int} {r : Nat} (x : Px) (hp : Hp w a S) (h : HI a S K X r) (hK : K < 1000) (hv : RA byE w x.v x.bl) (hbl : x.bl.length ≤ 100000) (ho : -9223372036854775808 ≤ x.o ∧ x.o ≤ 9223372036854775807) (_hn : -9223372036854775808 ≤ x.nn ∧ x.nn ≤ 9223372036854775807) (hd : x.d = 4) :
 Calls Tryz.prog 71 #[.pointer (some ⟨a.z, 0, none⟩), .agg (pxc x)] w fun e w' => ActOut w w' a S K X r x e := by
 obtain ⟨W0, hW0⟩ : ∃ W0, w.alloc (.cells (pxc x) 37) = W0 := ⟨_, rfl⟩
 obtain ⟨W, hW⟩ : ∃ W, W0.alloc (.cells #[.int .i64 0, .int .i64 0, .slice none 0 0] 60) = W := ⟨_, rfl⟩
 have hs0 : W0.heap.size = w.heap.size + 1 := by rw [← hW0, size_alloc]
 have HB : Below w.heap.size w W := by rw [← hW, ← hW0]; exact bal (bal (Below.refl _ _))
 have HP : Pxv W w.heap.size x := by
  have := (Pxv.new w x).below (bal (o := .cells #[.int .i64 0, .int .i64 0, .slice none 0 0] 60) (Below.refl _ _))
  rw [← hW, ← hW0]; exact this
 have HA : Anv W (w.heap.size + 1) 0 0 (.slice none 0 0) := by
  have := Anv.new W0 0 0 (.slice none 0 0)
  rw [← hs0, ← hW]; exact this
 have HWp := hp.below HB
 have HWv := ra_below hv HB
 have c0 := HP.c0
 have c1 := HP.c1
 have c4 := HP.c4
 have AV := Lib.hid (fun w1 pl A t (q : POut W w1 a S K X r pl A t) => act_var hp HB HA (Nat.le_succ _) q)
 have C := Lib.hid (hwrite_is x.o HWp h hK HWv hbl ho)
 have HF := Lib.hid (fun w1 y M (hM : WrT X x.bl x.o M) (q : POut W w1 a S K X r (plW X r x.o x.bl M) True (some y)) => (show Anv w1 (w.heap.size + 1) 0 0 (.slice none 0 0) ∧ ∀ c, ActOut w (w1.setRow (w.heap.size + 1) c) a S K X r x (.returned (.agg (anc y 0 (.slice none 0 0)))) from by
  obtain ⟨q1, q2⟩ := AV.out _ _ _ _ q
  exact ⟨q1, fun c => act_plain (by rw [hd]; exact planW hM) ((q2 c).nr (fun _ => (by rw [hd]; decide))) (plW_z X r x.o x.bl M).1 (plW_z X r x.o x.bl M).2⟩))
 have HD := Lib.hid (fun w1 e M (hM : WrT X x.bl x.o M) (hde : Dies e) (q : POut W w1 a S K X r (plW X r x.o x.bl M) True none) => act_dies (x := x) (by rw [hd]; exact planW hM) ((q.from_below HB).nr (fun _ => (by rw [hd]; decide))) hde)
 rw [hd] at c0
 obtain ⟨qb, cb, hxv, _⟩ := ra_shape hv
 rw [hxv] at c4 C
 clear hp h hK hv hbl ho _hn hd HA HP HWp HWv AV HB
 generalize a.z = z at *
 generalize x.o = xo at *
 generalize x.nn = xn at *
 generalize x.bl = bl at *
 go_enter Tryz.func71, Tryz.ntmps71
 go_wp2_with fail
 refine (C.out).mono ?_; rintro e w1 ⟨M, t, hM, hE, hP⟩
 cases t with
 | none =>
   obtain ⟨u, pv, rfl⟩ := hE
   have G := Lib.hid (HD.out _ _ _ hM ⟨u, pv, rfl⟩ hP)
   clear hP
   go_wp2
   exact ⟨rfl, G.out⟩
 | some y =>
   obtain rfl := hE
   obtain ⟨g1, g2⟩ := HF.out _ _ _ hM hP
   have G := Lib.hid (g2 (anc y 0 (.slice none 0 0)))
   clear hP g2 hM
   have hst := g1.store (e' := y) (o' := 0) (v' := .slice none 0 0) rfl
   have AP := Lib.hid (g1.put (e' := y) (o' := 0) (v' := .slice none 0 0))
   clear g1
   obtain ⟨V, hV⟩ : ∃ V, w1.setRow (w.heap.size + 1) (anc y 0 (.slice none 0 0)) = V := ⟨_, rfl⟩
   rw [hV] at hst AP G
   go_wp2
   exact bodyPost_ret (v := .agg (anc y 0 (.slice none 0 0))) (results_cell_row rfl _ _ _ _ _ _ _ rfl AP.out Tryz.underlying60 rfl (by rw [info_ans]; rfl)) rfl G.out
theorem hact1 {w : World} {a : Ha} {S : Hs} {K : Nat} {X : List Int} {r : Nat} (x : Px) (hp : Hp w a S) (h : HI a S K X r) (hK : K < 1000) (hv : RA byE w x.v x.bl) (_hbl : x.bl.length ≤ 100000) (_ho : -9223372036854775808 ≤ x.o ∧ x.o ≤ 9223372036854775807) (_hn : -9223372036854775808 ≤ x.nn ∧ x.nn ≤ 9223372036854775807) (hd : x.d = 1) :
 Calls Tryz.prog 71 #[.pointer (some ⟨a.z, 0, none⟩), .agg (pxc x)] w fun e w' => ActOut w w' a S K X r x e := by
 obtain ⟨W0, hW0⟩ : ∃ W0, w.alloc (.cells (pxc x) 37) = W0 := ⟨_, rfl⟩
 obtain ⟨W, hW⟩ : ∃ W, W0.alloc (.cells #[.int .i64 0, .int .i64 0, .slice none 0 0] 60) = W := ⟨_, rfl⟩
 have hs0 : W0.heap.size = w.heap.size + 1 := by rw [← hW0, size_alloc]
 have HB : Below w.heap.size w W := by rw [← hW, ← hW0]; exact bal (bal (Below.refl _ _))
 have HP : Pxv W w.heap.size x := by
  have := (Pxv.new w x).below (bal (o := .cells #[.int .i64 0, .int .i64 0, .slice none 0 0] 60) (Below.refl _ _))
  rw [← hW, ← hW0]; exact this
 have HA : Anv W (w.heap.size + 1) 0 0 (.slice none 0 0) := by
  have := Anv.new W0 0 0 (.slice none 0 0)
  rw [← hs0, ← hW]; exact this
 have HWp := hp.below HB
 have HWv := ra_below hv HB
 have c0 := HP.c0
 have c2 := HP.c2
 have AV := Lib.hid (fun w1 pl A t (q : POut W w1 a S K X r pl A t) => act_var hp HB HA (Nat.le_succ _) q)
 have C := Lib.hid (halloc_is x.nn HWp h hK)
 have HF := Lib.hid (fun w1 y (q : POut W w1 a S K X r (plA X r S.ct.ints x.nn) True (some y)) => (show Anv w1 (w.heap.size + 1) 0 0 (.slice none 0 0) ∧ ∀ c, ActOut w (w1.setRow (w.heap.size + 1) c) a S K X r x (.returned (.agg (anc y (if y = 0 then (plA X r S.ct.ints x.nn).off else 0) (.slice none 0 0)))) from by
  obtain ⟨q1, q2⟩ := AV.out _ _ _ _ q
  refine ⟨q1, fun c => ⟨_, some y, by rw [hd]; exact planA, ⟨.slice none 0 0, ?_, ?_⟩, (q2 c).nr (fun _ => (by rw [hd]; decide))⟩⟩
  · rw [tldA q]
  · rw [tldA q]; exact own_nil_a _ _ _))
 have HD := Lib.hid (fun w1 e (hde : Dies e) (q : POut W w1 a S K X r (plA X r S.ct.ints x.nn) True none) => act_dies (x := x) (by rw [hd]; exact planA) ((q.from_below HB).nr (fun _ => (by rw [hd]; decide))) hde)
 rw [hd] at c0
 clear hp h hK hv _hbl _ho _hn hd HA HP HWp HWv AV HB
 generalize a.z = z at *
 generalize x.nn = xn at *
 go_enter Tryz.func71, Tryz.ntmps71
 go_wp2_with fail
 refine (C.out).mono ?_; rintro e w1 ⟨t, hE, hP⟩
 cases t with
 | none =>
   obtain ⟨u, pv, rfl⟩ := hE
   have G := Lib.hid (HD.out _ _ ⟨u, pv, rfl⟩ hP)
   clear hP
   go_wp2
   exact ⟨rfl, G.out⟩
 | some y =>
   obtain rfl := hE
   obtain ⟨g1, g2⟩ := HF.out _ _ hP
   generalize (if y = 0 then (plA X r S.ct.ints xn).off else 0) = of at *
   have G := Lib.hid (g2 (anc y of (.slice none 0 0)))
   clear hP g2
   have hst := g1.store (e' := y) (o' := of) (v' := .slice none 0 0) rfl
   have AP := Lib.hid (g1.put (e' := y) (o' := of) (v' := .slice none 0 0))
   clear g1
   obtain ⟨V, hV⟩ : ∃ V, w1.setRow (w.heap.size + 1) (anc y of (.slice none 0 0)) = V := ⟨_, rfl⟩
   rw [hV] at hst AP G
   go_wp2
   exact bodyPost_ret (v := .agg (anc y of (.slice none 0 0))) (results_cell_row rfl _ _ _ _ _ _ _ rfl AP.out Tryz.underlying60 rfl (by rw [info_ans]; rfl)) rfl G.out
theorem hact6 {w : World} {a : Ha} {S : Hs} {K : Nat} {X : List Int} {r : Nat} (x : Px) (hp : Hp w a S) (h : HI a S K X r) (_hK : K < 1000) (hv : RA byE w x.v x.bl) (_hbl : x.bl.length ≤ 100000) (_ho : -9223372036854775808 ≤ x.o ∧ x.o ≤ 9223372036854775807) (_hn : -9223372036854775808 ≤ x.nn ∧ x.nn ≤ 9223372036854775807) (hd : x.d = 6) :
 Calls Tryz.prog 71 #[.pointer (some ⟨a.z, 0, none⟩), .agg (pxc x)] w fun e w' => ActOut w w' a S K X r x e := by
 obtain ⟨W0, hW0⟩ : ∃ W0, w.alloc (.cells (pxc x) 37) = W0 := ⟨_, rfl⟩
 obtain ⟨W, hW⟩ : ∃ W, W0.alloc (.cells #[.int .i64 0, .int .i64 0, .slice none 0 0] 60) = W := ⟨_, rfl⟩
 have hs0 : W0.heap.size = w.heap.size + 1 := by rw [← hW0, size_alloc]
 have HB : Below w.heap.size w W := by rw [← hW, ← hW0]; exact bal (bal (Below.refl _ _))
 have HP : Pxv W w.heap.size x := by
  have := (Pxv.new w x).below (bal (o := .cells #[.int .i64 0, .int .i64 0, .slice none 0 0] 60) (Below.refl _ _))
  rw [← hW, ← hW0]; exact this
 have HA : Anv W (w.heap.size + 1) 0 0 (.slice none 0 0) := by
  have := Anv.new W0 0 0 (.slice none 0 0)
  rw [← hs0, ← hW]; exact this
 have HWp := hp.below HB
 have HWv := ra_below hv HB
 have c0 := HP.c0
 have AV := Lib.hid (fun w1 pl A t (q : POut W w1 a S K X r pl A t) => act_var hp HB HA (Nat.le_succ _) q)
 have C := Lib.hid (hreg_is (k := 2) HWp.hb h.live (by decide) h.hc.rt (by have := h.hc.rlt; omega))
 have q0 : POut W W a S K X r (plG X r) (x.d ≠ 5) (some 0) := pout_same (pl := plG X r) HWp (Below.refl _ _) (by intro q; cases q)
 obtain ⟨g1, g2⟩ := AV.out _ _ _ _ q0
 have HF := Lib.hid (fun c => (show ActOut w (W.setRow (w.heap.size + 1) c) a S K X r x (.returned (.agg (anc 0 (r : Int) (.slice none 0 0)))) from ⟨_, some 0, by rw [hd]; exact planG, ⟨.slice none 0 0, rfl, own_nil_a _ _ _⟩, g2 c⟩))
 rw [hd] at c0
 clear hp h _hK hv _hbl _ho _hn hd HA HP HWp HWv AV HB q0 g2
 generalize a.z = z at *
 generalize (r : Int) = ri at *
 go_enter Tryz.func71, Tryz.ntmps71
 go_wp2_with fail
 refine (C.out).mono ?_; rintro e w1 ⟨rfl, rfl⟩
 have G := Lib.hid (HF.out (anc 0 ri (.slice none 0 0)))
 have hst := g1.store (e' := 0) (o' := ri) (v' := .slice none 0 0) rfl
 have AP := Lib.hid (g1.put (e' := 0) (o' := ri) (v' := .slice none 0 0))
 clear g1
 obtain ⟨V, hV⟩ : ∃ V, W.setRow (w.heap.size + 1) (anc 0 ri (.slice none 0 0)) = V := ⟨_, rfl⟩
 rw [hV] at hst AP G
 go_wp2
 exact bodyPost_ret (v := .agg (anc 0 ri (.slice none 0 0))) (results_cell_row rfl _ _ _ _ _ _ _ rfl AP.out Tryz.underlying60 rfl (by rw [info_ans]; rfl)) rfl G.out
theorem hact0 {w : World} {a : Ha} {S : Hs} {K : Nat} {X : List Int} {r : Nat} (x : Px) (hp : Hp w a S) (_h : HI a S K X r) (_hK : K < 1000) (hv : RA byE w x.v x.bl) (_hbl : x.bl.length ≤ 100000) (_ho : -9223372036854775808 ≤ x.o ∧ x.o ≤ 9223372036854775807) (_hn : -9223372036854775808 ≤ x.nn ∧ x.nn ≤ 9223372036854775807) (hd : ¬ (1 ≤ x.d ∧ x.d ≤ 6)) :
 Calls Tryz.prog 71 #[.pointer (some ⟨a.z, 0, none⟩), .agg (pxc x)] w fun e w' => ActOut w w' a S K X r x e := by
 obtain ⟨W0, hW0⟩ : ∃ W0, w.alloc (.cells (pxc x) 37) = W0 := ⟨_, rfl⟩
 obtain ⟨W, hW⟩ : ∃ W, W0.alloc (.cells #[.int .i64 0, .int .i64 0, .slice none 0 0] 60) = W := ⟨_, rfl⟩
 have hs0 : W0.heap.size = w.heap.size + 1 := by rw [← hW0, size_alloc]
 have HB : Below w.heap.size w W := by rw [← hW, ← hW0]; exact bal (bal (Below.refl _ _))
 have HP : Pxv W w.heap.size x := by
  have := (Pxv.new w x).below (bal (o := .cells #[.int .i64 0, .int .i64 0, .slice none 0 0] 60) (Below.refl _ _))
  rw [← hW, ← hW0]; exact this
 have HA : Anv W (w.heap.size + 1) 0 0 (.slice none 0 0) := by
  have := Anv.new W0 0 0 (.slice none 0 0)
  rw [← hs0, ← hW]; exact this
 have HWp := hp.below HB
 have HWv := ra_below hv HB
 have c0 := HP.c0
 have AV := Lib.hid (fun w1 pl A t (q : POut W w1 a S K X r pl A t) => act_var hp HB HA (Nat.le_succ _) q)
 have q0 : POut W W a S K X r (plNo X r 1) (x.d ≠ 5) (some 1) := pout_same (pl := plNo X r 1) HWp (Below.refl _ _) (by intro q; cases q)
 obtain ⟨g1, g2⟩ := AV.out _ _ _ _ q0
 have HF := Lib.hid (fun c => act_plain (x := x) (planE hd) (g2 c) rfl rfl)
 have i1 : (x.d == 1) = false := beq_eq_false_iff_ne.2 (by omega)
 have i2 : (x.d == 2) = false := beq_eq_false_iff_ne.2 (by omega)
 have i3 : (x.d == 3) = false := beq_eq_false_iff_ne.2 (by omega)
 have i4 : (x.d == 4) = false := beq_eq_false_iff_ne.2 (by omega)
 have i5 : (x.d == 5) = false := beq_eq_false_iff_ne.2 (by omega)
 have i6 : (x.d == 6) = false := beq_eq_false_iff_ne.2 (by omega)
 clear hp _h _hK hv _hbl _ho _hn hd HA HP HWp HWv AV HB q0 g2
 generalize a.z = z at *
 generalize x.d = xd at *
 have G := Lib.hid (HF.out (anc 1 0 (.slice none 0 0)))
 have hst := g1.store (e' := 1) (o' := 0) (v' := .slice none 0 0) rfl
 have AP := Lib.hid (g1.put (e' := 1) (o' := 0) (v' := .slice none 0 0))
 clear g1
 obtain ⟨V, hV⟩ : ∃ V, W.setRow (w.heap.size + 1) (anc 1 0 (.slice none 0 0)) = V := ⟨_, rfl⟩
 rw [hV] at hst AP G
 go_enter Tryz.func71, Tryz.ntmps71
 go_wp2
 exact bodyPost_ret (v := .agg (anc 1 0 (.slice none 0 0))) (results_cell_row rfl _ _ _ _ _ _ _ rfl AP.out Tryz.underlying60 rfl (by rw [info_ans]; rfl)) rfl G.out
theorem hact3 {w : World} {a : Ha} {S : Hs} {K : Nat} {X : List Int} {r : Nat} (x : Px) (hp : Hp w a S) (h : HI a S K X r) (_hK : K < 1000) (hv : RA byE w x.v x.bl) (_hbl : x.bl.length ≤ 100000) (_ho : -9223372036854775808 ≤ x.o ∧ x.o ≤ 9223372036854775807) (hn : -9223372036854775808 ≤ x.nn ∧ x.nn ≤ 9223372036854775807) (hd : x.d = 3) :
 Calls Tryz.prog 71 #[.pointer (some ⟨a.z, 0, none⟩), .agg (pxc x)] w fun e w' => ActOut w w' a S K X r x e := by
 obtain ⟨W0, hW0⟩ : ∃ W0, w.alloc (.cells (pxc x) 37) = W0 := ⟨_, rfl⟩
 obtain ⟨W, hW⟩ : ∃ W, W0.alloc (.cells #[.int .i64 0, .int .i64 0, .slice none 0 0] 60) = W := ⟨_, rfl⟩
 have hs0 : W0.heap.size = w.heap.size + 1 := by rw [← hW0, size_alloc]
 have HB : Below w.heap.size w W := by rw [← hW, ← hW0]; exact bal (bal (Below.refl _ _))
 have HP : Pxv W w.heap.size x := by
  have := (Pxv.new w x).below (bal (o := .cells #[.int .i64 0, .int .i64 0, .slice none 0 0] 60) (Below.refl _ _))
  rw [← hW, ← hW0]; exact this
 have HA : Anv W (w.heap.size + 1) 0 0 (.slice none 0 0) := by
  have := Anv.new W0 0 0 (.slice none 0 0)
  rw [← hs0, ← hW]; exact this
 have HWp := hp.below HB
 have HWv := ra_below hv HB
 have c0 := HP.c0
 have c1 : ∀ w', Chg [] W w' → w'.cell? ⟨w.heap.size, 1, none⟩ = some (.int .i64 x.o) := fun w' hc => (HP.chg hc (by simp)).c1
 have c2 : ∀ w', Chg [] W w' → w'.cell? ⟨w.heap.size, 2, none⟩ = some (.int .i64 x.nn) := fun w' hc => (HP.chg hc (by simp)).c2
 have AV := Lib.hid (fun w1 pl A t (q : POut W w1 a S K X r pl A t) => act_var hp HB HA (Nat.le_succ _) q)
 have hX := h.len
 have hbd : Below W.heap.size W W.drew := (Below.refl _ _).drew
 have C1 := Lib.hid (hwords_is (HWp.below hbd).hb h.num h.hc.lg h.live h.hc.has)
 have C2 := Lib.hid (fun w' v (q : RU w' v X) => rd_is X x.o x.nn v w' q (by omega) h.hc.ok hn)
 have HF := Lib.hid (fun w1 v (hb : Below W.heap.size W w1) (ow : OwnA byE W.heap.size w1 v (rdR X x.o x.nn)) => (show Anv w1 (w.heap.size + 1) 0 0 (.slice none 0 0) ∧ ∀ c, ActOut w (w1.setRow (w.heap.size + 1) c) a S K X r x (.returned (.agg (anc (refF X x.o x.nn) 0 v))) from by
  obtain ⟨q1, q2⟩ := AV.out _ _ _ _ (pout_same (pl := plD X r x.o x.nn) (nr := x.d ≠ 5) (K := K) (X := X) (r := r) HWp hb (by intro q; cases q))
  refine ⟨q1, fun c => ⟨_, some (plD X r x.o x.nn).e, by rw [hd]; exact planD, ⟨v, ?_, ?_⟩, q2 c⟩⟩
  · rw [tld, if_pos rfl]; rfl
  · rw [tld, if_pos rfl]
    have o2 := ow.mono HB.size
    refine o2.chg (D := [w.heap.size + 1]) ((Chg.refl _ _).setRow (.inl (List.mem_singleton.2 rfl)) c) fun g hg => ?_
    have := (ow.lt g hg).1
    have h5 : W.heap.size = w.heap.size + 2 := by rw [← hW, size_alloc, hs0]
    rw [List.mem_singleton]
    omega))
 rw [hd] at c0
 have HO := Lib.hid hbd
 clear hp h _hK hv _hbl _ho hn hd HA HP HWp HWv AV HB hX hbd
 generalize a.z = z at *
 generalize x.o = xo at *
 generalize x.nn = xn at *
 generalize refF X xo xn = er at *
 generalize rdR X xo xn = dl at *
 go_enter Tryz.func71, Tryz.ntmps71
 go_wp2_with fail
 go_region_held3 (fun w' => Chg [] W w')
  (first | assumption | exact (Chg.refl _ _).drew)
  (first
    | (go_at_call 64; refine (C1.out).mono ?_; rintro e wz ⟨⟨xv, rfl, ox⟩, hbz⟩
       have OX := Lib.hid ox
       obtain ⟨qx, cx, rfl⟩ := ox.shape
       have BZ := Lib.hid (HO.out.trans hbz)
       have CZ := Lib.hid (Chg.of_below (HO.out.trans hbz) [])
       clear hbz ox)
    | (go_at_call 113; refine (C2.out _ _ OX.out.ru).mono ?_; rintro e w1 ⟨⟨yv, rfl, oy⟩, hby⟩
       have HX := HF.out w1 yv (below_more BZ.out hby) (oy.mono BZ.out.size)
       obtain ⟨qy, cy, rfl, _⟩ := oy.shape
       have BY := Lib.hid (below_more BZ.out hby)
       have CY := Lib.hid (Chg.of_below (below_more BZ.out hby) [])
       have HY := Lib.hid HX
       clear hby oy HX))
 obtain ⟨g1, g2⟩ := HY.out
 generalize dl.length = dn at *
 have G := Lib.hid (g2 (anc er 0 (.slice qy dn cy)))
 have hst := g1.store (e' := er) (o' := 0) (v' := .slice qy dn cy) rfl
 have AP := Lib.hid (g1.put (e' := er) (o' := 0) (v' := .slice qy dn cy))
 clear g1
 obtain ⟨V, hV⟩ : ∃ V, w1.setRow (w.heap.size + 1) (anc er 0 (.slice qy dn cy)) = V := ⟨_, rfl⟩
 rw [hV] at hst AP G
 go_wp2
 exact bodyPost_ret (v := .agg (anc er 0 (.slice qy dn cy))) (results_cell_row rfl _ _ _ _ _ _ _ rfl AP.out Tryz.underlying60 rfl (by rw [info_ans]; rfl)) rfl G.out
theorem hact_is {w : World} {a : Ha} {S : Hs} {K : Nat} {X : List Int} {r : Nat} (x : Px) (hp : Hp w a S) (h : HI a S K X r) (hK : K < 1000) (hv : RA byE w x.v x.bl) (hbl : x.bl.length ≤ 100000) (ho : -9223372036854775808 ≤ x.o ∧ x.o ≤ 9223372036854775807) (hn : -9223372036854775808 ≤ x.nn ∧ x.nn ≤ 9223372036854775807) :
 Calls Tryz.prog 71 #[.pointer (some ⟨a.z, 0, none⟩), .agg (pxc x)] w fun e w' => ActOut w w' a S K X r x e := by
 by_cases h0 : ¬ (1 ≤ x.d ∧ x.d ≤ 6)
 · exact hact0 x hp h hK hv hbl ho hn h0
 · by_cases h1 : x.d = 1
   · exact hact1 x hp h hK hv hbl ho hn h1
   by_cases h2 : x.d = 2
   · exact hact2 x hp h hK hv hbl ho hn h2
   by_cases h3 : x.d = 3
   · exact hact3 x hp h hK hv hbl ho hn h3
   by_cases h4 : x.d = 4
   · exact hact4 x hp h hK hv hbl ho hn h4
   by_cases h5 : x.d = 5
   · exact hact5 x hp h hK hv hbl ho hn h5
   exact hact6 x hp h hK hv hbl ho hn (by omega)
theorem pcatch_panicking (p : Addr) (x : Int) (u : TypeId) (pv : Value) (older : List PanicEntry) (w : World) (hc : w.cell? p = some (.int .i64 x)) (hz : w.frozen? p = false) :
 CallsD Tryz.prog 103 #[.pointer (some p)] (.panicking ({ v := .iface u pv, recovered := false } :: older)) w fun e u' w' =>
  e = .returned (.tuple #[]) ∧ u' = .panicking ({ v := .iface u pv, recovered := true } :: older) ∧ w' = w.setCell p (.int .i64 2) := by
 refine callsD_of_wpS Tryz.func103 rfl fun c₀ cs hu => ?_
 apply wpS_seq
 apply wpS_region
 simp [wpOpsS, go_sem, recoverD, hu, Tryz.ntmps103, Exit.thenS]
 refine wpS_cond (t := true) (by simp [Act.eval, Array.replicate]) ?_
 simp only [if_true]
 apply wpS_region
 simp [wpOpsS, go_sem, hc, hz, bodyPostS, results, Tryz.results103]
theorem pcatch_idle (p : Addr) (w : World) :
 CallsD Tryz.prog 103 #[.pointer (some p)] .returning w fun e u' w' => e = .returned (.tuple #[]) ∧ u' = .returning ∧ w' = w := by
 refine callsD_of_wpS Tryz.func103 rfl fun c₀ cs hu => ?_
 apply wpS_seq
 apply wpS_region
 simp [wpOpsS, go_sem, recoverD, hu, Tryz.ntmps103, Exit.thenS]
 refine wpS_cond (t := false) (by simp [Act.eval, Array.replicate]) ?_
 simp only [Bool.false_eq_true, if_false]
 refine wpS_of_wp (wp_skip ?_)
 cases c₀
 simp_all [bodyPostS, results, Tryz.results103]
def OkErr (w0 w : World) : Prop := w.cell? ⟨w0.heap.size, 0, none⟩ = some (.int .i64 0) ∧ w.frozen? ⟨w0.heap.size, 0, none⟩ = false
theorem powered_is (f : FuncId) (cap : Array Value) (w : World) (R0 : World → Prop) (R1 : World → Prop) (hi : ∀ w, (callFunc f cap).run Tryz.prog w = .ok (.enter f cap) w)
 (hcall : Calls Tryz.prog f cap (w.alloc (.cells #[.int .i64 0] 45)) fun e w' => OkErr w w' ∧ ((e = .returned (.tuple #[]) ∧ R0 w') ∨ (Dies e ∧ R1 w'))) :
 Calls Tryz.prog 62 #[.func (.func f) #[] cap] w fun e w' => (e = .returned (.int .i64 0) ∧ ∃ w1, R0 w1 ∧ w' = w1.setCell ⟨w.heap.size, 0, none⟩ (.int .i64 0)) ∨ (e = .returned (.int .i64 2) ∧ ∃ w1, R1 w1 ∧ w' = w1.setCell ⟨w.heap.size, 0, none⟩ (.int .i64 2)) := by
 have hmf : ∀ (fn : Fn) (first cap : Array Value) (w : World), (Instr.makeFunc fn first cap).run Tryz.prog w = .ok (.func fn first cap) w := fun _ _ _ _ => rfl
 have H := Lib.hid hcall
 clear hcall
 go_enter_defers Tryz.func62, Tryz.ntmps62
 go_wp2_with fail
 refine (H.out).mono ?_; rintro e w1 ⟨⟨hc, hz⟩, ⟨rfl, hR⟩ | ⟨⟨u, pv, rfl⟩, hR⟩⟩
 · have HR := Lib.hid hR
   clear hR
   go_wp2
   refine leaves_cons (f := 103) (args := #[.pointer (some ⟨w.heap.size, 0, none⟩)]) (by simp) (by simp [go_sem]) ?_
   refine (pcatch_idle ⟨w.heap.size, 0, none⟩ _).mono ?_
   rintro e u' w'' ⟨rfl, rfl, rfl⟩
   simp [Leaves, settle, results, Tryz.results62, go_sem, hc]
   exact ⟨w1, HR.out, rfl⟩
 · have HR := Lib.hid hR
   clear hR
   go_wp2
   refine leaves_cons (f := 103) (args := #[.pointer (some ⟨w.heap.size, 0, none⟩)]) (by simp) (by simp [go_sem]) ?_
   refine (pcatch_panicking ⟨w.heap.size, 0, none⟩ 0 u pv [] _ hc hz).mono ?_
   rintro e u' w'' ⟨rfl, rfl, rfl⟩
   simp [Leaves, settle, results, Tryz.results62, go_sem, hc]
   exact ⟨w1, HR.out, rfl⟩
structure Ex where
 b : Bk
 v : Value
 ws : List Int
instance : Inhabited Ex := ⟨⟨default, .slice none 0 0, []⟩⟩
def Ex.cells (x : Ex) : List Value := [.int .i64 x.b.a, .int .i64 x.b.s, .bool x.b.u, x.v]
def xc (x : Ex) : Array Value := x.cells.toArray
structure Ex.Wf (x : Ex) : Prop where
 wb : x.b.Wf
 one : x.v.oneCell' = true
@[go_sem] theorem xc_ne (x : Ex) : (xc x = #[]) = False := by simp [xc, Ex.cells]
section
variable {w w' : World} {g : Nat} {x : Ex}
end
theorem ra_one {P : Program} {α : Type} [Inhabited α] {E : Elm P α} {w : World} {u : Value} {l : List α} (h : RA E w u l) : u.oneCell' = true := by
 obtain ⟨_, _, rfl, _⟩ := ra_shape h
 rfl
def Far (w : World) (D : List Nat) (v : Value) : Prop := ∀ k, v.ownBlock = some k → k < w.heap.size ∧ k ∉ D
structure Us (w : World) (D : List Nat) (wl : List Int) (l : List Bk) (us : List Ex) : Prop where
 map : us.map (·.b) = usd l
 ws : ∀ x ∈ us, x.ws = cut wl x.b ∧ RU w x.v x.ws ∧ Far w D x.v
def Pl (v : Value) : Prop := v = .slice none 0 0 ∨ ∃ b n c, v = .slice (some ⟨b, 0, none⟩) n c
structure Rm (w : World) (D : List Nat) (g : Nat) (wl : List Int) (l : List Bk) (r : Int) : Prop where
 hB : blkF wl = some l
 ok : WordsOk wl
 gD : g ∈ D
 dlt : ∀ k ∈ D, k < w.heap.size
 rows : ∃ v, Whole w g 54 #[v, .int .i64 r] ∧ RU w v wl ∧ Far w D v
section
variable {w w' : World} {D E : List Nat} {g : Nat} {wl : List Int} {l : List Bk} {r : Int}
end
theorem Hp.all {w : World} {a : Ha} {S : Hs} (hp : Hp w a S) : a.z < w.heap.size ∧ a.g < w.heap.size ∧ a.y < w.heap.size ∧ a.q < w.heap.size ∧ a.x < w.heap.size ∧ a.k < w.heap.size ∧ a.kg < w.heap.size :=
 ⟨hp.hb.lt, hp.hb.lg.nm.lt, Whole.lt hp.hb.lg.tq, Whole.lt hp.hb.lg.lq, hp.hb.lg.xlt, hp.cq.ltx, hp.cq.ltg⟩
theorem Hp.past {w w1 w' : World} {a : Ha} {S S' : Hs} {E : List Nat} (hp : Hp w a S) (h : Hp w1 a S') (hc : Chg E w1 w') (hE : ∀ k ∈ E, w.heap.size ≤ k) : Hp w' a S' := by
 have ha := hp.all
 have hne : ∀ k, k < w.heap.size → k ∉ E := fun k hk q => by have := hE k q; omega
 exact h.chg hc (hne _ ha.1) (hne _ ha.2.1) (hne _ ha.2.2.1) (hne _ ha.2.2.2.1) (hne _ ha.2.2.2.2.1) (hne _ ha.2.2.2.2.2.1) (hne _ ha.2.2.2.2.2.2)
theorem chg_past {w w1 w' : World} {D E : List Nat} (h : Chg D w w1) (hc : Chg E w1 w') (hE : ∀ k ∈ E, w.heap.size ≤ k) : Chg D w w' :=
 ⟨hc.os.trans h.os, hc.tape.trans h.tape, hc.output.trans h.output, Nat.le_trans h.size hc.size, fun k hk hD => (hc.block k (Nat.lt_of_lt_of_le hk h.size) fun q => by have := hE k q; omega).trans (h.block k hk hD)⟩
theorem POut.past {w w1 w' : World} {a : Ha} {S : Hs} {K : Nat} {X : List Int} {r : Nat} {pl : Aim} {A : Prop} {t : Option Int} {E : List Nat} (h : POut w w1 a S K X r pl A t) (hp : Hp w a S) (hc : Chg E w1 w') (hE : ∀ k ∈ E, w.heap.size ≤ k) : POut w w' a S K X r pl A t := by
 obtain ⟨S', g1, g2, h⟩ := h
 exact ⟨S', hp.past g1 hc hE, chg_past g2 hc hE, h⟩
def dE : Option Int → Int
 | some y => y
 | none => 2
def dO (pl : Aim) : Option Int → Int × List Int
 | some y => tld pl y
 | none => (0, [])
def DoOut (w w' : World) (a : Ha) (S : Hs) (K : Nat) (X : List Int) (r : Nat) (x : Px) (e : Ending) : Prop :=
 ∃ pl t v, PlanOf X r S.ct.ints x.d x.o x.nn x.bl pl ∧ e = .returned (.agg (anc (dE t) (dO pl t).1 v)) ∧ OwnA byE w.heap.size w' v (dO pl t).2 ∧ POut w w' a S K X r pl (x.d ≠ 5) t
def Do0 (w : World) (b3 : Nat) (a : Ha) (S : Hs) (K : Nat) (X : List Int) (r : Nat) (x : Px) (w' : World) : Prop :=
 ∃ pl y v w1, PlanOf X r S.ct.ints x.d x.o x.nn x.bl pl ∧ OwnA byE w.heap.size w1 v (tld pl y).2 ∧ POut w w1 a S K X r pl (x.d ≠ 5) (some y) ∧ w' = w1.setRow b3 (anc y (tld pl y).1 v)
def Do1 (w : World) (a : Ha) (S : Hs) (K : Nat) (X : List Int) (r : Nat) (x : Px) (w' : World) : Prop :=
 ∃ pl, PlanOf X r S.ct.ints x.d x.o x.nn x.bl pl ∧ POut w w' a S K X r pl (x.d ≠ 5) none
structure PxOk (w : World) (x : Px) : Prop where
 v : RA byE w x.v x.bl
 len : x.bl.length ≤ 100000
 o : -9223372036854775808 ≤ x.o ∧ x.o ≤ 9223372036854775807
 n : -9223372036854775808 ≤ x.nn ∧ x.nn ≤ 9223372036854775807
theorem PxOk.below {w w' : World} {x : Px} (h : PxOk w x) (hb : Below w.heap.size w w') : PxOk w' x := ⟨ra_below h.v hb, h.len, h.o, h.n⟩
theorem hdo1_is {w : World} {a : Ha} {S : Hs} {K : Nat} {X : List Int} {r : Nat} (x : Px) (b0 b1 b3 : Nat) (hp : Hp w a S) (h : HI a S K X r) (hK : K < 1000) (hx : PxOk w x) (c0 : w.cell? ⟨b0, 0, none⟩ = some (.pointer (some ⟨a.z, 0, none⟩))) (hP : Pxv w b1 x) (hA : Anv w b3 0 0 (.slice none 0 0)) (h3 : b3 ∉ a.D) :
 Calls Tryz.prog 70 #[.pointer (some ⟨b0, 0, none⟩), .pointer (some ⟨b1, 0, none⟩), .pointer (some ⟨b3, 0, none⟩)] w fun e w' => (e = .returned (.tuple #[]) ∧ Do0 w b3 a S K X r x w') ∨ (Dies e ∧ Do1 w a S K X r x w') := by
 have ld : (pxLoad (.pointer (some ⟨b1, 0, none⟩))).run Tryz.prog w = .ok (.agg (pxc x)) w := run_pxLoad fun j u hj => by rw [Whole.at_ hP, Nat.zero_add, ← hj]; simp [pxc]
 have C := Lib.hid (hact_is x hp h hK hx.v hx.len hx.o hx.n)
 have HF := Lib.hid (fun w1 (q : Chg a.D w w1) => hA.chg q h3)
 clear hp h hK hx hP hA h3
 generalize a.z = z at *
 generalize pxc x = xc at *
 go_enter Tryz.func70, Tryz.ntmps70
 go_wp2_with fail
 refine (C.out).mono ?_; rintro e w1 ⟨pl, t, h1, h2, h3⟩
 cases t with
 | none =>
   obtain ⟨u, pv, rfl⟩ := h2
   have G : Hid (Do1 w a S K X r x w1) := Lib.hid ⟨pl, h1, h3⟩
   clear h1 h3
   go_wp2
   exact ⟨rfl, .inr ⟨⟨_, _, rfl⟩, G.out⟩⟩
 | some y =>
   obtain ⟨v, rfl, ov⟩ := h2
   have hst := (HF.out _ h3.keep).store (e' := y) (o' := (tld pl y).1) (v' := v) (ra_one ov.ra)
   have G : Hid (Do0 w b3 a S K X r x (w1.setRow b3 (anc y (tld pl y).1 v))) := Lib.hid ⟨pl, y, v, w1, h1, ov, h3, rfl⟩
   clear h1 h3 ov
   generalize anc y (tld pl y).1 v = av at *
   go_wp2
   go_end0
   exact .inl ⟨rfl, G.out⟩
theorem hdo_is {w : World} {a : Ha} {S : Hs} {K : Nat} {X : List Int} {r : Nat} (x : Px) (hp : Hp w a S) (h : HI a S K X r) (hK : K < 1000) (hx : PxOk w x) :
 Calls Tryz.prog 31 #[.pointer (some ⟨a.z, 0, none⟩), .agg (pxc x)] w fun e w' => DoOut w w' a S K X r x e := by
 have hmf : ∀ (fn : Fn) (first cap : Array Value) (w : World), (Instr.makeFunc fn first cap).run Tryz.prog w = .ok (.func fn first cap) w := fun _ _ _ _ => rfl
 obtain ⟨W0, hW0⟩ : ∃ W0, w.alloc (.cells #[.pointer (some ⟨a.z, 0, none⟩)] 29) = W0 := ⟨_, rfl⟩
 obtain ⟨W1, hW1⟩ : ∃ W1, W0.alloc (.cells (pxc x) 37) = W1 := ⟨_, rfl⟩
 obtain ⟨W2, hW2⟩ : ∃ W2, W1.alloc (.cells #[.int .i64 0, .int .i64 0, .slice none 0 0] 60) = W2 := ⟨_, rfl⟩
 obtain ⟨W, hW⟩ : ∃ W, W2.alloc (.cells #[.int .i64 0, .int .i64 0, .slice none 0 0] 60) = W := ⟨_, rfl⟩
 have s0 : W0.heap.size = w.heap.size + 1 := by rw [← hW0, size_alloc]
 have s1 : W1.heap.size = w.heap.size + 2 := by rw [← hW1, size_alloc, s0]
 have s2 : W2.heap.size = w.heap.size + 3 := by rw [← hW2, size_alloc, s1]
 have s3 : W.heap.size = w.heap.size + 4 := by rw [← hW, size_alloc, s2]
 have B0 : Below w.heap.size w W0 := by rw [← hW0]; exact bal (Below.refl _ _)
 have B1 : Below W0.heap.size W0 W1 := by rw [← hW1]; exact bal (Below.refl _ _)
 have B2 : Below W1.heap.size W1 W2 := by rw [← hW2]; exact bal (Below.refl _ _)
 have B3 : Below W2.heap.size W2 W := by rw [← hW]; exact bal (Below.refl _ _)
 have HB2 : Below w.heap.size w W2 := below_more (below_more B0 B1) B2
 have HB : Below w.heap.size w W := below_more HB2 B3
 have q0 : Whole W0 w.heap.size 29 #[.pointer (some ⟨a.z, 0, none⟩)] := by rw [← hW0]; exact heap_alloc_new w _
 have HQ2 : Whole W2 w.heap.size 29 #[.pointer (some ⟨a.z, 0, none⟩)] := (B2.block _ (by omega)).trans ((B1.block _ (Whole.lt q0)).trans q0)
 have HQ : Whole W w.heap.size 29 #[.pointer (some ⟨a.z, 0, none⟩)] := (B3.block _ (by omega)).trans HQ2
 have q1 : Pxv W1 (w.heap.size + 1) x := by rw [← s0, ← hW1]; exact Pxv.new W0 x
 have HP : Pxv W (w.heap.size + 1) x := (q1.below B2).below B3
 have q2 : Anv W2 (w.heap.size + 2) 0 0 (.slice none 0 0) := by rw [← s1, ← hW2]; exact Anv.new W1 0 0 _
 have HA2 : Anv W (w.heap.size + 2) 0 0 (.slice none 0 0) := q2.below B3
 have HA3 : Anv W (w.heap.size + 3) 0 0 (.slice none 0 0) := by rw [← s2, ← hW]; exact Anv.new W2 0 0 _
 -- in powered
 obtain ⟨V, hV⟩ : ∃ V, W.alloc (.cells #[.int .i64 0] 45) = V := ⟨_, rfl⟩
 have BV : Below W.heap.size W V := by rw [← hV]; exact bal (Below.refl _ _)
 have HBV : Below w.heap.size w V := below_more HB BV
 have sV : V.heap.size = w.heap.size + 5 := by rw [← hV, size_alloc, s3]
 have hE : Whole V (w.heap.size + 4) 45 #[.int .i64 0] := by rw [← s3, ← hV]; exact heap_alloc_new W _
 have c0 : V.cell? ⟨w.heap.size, 0, none⟩ = some (.pointer (some ⟨a.z, 0, none⟩)) := by
  have : Whole V w.heap.size 29 #[.pointer (some ⟨a.z, 0, none⟩)] := (BV.block _ (by omega)).trans HQ
  rw [Whole.at_ this]; rfl
 have ha := hp.all
 have hfar : ∀ k, w.heap.size ≤ k → k ∉ a.D := fun k hk q => by simp [Ha.D] at q; omega
 have HC := Lib.hid (hdo1_is x w.heap.size (w.heap.size + 1) (w.heap.size + 3) (hp.below HBV) h hK (hx.below HBV) c0 (HP.below BV) (HA3.below BV) (hfar _ (by omega)))
 -- what is there behind it
 have R0 : Hid (∀ w', Do0 V (w.heap.size + 3) a S K X r x w' → OkErr W w') := Lib.hid fun w' hq => by
  obtain ⟨pl, y, v, w1, g1, g2, g3, rfl⟩ := hq
  have e1 : Whole w1 (w.heap.size + 4) 45 #[.int .i64 0] := g3.keep.whole hE (hfar _ (by omega))
  have e2 : Whole (w1.setRow (w.heap.size + 3) (anc y (tld pl y).1 v)) (w.heap.size + 4) 45 #[.int .i64 0] := ((Chg.refl [w.heap.size + 3] w1).setRow (.inl (List.mem_singleton.2 rfl)) _).whole e1 (by rw [List.mem_singleton]; omega)
  unfold OkErr
  rw [s3]
  exact ⟨by rw [Whole.at_ e2]; rfl, Whole.free e2 0⟩
 have R1 : Hid (∀ w', Do1 V a S K X r x w' → OkErr W w') := Lib.hid fun w' hq => by
  obtain ⟨pl, g1, g3⟩ := hq
  have e1 : Whole w' (w.heap.size + 4) 45 #[.int .i64 0] := g3.keep.whole hE (hfar _ (by omega))
  unfold OkErr
  rw [s3]
  exact ⟨by rw [Whole.at_ e1]; rfl, Whole.free e1 0⟩
 have HPW := Lib.hid (powered_is 70 #[.pointer (some ⟨w.heap.size, 0, none⟩), .pointer (some ⟨w.heap.size + 1, 0, none⟩), .pointer (some ⟨w.heap.size + 3, 0, none⟩)] W (Do0 V (w.heap.size + 3) a S K X r x) (Do1 V a S K X r x) (fun _ => rfl) (by
  rw [hV]
  refine HC.out.mono ?_
  rintro e w' (⟨he, hq⟩ | ⟨he, hq⟩)
  · exact ⟨R0.out _ hq, .inl ⟨he, hq⟩⟩
  · exact ⟨R1.out _ hq, .inr ⟨he, hq⟩⟩))
 have OP := Lib.hid (hopd_is (hp.below HB2).hb)
 have HF0 : Hid (∀ w1, Do0 V (w.heap.size + 3) a S K X r x w1 → ∃ y o v, (y = 0 ∨ y ≠ 0) ∧ v.oneCell' = true ∧ Anv (w1.setCell ⟨W.heap.size, 0, none⟩ (.int .i64 0)) (w.heap.size + 3) y o v ∧ Anv (w1.setCell ⟨W.heap.size, 0, none⟩ (.int .i64 0)) (w.heap.size + 2) 0 0 (.slice none 0 0) ∧ ∀ c, DoOut w ((w1.setCell ⟨W.heap.size, 0, none⟩ (.int .i64 0)).setRow (w.heap.size + 2) c) a S K X r x (.returned (.agg (anc y o v)))) := Lib.hid fun w1 hq => by
  obtain ⟨pl, y, v, w0, g1, g2, g3, rfl⟩ := hq
  have k3 : Anv w0 (w.heap.size + 3) 0 0 (.slice none 0 0) := (HA3.below BV).chg g3.keep (hfar _ (by omega))
  have k2 : Anv w0 (w.heap.size + 2) 0 0 (.slice none 0 0) := (HA2.below BV).chg g3.keep (hfar _ (by omega))
  have hc : ∀ c, Chg [w.heap.size + 3, w.heap.size + 4, w.heap.size + 2] w0 ((((w0.setRow (w.heap.size + 3) (anc y (tld pl y).1 v)).setCell ⟨W.heap.size, 0, none⟩ (.int .i64 0))).setRow (w.heap.size + 2) c) := fun c => (((Chg.refl _ w0).setRow (.inl (by simp)) _).setCell (p := ⟨W.heap.size, 0, none⟩) (.inl (by rw [s3]; simp)) _).setRow (.inl (by simp)) c
  have k3' : Anv (w0.setRow (w.heap.size + 3) (anc y (tld pl y).1 v)) (w.heap.size + 3) y (tld pl y).1 v := k3.put
  refine ⟨y, (tld pl y).1, v, Classical.em _, ra_one g2.ra, Whole.other k3' (p := ⟨W.heap.size, 0, none⟩) (by rw [s3]; simp) _, ?_, fun c => ⟨pl, some y, v, g1, rfl, ?_, (g3.from_below HBV).past hp (hc c) (fun k hk => by simp at hk; omega)⟩⟩
  · refine Whole.other (p := ⟨W.heap.size, 0, none⟩) ?_ (by rw [s3]; simp) _
    exact ((Chg.refl [w.heap.size + 3] w0).setRow (.inl (by simp)) _).whole k2 (by simp)
  · refine ((g2.mono HBV.size).chg (hc c) fun g hg q => ?_)
    have := (g2.lt g hg).1
    simp at q
    omega
 have HF1 : Hid (∀ w1, Do1 V a S K X r x w1 → Anv (w1.setCell ⟨W.heap.size, 0, none⟩ (.int .i64 2)) (w.heap.size + 2) 0 0 (.slice none 0 0) ∧ ∀ c, DoOut w ((w1.setCell ⟨W.heap.size, 0, none⟩ (.int .i64 2)).setRow (w.heap.size + 2) c) a S K X r x (.returned (.agg (anc 2 0 (.slice none 0 0))))) := Lib.hid fun w1 hq => by
  obtain ⟨pl, g1, g3⟩ := hq
  have k2 : Anv w1 (w.heap.size + 2) 0 0 (.slice none 0 0) := (HA2.below BV).chg g3.keep (hfar _ (by omega))
  have hc : ∀ c, Chg [w.heap.size + 4, w.heap.size + 2] w1 (((w1.setCell ⟨W.heap.size, 0, none⟩ (.int .i64 2))).setRow (w.heap.size + 2) c) := fun c => ((Chg.refl _ w1).setCell (p := ⟨W.heap.size, 0, none⟩) (.inl (by rw [s3]; simp)) _).setRow (.inl (by simp)) c
  refine ⟨Whole.other k2 (p := ⟨W.heap.size, 0, none⟩) (by rw [s3]; simp) _, fun c => ⟨pl, none, .slice none 0 0, g1, rfl, own_nil_a _ _ _, (g3.from_below HBV).past hp (hc c) (fun k hk => by simp at hk; omega)⟩⟩
 have cz2 : W2.cell? ⟨w.heap.size, 0, none⟩ = some (.pointer (some ⟨a.z, 0, none⟩)) := by rw [Whole.at_ HQ2]; rfl
 clear hp h hK hx B0 B1 B2 B3 HB2 HB q0 HQ2 HQ q1 HP q2 HA2 HA3 BV HBV hE c0 ha hfar HC R0 R1 hV sV
 generalize a.z = z at *
 generalize pxc x = xc at *
 go_enter Tryz.func31, Tryz.ntmps31
 go_wp2_with fail
 refine (OP.out).mono ?_; rintro e w1 ⟨rfl, rfl⟩
 go_wp2_with fail
 refine (HPW.out).mono ?_; rintro e w1 (⟨rfl, w2, hq, rfl⟩ | ⟨rfl, w2, hq, rfl⟩)
 · obtain ⟨y, o, v, _, h1, k3, k2, hF⟩ := HF0.out _ hq
   have ld := k3.load
   have hst := k2.store (e' := y) (o' := o) (v' := v) h1
   have AP := Lib.hid (k2.put (e' := y) (o' := o) (v' := v))
   have G := Lib.hid (hF (anc y o v))
   clear hq h1 k3 k2 hF HF0 HF1 HPW OP cz2
   generalize w2.setCell ⟨W.heap.size, 0, none⟩ (.int .i64 0) = V1 at *
   generalize hV2 : V1.setRow (w.heap.size + 2) (anc y o v) = V2 at *
   go_wp2
   exact bodyPost_ret (v := .agg (anc y o v)) (results_cell_row rfl _ _ _ _ _ _ _ rfl AP.out Tryz.underlying60 rfl (by rw [info_ans]; rfl)) rfl G.out
 · obtain ⟨k2, hF⟩ := HF1.out _ hq
   have hst := k2.store (e' := 2) (o' := 0) (v' := .slice none 0 0) rfl
   have AP := Lib.hid (k2.put (e' := 2) (o' := 0) (v' := .slice none 0 0))
   have G := Lib.hid (hF (anc 2 0 (.slice none 0 0)))
   clear hq k2 hF HF0 HF1 HPW OP cz2
   generalize w2.setCell ⟨W.heap.size, 0, none⟩ (.int .i64 2) = V1 at *
   generalize hV2 : V1.setRow (w.heap.size + 2) (anc 2 0 (.slice none 0 0)) = V2 at *
   go_wp2
   exact bodyPost_ret (v := .agg (anc 2 0 (.slice none 0 0))) (results_cell_row rfl _ _ _ _ _ _ _ rfl AP.out Tryz.underlying60 rfl (by rw [info_ans]; rfl)) rfl G.out
theorem hdo_nil (x : Px) (w : World) : Calls Tryz.prog 31 #[.pointer none, .agg (pxc x)] w fun e w' => e = .returned (.agg (anc 1 0 (.slice none 0 0))) ∧ Below w.heap.size w w' := by
 obtain ⟨W0, hW0⟩ : ∃ W0, w.alloc (.cells #[.pointer none] 29) = W0 := ⟨_, rfl⟩
 obtain ⟨W1, hW1⟩ : ∃ W1, W0.alloc (.cells (pxc x) 37) = W1 := ⟨_, rfl⟩
 obtain ⟨W2, hW2⟩ : ∃ W2, W1.alloc (.cells #[.int .i64 0, .int .i64 0, .slice none 0 0] 60) = W2 := ⟨_, rfl⟩
 have s0 : W0.heap.size = w.heap.size + 1 := by rw [← hW0, size_alloc]
 have s1 : W1.heap.size = w.heap.size + 2 := by rw [← hW1, size_alloc, s0]
 have B0 : Below w.heap.size w W0 := by rw [← hW0]; exact bal (Below.refl _ _)
 have B1 : Below W0.heap.size W0 W1 := by rw [← hW1]; exact bal (Below.refl _ _)
 have B2 : Below W1.heap.size W1 W2 := by rw [← hW2]; exact bal (Below.refl _ _)
 have HB2 : Below w.heap.size w W2 := below_more (below_more B0 B1) B2
 have q0 : Whole W0 w.heap.size 29 #[.pointer none] := by rw [← hW0]; exact heap_alloc_new w _
 have HQ2 : Whole W2 w.heap.size 29 #[.pointer none] := (B2.block _ (by omega)).trans ((B1.block _ (Whole.lt q0)).trans q0)
 have cz2 : W2.cell? ⟨w.heap.size, 0, none⟩ = some (.pointer none) := by rw [Whole.at_ HQ2]; rfl
 have k2 : Anv W2 (w.heap.size + 2) 0 0 (.slice none 0 0) := by rw [← s1, ← hW2]; exact Anv.new W1 0 0 _
 have hst := k2.store (e' := 1) (o' := 0) (v' := .slice none 0 0) rfl
 have AP := Lib.hid (k2.put (e' := 1) (o' := 0) (v' := .slice none 0 0))
 have HB3 := Lib.hid (below_row (c := anc 1 0 (.slice none 0 0)) HB2 (show w.heap.size ≤ w.heap.size + 2 by omega))
 have OP := Lib.hid (hopd_nil W2)
 clear B0 B1 B2 HB2 q0 HQ2 k2
 generalize hV : W2.setRow (w.heap.size + 2) (anc 1 0 (.slice none 0 0)) = V at *
 generalize pxc x = xc at *
 go_enter Tryz.func31, Tryz.ntmps31
 go_wp2_with fail
 refine (OP.out).mono ?_; rintro e w1 ⟨rfl, rfl⟩
 clear OP
 go_wp2
 exact bodyPost_ret (v := .agg (anc 1 0 (.slice none 0 0))) (results_cell_row rfl _ _ _ _ _ _ _ rfl AP.out Tryz.underlying60 rfl (by rw [info_ans]; rfl)) rfl ⟨rfl, HB3.out⟩
theorem hWords_nil (w : World) : Calls Tryz.prog 23 #[.pointer none] w fun e w' => e = .returned (.tuple #[.slice none 0 0, .int .i64 1]) ∧ Below w.heap.size w w' := by
 obtain ⟨W0, hW0⟩ : ∃ W0, w.alloc (.cells #[.pointer none] 29) = W0 := ⟨_, rfl⟩
 have B0 : Hid (Below w.heap.size w W0) := Lib.hid (by rw [← hW0]; exact bal (Below.refl _ _))
 have q0 : Whole W0 w.heap.size 29 #[.pointer none] := by rw [← hW0]; exact heap_alloc_new w _
 have cz : W0.cell? ⟨w.heap.size, 0, none⟩ = some (.pointer none) := by rw [Whole.at_ q0]; rfl
 have OP := Lib.hid (hopd_nil W0)
 clear q0
 go_enter Tryz.func23, Tryz.ntmps23
 go_wp2_with fail
 refine (OP.out).mono ?_; rintro e w1 ⟨rfl, rfl⟩
 go_wp2_with fail
 go_ret2
 exact ⟨rfl, B0.out⟩
theorem hwds1 {w : World} {a : Ha} {b0 b1 : Nat} {Q0 : Value → World → Prop} {Q1 : World → Prop} (c0 : w.cell? ⟨b0, 0, none⟩ = some (.pointer (some ⟨a.z, 0, none⟩))) (hfr : ∀ w', Below w.heap.size w w' → w'.frozen? ⟨b1, 0, none⟩ = false ∧ (w'.cell? ⟨b1, 0, none⟩).isSome = true)
 (hC : Calls Tryz.prog 64 #[.pointer (some ⟨a.z, 0, none⟩)] w fun e w' => Below w.heap.size w w' ∧ ((∃ v, e = .returned v ∧ (∃ q n c, v = .slice q n c) ∧ Q0 v w') ∨ (Dies e ∧ Q1 w'))) :
 Calls Tryz.prog 63 #[.pointer (some ⟨b0, 0, none⟩), .pointer (some ⟨b1, 0, none⟩)] w fun e w' => (e = .returned (.tuple #[]) ∧ ∃ v w1, Below w.heap.size w w1 ∧ Q0 v w1 ∧ w' = w1.setCell ⟨b1, 0, none⟩ v) ∨ (Dies e ∧ Below w.heap.size w w' ∧ Q1 w') := by
 have C := Lib.hid hC
 have HF := Lib.hid hfr
 clear hC hfr
 generalize a.z = z at *
 go_enter Tryz.func63, Tryz.ntmps63
 go_wp2_with fail
 refine (C.out).mono ?_; rintro e w1 ⟨b, ⟨v, rfl, ⟨q, n, c, rfl⟩, hq⟩ | ⟨⟨u, pv, rfl⟩, hq⟩⟩
 · obtain ⟨f1, f2⟩ := HF.out w1 b
   obtain ⟨y, f3⟩ := Option.isSome_iff_exists.1 f2
   have G : Hid (∃ v w0, Below w.heap.size w w0 ∧ Q0 v w0 ∧ w1.setCell ⟨b1, 0, none⟩ (.slice q n c) = w0.setCell ⟨b1, 0, none⟩ v) := Lib.hid ⟨_, _, b, hq, rfl⟩
   clear hq b f2
   go_wp2
   go_end0
   exact .inl ⟨rfl, G.out⟩
 · have G := Lib.hid (And.intro b hq)
   clear hq b
   go_wp2
   exact ⟨rfl, .inr ⟨⟨_, _, rfl⟩, G.out⟩⟩
theorem OwnU.mono_h {B B' : Nat} {w : World} {v : Value} {l : List Int} (h : OwnU B w v l) (hb : B' ≤ B) : OwnU B' w v l :=
 ⟨h.1, h.2.imp id fun ⟨g, cap, cur, hv, h1, hg, r⟩ => ⟨g, cap, cur, hv, Nat.le_trans hb h1, hg, r⟩⟩
theorem own_chg_u {B : Nat} {D : List Nat} {w w' : World} {v : Value} {l : List Int} (h : OwnU B w v l) (hc : Chg D w w') (hD : ∀ k ∈ D, k < B) : OwnU B w' v l := by
 refine ⟨h.1, h.2.imp id ?_⟩
 rintro ⟨g, cap, cur, hv, h1, hg, r⟩
 exact ⟨g, cap, cur, hv, h1, (hc.block g (Array.getElem?_eq_some_iff.1 hg).1 (fun hm => by have := hD g hm; omega)).trans hg, r⟩
theorem hWords_any {w : World} {a : Ha} {kv : Value} {wf : Bool} {s : Nv} {p : Nat} {X : List Int} (d : Bool) (hp : Hb w a kv wf s p)
 (hC : ∀ W, Below w.heap.size w W → Calls Tryz.prog 64 #[.pointer (some ⟨a.z, 0, none⟩)] W fun e w' => Below W.heap.size W w' ∧ ((∃ v, e = .returned v ∧ (∃ q n c, v = .slice q n c) ∧ (d = false ∧ OwnU W.heap.size w' v X)) ∨ (Dies e ∧ d = true))) :
 Calls Tryz.prog 23 #[.pointer (some ⟨a.z, 0, none⟩)] w fun e w' => ((d = false ∧ ∃ v, e = .returned (.tuple #[v, .int .i64 0]) ∧ OwnU w.heap.size w' v X) ∨ (d = true ∧ e = .returned (.tuple #[.slice none 0 0, .int .i64 2]))) ∧ Below w.heap.size w w' := by
 have hmf : ∀ (fn : Fn) (first cap : Array Value) (w : World), (Instr.makeFunc fn first cap).run Tryz.prog w = .ok (.func fn first cap) w := fun _ _ _ _ => rfl
 obtain ⟨W0, hW0⟩ : ∃ W0, w.alloc (.cells #[.pointer (some ⟨a.z, 0, none⟩)] 29) = W0 := ⟨_, rfl⟩
 obtain ⟨W, hW⟩ : ∃ W, W0.alloc (.cells #[.slice none 0 0] 44) = W := ⟨_, rfl⟩
 obtain ⟨V, hV⟩ : ∃ V, W.alloc (.cells #[.int .i64 0] 45) = V := ⟨_, rfl⟩
 have s0 : W0.heap.size = w.heap.size + 1 := by rw [← hW0, size_alloc]
 have s1 : W.heap.size = w.heap.size + 2 := by rw [← hW, size_alloc, s0]
 have sV : V.heap.size = w.heap.size + 3 := by rw [← hV, size_alloc, s1]
 have B0 : Below w.heap.size w W0 := by rw [← hW0]; exact bal (Below.refl _ _)
 have B1 : Below W0.heap.size W0 W := by rw [← hW]; exact bal (Below.refl _ _)
 have BV : Below W.heap.size W V := by rw [← hV]; exact bal (Below.refl _ _)
 have HB : Below w.heap.size w W := below_more B0 B1
 have HBV : Below w.heap.size w V := below_more HB BV
 have q0 : Whole W0 w.heap.size 29 #[.pointer (some ⟨a.z, 0, none⟩)] := by rw [← hW0]; exact heap_alloc_new w _
 have q1 : Whole W (w.heap.size + 1) 44 #[.slice none 0 0] := by rw [← s0, ← hW]; exact heap_alloc_new W0 _
 have qE : Whole V (w.heap.size + 2) 45 #[.int .i64 0] := by rw [← s1, ← hV]; exact heap_alloc_new W _
 have q0W : Whole W w.heap.size 29 #[.pointer (some ⟨a.z, 0, none⟩)] := (B1.block _ (Whole.lt q0)).trans q0
 have q0V : Whole V w.heap.size 29 #[.pointer (some ⟨a.z, 0, none⟩)] := (BV.block _ (Whole.lt q0W)).trans q0W
 have q1V : Whole V (w.heap.size + 1) 44 #[.slice none 0 0] := (BV.block _ (Whole.lt q1)).trans q1
 have cz0 : W0.cell? ⟨w.heap.size, 0, none⟩ = some (.pointer (some ⟨a.z, 0, none⟩)) := by rw [Whole.at_ q0]; rfl
 have c0 : V.cell? ⟨w.heap.size, 0, none⟩ = some (.pointer (some ⟨a.z, 0, none⟩)) := by rw [Whole.at_ q0V]; rfl
 have C1 := Lib.hid (hwds1 (b0 := w.heap.size) (b1 := w.heap.size + 1) (Q0 := fun v w1 => d = false ∧ OwnU V.heap.size w1 v X) (Q1 := fun _ => d = true) c0 (fun w' hb => by
  have : Whole w' (w.heap.size + 1) 44 #[.slice none 0 0] := (hb.block _ (Whole.lt q1V)).trans q1V
  exact ⟨Whole.free this 0, by rw [Whole.at_ this]; rfl⟩) (hC V HBV))
 have HPW := Lib.hid (powered_is 63 #[.pointer (some ⟨w.heap.size, 0, none⟩), .pointer (some ⟨w.heap.size + 1, 0, none⟩)] W
  (fun w' => ∃ v w1, Below V.heap.size V w1 ∧ (d = false ∧ OwnU V.heap.size w1 v X) ∧ w' = w1.setCell ⟨w.heap.size + 1, 0, none⟩ v) (fun w' => Below V.heap.size V w' ∧ d = true) (fun _ => rfl) (by
  rw [hV]
  refine C1.out.mono ?_
  rintro e w' (⟨he, v, w1, hb, hq, rfl⟩ | ⟨he, hb, hq⟩)
  · refine ⟨?_, .inl ⟨he, v, w1, hb, hq, rfl⟩⟩
    have e1 : Whole w1 (w.heap.size + 2) 45 #[.int .i64 0] := (hb.block _ (Whole.lt qE)).trans qE
    have e2 := Whole.other e1 (p := ⟨w.heap.size + 1, 0, none⟩) (by simp) v
    unfold OkErr
    rw [s1]
    exact ⟨by rw [Whole.at_ e2]; rfl, Whole.free e2 0⟩
  · refine ⟨?_, .inr ⟨he, hb, hq⟩⟩
    have e1 : Whole w' (w.heap.size + 2) 45 #[.int .i64 0] := (hb.block _ (Whole.lt qE)).trans qE
    unfold OkErr
    rw [s1]
    exact ⟨by rw [Whole.at_ e1]; rfl, Whole.free e1 0⟩))
 have OP := Lib.hid (hopd_is (hp.below B0))
 have HF0 : Hid (∀ v w1, Below V.heap.size V w1 → (d = false ∧ OwnU V.heap.size w1 v X) → ((w1.setCell ⟨w.heap.size + 1, 0, none⟩ v).setCell ⟨W.heap.size, 0, none⟩ (.int .i64 0)).cell? ⟨w.heap.size + 1, 0, none⟩ = some v ∧ d = false ∧ OwnU w.heap.size ((w1.setCell ⟨w.heap.size + 1, 0, none⟩ v).setCell ⟨W.heap.size, 0, none⟩ (.int .i64 0)) v X ∧ Below w.heap.size w ((w1.setCell ⟨w.heap.size + 1, 0, none⟩ v).setCell ⟨W.heap.size, 0, none⟩ (.int .i64 0))) := Lib.hid fun v w1 hb hq => by
  have e1 : Whole w1 (w.heap.size + 1) 44 #[.slice none 0 0] := (hb.block _ (Whole.lt q1V)).trans q1V
  have e2 := Whole.other (e1.set_ 0 v) (p := ⟨W.heap.size, 0, none⟩) (by rw [s1]; simp) (.int .i64 0)
  have hc : Chg [w.heap.size + 1, w.heap.size + 2] w1 ((w1.setCell ⟨w.heap.size + 1, 0, none⟩ v).setCell ⟨W.heap.size, 0, none⟩ (.int .i64 0)) := ((Chg.refl _ w1).setCell (p := ⟨w.heap.size + 1, 0, none⟩) (.inl (by simp)) _).setCell (p := ⟨W.heap.size, 0, none⟩) (.inl (by rw [s1]; simp)) _
  refine ⟨by rw [Whole.at_ e2]; rfl, hq.1, ?_, ?_⟩
  · exact OwnU.mono_h (own_chg_u hq.2 hc (fun k hk => by simp at hk; omega)) HBV.size
  · exact hc.below (below_more HBV hb) (below_more HBV hb).size (fun k hk => by simp at hk; omega)
 have HF1 : Hid (∀ w1, Below V.heap.size V w1 → (w1.setCell ⟨W.heap.size, 0, none⟩ (.int .i64 2)).cell? ⟨w.heap.size + 1, 0, none⟩ = some (.slice none 0 0) ∧ Below w.heap.size w (w1.setCell ⟨W.heap.size, 0, none⟩ (.int .i64 2))) := Lib.hid fun w1 hb => by
  have e1 : Whole w1 (w.heap.size + 1) 44 #[.slice none 0 0] := (hb.block _ (Whole.lt q1V)).trans q1V
  have e2 := Whole.other e1 (p := ⟨W.heap.size, 0, none⟩) (by rw [s1]; simp) (.int .i64 2)
  exact ⟨by rw [Whole.at_ e2]; rfl, (below_more HBV hb).setCell (p := ⟨W.heap.size, 0, none⟩) (by rw [s1]; simp) _⟩
 clear hp hC B0 B1 BV HB HBV q0 q1 qE q0W q0V q1V c0 C1 hV sV
 generalize a.z = z at *
 go_enter Tryz.func23, Tryz.ntmps23
 go_wp2_with fail
 refine (OP.out).mono ?_; rintro e w1 ⟨rfl, rfl⟩
 go_wp2_with fail
 refine (HPW.out).mono ?_; rintro e w1 (⟨rfl, w2, ⟨v, w3, hb, hq, rfl⟩, rfl⟩ | ⟨rfl, w2, ⟨hb, hq⟩, rfl⟩)
 · obtain ⟨f1, f2, f3, f4⟩ := HF0.out v w3 hb hq
   have G := Lib.hid (And.intro f2 (And.intro f3 f4))
   clear hb hq f2 f3 f4 HF0 HF1 HPW OP cz0
   generalize (w3.setCell ⟨w.heap.size + 1, 0, none⟩ v).setCell ⟨W.heap.size, 0, none⟩ (.int .i64 0) = V1 at *
   go_wp2_with fail
   go_ret2
   exact ⟨.inl ⟨G.out.1, _, rfl, G.out.2.1⟩, G.out.2.2⟩
 · obtain ⟨f1, f2⟩ := HF1.out w2 hb
   have G := Lib.hid (And.intro hq f2)
   clear hb hq f2 HF0 HF1 HPW OP cz0
   generalize w2.setCell ⟨W.heap.size, 0, none⟩ (.int .i64 2) = V1 at *
   go_wp2_with fail
   go_ret2
   exact ⟨.inr ⟨G.out.1, rfl⟩, G.out.2⟩
theorem hWords_is {w : World} {a : Ha} {kv : Value} {wf : Bool} {s : Nv} {p : Nat} {X : List Int} (h : Hb w a kv wf s p) (hn : HNum a) (L : LgOk s (16 + a.N) a.P) (hd : s.dark = false) (H : Has s a.N a.P X) :
 Calls Tryz.prog 23 #[.pointer (some ⟨a.z, 0, none⟩)] w fun e w' => (∃ v, e = .returned (.tuple #[v, .int .i64 0]) ∧ OwnU w.heap.size w' v X) ∧ Below w.heap.size w w' := by
 refine (hWords_any (X := X) false h fun W hb => (hwords_is (h.below hb) hn L hd H).mono ?_).mono ?_
 · rintro e w' ⟨⟨v, he, ho⟩, hb⟩
   obtain ⟨q, c, e2⟩ := ho.shape
   exact ⟨hb, .inl ⟨v, he, ⟨q, _, c, e2⟩, rfl, ho⟩⟩
 · rintro e w' ⟨⟨_, h1⟩ | ⟨h1, _⟩, hb⟩
   · exact ⟨h1, hb⟩
   · cases h1
theorem hready_up {w : World} {g : Nat} {s : Nv} {l sp p b : Int} (h : May l sp p b) (hN : Nm w g s) (hl : (s.n : Int) = dvM l sp) (hd : s.dark = false) :
 Calls Tryz.prog 72 #[.pointer (some ⟨g, 0, none⟩), (Value.agg #[Value.int IntKind.i64 l, Value.int IntKind.i64 sp, Value.int IntKind.i64 p, Value.int IntKind.i64 b])] w fun e w' => e = .returned (.int .i64 0) ∧ Below w.heap.size w w' := by
 obtain ⟨W, hW, H⟩ := plan_boxed w l sp p b
 have l0 : ∀ w', Kept (Below W.heap.size W w') → (planLoad (.pointer (some ⟨w.heap.size, 0, none⟩))).run Tryz.prog w' = .ok (Value.agg #[Value.int IntKind.i64 l, Value.int IntKind.i64 sp, Value.int IntKind.i64 p, Value.int IntKind.i64 b]) w' := fun w' hb => (H.out.1.below hb.out).load
 have HB := Lib.hid H.out.2
 have C1 := Lib.hid (fun w => pmay_yes h w)
 have C2 := Lib.hid (fun w' (hb : Kept (Below W.heap.size W w')) => (show Calls Tryz.prog 117 #[.pointer (some ⟨g, 0, none⟩)] w' fun e w2 => e = .returned (.int .i64 (s.n : Int)) ∧ w' = w2 from lines_any g s w' ((hN.below H.out.2).below hb.out)))
 have C3 := Lib.hid (fun w => device_any (p := p) (b := b) h rfl w)
 have C4 := Lib.hid (fun w' (hb : Below W.heap.size W w') => down_any g s w' ((hN.below H.out.2).below hb))
 rw [hl] at C2
 rw [hd] at C4
 generalize dvM l sp = dv at *
 clear h hN hl hd H
 go_enter Tryz.func72, Tryz.ntmps72
 go_wp2_with fail
 go_region_held3 (fun w' => Kept (Below W.heap.size W w'))
  (first | assumption | exact ⟨(Below.refl _ _).drew⟩)
  (first
    | (go_at_call 60; refine (C1.out _).mono ?_; rintro e wz ⟨rfl, hbz⟩
       have K1 : Kept (Below W.heap.size W wz) := ⟨below_more (Below.refl _ _).drew hbz⟩
       clear hbz)
    | (go_at_call 117; refine (C2.out _ (by assumption)).mono ?_; rintro e wz ⟨rfl, rfl⟩)
    | (go_at_call 38; refine (C3.out _).mono ?_; rintro e wy ⟨rfl, hby⟩
       have K2 : Kept (Below W.heap.size W wy) := ⟨below_more K1.out hby⟩
       clear hby))
 all_goals
  go_wp2_with fail
  refine (C4.out _ K2.out).mono ?_; rintro e w3 ⟨rfl, rfl⟩
  have D3 := Lib.hid (below_more HB.out K2.out)
  go_wp2_with fail
  go_ret
  exact ⟨rfl, D3.out⟩
theorem hready_len {w : World} {gv : Value} {l sp p b nl : Int} (h : May l sp p b) (hL : ∀ w', Below w.heap.size w w' → Calls Tryz.prog 117 #[gv] w' fun e w2 => e = .returned (.int .i64 nl) ∧ w' = w2) (hl : nl ≠ dvM l sp) :
 Calls Tryz.prog 72 #[gv, (Value.agg #[Value.int IntKind.i64 l, Value.int IntKind.i64 sp, Value.int IntKind.i64 p, Value.int IntKind.i64 b])] w fun e w' => e = .returned (.int .i64 1) ∧ Below w.heap.size w w' := by
 obtain ⟨W, hW, H⟩ := plan_boxed w l sp p b
 have l0 : ∀ w', Kept (Below W.heap.size W w') → (planLoad (.pointer (some ⟨w.heap.size, 0, none⟩))).run Tryz.prog w' = .ok (Value.agg #[Value.int IntKind.i64 l, Value.int IntKind.i64 sp, Value.int IntKind.i64 p, Value.int IntKind.i64 b]) w' := fun w' hb => (H.out.1.below hb.out).load
 have HB := Lib.hid H.out.2
 have C1 := Lib.hid (fun w => pmay_yes h w)
 have C2 := Lib.hid (fun w' (hb : Kept (Below W.heap.size W w')) => hL w' (below_more H.out.2 hb.out))
 have C3 := Lib.hid (fun w => device_any (p := p) (b := b) h rfl w)
 generalize dvM l sp = dv at *
 have i1 : (nl == dv) = false := beq_eq_false_iff_ne.2 hl
 have i2 : (nl != dv) = true := by simpa using hl
 clear h hL hl H
 go_enter Tryz.func72, Tryz.ntmps72
 go_wp2_with fail
 go_region_held3 (fun w' => Kept (Below W.heap.size W w'))
  (first | assumption | exact ⟨(Below.refl _ _).drew⟩)
  (first
    | (go_at_call 60; refine (C1.out _).mono ?_; rintro e wz ⟨rfl, hbz⟩
       have K1 : Kept (Below W.heap.size W wz) := ⟨below_more (Below.refl _ _).drew hbz⟩
       clear hbz)
    | (go_at_call 117; refine (C2.out _ (by assumption)).mono ?_; rintro e wz ⟨rfl, rfl⟩)
    | (go_at_call 38; refine (C3.out _).mono ?_; rintro e wy ⟨rfl, hby⟩
       have K2 : Kept (Below W.heap.size W wy) := ⟨below_more K1.out hby⟩
       clear hby))
 all_goals
  have D3 := Lib.hid (below_more HB.out K2.out)
  go_wp2_with fail
  go_ret
  exact ⟨rfl, D3.out⟩
theorem hready_may {w : World} {gv : Value} {l sp p b : Int} (h : ¬ May l sp p b) :
 Calls Tryz.prog 72 #[gv, (Value.agg #[Value.int IntKind.i64 l, Value.int IntKind.i64 sp, Value.int IntKind.i64 p, Value.int IntKind.i64 b])] w fun e w' => e = .returned (.int .i64 1) ∧ Below w.heap.size w w' := by
 obtain ⟨W, hW, H⟩ := plan_boxed w l sp p b
 have l0 : ∀ w', Below W.heap.size W w' → (planLoad (.pointer (some ⟨w.heap.size, 0, none⟩))).run Tryz.prog w' = .ok (Value.agg #[Value.int IntKind.i64 l, Value.int IntKind.i64 sp, Value.int IntKind.i64 p, Value.int IntKind.i64 b]) w' := fun w' hb => (H.out.1.below hb).load
 have HB := Lib.hid H.out.2
 have C1 := Lib.hid (fun w => pmay_no h w)
 clear h H
 go_enter Tryz.func72, Tryz.ntmps72
 go_wp2_with fail
 refine wp_region_held_drew (S := fun w' => Below W.heap.size W w') (by kernel_rfl) ((Below.refl _ _).drew) (fun hHeld => ?_)
 refine wpAnyH_take (i := 0) (oi := ⟨some 6, _, _, _, _, _⟩) (v := ?_) rfl (by kernel_rfl) (by kernel_rfl) (by kernel_rfl) (fun _ _ _ h => h) (Or.inl ⟨by rfl, ?_⟩) (by assumption) ?_
 rotate_left
 focus (intro w hSw; (try dsimp only at hSw); go_simp; try with_reducible rfl)
 try simp only [Act.put, List.setIfInBounds_toArray, List.set_cons_zero, List.set_cons_succ]
 refine wpAnyH_ready (rs := [1]) (by kernel_rfl) (by simp) ?_
 refine AllReadyH.cons (o := ⟨some 7, _, _, _, _, _⟩) rfl (fun K hK => ?_) AllReadyH.nil
 go_simp
 go_at_call 60; refine (C1.out _).mono ?_; rintro e wa ⟨rfl, hbq⟩
 refine hK.out _ _ ?_ (fun hHeld => ?_)
 focus (exact below_more (by assumption) hbq)
 clear hK K hbq
 try simp only [Act.put, List.setIfInBounds_toArray, List.set_cons_zero, List.set_cons_succ]
 refine wpAnyH_take (i := 2) (oi := ⟨some 8, _, _, _, _, _⟩) (v := ?_) rfl (by kernel_rfl) (by kernel_rfl) (by kernel_rfl) (fun _ _ _ h => h) (Or.inl ⟨by rfl, ?_⟩) (by assumption) ?_
 rotate_left
 focus (intro w hSw; (try dsimp only at hSw); go_simp; try with_reducible rfl)
 try simp only [Act.put, List.setIfInBounds_toArray, List.set_cons_zero, List.set_cons_succ]
 refine wpAnyH_take (i := 3) (oi := ⟨some 9, _, _, _, _, _⟩) (v := ?_) rfl (by kernel_rfl) (by kernel_rfl) (by kernel_rfl) (fun _ _ _ h => h) (Or.inl ⟨by rfl, ?_⟩) (by assumption) ?_
 rotate_left
 focus (intro w hSw; (try dsimp only at hSw); go_simp; try with_reducible rfl)
 try simp only [Act.put, List.setIfInBounds_toArray, List.set_cons_zero, List.set_cons_succ]
 refine wpAnyH_take (i := 4) (oi := ⟨some 10, _, _, _, _, _⟩) (v := undef) rfl (by kernel_rfl) (by kernel_rfl) (by kernel_rfl) (fun _ _ _ h => h) (Or.inr ⟨by rfl, rfl⟩) (by assumption) ?_
 try simp only [Act.put, List.setIfInBounds_toArray, List.set_cons_zero, List.set_cons_succ]
 refine wpAnyH_take (i := 5) (oi := ⟨some 11, _, _, _, _, _⟩) (v := undef) rfl (by kernel_rfl) (by kernel_rfl) (by kernel_rfl) (fun _ _ _ h => h) (Or.inr ⟨by rfl, rfl⟩) (by assumption) ?_
 try simp only [Act.put, List.setIfInBounds_toArray, List.set_cons_zero, List.set_cons_succ]
 refine wpAnyH_take (i := 6) (oi := ⟨some 12, _, _, _, _, _⟩) (v := undef) rfl (by kernel_rfl) (by kernel_rfl) (by kernel_rfl) (fun _ _ _ h => h) (Or.inr ⟨by rfl, rfl⟩) (by assumption) ?_
 try simp only [Act.put, List.setIfInBounds_toArray, List.set_cons_zero, List.set_cons_succ]
 refine wpAnyH_take (i := 7) (oi := ⟨some 13, _, _, _, _, _⟩) (v := undef) rfl (by kernel_rfl) (by kernel_rfl) (by kernel_rfl) (fun _ _ _ h => h) (Or.inr ⟨by rfl, rfl⟩) (by assumption) ?_
 try simp only [Act.put, List.setIfInBounds_toArray, List.set_cons_zero, List.set_cons_succ]
 refine wpAnyH_take (i := 8) (oi := ⟨some 14, _, _, _, _, _⟩) (v := undef) rfl (by kernel_rfl) (by kernel_rfl) (by kernel_rfl) (fun _ _ _ h => h) (Or.inr ⟨by rfl, rfl⟩) (by assumption) ?_
 try simp only [Act.put, List.setIfInBounds_toArray, List.set_cons_zero, List.set_cons_succ]
 refine wpAnyH_take (i := 9) (oi := ⟨some 15, _, _, _, _, _⟩) (v := ?_) rfl (by kernel_rfl) (by kernel_rfl) (by kernel_rfl) (fun _ _ _ h => h) (Or.inl ⟨by rfl, ?_⟩) (by assumption) ?_
 rotate_left
 focus (intro w hSw; (try dsimp only at hSw); go_simp; try with_reducible rfl)
 try simp only [Act.put, List.setIfInBounds_toArray, List.set_cons_zero, List.set_cons_succ]
 refine wpAnyH_take (i := 10) (oi := ⟨some 5, _, _, _, _, _⟩) (v := ?_) rfl (by kernel_rfl) (by kernel_rfl) (by kernel_rfl) (fun _ _ _ h => h) (Or.inl ⟨by rfl, ?_⟩) (by assumption) ?_
 rotate_left
 focus (intro w hSw; (try dsimp only at hSw); go_simp; try with_reducible rfl)
 try simp only [Act.put, List.setIfInBounds_toArray, List.set_cons_zero, List.set_cons_succ]
 refine wpAnyH_done (by kernel_rfl) ?_ _
 have D3 := Lib.hid (below_more HB.out hHeld)
 go_wp2_with fail
 go_ret
 exact ⟨rfl, D3.out⟩
theorem hlines_is {w : World} {a : Ha} {s : Nv} {M : Nat} (hn : HNum a) (hN : Nm w a.g s) (T : TOk s (16 + a.N) a.P M) (hM : M ≤ 1099511627776) :
 Calls Tryz.prog 73 #[.pointer (some ⟨a.g, 0, none⟩), (Value.agg #[Value.int IntKind.i64 (a.N : Int), Value.int IntKind.i64 (a.P : Int), Value.int IntKind.i64 (a.per : Int), Value.int IntKind.i64 (a.b : Int)])] w fun e w' => ∃ y q, e = .returned (.pointer (some ⟨y, 0, none⟩)) ∧ w.heap.size ≤ y ∧ w.heap.size ≤ q ∧ y ≠ q ∧ Lq w' q a.g (16 + a.N + 1) a.P ∧ Tq w' y a.g q (16 + a.N) a.per 0 ∧ Below w.heap.size w w' := by
 obtain ⟨W, hW, H⟩ := plan_boxed w (a.N : Int) (a.P : Int) (a.per : Int) (a.b : Int)
 have hnN := hn.N
 have l0 : ∀ w', Kept (Below W.heap.size W w') → (planLoad (.pointer (some ⟨w.heap.size, 0, none⟩))).run Tryz.prog w' = .ok (Value.agg #[Value.int IntKind.i64 (a.N : Int), Value.int IntKind.i64 (a.P : Int), Value.int IntKind.i64 (a.per : Int), Value.int IntKind.i64 (a.b : Int)]) w' := fun w' hb => (H.out.1.below hb.out).load
 have c1 : ∀ w', Kept (Below W.heap.size W w') → w'.cell? ⟨w.heap.size, 1, none⟩ = some (.int .i64 (a.P : Int)) := fun w' hb => (H.out.1.below hb.out).c1
 have c2 : ∀ w', Kept (Below W.heap.size W w') → w'.cell? ⟨w.heap.size, 2, none⟩ = some (.int .i64 (a.per : Int)) := fun w' hb => by rw [Whole.at_ (H.out.1.below hb.out)]; rfl
 have HB := Lib.hid H.out.2
 have C1 := Lib.hid (fun w => logical_yes hn.may rfl w)
 have C2 := Lib.hid (fun w' (hb : Kept (Below W.heap.size W w')) => tnew_yes T (by omega) (by omega) hn.per.1 hn.per.2 hM ((hN.below H.out.2).below hb.out))
 have HS : Hid (w.heap.size ≤ W.heap.size) := Lib.hid H.out.2.size
 clear hn hN T hM H hnN
 generalize a.g = g at *
 generalize a.N = N at *
 generalize a.P = P at *
 generalize a.per = per at *
 generalize a.b = b at *
 generalize 16 + N = n at *
 go_enter Tryz.func73, Tryz.ntmps73
 go_wp2_with fail
 go_region_held3 (fun w' => Kept (Below W.heap.size W w'))
  (first | assumption | exact ⟨(Below.refl _ _).drew⟩)
  (first
    | (go_at_call 87; refine (C1.out _).mono ?_; rintro e wz ⟨rfl, hbz⟩
       have K1 : Kept (Below W.heap.size W wz) := ⟨below_more (Below.refl _ _).drew hbz⟩
       clear hbz)
    | (go_at_call 119; refine (C2.out _ K1).mono ?_; rintro e wy ⟨y, q, rfl, h1, h2, h3, h4, h5, hby⟩
       have K2 : Kept (Below W.heap.size W wy) := ⟨below_more K1.out hby⟩
       have G := Lib.hid (And.intro (Nat.le_trans K1.out.size h1) (And.intro (Nat.le_trans K1.out.size h2) (And.intro h3 (And.intro h4 h5))))
       clear hby h1 h2 h3 h4 h5))
 all_goals
  have D3 := Lib.hid (below_more HB.out K2.out)
  go_wp2_with fail
  go_ret
  exact ⟨_, _, rfl, Nat.le_trans HS.out G.out.1, Nat.le_trans HS.out G.out.2.1, G.out.2.2.1, G.out.2.2.2.1, G.out.2.2.2.2, D3.out⟩
theorem hunused_yes {w : World} {g : Nat} {s : Nv} (hN : Nm w g s) (hd : s.dark = false) (h : ∀ k, k < 35 → s.rg k = 0) : Calls Tryz.prog 81 #[.pointer (some ⟨g, 0, none⟩)] w fun e w' => e = .returned (.bool true) ∧ w = w' := by
 have C := Lib.hid (fun (k : Nat) (hk : k < 35) => (show Calls Tryz.prog 126 #[.pointer (some ⟨g, 0, none⟩), .int .i64 k] w fun e w' => e = .returned (.tuple #[.int .u64 0, .int .i64 0]) ∧ w = w' from by
  have := reg_yes g s k w hN (by have : hasR (k : Int) = true := by simp [hasR]; omega
                                 simp [Nv.rdy, this, hd])
  rwa [h k hk] at this))
 clear hN hd h
 go_enter Tryz.func81, Tryz.ntmps81
 go_wp2
 go_loopw [6] (fun i wr => ∃ k : Nat, k ≤ 35 ∧ i = .int .i64 k ∧ w = wr) (fun i _ => 35 - (intOf i).toNat)
 case atStart => exact ⟨0, Nat.zero_le _, rfl, rfl⟩
 case round =>
  obtain ⟨k, hk, rfl, rfl⟩ := hrel
  by_cases hlt : k < 35
  · have C1 := Lib.hid (C.out k hlt)
    have i1 : (k : Int) < 35 := by omega
    have i3 : IntKind.i64.wrap ((k : Int) + 1) = ((k + 1 : Nat) : Int) := by rw [show (k : Int) + 1 = ((k + 1 : Nat) : Int) by omega]; exact i64_nat _ (by omega)
    have HK := Lib.hid hlt
    clear hk hlt
    go_wp2_with fail
    refine (C1.out).mono ?_; rintro e w1 ⟨rfl, rfl⟩
    go_wp2
    go_roundw
    case rel => exact ⟨k + 1, by have := HK.out; omega, by go_num, by first | trivial | rfl⟩
    case measure => have := HK.out; simp [intOf]; omega
  · obtain rfl : k = 35 := by omega
    go_wp2
    go_ret
    exact ⟨rfl, rfl⟩
theorem hlay_same {w : World} {g y q n P per p b : Nat} {s : Nv} {d : List Int} (G : GOk s n P) (hd : s.dark = false) (hn2 : n ≤ 1000) (hb : b < n) (hy : th s n P b = d) (hd8 : d.length = 8) (h : Tq w y g q n per p) (hQ : Lq w q g (n + 1) P) (hN : Nm w g s) :
 Calls Tryz.prog 84 #[.pointer (some ⟨y, 0, none⟩), .int .i64 (b : Int), .agg (lc d)] w fun e w' => e = .returned (.int .i64 0) ∧ Below w.heap.size w w' := by
 obtain ⟨W, hW, H0⟩ := boxed1 w hd8
 have C := Lib.hid (tget_is hy (G.tok hd) hn2 hb (h.below H0.out.2) (hQ.below H0.out.2) (hN.below H0.out.2))
 have HB := Lib.hid H0.out.2
 have HL := Lib.hid H0.out.1
 have H8 := Lib.hid hd8
 clear G hd hn2 hb hy h hQ hN H0
 go_enter Tryz.func84, Tryz.ntmps84
 go_wp2_with fail
 refine (C.out).mono ?_; rintro e w1 ⟨rfl, b1⟩
 have D1 := Lib.hid (below_more HB.out b1)
 have l1 := Lib.hid (HL.out.below b1)
 obtain ⟨V, hV, HV⟩ := boxed1 w1 H8.out
 have l5 := (l1.out.below HV.out.2).load
 have l7 := HV.out.1.load
 have D2 := Lib.hid (below_more D1.out HV.out.2)
 clear b1 HV
 have i1 : (d == d) = true := by simp
 go_wp2_with fail
 go_ret
 exact ⟨rfl, D2.out⟩
theorem hlay_put {w : World} {g y q n P per p b : Nat} {s : Nv} {d : List Int} {R : Int × Nv} (hR : tput n P per p (tm s) b d s = R) (G : GOk s n P) (hd : s.dark = false) (hn2 : n ≤ 1000) (hb : b < n) (hne : th s n P b ≠ d) (hd8 : d.length = 8) (hm : tm s + 1 < 4611686018427387904) (hp : p < 4611686018427387904)
 (hqg : q ≠ g) (hyg : y ≠ g) (hyq : y ≠ q) (hc : s.c + 500 < 4611686018427387904) (h : Tq w y g q n per p) (hQ : Lq w q g (n + 1) P) (hN : Nm w g s) :
 Calls Tryz.prog 84 #[.pointer (some ⟨y, 0, none⟩), .int .i64 (b : Int), .agg (lc d)] w fun e w' => e = .returned (.int .i64 R.1) ∧ Nm w' g R.2 ∧ Tq w' y g q n per (tp per p) ∧ Lq w' q g (n + 1) P ∧ Chg [g, y] w w' := by
 obtain ⟨W, hW, H0⟩ := boxed1 w hd8
 obtain ⟨o, ho⟩ : ∃ o, th s n P b = o := ⟨_, rfl⟩
 have C := Lib.hid (tget_is ho (G.tok hd) hn2 hb (h.below H0.out.2) (hQ.below H0.out.2) (hN.below H0.out.2))
 have C2 := Lib.hid (fun w' (hbl : Below w.heap.size w w') => tput_is hR (G.tok hd) hn2 hb hd8 hm hp hqg hyg hyq hc (h.below hbl) (hQ.below hbl) (hN.below hbl))
 have HB := Lib.hid H0.out.2
 have HL := Lib.hid H0.out.1
 have H8 := Lib.hid hd8
 have HO8 : Hid (o.length = 8) := Lib.hid (by rw [← ho]; exact th_wide G.ok n P b)
 rw [ho] at hne
 have i1 : (o == d) = false := beq_eq_false_iff_ne.2 hne
 clear G hd hn2 hb hne ho h hQ hN H0 hR hm hp hqg hyg hyq hc
 go_enter Tryz.func84, Tryz.ntmps84
 go_wp2_with fail
 refine (C.out).mono ?_; rintro e w1 ⟨rfl, b1⟩
 have D1 := Lib.hid (below_more HB.out b1)
 have l1 := Lib.hid (HL.out.below b1)
 have h8o := HO8.out
 obtain ⟨V, hV, HV⟩ := boxed1 w1 h8o
 have l5 := (l1.out.below HV.out.2).load
 have l7 := HV.out.1.load
 have D2 := Lib.hid (below_more D1.out HV.out.2)
 clear b1 HV
 go_wp2_with fail
 refine (C2.out _ D2.out).mono ?_; rintro e w2 ⟨rfl, g1, g2, g3, g4⟩
 have GG := Lib.hid (And.intro g1 (And.intro g2 (And.intro g3 ((Chg.of_below D2.out [g, y]).trans g4))))
 clear g1 g2 g3 g4
 go_wp2_with fail
 go_ret
 exact ⟨rfl, GG.out⟩
structure Fst (s0 s : Nv) (N P p i : Nat) (F : List Int) : Prop where
 g : GOk s (16 + N) P
 live : s.dark = false
 comes : s.comes = false
 la : s.la = s0.la
 r1 : s.rg 1 = 0
 r2 : s.rg 2 = 0
 rgs : ∀ k, 19 ≤ k → s.rg k = 0
 at_ : ∀ j, j < N → th s (16 + N) P (16 + j) = if j < i then lnO F j else zeros
 m : tm s ≤ i
 p : p ≤ i
 c : s.c ≤ 81 * i
 free : Free s0 → Free s
theorem fst_start {N P : Nat} (hN : N ≤ 64) (hP : P ≤ 16) (h1 : 1 ≤ N) (lim F : List Int) : Fst (newNv (16 + N + 1 + P) lim) (newNv (16 + N + 1 + P) lim) N P 0 0 F := by
 obtain ⟨L, _, e2, e3, _⟩ := newNv_lg (n := 16 + N) (P := P) (by omega) hP (by omega) lim
 exact ⟨L.g, rfl, rfl, rfl, rfl, rfl, fun _ _ => rfl, fun j _ => by rw [if_neg (by omega)]; exact e3 _, by rw [e2]; omega, Nat.le_refl _, by show (0 : Int) ≤ _; omega, id⟩
theorem Fst.same {s0 s : Nv} {N P p i : Nat} {F : List Int} (h : Fst s0 s N P p i F) (e : th s (16 + N) P (16 + i) = lnO F i) : Fst s0 s N P p (i + 1) F :=
 ⟨h.g, h.live, h.comes, h.la, h.r1, h.r2, h.rgs, fun j hj => by
   by_cases c : j = i
   · subst c; rw [if_pos (by omega)]; exact e
   · rw [h.at_ j hj]
     by_cases d : j < i
     · rw [if_pos d, if_pos (by omega)]
     · rw [if_neg d, if_neg (by omega)], by have := h.m; omega, by have := h.p; omega, by have := h.c; push_cast; omega, h.free⟩
theorem Fst.put {s0 s : Nv} {N P per p i : Nat} {F : List Int} {R : Int × Nv} (h : Fst s0 s N P p i F) (hP : P ≤ 16) (hi : i < N) (hF : F.length = 8 * N) (hN : N ≤ 64) (hR : tput (16 + N) P per p (tm s) (16 + i) (lnO F i) s = R) :
 (R.1 = 0 ∧ Fst s0 R.2 N P (tp per p) (i + 1) F) ∨ (R.1 ≠ 0 ∧ ¬ Free s0) := by
 have h8 := lnO_length hF hi
 have hm := h.m
 have u := tput_u per p h.g h.live (show 0 < 16 + N by omega) (show 16 + i < 16 + N by omega) h8 (by omega)
 have go := fun F' => tput_go per p (h.g.tok h.live) (a := 16 + i) (d := lnO F i) F' (show 0 < 16 + N by omega)
 have r1 := tput_rg (16 + N) P per p (tm s) (16 + i) (lnO F i) s (k := 1) (by decide) (by decide)
 have rh := fun k hk => tput_rgh (16 + N) P per p (tm s) (16 + i) (lnO F i) s (k := k) hk hP
 rw [hR] at u go r1 rh
 have htp := tp_le per p
 have hc := u.c
 have hc2 := h.c
 have hu := u.hi
 have hp := h.p
 rcases u.own with ⟨e0, d, ho⟩ | ⟨e3, d, ho⟩ | ⟨e2, co⟩
 · refine .inl ⟨e0, u.g, d, u.comes.trans h.comes, u.la.trans h.la, r1.trans h.r1, u.r2.trans h.r2, fun k hk => (rh k hk).trans (h.rgs k hk), fun j hj => ?_, by omega, by omega, by push_cast; omega, fun F' => (go (h.free F')).2⟩
   by_cases c : j = i
   · subst c; rw [if_pos (by omega)]; exact ho
   · rw [u.oth _ (by omega) (by omega), h.at_ j hj]
     by_cases d : j < i
     · rw [if_pos d, if_pos (by omega)]
     · rw [if_neg d, if_neg (by omega)]
 · exact .inr ⟨by omega, fun F' => by have := (go (h.free F')).1; omega⟩
 · rw [h.comes] at co; cases co
def FOut (w w' : World) (a : Ha) (lim : List Int) (e : Ending) : Prop :=
 ∃ (E : Int) (s' : Nv), e = .returned (.int .i64 E) ∧ Nm w' a.g s' ∧ Chg [a.g] w w' ∧ ((E = 0 ∧ ∃ p, Fst (newNv (16 + a.N + 1 + a.P) lim) s' a.N a.P p a.N (firstL (8 * a.N : Nat))) ∨ (E ≠ 0 ∧ ¬ Free (newNv (16 + a.N + 1 + a.P) lim)))
theorem mw_of {a : Ha} (hn : HNum a) : Mw (8 * a.N : Nat) := by
 have := hn.N
 refine ⟨?_, ?_, ?_⟩ <;> omega
theorem chg_less {w w1 w' : World} {g y : Nat} (hb : Below w.heap.size w w1) (hc : Chg [g, y] w1 w') (hy : w.heap.size ≤ y) : Chg [g] w w' := by
 have h := (Chg.of_below hb [g, y]).trans hc
 exact ⟨h.os, h.tape, h.output, h.size, fun k hk hD => h.block k hk (by simp at hD ⊢; omega)⟩
theorem hformat_is {w : World} {a : Ha} {lim : List Int} (hn : HNum a) (hN : Nm w a.g (newNv (16 + a.N + 1 + a.P) lim)) :
 Calls Tryz.prog 36 #[.pointer (some ⟨a.g, 0, none⟩), (Value.agg #[Value.int IntKind.i64 (a.N : Int), Value.int IntKind.i64 (a.P : Int), Value.int IntKind.i64 (a.per : Int), Value.int IntKind.i64 (a.b : Int)])] w fun e w' => FOut w w' a lim e := by
 obtain ⟨W, hW, H⟩ := plan_boxed w (a.N : Int) (a.P : Int) (a.per : Int) (a.b : Int)
 have hnN := hn.N
 have hnP := hn.P
 obtain ⟨s0, hs0⟩ : ∃ s0, newNv (16 + a.N + 1 + a.P) lim = s0 := ⟨_, rfl⟩
 have hst := fst_start hnN.2 hnP hnN.1 lim (firstL (8 * a.N : Nat))
 have hr0 : ∀ k, k < 35 → s0.rg k = 0 := fun k _ => by rw [← hs0]; rfl
 have hsn : (s0.n : Int) = dvM (a.N : Int) (a.P : Int) := by rw [← hs0]; show ((16 + a.N + 1 + a.P : Nat) : Int) = _; unfold dvM; omega
 rw [hs0] at hst hN
 unfold FOut
 rw [hs0]
 have PQ := Lib.hid H.out.1
 have HB := Lib.hid H.out.2
 have l0 := H.out.1.load
 have C1 := Lib.hid (fun w' (hb : Below W.heap.size W w') => hready_up (hn.may.may) ((hN.below H.out.2).below hb) hsn hst.live)
 have C2 := Lib.hid (fun w' (hb : Below W.heap.size W w') => hunused_yes ((hN.below H.out.2).below hb) hst.live hr0)
 have C3 := Lib.hid (fun w' (hb : Below W.heap.size W w') => hlines_is hn ((hN.below H.out.2).below hb) (hst.g.tok hst.live) (by have := hst.m; omega))
 have C4 := Lib.hid (fun w => words_yes hn.may (v := 8 * a.N) (by omega) w)
 have C5 := Lib.hid (fun w => first_is ((8 * a.N : Nat) : Int) w)
 have HN0 := Lib.hid (hN.below H.out.2)
 have HFl : Hid ((firstL (8 * a.N : Nat)).length = 8 * a.N) := Lib.hid (first_blk (mw_of hn)).2.1
 have HM := Lib.hid hn.may
 have HNn := Lib.hid (And.intro hnN (And.intro hnP hn.per))
 have HST := Lib.hid hst
 have HGW : Hid (a.g < w.heap.size) := Lib.hid hN.lt
 have hcl : ∀ w', Below W.heap.size W w' → (planLoad (.pointer (some ⟨w.heap.size, 0, none⟩))).run Tryz.prog w' = .ok (Value.agg #[Value.int IntKind.i64 (a.N : Int), Value.int IntKind.i64 (a.P : Int), Value.int IntKind.i64 (a.per : Int), Value.int IntKind.i64 (a.b : Int)]) w' := fun w' hb => (PQ.out.below hb).load
 have HCL := Lib.hid hcl
 have HC0 := Lib.hid (fun w' (hb : Below W.heap.size W w') => (PQ.out.below hb).c0)
 clear hN hst hr0 hsn H hcl hn hnN hnP hs0
 generalize firstL (8 * a.N : Nat) = F at *
 generalize a.g = g at *
 generalize a.N = N at *
 generalize a.P = P at *
 generalize a.per = per at *
 generalize a.b = b at *
 obtain ⟨n8, hn8⟩ : ∃ n8, 8 * N = n8 := ⟨_, rfl⟩
 rw [hn8] at C4 C5
 have HN8 := Lib.hid hn8
 clear hn8
 go_enter Tryz.func36, Tryz.ntmps36
 go_wp2_with fail
 refine (C1.out _ (Below.refl _ _)).mono ?_; rintro e w1 ⟨rfl, b1⟩
 have D1 := Lib.hid b1
 clear b1 l0
 go_wp2_with fail
 refine (C2.out _ D1.out).mono ?_; rintro e w2 ⟨rfl, rfl⟩
 have l1 := HCL.out _ D1.out
 go_wp2_with fail
 refine (C3.out _ D1.out).mono ?_; rintro e w2 ⟨y, q, rfl, hy, hq, hyq, hQ, hT, b2⟩
 have D2 := Lib.hid (below_more D1.out b2)
 have TQ := Lib.hid (And.intro hQ hT)
 have NE := Lib.hid (And.intro hyq (And.intro (Nat.le_trans D1.out.size hy) (Nat.le_trans D1.out.size hq)))
 clear b2 hy hq hyq hQ hT l1
 have l2 := HCL.out _ D2.out
 go_wp2_with fail
 refine (C4.out _).mono ?_; rintro e w3 ⟨rfl, b3⟩
 have D3 := Lib.hid (below_more D2.out b3)
 have E3 := Lib.hid b3
 clear b3 l2
 go_wp2_with fail
 refine (C5.out _).mono ?_; rintro e w4 ⟨⟨v, rfl, ov⟩, b4⟩
 have D4 := Lib.hid (below_more D3.out b4)
 have E4 := Lib.hid (below_more E3.out b4)
 have OF := Lib.hid ov
 obtain ⟨qv, cv, rfl⟩ := ov.shape
 have HW3 : Hid (W.heap.size ≤ w3.heap.size ∧ w2.heap.size ≤ w3.heap.size) := Lib.hid ⟨D3.out.size, E3.out.size⟩
 clear b4 ov
 have c4 := HC0.out _ D4.out
 have HLT : Hid (w.heap.size < W.heap.size) := Lib.hid (Whole.lt PQ.out)
 have HI0 : Hid (Fst s0 s0 N P 0 0 F ∧ Tq w4 y g q (16 + N) per 0 ∧ Lq w4 q g (16 + N + 1) P ∧ Nm w4 g s0 ∧ Chg [g, y] w4 w4) := Lib.hid ⟨HST.out, TQ.out.2.below E4.out, TQ.out.1.below E4.out, HN0.out.below D4.out, Chg.refl _ _⟩
 have HFar : Hid (w.heap.size ∉ [g, y] ∧ q ≠ g ∧ y ≠ g ∧ y ≠ q ∧ ∀ k ∈ [g, y], k < w3.heap.size) := Lib.hid (by
  have h1 := NE.out
  have h2 := HLT.out
  have h3 := HGW.out
  have h4 := HW3.out
  have h5 := Whole.lt TQ.out.2
  refine ⟨by simp; omega, by omega, by omega, h1.1, fun k hk => by simp at hk; omega⟩)
 clear C1 C2 C3 C4 C5 TQ HN0 HST D1 D2 D3 E3 HCL HC0
 go_wp2
 go_loopw [27] (fun i wr => ∃ (k p : Nat) (s : Nv), k ≤ N ∧ i = .int .i64 k ∧ Hid (Fst s0 s N P p k F ∧ Tq wr y g q (16 + N) per p ∧ Lq wr q g (16 + N + 1) P ∧ Nm wr g s ∧ Chg [g, y] w4 wr)) (fun i _ => N - (intOf i).toNat)
 case atStart => exact ⟨0, 0, s0, Nat.zero_le _, rfl, HI0⟩
 case round =>
  clear HI0 c4
  obtain ⟨k, p, s, hk, rfl, H⟩ := hrel
  by_cases hlt : k < N
  · have PR := Lib.hid (H.out.2.2.2.2.whole (PQ.out.below D4.out) HFar.out.1)
    have lp := Pq.load PR.out
    have C1 := Lib.hid (home_yes HM.out hlt rfl wr)
    have OR := Lib.hid (own_chg_u OF.out H.out.2.2.2.2 HFar.out.2.2.2.2)
    have C2 := Lib.hid (fun w' (hb : Below wr.heap.size wr w') => hlnof_is w' (ru_below OR.out.ru hb) HFl.out (by have := HNn.out; omega) hlt)
    have hl8 := lnO_length HFl.out hlt
    have i1 : (k : Int) < (N : Int) := by omega
    have i3 : IntKind.i64.wrap ((k : Int) + 1) = ((k + 1 : Nat) : Int) := by rw [show (k : Int) + 1 = ((k + 1 : Nat) : Int) by omega]; exact i64_nat _ (by have := HNn.out; omega)
    have HK := Lib.hid hlt
    by_cases hs : th s (16 + N) P (16 + k) = lnO F k
    · have C3 := Lib.hid (fun w' (hb : Below wr.heap.size wr w') => hlay_same H.out.1.g H.out.1.live (by have := HNn.out; omega) (show 16 + k < 16 + N by omega) hs hl8 (H.out.2.1.below hb) (H.out.2.2.1.below hb) (H.out.2.2.2.1.below hb))
      have HF := Lib.hid (fun w' (hb : Below wr.heap.size wr w') => (show Fst s0 s N P p (k + 1) F ∧ Tq w' y g q (16 + N) per p ∧ Lq w' q g (16 + N + 1) P ∧ Nm w' g s ∧ Chg [g, y] w4 w' from ⟨H.out.1.same hs, H.out.2.1.below hb, H.out.2.2.1.below hb, H.out.2.2.2.1.below hb, H.out.2.2.2.2.trans (Chg.of_below hb _)⟩))
      clear hk hlt hs hl8 H
      generalize lnO F k = Y at *
      generalize 16 + k = k16 at *
      go_wp2_with fail
      refine (C1.out).mono ?_; rintro e w5 ⟨rfl, b5⟩
      have D5 := Lib.hid b5
      clear b5
      go_wp2_with fail
      refine (C2.out _ D5.out).mono ?_; rintro e w6 ⟨rfl, b6⟩
      have D6 := Lib.hid (below_more D5.out b6)
      clear b6
      go_wp2_with fail
      refine (C3.out _ D6.out).mono ?_; rintro e w7 ⟨rfl, b7⟩
      have H7 := Lib.hid (HF.out _ (below_more D6.out b7))
      clear b7 lp
      go_wp2
      go_roundw
      case rel => exact ⟨k + 1, p, s, by have := HK.out; omega, by go_num, H7⟩
      case measure => have := HK.out; simp [intOf]; omega
    · obtain ⟨R, hR⟩ : ∃ R, tput (16 + N) P per p (tm s) (16 + k) (lnO F k) s = R := ⟨_, rfl⟩
      have C3 := Lib.hid (fun w' (hb : Below wr.heap.size wr w') => hlay_put hR H.out.1.g H.out.1.live (by have := HNn.out; omega) (show 16 + k < 16 + N by omega) hs hl8 (by have := H.out.1.m; have := HNn.out; omega) (by have := H.out.1.p; have := HNn.out; omega) HFar.out.2.1 HFar.out.2.2.1 HFar.out.2.2.2.1 (by have := H.out.1.c; have := HNn.out; omega) (H.out.2.1.below hb) (H.out.2.2.1.below hb) (H.out.2.2.2.1.below hb))
      rcases H.out.1.put HNn.out.2.1 hlt HFl.out HNn.out.1.2 hR with ⟨e0, hF⟩ | ⟨e0, hF⟩
      · have HF := Lib.hid (fun w' w'' (hb : Below wr.heap.size wr w') (q1 : Nm w'' g R.2) (q2 : Tq w'' y g q (16 + N) per (tp per p)) (q3 : Lq w'' q g (16 + N + 1) P) (q4 : Chg [g, y] w' w'') => (show Fst s0 R.2 N P (tp per p) (k + 1) F ∧ Tq w'' y g q (16 + N) per (tp per p) ∧ Lq w'' q g (16 + N + 1) P ∧ Nm w'' g R.2 ∧ Chg [g, y] w4 w'' from ⟨hF, q2, q3, q1, H.out.2.2.2.2.trans ((Chg.of_below hb _).trans q4)⟩))
        rw [e0] at C3
        clear hk hlt hs hl8 H hR hF e0
        generalize lnO F k = Y at *
        generalize 16 + k = k16 at *
        go_wp2_with fail
        refine (C1.out).mono ?_; rintro e w5 ⟨rfl, b5⟩
        have D5 := Lib.hid b5
        clear b5
        go_wp2_with fail
        refine (C2.out _ D5.out).mono ?_; rintro e w6 ⟨rfl, b6⟩
        have D6 := Lib.hid (below_more D5.out b6)
        clear b6
        go_wp2_with fail
        refine (C3.out _ D6.out).mono ?_; rintro e w7 ⟨rfl, q1, q2, q3, q4⟩
        have H7 := Lib.hid (HF.out _ _ D6.out q1 q2 q3 q4)
        clear q1 q2 q3 q4 lp
        go_wp2
        go_roundw
        case rel => exact ⟨k + 1, tp per p, R.2, by have := HK.out; omega, by go_num, H7⟩
        case measure => have := HK.out; simp [intOf]; omega
      · have HF := Lib.hid (fun w' w'' (hb : Below wr.heap.size wr w') (q1 : Nm w'' g R.2) (q4 : Chg [g, y] w' w'') => (show ∃ (E : Int) (s' : Nv), Ending.returned (.int .i64 R.1) = Ending.returned (.int .i64 E) ∧ Nm w'' g s' ∧ Chg [g] w w'' ∧ ((E = 0 ∧ ∃ p, Fst s0 s' N P p N F) ∨ (E ≠ 0 ∧ ¬ Free s0)) from
         ⟨R.1, R.2, rfl, q1, chg_less (below_more HB.out D4.out) (H.out.2.2.2.2.trans ((Chg.of_below hb _).trans q4)) (Nat.le_trans HB.out.size NE.out.2.1), .inr ⟨e0, hF⟩⟩))
        have i4 : (R.1 == 0) = false := beq_eq_false_iff_ne.2 e0
        have i5 : (R.1 != 0) = true := by simpa using e0
        clear hk hlt hs hl8 H hR hF e0
        generalize lnO F k = Y at *
        generalize 16 + k = k16 at *
        generalize R.1 = R1 at *
        go_wp2_with fail
        refine (C1.out).mono ?_; rintro e w5 ⟨rfl, b5⟩
        have D5 := Lib.hid b5
        clear b5
        go_wp2_with fail
        refine (C2.out _ D5.out).mono ?_; rintro e w6 ⟨rfl, b6⟩
        have D6 := Lib.hid (below_more D5.out b6)
        clear b6
        go_wp2_with fail
        refine (C3.out _ D6.out).mono ?_; rintro e w7 ⟨rfl, q1, _, _, q4⟩
        have H7 := Lib.hid (HF.out _ _ D6.out q1 q4)
        clear q1 q4 lp
        go_wp2_with fail
        go_ret
        exact H7.out
  · obtain rfl : k = N := by omega
    have HO : Hid (∃ (E : Int) (s' : Nv), Ending.returned (.int .i64 0) = Ending.returned (.int .i64 E) ∧ Nm wr g s' ∧ Chg [g] w wr ∧ ((E = 0 ∧ ∃ p, Fst s0 s' k P p k F) ∨ (E ≠ 0 ∧ ¬ Free s0))) := Lib.hid
     ⟨0, s, rfl, H.out.2.2.2.1, chg_less (below_more HB.out D4.out) H.out.2.2.2.2 (Nat.le_trans HB.out.size NE.out.2.1), .inl ⟨rfl, p, H.out.1⟩⟩
    clear H
    go_wp2
    go_ret
    exact HO.out
end Go.Proofs.YtjkefcidbcifpaaGreat
