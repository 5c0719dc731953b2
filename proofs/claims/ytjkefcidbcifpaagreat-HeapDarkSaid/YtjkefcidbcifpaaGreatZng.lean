import Derived.Deep.RegionWith
import Derived.Test.YtjkefcidbcifpaaGreatZnf
set_option maxRecDepth 100000
set_option maxHeartbeats 8000000
namespace Go.Proofs.YtjkefcidbcifpaaGreat
open Go.ChangeShapes Go.WideShapes Go.ChangeAt Go.RowKit
def DkOut (w w' : World) (e : Ending) : Prop := Dies e /\ Below w.heap.size w w'
theorem halloc_dark {w : World} {a : Ha} {S : Hs} (o : Int) (hp : Hp w a S) (hn : HNum a) (hd : S.s.dark = true) :
 Calls Tryz.prog 111 #[.pointer (some ⟨a.z, 0, none⟩), .int .i64 o] w fun e w' => DkOut w w' e := by
 have C := Lib.hid (hwords_dark hp.hb hn hd)
 have C2 := Lib.hid (hwords_dark (hp.below (Below.refl w.heap.size w).drew).hb hn hd)
 clear hp hn hd
 generalize a.z = z at *
 go_enter Tryz.func111, Tryz.ntmps111
 go_wp2_with fail
 refine (C.out).mono ?_; rintro e w1 ⟨⟨u, pv, rfl⟩, b1⟩
 have D := Lib.hid b1
 clear b1 C C2
 go_wp2
 exact ⟨rfl, ⟨_, _, rfl⟩, D.out⟩
theorem hfree_dark {w : World} {a : Ha} {S : Hs} (o : Int) (hp : Hp w a S) (hn : HNum a) (hd : S.s.dark = true) :
 Calls Tryz.prog 112 #[.pointer (some ⟨a.z, 0, none⟩), .int .i64 o] w fun e w' => DkOut w w' e := by
 have C := Lib.hid (hwords_dark hp.hb hn hd)
 have C2 := Lib.hid (hwords_dark (hp.below (Below.refl w.heap.size w).drew).hb hn hd)
 clear hp hn hd
 generalize a.z = z at *
 go_enter Tryz.func112, Tryz.ntmps112
 go_wp2_with fail
 refine (C.out).mono ?_; rintro e w1 ⟨⟨u, pv, rfl⟩, b1⟩
 have D := Lib.hid b1
 clear b1 C C2
 go_wp2
 exact ⟨rfl, ⟨_, _, rfl⟩, D.out⟩
theorem hsetRoot_dark {w : World} {a : Ha} {S : Hs} (o : Int) (hp : Hp w a S) (hn : HNum a) (hd : S.s.dark = true) :
 Calls Tryz.prog 115 #[.pointer (some ⟨a.z, 0, none⟩), .int .i64 o] w fun e w' => DkOut w w' e := by
 have C := Lib.hid (hwords_dark hp.hb hn hd)
 have C2 := Lib.hid (hwords_dark (hp.below (Below.refl w.heap.size w).drew).hb hn hd)
 clear hp hn hd
 generalize a.z = z at *
 go_enter Tryz.func115, Tryz.ntmps115
 go_wp2_with fail
 refine (C.out).mono ?_; rintro e w1 ⟨⟨u, pv, rfl⟩, b1⟩
 have D := Lib.hid b1
 clear b1 C C2
 go_wp2
 exact ⟨rfl, ⟨_, _, rfl⟩, D.out⟩
theorem hwrite_dark {w : World} {a : Ha} {S : Hs} (o : Int) (v : Value) (hp : Hp w a S) (hn : HNum a) (hd : S.s.dark = true) :
 Calls Tryz.prog 114 #[.pointer (some ⟨a.z, 0, none⟩), .int .i64 o, v] w fun e w' => DkOut w w' e := by
 have C := Lib.hid (hwords_dark hp.hb hn hd)
 clear hp hn hd
 generalize a.z = z at *
 go_enter Tryz.func114, Tryz.ntmps114
 go_wp2_with fail
 refine (C.out).mono ?_; rintro e w1 ⟨⟨u, pv, rfl⟩, b1⟩
 have D := Lib.hid b1
 clear b1 C
 go_wp2
 exact ⟨rfl, ⟨_, _, rfl⟩, D.out⟩
theorem act_box (w : World) (x : Px) : ∃ W0 W, w.alloc (.cells (pxc x) 37) = W0 /\ W0.alloc (.cells #[.int .i64 0, .int .i64 0, .slice none 0 0] 60) = W /\ W0.heap.size = w.heap.size + 1 /\ Below w.heap.size w W /\ Pxv W w.heap.size x /\ Anv W (w.heap.size + 1) 0 0 (.slice none 0 0) := by
 have hs0 : (w.alloc (.cells (pxc x) 37)).heap.size = w.heap.size + 1 := size_alloc ..
 refine ⟨_, _, rfl, rfl, hs0, bal (bal (Below.refl _ _)), (Pxv.new w x).below (bal (Below.refl _ _)), ?_⟩
 rw [<- hs0]
 exact Anv.new _ 0 0 _
def ADk (w w' : World) (x : Px) (e : Ending) : Prop := ((1 <= x.d /\ x.d <= 6) /\ Dies e /\ Below w.heap.size w w') \/ (¬ (1 <= x.d /\ x.d <= 6) /\ e = .returned (.agg (anc 1 0 (.slice none 0 0))) /\ Below w.heap.size w w')
theorem hact1_dark {w : World} {a : Ha} {S : Hs} (x : Px) (hp : Hp w a S) (hn : HNum a) (hD : S.s.dark = true) (hd : x.d = 1) :
 Calls Tryz.prog 71 #[.pointer (some ⟨a.z, 0, none⟩), .agg (pxc x)] w fun e w' => ADk w w' x e := by
 obtain ⟨W0, W, hW0, hW, _, hb, HP, _⟩ := act_box w x
 have HB := Lib.hid hb
 have c0 := HP.c0
 have c1 := HP.c1
 have c2 := HP.c2
 have c4 := HP.c4
 have C := Lib.hid (halloc_dark x.nn  (hp.below hb) hn hD)
 have IN : Hid (1 <= x.d /\ x.d <= 6) := Lib.hid (by omega)
 rw [hd] at c0
 have HX := Lib.hid (fun e w' (h : Dies e /\ Below w.heap.size w w') => (show ADk w w' x e from .inl ⟨IN.out, h⟩))
 clear hp hn hD hb HP hd IN
 generalize a.z = z at *
 go_enter Tryz.func71, Tryz.ntmps71
 go_wp2_with fail
 refine (C.out).mono ?_; rintro e w1 ⟨⟨u, pv, rfl⟩, b1⟩
 have D := Lib.hid (HX.out _ w1 ⟨⟨u, pv, rfl⟩, below_more HB.out b1⟩)
 clear b1 C
 go_wp2
 exact ⟨rfl, D.out⟩
theorem hact2_dark {w : World} {a : Ha} {S : Hs} (x : Px) (hp : Hp w a S) (hn : HNum a) (hD : S.s.dark = true) (hd : x.d = 2) :
 Calls Tryz.prog 71 #[.pointer (some ⟨a.z, 0, none⟩), .agg (pxc x)] w fun e w' => ADk w w' x e := by
 obtain ⟨W0, W, hW0, hW, _, hb, HP, _⟩ := act_box w x
 have HB := Lib.hid hb
 have c0 := HP.c0
 have c1 := HP.c1
 have c2 := HP.c2
 have c4 := HP.c4
 have C := Lib.hid (hfree_dark x.o  (hp.below hb) hn hD)
 have IN : Hid (1 <= x.d /\ x.d <= 6) := Lib.hid (by omega)
 rw [hd] at c0
 have HX := Lib.hid (fun e w' (h : Dies e /\ Below w.heap.size w w') => (show ADk w w' x e from .inl ⟨IN.out, h⟩))
 clear hp hn hD hb HP hd IN
 generalize a.z = z at *
 go_enter Tryz.func71, Tryz.ntmps71
 go_wp2_with fail
 refine (C.out).mono ?_; rintro e w1 ⟨⟨u, pv, rfl⟩, b1⟩
 have D := Lib.hid (HX.out _ w1 ⟨⟨u, pv, rfl⟩, below_more HB.out b1⟩)
 clear b1 C
 go_wp2
 exact ⟨rfl, D.out⟩
theorem hact5_dark {w : World} {a : Ha} {S : Hs} (x : Px) (hp : Hp w a S) (hn : HNum a) (hD : S.s.dark = true) (hd : x.d = 5) :
 Calls Tryz.prog 71 #[.pointer (some ⟨a.z, 0, none⟩), .agg (pxc x)] w fun e w' => ADk w w' x e := by
 obtain ⟨W0, W, hW0, hW, _, hb, HP, _⟩ := act_box w x
 have HB := Lib.hid hb
 have c0 := HP.c0
 have c1 := HP.c1
 have c2 := HP.c2
 have c4 := HP.c4
 have C := Lib.hid (hsetRoot_dark x.o  (hp.below hb) hn hD)
 have IN : Hid (1 <= x.d /\ x.d <= 6) := Lib.hid (by omega)
 rw [hd] at c0
 have HX := Lib.hid (fun e w' (h : Dies e /\ Below w.heap.size w w') => (show ADk w w' x e from .inl ⟨IN.out, h⟩))
 clear hp hn hD hb HP hd IN
 generalize a.z = z at *
 go_enter Tryz.func71, Tryz.ntmps71
 go_wp2_with fail
 refine (C.out).mono ?_; rintro e w1 ⟨⟨u, pv, rfl⟩, b1⟩
 have D := Lib.hid (HX.out _ w1 ⟨⟨u, pv, rfl⟩, below_more HB.out b1⟩)
 clear b1 C
 go_wp2
 exact ⟨rfl, D.out⟩
theorem hact4_dark {w : World} {a : Ha} {S : Hs} (x : Px) (hp : Hp w a S) (hn : HNum a) (hD : S.s.dark = true) (hd : x.d = 4) :
 Calls Tryz.prog 71 #[.pointer (some ⟨a.z, 0, none⟩), .agg (pxc x)] w fun e w' => ADk w w' x e := by
 obtain ⟨W0, W, hW0, hW, _, hb, HP, _⟩ := act_box w x
 have HB := Lib.hid hb
 have c0 := HP.c0
 have c1 := HP.c1
 have c2 := HP.c2
 have c4 := HP.c4
 have C := Lib.hid (hwrite_dark x.o x.v (hp.below hb) hn hD)
 have IN : Hid (1 <= x.d /\ x.d <= 6) := Lib.hid (by omega)
 rw [hd] at c0
 have HX := Lib.hid (fun e w' (h : Dies e /\ Below w.heap.size w w') => (show ADk w w' x e from .inl ⟨IN.out, h⟩))
 clear hp hn hD hb HP hd IN
 generalize a.z = z at *
 go_enter Tryz.func71, Tryz.ntmps71
 go_wp2_with fail
 refine (C.out).mono ?_; rintro e w1 ⟨⟨u, pv, rfl⟩, b1⟩
 have D := Lib.hid (HX.out _ w1 ⟨⟨u, pv, rfl⟩, below_more HB.out b1⟩)
 clear b1 C
 go_wp2
 exact ⟨rfl, D.out⟩
theorem hact6_dark {w : World} {a : Ha} {S : Hs} (x : Px) (hp : Hp w a S) (hD : S.s.dark = true) (hd : x.d = 6) :
 Calls Tryz.prog 71 #[.pointer (some ⟨a.z, 0, none⟩), .agg (pxc x)] w fun e w' => ADk w w' x e := by
 obtain ⟨W0, W, hW0, hW, _, hb, HP, _⟩ := act_box w x
 have HB := Lib.hid hb
 have c0 := HP.c0
 have C : Hid (Calls Tryz.prog 116 #[.pointer (some ⟨a.z, 0, none⟩), .int .i64 2] W fun e w' => Dies e /\ W = w') := Lib.hid (hreg_dark (k := 2) (hp.below hb).hb hD (by decide))
 have IN : Hid (1 <= x.d /\ x.d <= 6) := Lib.hid (by omega)
 rw [hd] at c0
 have HX := Lib.hid (fun e w' (h : Dies e /\ Below w.heap.size w w') => (show ADk w w' x e from .inl ⟨IN.out, h⟩))
 clear hp hD hb HP hd IN
 generalize a.z = z at *
 go_enter Tryz.func71, Tryz.ntmps71
 go_wp2_with fail
 refine (C.out).mono ?_; rintro e w1 ⟨⟨u, pv, rfl⟩, rfl⟩
 have D := Lib.hid (HX.out _ W ⟨⟨u, pv, rfl⟩, HB.out⟩)
 clear C
 go_wp2
 exact ⟨rfl, D.out⟩
theorem hact3_dark {w : World} {a : Ha} {S : Hs} (x : Px) (hp : Hp w a S) (hn : HNum a) (hD : S.s.dark = true) (hd : x.d = 3) :
 Calls Tryz.prog 71 #[.pointer (some ⟨a.z, 0, none⟩), .agg (pxc x)] w fun e w' => ADk w w' x e := by
 obtain ⟨W0, W, hW0, hW, _, hb, HP, _⟩ := act_box w x
 have HB := Lib.hid hb
 have c0 := HP.c0
 have c1 := HP.c1
 have c2 := HP.c2
 have hbd : Below W.heap.size W W.drew := (Below.refl _ _).drew
 have C := Lib.hid (hwords_dark ((hp.below hb).below hbd).hb hn hD)
 have IN : Hid (1 <= x.d /\ x.d <= 6) := Lib.hid (by omega)
 rw [hd] at c0
 have HX := Lib.hid (fun e w' (h : Dies e /\ Below w.heap.size w w') => (show ADk w w' x e from .inl ⟨IN.out, h⟩))
 have HO := Lib.hid hbd
 clear hp hn hD hb HP hd IN hbd
 generalize a.z = z at *
 go_enter Tryz.func71, Tryz.ntmps71
 go_wp2_with fail
 refine wp_region_any (by kernel_rfl) ?_
 try (change wpAny _ _ _ _ _ _ _ (World.drew _))
 refine wpAny_take (i := 0) (v := ?_) rfl (by kernel_rfl) (by kernel_rfl) (by kernel_rfl) (fun _ _ _ h => h) (Or.inl ⟨by rfl, ?_⟩) ?_
 rotate_left
 . intro w
   go_simp
   try with_reducible rfl
 refine wpAny_take (i := 2) (v := ?_) rfl (by kernel_rfl) (by kernel_rfl) (by kernel_rfl) (fun _ _ _ h => h) (Or.inl ⟨by rfl, ?_⟩) ?_
 rotate_left
 . intro w
   go_simp
   try with_reducible rfl
 refine wpAny_take (i := 4) (v := ?_) rfl (by kernel_rfl) (by kernel_rfl) (by kernel_rfl) (fun _ _ _ h => h) (Or.inl ⟨by rfl, ?_⟩) ?_
 rotate_left
 . intro w
   go_simp
   try with_reducible rfl
 refine wpAny_ready (rs := [1, 3, 5]) (by kernel_rfl) (by simp) ?_
 refine AllReady.cons rfl (fun K hK => ?_) ?_
 . go_simp
   go_at_call 64
   refine (C.out).mono ?_; rintro e w1 ⟨⟨u, pv, rfl⟩, b1⟩
   exact ⟨rfl, HX.out _ w1 ⟨⟨u, pv, rfl⟩, below_more HB.out (below_more HO.out b1)⟩⟩
 refine AllReady.cons rfl (fun K hK => ?_) ?_
 . go_simp
   refine hK _ _ ?_; clear hK K
   refine wpAny_ready (rs := [1, 5]) (by kernel_rfl) (by simp) ?_
   refine AllReady.cons rfl (fun K hK => ?_) ?_
   . go_simp
     go_at_call 64
     refine (C.out).mono ?_; rintro e w1 ⟨⟨u, pv, rfl⟩, b1⟩
     exact ⟨rfl, HX.out _ w1 ⟨⟨u, pv, rfl⟩, below_more HB.out (below_more HO.out b1)⟩⟩
   refine AllReady.cons rfl (fun K hK => ?_) ?_
   . go_simp
     refine hK _ _ ?_; clear hK K
     refine wpAny_ready (rs := [1]) (by kernel_rfl) (by simp) ?_
     refine AllReady.cons rfl (fun K hK => ?_) ?_
     . go_simp
       go_at_call 64
       refine (C.out).mono ?_; rintro e w1 ⟨⟨u, pv, rfl⟩, b1⟩
       exact ⟨rfl, HX.out _ w1 ⟨⟨u, pv, rfl⟩, below_more HB.out (below_more HO.out b1)⟩⟩
     exact AllReady.nil
   exact AllReady.nil
 refine AllReady.cons rfl (fun K hK => ?_) ?_
 . go_simp
   refine hK _ _ ?_; clear hK K
   refine wpAny_ready (rs := [1, 3]) (by kernel_rfl) (by simp) ?_
   refine AllReady.cons rfl (fun K hK => ?_) ?_
   . go_simp
     go_at_call 64
     refine (C.out).mono ?_; rintro e w1 ⟨⟨u, pv, rfl⟩, b1⟩
     exact ⟨rfl, HX.out _ w1 ⟨⟨u, pv, rfl⟩, below_more HB.out (below_more HO.out b1)⟩⟩
   refine AllReady.cons rfl (fun K hK => ?_) ?_
   . go_simp
     refine hK _ _ ?_; clear hK K
     refine wpAny_ready (rs := [1]) (by kernel_rfl) (by simp) ?_
     refine AllReady.cons rfl (fun K hK => ?_) ?_
     . go_simp
       go_at_call 64
       refine (C.out).mono ?_; rintro e w1 ⟨⟨u, pv, rfl⟩, b1⟩
       exact ⟨rfl, HX.out _ w1 ⟨⟨u, pv, rfl⟩, below_more HB.out (below_more HO.out b1)⟩⟩
     exact AllReady.nil
   exact AllReady.nil
 exact AllReady.nil
theorem hact0_dark {w : World} {a : Ha} (x : Px) (hd : ¬ (1 <= x.d /\ x.d <= 6)) :
 Calls Tryz.prog 71 #[.pointer (some ⟨a.z, 0, none⟩), .agg (pxc x)] w fun e w' => ADk w w' x e := by
 obtain ⟨W0, W, hW0, hW, hs0, HB, HP, g1⟩ := act_box w x
 have c0 := HP.c0
 have G : Hid (ADk w (W.setRow (w.heap.size + 1) (anc 1 0 (.slice none 0 0))) x (.returned (.agg (anc 1 0 (.slice none 0 0))))) := Lib.hid (.inr ⟨hd, rfl, below_row HB (Nat.le_succ _)⟩)
 have i1 : (x.d == 1) = false := beq_eq_false_iff_ne.2 (by omega)
 have i2 : (x.d == 2) = false := beq_eq_false_iff_ne.2 (by omega)
 have i3 : (x.d == 3) = false := beq_eq_false_iff_ne.2 (by omega)
 have i4 : (x.d == 4) = false := beq_eq_false_iff_ne.2 (by omega)
 have i5 : (x.d == 5) = false := beq_eq_false_iff_ne.2 (by omega)
 have i6 : (x.d == 6) = false := beq_eq_false_iff_ne.2 (by omega)
 have hst := g1.store (e' := 1) (o' := 0) (v' := .slice none 0 0) rfl
 have AP := Lib.hid (g1.put (e' := 1) (o' := 0) (v' := .slice none 0 0))
 clear hd HP HB g1
 obtain ⟨V, hV⟩ : ∃ V, W.setRow (w.heap.size + 1) (anc 1 0 (.slice none 0 0)) = V := ⟨_, rfl⟩
 rw [hV] at hst AP G
 generalize a.z = z at *
 generalize x.d = xd at *
 go_enter Tryz.func71, Tryz.ntmps71
 go_wp2
 exact bodyPost_ret (v := .agg (anc 1 0 (.slice none 0 0))) (results_cell_row rfl _ _ _ _ _ _ _ rfl AP.out Tryz.underlying60 rfl (by rw [info_ans]; rfl)) rfl G.out
theorem hact_dark {w : World} {a : Ha} {S : Hs} (x : Px) (hp : Hp w a S) (hn : HNum a) (hD : S.s.dark = true) :
 Calls Tryz.prog 71 #[.pointer (some ⟨a.z, 0, none⟩), .agg (pxc x)] w fun e w' => ADk w w' x e := by
 by_cases h0 : ¬ (1 <= x.d /\ x.d <= 6)
 . exact hact0_dark x h0
 . by_cases h1 : x.d = 1
   . exact hact1_dark x hp hn hD h1
   by_cases h2 : x.d = 2
   . exact hact2_dark x hp hn hD h2
   by_cases h3 : x.d = 3
   . exact hact3_dark x hp hn hD h3
   by_cases h4 : x.d = 4
   . exact hact4_dark x hp hn hD h4
   by_cases h5 : x.d = 5
   . exact hact5_dark x hp hn hD h5
   exact hact6_dark x hp hD (by omega)
def May6 (d : Int) : Prop := 1 <= d /\ d <= 6
instance (d : Int) : Decidable (May6 d) := inferInstanceAs (Decidable (_ /\ _))
def Dk0 (w : World) (b3 : Nat) (x : Px) (w' : World) : Prop := ¬ May6 x.d /\ ∃ w1, Below w.heap.size w w1 /\ w' = w1.setRow b3 (anc 1 0 (.slice none 0 0))
def Dk1 (w : World) (x : Px) (w' : World) : Prop := May6 x.d /\ Below w.heap.size w w'
theorem hdo1_dark {w : World} {a : Ha} {S : Hs} (x : Px) (b0 b1 b3 : Nat) (hp : Hp w a S) (hn : HNum a) (hD : S.s.dark = true) (c0 : w.cell? ⟨b0, 0, none⟩ = some (.pointer (some ⟨a.z, 0, none⟩))) (hP : Pxv w b1 x) (hA : Anv w b3 0 0 (.slice none 0 0)) :
 Calls Tryz.prog 70 #[.pointer (some ⟨b0, 0, none⟩), .pointer (some ⟨b1, 0, none⟩), .pointer (some ⟨b3, 0, none⟩)] w fun e w' => (e = .returned (.tuple #[]) /\ Dk0 w b3 x w') \/ (Dies e /\ Dk1 w x w') := by
 have ld : (pxLoad (.pointer (some ⟨b1, 0, none⟩))).run Tryz.prog w = .ok (.agg (pxc x)) w := run_pxLoad fun j u hj => by rw [Whole.at_ hP, Nat.zero_add, <- hj]; simp [pxc]
 have C := Lib.hid (hact_dark x hp hn hD)
 have HF := Lib.hid (fun w1 (q : Below w.heap.size w w1) => hA.below q)
 clear hp hn hD hP hA
 generalize a.z = z at *
 generalize pxc x = xc at *
 go_enter Tryz.func70, Tryz.ntmps70
 go_wp2_with fail
 refine (C.out).mono ?_; rintro e w1 (⟨h1, ⟨u, pv, rfl⟩, b1⟩ | ⟨h1, rfl, b1⟩)
 . have G : Hid (Dk1 w x w1) := Lib.hid ⟨h1, b1⟩
   clear h1 b1
   go_wp2
   exact ⟨rfl, .inr ⟨⟨_, _, rfl⟩, G.out⟩⟩
 . have hst := (HF.out _ b1).store (e' := 1) (o' := 0) (v' := .slice none 0 0) rfl
   have G : Hid (Dk0 w b3 x (w1.setRow b3 (anc 1 0 (.slice none 0 0)))) := Lib.hid ⟨h1, w1, b1, rfl⟩
   clear h1 b1
   generalize anc 1 0 (.slice none 0 0) = av at *
   go_wp2
   go_end0
   exact .inl ⟨rfl, G.out⟩
theorem hdo_dark {w : World} {a : Ha} {S : Hs} (x : Px) (hp : Hp w a S) (hn : HNum a) (hD : S.s.dark = true) :
 Calls Tryz.prog 31 #[.pointer (some ⟨a.z, 0, none⟩), .agg (pxc x)] w fun e w' => e = .returned (.agg (anc (if May6 x.d then 2 else 1) 0 (.slice none 0 0))) /\ Below w.heap.size w w' := by
 have hmf : ∀ (fn : Fn) (first cap : Array Value) (w : World), (Instr.makeFunc fn first cap).run Tryz.prog w = .ok (.func fn first cap) w := fun _ _ _ _ => rfl
 obtain ⟨W0, hW0⟩ : ∃ W0, w.alloc (.cells #[.pointer (some ⟨a.z, 0, none⟩)] 29) = W0 := ⟨_, rfl⟩
 obtain ⟨W1, hW1⟩ : ∃ W1, W0.alloc (.cells (pxc x) 37) = W1 := ⟨_, rfl⟩
 obtain ⟨W2, hW2⟩ : ∃ W2, W1.alloc (.cells #[.int .i64 0, .int .i64 0, .slice none 0 0] 60) = W2 := ⟨_, rfl⟩
 obtain ⟨W, hW⟩ : ∃ W, W2.alloc (.cells #[.int .i64 0, .int .i64 0, .slice none 0 0] 60) = W := ⟨_, rfl⟩
 have s0 : W0.heap.size = w.heap.size + 1 := by rw [<- hW0, size_alloc]
 have s1 : W1.heap.size = w.heap.size + 2 := by rw [<- hW1, size_alloc, s0]
 have s2 : W2.heap.size = w.heap.size + 3 := by rw [<- hW2, size_alloc, s1]
 have s3 : W.heap.size = w.heap.size + 4 := by rw [<- hW, size_alloc, s2]
 have B0 : Below w.heap.size w W0 := by rw [<- hW0]; exact bal (Below.refl _ _)
 have B1 : Below W0.heap.size W0 W1 := by rw [<- hW1]; exact bal (Below.refl _ _)
 have B2 : Below W1.heap.size W1 W2 := by rw [<- hW2]; exact bal (Below.refl _ _)
 have B3 : Below W2.heap.size W2 W := by rw [<- hW]; exact bal (Below.refl _ _)
 have HB2 : Below w.heap.size w W2 := below_more (below_more B0 B1) B2
 have HB : Below w.heap.size w W := below_more HB2 B3
 have q0 : Whole W0 w.heap.size 29 #[.pointer (some ⟨a.z, 0, none⟩)] := by rw [<- hW0]; exact heap_alloc_new w _
 have HQ2 : Whole W2 w.heap.size 29 #[.pointer (some ⟨a.z, 0, none⟩)] := (B2.block _ (by omega)).trans ((B1.block _ (Whole.lt q0)).trans q0)
 have HQ : Whole W w.heap.size 29 #[.pointer (some ⟨a.z, 0, none⟩)] := (B3.block _ (by omega)).trans HQ2
 have q1 : Pxv W1 (w.heap.size + 1) x := by rw [<- s0, <- hW1]; exact Pxv.new W0 x
 have HP : Pxv W (w.heap.size + 1) x := (q1.below B2).below B3
 have q2 : Anv W2 (w.heap.size + 2) 0 0 (.slice none 0 0) := by rw [<- s1, <- hW2]; exact Anv.new W1 0 0 _
 have HA2 : Anv W (w.heap.size + 2) 0 0 (.slice none 0 0) := q2.below B3
 have HA3 : Anv W (w.heap.size + 3) 0 0 (.slice none 0 0) := by rw [<- s2, <- hW]; exact Anv.new W2 0 0 _
 obtain ⟨V, hV⟩ : ∃ V, W.alloc (.cells #[.int .i64 0] 45) = V := ⟨_, rfl⟩
 have BV : Below W.heap.size W V := by rw [<- hV]; exact bal (Below.refl _ _)
 have HBV : Below w.heap.size w V := below_more HB BV
 have sV : V.heap.size = w.heap.size + 5 := by rw [<- hV, size_alloc, s3]
 have hE : Whole V (w.heap.size + 4) 45 #[.int .i64 0] := by rw [<- s3, <- hV]; exact heap_alloc_new W _
 have c0 : V.cell? ⟨w.heap.size, 0, none⟩ = some (.pointer (some ⟨a.z, 0, none⟩)) := by
  have : Whole V w.heap.size 29 #[.pointer (some ⟨a.z, 0, none⟩)] := (BV.block _ (by omega)).trans HQ
  rw [Whole.at_ this]; rfl
 have HC := Lib.hid (hdo1_dark x w.heap.size (w.heap.size + 1) (w.heap.size + 3) (hp.below HBV) hn hD c0 (HP.below BV) (HA3.below BV))
 have R0 : Hid (∀ w', Dk0 V (w.heap.size + 3) x w' -> OkErr W w') := Lib.hid fun w' hq => by
  obtain ⟨_, w1, g3, rfl⟩ := hq
  have e1 : Whole w1 (w.heap.size + 4) 45 #[.int .i64 0] := (g3.block _ (Whole.lt hE)).trans hE
  have e2 : Whole (w1.setRow (w.heap.size + 3) (anc 1 0 (.slice none 0 0))) (w.heap.size + 4) 45 #[.int .i64 0] := ((Chg.refl [w.heap.size + 3] w1).setRow (.inl (List.mem_singleton.2 rfl)) _).whole e1 (by rw [List.mem_singleton]; omega)
  unfold OkErr
  rw [s3]
  exact ⟨by rw [Whole.at_ e2]; rfl, Whole.free e2 0⟩
 have R1 : Hid (∀ w', Dk1 V x w' -> OkErr W w') := Lib.hid fun w' hq => by
  have e1 : Whole w' (w.heap.size + 4) 45 #[.int .i64 0] := (hq.2.block _ (Whole.lt hE)).trans hE
  unfold OkErr
  rw [s3]
  exact ⟨by rw [Whole.at_ e1]; rfl, Whole.free e1 0⟩
 have HPW := Lib.hid (powered_is 70 #[.pointer (some ⟨w.heap.size, 0, none⟩), .pointer (some ⟨w.heap.size + 1, 0, none⟩), .pointer (some ⟨w.heap.size + 3, 0, none⟩)] W (Dk0 V (w.heap.size + 3) x) (Dk1 V x) (fun _ => rfl) (by
  rw [hV]
  refine HC.out.mono ?_
  rintro e w' (⟨he, hq⟩ | ⟨he, hq⟩)
  . exact ⟨R0.out _ hq, .inl ⟨he, hq⟩⟩
  . exact ⟨R1.out _ hq, .inr ⟨he, hq⟩⟩))
 have OP := Lib.hid (hopd_is (hp.below HB2).hb)
 have HF0 : Hid (∀ w1, Dk0 V (w.heap.size + 3) x w1 -> Anv (w1.setCell ⟨W.heap.size, 0, none⟩ (.int .i64 0)) (w.heap.size + 3) 1 0 (.slice none 0 0) /\ Anv (w1.setCell ⟨W.heap.size, 0, none⟩ (.int .i64 0)) (w.heap.size + 2) 0 0 (.slice none 0 0) /\ (if May6 x.d then (2 : Int) else 1) = 1 /\ ∀ c, Below w.heap.size w ((w1.setCell ⟨W.heap.size, 0, none⟩ (.int .i64 0)).setRow (w.heap.size + 2) c)) := Lib.hid fun w1 hq => by
  obtain ⟨hd, w0, g3, rfl⟩ := hq
  have k3 : Anv w0 (w.heap.size + 3) 0 0 (.slice none 0 0) := (HA3.below BV).below g3
  have k2 : Anv w0 (w.heap.size + 2) 0 0 (.slice none 0 0) := (HA2.below BV).below g3
  have k3' : Anv (w0.setRow (w.heap.size + 3) (anc 1 0 (.slice none 0 0))) (w.heap.size + 3) 1 0 (.slice none 0 0) := k3.put
  refine ⟨Whole.other k3' (p := ⟨W.heap.size, 0, none⟩) (by rw [s3]; simp) _, ?_, if_neg hd, fun c => ?_⟩
  . refine Whole.other (p := ⟨W.heap.size, 0, none⟩) ?_ (by rw [s3]; simp) _
    exact ((Chg.refl [w.heap.size + 3] w0).setRow (.inl (by simp)) _).whole k2 (by simp)
  . exact below_row (Below.setCell (p := ⟨W.heap.size, 0, none⟩) (below_row (below_more HBV g3) (by omega)) (by rw [s3]; dsimp only; omega) _) (by omega)
 have HF1 : Hid (∀ w1, Dk1 V x w1 -> Anv (w1.setCell ⟨W.heap.size, 0, none⟩ (.int .i64 2)) (w.heap.size + 2) 0 0 (.slice none 0 0) /\ (if May6 x.d then (2 : Int) else 1) = 2 /\ ∀ c, Below w.heap.size w ((w1.setCell ⟨W.heap.size, 0, none⟩ (.int .i64 2)).setRow (w.heap.size + 2) c)) := Lib.hid fun w1 hq => by
  have k2 : Anv w1 (w.heap.size + 2) 0 0 (.slice none 0 0) := (HA2.below BV).below hq.2
  refine ⟨Whole.other k2 (p := ⟨W.heap.size, 0, none⟩) (by rw [s3]; simp) _, if_pos hq.1, fun c => ?_⟩
  exact below_row (Below.setCell (p := ⟨W.heap.size, 0, none⟩) (below_more HBV hq.2) (by rw [s3]; dsimp only; omega) _) (by omega)
 have cz2 : W2.cell? ⟨w.heap.size, 0, none⟩ = some (.pointer (some ⟨a.z, 0, none⟩)) := by rw [Whole.at_ HQ2]; rfl
 clear hp hn hD B0 B1 B2 B3 HB2 HB q0 HQ2 HQ q1 HP q2 HA2 HA3 BV HBV hE c0 HC R0 R1 hV sV
 generalize a.z = z at *
 generalize pxc x = xc at *
 generalize (if May6 x.d then (2 : Int) else 1) = er at *
 go_enter Tryz.func31, Tryz.ntmps31
 go_wp2_with fail
 refine (OP.out).mono ?_; rintro e w1 ⟨rfl, rfl⟩
 go_wp2_with fail
 refine (HPW.out).mono ?_; rintro e w1 (⟨rfl, w2, hq, rfl⟩ | ⟨rfl, w2, hq, rfl⟩)
 . obtain ⟨k3, k2, rfl, hF⟩ := HF0.out _ hq
   have ld := k3.load
   have hst := k2.store (e' := 1) (o' := 0) (v' := .slice none 0 0) rfl
   have AP := Lib.hid (k2.put (e' := 1) (o' := 0) (v' := .slice none 0 0))
   have G := Lib.hid (hF (anc 1 0 (.slice none 0 0)))
   clear hq k3 k2 hF HF0 HF1 HPW OP cz2
   generalize w2.setCell ⟨W.heap.size, 0, none⟩ (.int .i64 0) = V1 at *
   generalize hV2 : V1.setRow (w.heap.size + 2) (anc 1 0 (.slice none 0 0)) = V2 at *
   go_wp2
   exact bodyPost_ret (v := .agg (anc 1 0 (.slice none 0 0))) (results_cell_row rfl _ _ _ _ _ _ _ rfl AP.out Tryz.underlying60 rfl (by rw [info_ans]; rfl)) rfl ⟨rfl, G.out⟩
 . obtain ⟨k2, rfl, hF⟩ := HF1.out _ hq
   have hst := k2.store (e' := 2) (o' := 0) (v' := .slice none 0 0) rfl
   have AP := Lib.hid (k2.put (e' := 2) (o' := 0) (v' := .slice none 0 0))
   have G := Lib.hid (hF (anc 2 0 (.slice none 0 0)))
   clear hq k2 hF HF0 HF1 HPW OP cz2
   generalize w2.setCell ⟨W.heap.size, 0, none⟩ (.int .i64 2) = V1 at *
   generalize hV2 : V1.setRow (w.heap.size + 2) (anc 2 0 (.slice none 0 0)) = V2 at *
   go_wp2
   exact bodyPost_ret (v := .agg (anc 2 0 (.slice none 0 0))) (results_cell_row rfl _ _ _ _ _ _ _ rfl AP.out Tryz.underlying60 rfl (by rw [info_ans]; rfl)) rfl ⟨rfl, G.out⟩
theorem hWords_down {w : World} {a : Ha} {S : Hs} (hp : Hp w a S) (hn : HNum a) (hd : S.s.dark = true) :
 Calls Tryz.prog 23 #[.pointer (some ⟨a.z, 0, none⟩)] w fun e w' => e = .returned (.tuple #[.slice none 0 0, .int .i64 2]) /\ Below w.heap.size w w' := by
 refine (hWords_any (X := []) true hp.hb fun W hb => (hwords_dark (hp.below hb).hb hn hd).mono ?_).mono ?_
 . rintro e w' ⟨h1, h2⟩
   exact ⟨h2, .inr ⟨h1, rfl⟩⟩
 . rintro e w' ⟨⟨h, _⟩ | ⟨_, h⟩, hb⟩
   . cases h
   . exact ⟨h, hb⟩
theorem hformat_down {w : World} {a : Ha} {s : Nv} (hn : HNum a) (hN : Nm w a.g s) (hl : s.n = 16 + a.N + 1 + a.P) (hd : s.dark = true) :
 Calls Tryz.prog 36 #[.pointer (some ⟨a.g, 0, none⟩), (Value.agg #[Value.int IntKind.i64 (a.N : Int), Value.int IntKind.i64 (a.P : Int), Value.int IntKind.i64 (a.per : Int), Value.int IntKind.i64 (a.b : Int)])] w fun e w' => e = .returned (.int .i64 2) /\ Below w.heap.size w w' :=
 hformat_err (E := 2) (by decide) fun _ hb => hready_down hn.may.may (hN.below hb) (by unfold dvM; omega) hd
theorem hopen_down {w : World} {a : Ha} {s : Nv} (hn : HNum a) (hN : Nm w a.g s) (hl : s.n = 16 + a.N + 1 + a.P) (hd : s.dark = true) :
 Calls Tryz.prog 33 #[.pointer (some ⟨a.g, 0, none⟩), (Value.agg #[Value.int IntKind.i64 (a.N : Int), Value.int IntKind.i64 (a.P : Int), Value.int IntKind.i64 (a.per : Int), Value.int IntKind.i64 (a.b : Int)])] w fun e w' => e = .returned (.tuple #[.pointer none, .int .i64 2]) /\ Below w.heap.size w w' :=
 hopen_err (E := 2) (by decide) fun _ hb => hready_down hn.may.may (hN.below hb) (by unfold dvM; omega) hd
theorem HC.keep1 {s s' : Nv} {N P K : Nat} {X : List Int} {r : Nat} (h : HC s N P K X r) (ok : s'.Ok) (hn : s'.n = s.n) (hr : s'.rg = s.rg) (hh : s'.h = s.h) (hc : s'.c <= s.c + 4000) (hK : K < 1000) : HC s' N P (K + 1) X r := by
 obtain ⟨e1, e2, e3, e4, e5⟩ := h.lg.like ok hn hr hh
 exact ⟨e1, h.has.same fun b _ _ => e5 b, h.ok, h.snd, by rw [hr]; exact h.rt, h.rlt, fun q hq => by rw [hr]; obtain ⟨v, e1, e2⟩ := h.rgs q hq; exact ⟨v, e1, by omega⟩, by rw [e3]; have := h.m; omega, by have := h.c; omega, by omega⟩
theorem HI.keep1 {a : Ha} {S : Hs} {s' : Nv} {K : Nat} {X : List Int} {r : Nat} (h : HI a S K X r) (ok : s'.Ok) (hn : s'.n = S.s.n) (hr : s'.rg = S.s.rg) (hh : s'.h = S.s.h) (hc : s'.c <= S.s.c + 4000) (hd : s'.dark = false) (hK : K < 1000) : HI a ⟨s', S.p, S.ct, S.wf⟩ (K + 1) X r :=
 ⟨h.hc.keep1 ok hn hr hh hc hK, hd, h.num, h.ct, h.cn, h.cb, fun q hq => by show s'.rg (19 + q) = _; rw [hr]; exact h.kp q hq, fun q hq => by have := h.cm q hq; show S.ct.c q <= _; omega, by have := h.p; show S.p <= _; omega, fun q => (congrArg leftT (Nv.tb_congr hr a.P)).trans (h.wl (q.imp id fun k e => k (by unfold lk; rw [show s'.rg = S.s.rg from hr]; exact e)))⟩
end Go.Proofs.YtjkefcidbcifpaaGreat
