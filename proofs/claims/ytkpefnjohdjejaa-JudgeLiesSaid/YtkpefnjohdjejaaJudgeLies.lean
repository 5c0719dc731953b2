/-
  An answer turned in one field, after one that is right, is a no; nothing is done by it. No conditions.
-/
import Derived.Test.YtkpefnjohdjejaaJgv
import Derived.Test.YtkpefnjohdjejaaZma
namespace Go.Proofs.Ytkpefnjohdjejaa.judgeLies
set_option maxRecDepth 100000
open Go.Proofs.Ytkpefnjohdjejaa Go.ChangeShapes Go.WideShapes Go.ChangeAt Go.RowKit

theorem qk0 {N : Int} {n : Nat} (J : JK N) (hn : needN (n : Int) = N) (h0 : N ≠ 0) : SeeQ (jS N) 1 0 n [] 0 8 [] false (jS N) := by
  obtain ⟨e1, e2⟩ := (show alW (jS N).wl N (jS N).l 8 = (jS N).wl ∧ alB N (jS N).l 8 = (jS N).l by
    have e : alQ N (jS N).l 8 = none := by simpa using J.no
    unfold alW alB; rw [e]; exact ⟨rfl, rfl⟩)
  unfold SeeQ SeeA
  rw [if_pos rfl, hn, if_neg h0, if_neg (by decide), if_neg (by simp [jS]), if_neg (by decide), if_pos (by decide), J.no, e1, e2]
  exact ⟨rfl, rfl⟩
theorem qk1 {N : Int} (J : JK N) {x : Int} (hx : x ≠ 0) : SeeQ (jS N) 3 8 1 [] 0 0 [x] false (jS N) := by
  unfold SeeQ
  rw [if_neg (by decide), if_neg (by decide), if_pos rfl, J.rd]
  exact ⟨(decide_eq_false (fun q => hx (by have := q.2.2; simpa using this))).symm, rfl⟩
theorem qk2 {N : Int} : SeeQ (jS N) 6 0 0 [] 0 8 [] false (jS N) := by
  unfold SeeQ
  rw [if_neg (by decide), if_neg (by decide), if_neg (by decide), if_pos rfl]
  exact ⟨(decide_eq_false (fun q => absurd q.2.1 (by simp [jS]))).symm, rfl⟩
theorem qk3 {N : Int} (J : JK N) : SeeQ (jS N) 1 0 1 [] 4 0 [] false (jS N) := by
  unfold SeeQ SeeA
  rw [if_pos rfl, show needN 1 = 2 by decide, if_neg (by decide), if_neg (by decide), if_neg (by simp [jS]), if_pos (by decide)]
  exact ⟨(decide_eq_false J.fs).symm, rfl⟩
theorem qk4 {N o : Int} (h : srQ (jS N).l o = 1) : SeeQ (jS N) 5 o 0 [] 0 0 [] false (jS N) := by
  unfold SeeQ
  rw [if_neg (by decide), if_pos (by decide)]
  exact ⟨1, _, by unfold ChQ; rw [if_neg (by decide), if_neg (by decide)]; exact ⟨h.symm, rfl⟩, by rw [if_neg (fun q => absurd q.1 (by decide)), if_neg (fun q => absurd q.1 (by decide)), if_neg (by decide)]; exact ⟨rfl, rfl⟩⟩
theorem qk5 {N : Int} (J : JK N) {b : Bool} {s' : Js} (h : SeeQ (jS N) 4 8 0 [] 3 0 [] b s') : b = false ∧ s' = jS N := by
  unfold SeeQ at h
  rw [if_neg (by decide), if_pos (by decide)] at h
  obtain ⟨er, s2, hc, h⟩ := h
  unfold ChQ at hc
  rw [if_neg (by decide), if_pos rfl] at hc
  have he : er = 0 := hc.1.trans J.r0
  rwa [if_neg (fun q => q.2.1 ⟨rfl, rfl⟩), if_neg (fun q => q.2.1 ⟨rfl, rfl⟩), if_neg (fun q => by have := q.1; omega)] at h
theorem qk6 {N : Int} (J : JK N) {x : Int} (hx : x ≠ 0) : SeeQ (jS N) 2 8 0 [] 0 x [] false (jS N) := by
  unfold SeeQ
  rw [if_neg (by decide), if_pos (by decide)]
  exact ⟨0, _, by unfold ChQ; rw [if_pos rfl]; exact ⟨J.f8.symm, rfl⟩, by rw [if_neg (fun q => hx q.2.2.2.1), if_neg (fun q => absurd q.2.2 (by simp [jS])), if_neg (fun q => hx q.2.1)]; exact ⟨rfl, rfl⟩⟩
-- walk
theorem jpx_store {w : World} {g : Nat} {x y : Px} (h : Pxv w g x) (h1 : y.v.oneCell' = true) : (pxStore (.pointer (some ⟨g, 0, none⟩)) (.agg (pxc y))).run Try.prog w = .ok () (w.setRow g (pxc y)) := by
  simp only [pxStore, Instr.storeAt, Instr.sureAddr, Sem.run_bind, Sem.run_pure, Result.andThen]
  exact run_storeVar_row w g 33 33 (pxc x) (pxc y) h (by rw [info_hop, pxc_size]) rfl (by simpa [pxc, Px.cells, Value.oneCell'] using h1)
theorem jrow_put {w : World} {g : Nat} {t : TypeId} {c c' : Array Value} (h : Whole w g t c) : Whole (w.setRow g c') g t c' := by
  have e : w.heap[g]? = some (.cells c t (0, 0)) := h
  unfold Whole
  simp [World.setRow, Array.getElem?_modify, e]
theorem jrow_past {w : World} {g g' : Nat} {t : TypeId} {c c' : Array Value} (h : Whole w g t c) (hne : g ≠ g') : Whole (w.setRow g' c') g t c := by
  have e : w.heap[g]? = some (.cells c t (0, 0)) := h
  unfold Whole
  rw [← e]
  simp only [World.setRow, Array.getElem?_modify]
  rw [if_neg (fun e => hne e.symm)]
theorem jbelow_row {B : Nat} {w w1 : World} {g : Nat} {c : Array Value} (h : Below B w w1) (hg : B ≤ g) : Below B w (w1.setRow g c) := by
  refine h.trans ⟨rfl, rfl, rfl, by simp [World.setRow], fun k hk => ?_⟩
  simp only [World.setRow, Array.getElem?_modify]
  rw [if_neg (by omega)]
/-- both variables, filled -/
structure Two (u w : World) (x : Px) (e o : Int) (v : Value) : Prop where
  b : Below u.heap.size u w
  px : Pxv w u.heap.size x
  an : Anv w (u.heap.size + 1) e o v
theorem Two.up {u w W : World} {x : Px} {e o : Int} {v : Value} (h : Two u w x e o v) (hb : Below w.heap.size w W) : Two u W x e o v := ⟨below_more h.b hb, h.px.below hb, h.an.below hb⟩
theorem Two.put {u w : World} {x : Px} {e o : Int} {v : Value} (h : Two u w x e o v) (y : Px) (e' o' : Int) (v' : Value) (h1 : y.v.oneCell' = true) (h2 : v'.oneCell' = true) :
    ∃ W1 W, (pxStore (.pointer (some ⟨u.heap.size, 0, none⟩)) (.agg (pxc y))).run Try.prog w = .ok () W1 ∧ (anStore (.pointer (some ⟨u.heap.size + 1, 0, none⟩)) (.agg (anc e' o' v'))).run Try.prog W1 = .ok () W ∧ Hid (Two u W y e' o' v' ∧ Chg [u.heap.size, u.heap.size + 1] w W) := by
  have a1 : Anv (w.setRow u.heap.size (pxc y)) (u.heap.size + 1) e o v := jrow_past h.an (by omega)
  exact ⟨_, _, jpx_store h.px h1, a1.store h2, Lib.hid ⟨⟨jbelow_row (jbelow_row h.b (Nat.le_refl _)) (by omega), jrow_past (jrow_put h.px) (by omega), a1.put⟩, ((Chg.refl _ _).setRow (.inl (by simp)) _).setRow (.inl (by simp)) _⟩⟩
set_option maxHeartbeats 8000000 in
theorem walk (a0 a1 a2 : Int) (w : World) (_ : (Lit.int .i64 a0).wf = true) (_ : (Lit.int .i64 a1).wf = true) (_ : (Lit.int .i64 a2).wf = true) :
    Calls Try.prog 5 #[.int .i64 a0, .int .i64 a1, .int .i64 a2] w fun e w' => e = .returned (.bool true) ∧ Below w.heap.size w w' := by
  obtain ⟨u0, hu0, _⟩ := u64_nat a0
  have m0 : u0 % 100 < 100 := Nat.mod_lt _ (by decide)
  have t0 : (u0 : Int).tmod 100 = ((u0 % 100 : Nat) : Int) := tmod_nat u0 100
  generalize u0 % 100 = n0 at *
  have k0 : IntKind.i64.wrap (n0 : Int) = n0 := i64_nat _ (by omega)
  have j0 : IntKind.i64.wrap (1 + (n0 : Int)) = ((1 + n0 : Nat) : Int) := by rw [show 1 + (n0 : Int) = ((1 + n0 : Nat) : Int) by omega]; exact i64_nat _ (by omega)
  obtain ⟨u1, hu1, _⟩ := u64_nat a1
  have m1 : u1 % 100 < 100 := Nat.mod_lt _ (by decide)
  have t1 : (u1 : Int).tmod 100 = ((u1 % 100 : Nat) : Int) := tmod_nat u1 100
  generalize u1 % 100 = n1 at *
  have k1 : IntKind.i64.wrap (n1 : Int) = n1 := i64_nat _ (by omega)
  have j1 : IntKind.i64.wrap (1 + (n1 : Int)) = ((1 + n1 : Nat) : Int) := by rw [show 1 + (n1 : Int) = ((1 + n1 : Nat) : Int) by omega]; exact i64_nat _ (by omega)
  obtain ⟨u2, hu2, _⟩ := u64_nat a2
  have m2 : u2 % 7 < 7 := Nat.mod_lt _ (by decide)
  have t2 : (u2 : Int).tmod 7 = ((u2 % 7 : Nat) : Int) := tmod_nat u2 7
  generalize u2 % 7 = n2 at *
  obtain ⟨kk, hkk, JJ⟩ := jk_of (n := 1 + n0) (by omega) (by omega)
  have QA := Lib.hid (jq_alloc (n := 1 + n0) (by omega) (by omega))
  have HJ := Lib.hid JJ
  have HN : Hid (needN ((1 + n0 : Nat) : Int) ≠ 0) := Lib.hid (by omega)
  have RT : Hid (srQ (jS (needN ((1 + n0 : Nat) : Int))).l ((16 + (1 + n1) * 8 : Nat) : Int) = 1) := Lib.hid (by
    have h := jRt_all kk ⟨n1, m1⟩
    rw [← hkk] at h
    have h' := of_decide_eq_true h
    rwa [show (24 : Int) + 8 * ((⟨n1, m1⟩ : Fin 100).val : Int) = ((16 + (1 + n1) * 8 : Nat) : Int) by show (24 : Int) + 8 * (n1 : Int) = _; omega] at h')
  have iw : IntKind.i64.wrap (((1 + n1 : Nat) : Int) * 8) = (((1 + n1) * 8 : Nat) : Int) := by rw [show ((1 + n1 : Nat) : Int) * 8 = (((1 + n1) * 8 : Nat) : Int) by omega]; exact i64_nat _ (by omega)
  have ix : IntKind.i64.wrap (16 + (((1 + n1) * 8 : Nat) : Int)) = ((16 + (1 + n1) * 8 : Nat) : Int) := by rw [show 16 + (((1 + n1) * 8 : Nat) : Int) = ((16 + (1 + n1) * 8 : Nat) : Int) by omega]; exact i64_nat _ (by omega)
  have iu : IntKind.u8.wrap ((1 + n1 : Nat) : Int) = ((1 + n1 : Nat) : Int) := by
    have : ((1 + n1 : Nat) : Int) % 256 = ((1 + n1 : Nat) : Int) := Int.emod_eq_of_lt (by omega) (by omega)
    simpa [IntKind.wrap, IntKind.signed, IntKind.bits] using this
  have HX : Hid ((((1 + n1 : Nat) : Int) ≠ 0) ∧ By ((1 + n1 : Nat) : Int)) := Lib.hid ⟨by omega, by unfold By; omega⟩
  clear m0 m1 JJ hkk
  generalize 16 + (1 + n1) * 8 = O0 at *
  generalize (1 + n1) * 8 = P0 at *
  generalize 1 + n1 = X0 at *
  generalize 1 + n0 = N0 at *
  generalize hNN : needN (N0 : Int) = N at *
  have HNN := Lib.hid hNN
  clear hNN
  have C1 := Lib.hid (jnew_k 64 (by decide) w (Below.refl w.heap.size w))
  go_enter Try.func5, Try.ntmps5
  go_wp2_with fail
  refine (C1.out).mono ?_; rintro e w1 ⟨j, rfl, h1⟩
  have C2 := Lib.hid (h1.see ⟨1, 0, N0, 0, .slice none 0 0, []⟩ 0 8 (ra_nil_by w1) (by simp) (ra_nil_by w1) QA.out)
  clear h1 C1
  go_wp2_with fail
  refine (C2.out).mono ?_; rintro e w2 ⟨rfl, h2⟩
  obtain ⟨g, hlt, hsee⟩ := h2.anyc
  have CS0 := Lib.hid hsee
  have HLT := Lib.hid hlt
  have C3 := Lib.hid h2.blk
  clear h2 C2 hsee hlt
  go_wp2_with fail
  refine (C3.out).mono ?_; rintro e u ⟨⟨v3, rfl, o3⟩, b3⟩
  have B3 := Lib.hid b3
  have O3 := Lib.hid (fun (W W' : World) (hb : Below u.heap.size u W) (hc : Chg [j, g] W W') => ra_chg (ra_below o3.ra hb) hc (fun k hk q => by
    have h1 := (o3.lt k hk).1
    have h2 := HLT.out
    simp at q
    omega))
  obtain ⟨q3, c3, rfl, _⟩ := ra_shape o3.ra
  clear o3 b3 C3
  obtain ⟨A, hA⟩ : ∃ A, u.alloc (.cells #[.int .i64 0, .int .i64 0, .int .i64 0, .int .i64 0, .slice none 0 0] 33) = A := ⟨_, rfl⟩
  obtain ⟨B, hB⟩ : ∃ B, A.alloc (.cells #[.int .i64 0, .int .i64 0, .slice none 0 0] 36) = B := ⟨_, rfl⟩
  have s0 : A.heap.size = u.heap.size + 1 := by rw [← hA, size_alloc]
  have T0 : Two u B ⟨0, 0, 0, 0, .slice none 0 0, []⟩ 0 0 (.slice none 0 0) := by
    have b1 : Below u.heap.size u A := by rw [← hA]; exact bal (Below.refl _ _)
    have b2 : Below A.heap.size A B := by rw [← hB]; exact bal (Below.refl _ _)
    have p1 : Pxv A u.heap.size ⟨0, 0, 0, 0, .slice none 0 0, []⟩ := by rw [← hA]; exact Pxv.new u ⟨0, 0, 0, 0, .slice none 0 0, []⟩
    refine ⟨below_more b1 b2, p1.below b2, ?_⟩
    rw [← s0, ← hB]; exact Anv.new A 0 0 _
  obtain ⟨V1, V, st1, st2, HV⟩ := T0.put ⟨2, 8, 0, 0, .slice none 0 0, []⟩ 0 X0 (.slice none 0 0) rfl rfl
  clear T0
  rcases (by omega : n2 = 0 ∨ n2 = 1 ∨ n2 = 2 ∨ n2 = 3 ∨ n2 = 4 ∨ n2 = 5 ∨ n2 = 6) with rfl | rfl | rfl | rfl | rfl | rfl | rfl
  · have HV2 := Lib.hid HV.out.1
    obtain ⟨V3, V4, st3, st4, HT⟩ := HV2.out.put ⟨1, 0, N0, 0, .slice none 0 0, []⟩ 0 8 (.slice none 0 0) rfl rfl
    have ld9 : (pxLoad (.pointer (some ⟨u.heap.size, 0, none⟩))).run Try.prog V4 = .ok (.agg (pxc ⟨1, 0, N0, 0, .slice none 0 0, []⟩)) V4 := run_pxLoad fun j u hj => by rw [Whole.at_ HT.out.1.px, Nat.zero_add, ← hj]; simp [pxc]
    have ld10 := HT.out.1.an.load
    have TB := Lib.hid HT.out.1.b
    have CS := Lib.hid (CS0.out V4 (below_more B3.out TB.out) ⟨1, 0, N0, 0, .slice none 0 0, []⟩ 0 8 (.slice none 0 0) [] (ra_nil_by V4) (by simp) (ra_nil_by V4))
    have NO : Hid (∀ b s', SeeQ (jS N) 1 0 (N0 : Int) [] 0 8 [] b s' → b = false ∧ s' = jS N) := Lib.hid (fun b s' q => q.one (qk0 HJ.out HNN.out HN.out))
    clear HT
    clear HV
    go_wp2_with fail
    refine (CS.out).mono ?_; rintro e wa ⟨b, s', rfl, hq, ha, hc⟩
    obtain ⟨rfl, rfl⟩ := NO.out _ _ hq
    have HA := Lib.hid ha
    have CB := Lib.hid ha.blk
    have OA := Lib.hid (O3.out _ _ TB.out hc)
    clear ha hq hc CS
    go_wp2_with fail
    refine (CB.out).mono ?_; rintro e wb ⟨⟨vb, rfl, ob⟩, bb⟩
    have HB2 := Lib.hid (HA.out.below bb)
    have SB := Lib.hid (blks_same (w := wb) ob.ra (ra_below OA.out bb))
    obtain ⟨qb, cb, rfl, _⟩ := ra_shape ob.ra
    clear ob bb CB HA
    go_wp2_with fail
    refine (SB.out).mono ?_; rintro e wc ⟨rfl, nc, rfl⟩
    have HC := Lib.hid (HB2.out.below (below_drewN (Below.refl _ _) nc))
    have CW := Lib.hid HC.out.worn
    clear SB HB2
    go_wp2_with fail
    refine (CW.out).mono ?_; rintro e wd ⟨rfl, rfl⟩
    dsimp only [jS]
    go_wp2_with fail
    refine (awake_any _).mono ?_; rintro e we ⟨rfl, be⟩
    have DE := Lib.hid (below_more HC.out.b be)
    go_wp2_with fail
    go_ret
    exact ⟨rfl, DE.out⟩
  · obtain ⟨V2, hV2⟩ : ∃ V2, V.alloc (.cells #[.int .u8 (X0 : Int)] 5) = V2 := ⟨_, rfl⟩
    have o2 := by_one V HX.out.2
    rw [hV2] at o2
    have b2 : Below V.heap.size V V2 := by rw [← hV2]; exact bal (Below.refl _ _)
    have HV2 := Lib.hid (HV.out.1.up b2)
    have hsV : u.heap.size + 1 < V.heap.size := HV.out.1.an.lt
    obtain ⟨V3, V4, st3, st4, HT⟩ := HV2.out.put ⟨3, 8, 1, 0, .slice none 0 0, []⟩ 0 0 (.slice (some ⟨V.heap.size, 0, none⟩) 1 1) rfl rfl
    have HO2 : Hid (RA byE V4 (.slice (some ⟨V.heap.size, 0, none⟩) 1 1) [(X0 : Int)]) := Lib.hid (ra_chg o2.ra HT.out.2 (fun k hk q => by
      obtain rfl : V.heap.size = k := by simpa [Value.ownBlock] using hk
      simp at q
      omega))
    clear o2 b2 hsV
    have ld9 : (pxLoad (.pointer (some ⟨u.heap.size, 0, none⟩))).run Try.prog V4 = .ok (.agg (pxc ⟨3, 8, 1, 0, .slice none 0 0, []⟩)) V4 := run_pxLoad fun j u hj => by rw [Whole.at_ HT.out.1.px, Nat.zero_add, ← hj]; simp [pxc]
    have ld10 := HT.out.1.an.load
    have TB := Lib.hid HT.out.1.b
    have CS := Lib.hid (CS0.out V4 (below_more B3.out TB.out) ⟨3, 8, 1, 0, .slice none 0 0, []⟩ 0 0 (.slice (some ⟨V.heap.size, 0, none⟩) 1 1) [(X0 : Int)] (ra_nil_by V4) (by simp) HO2.out)
    have NO : Hid (∀ b s', SeeQ (jS N) 3 8 1 [] 0 0 [(X0 : Int)] b s' → b = false ∧ s' = jS N) := Lib.hid (fun b s' q => q.one (qk1 HJ.out HX.out.1))
    clear HT HO2
    clear HV
    go_wp2_with fail
    refine (CS.out).mono ?_; rintro e wa ⟨b, s', rfl, hq, ha, hc⟩
    obtain ⟨rfl, rfl⟩ := NO.out _ _ hq
    have HA := Lib.hid ha
    have CB := Lib.hid ha.blk
    have OA := Lib.hid (O3.out _ _ TB.out hc)
    clear ha hq hc CS
    go_wp2_with fail
    refine (CB.out).mono ?_; rintro e wb ⟨⟨vb, rfl, ob⟩, bb⟩
    have HB2 := Lib.hid (HA.out.below bb)
    have SB := Lib.hid (blks_same (w := wb) ob.ra (ra_below OA.out bb))
    obtain ⟨qb, cb, rfl, _⟩ := ra_shape ob.ra
    clear ob bb CB HA
    go_wp2_with fail
    refine (SB.out).mono ?_; rintro e wc ⟨rfl, nc, rfl⟩
    have HC := Lib.hid (HB2.out.below (below_drewN (Below.refl _ _) nc))
    have CW := Lib.hid HC.out.worn
    clear SB HB2
    go_wp2_with fail
    refine (CW.out).mono ?_; rintro e wd ⟨rfl, rfl⟩
    dsimp only [jS]
    go_wp2_with fail
    refine (awake_any _).mono ?_; rintro e we ⟨rfl, be⟩
    have DE := Lib.hid (below_more HC.out.b be)
    go_wp2_with fail
    go_ret
    exact ⟨rfl, DE.out⟩
  · have HV2 := Lib.hid HV.out.1
    obtain ⟨V3, V4, st3, st4, HT⟩ := HV2.out.put ⟨6, 0, 0, 0, .slice none 0 0, []⟩ 0 8 (.slice none 0 0) rfl rfl
    have ld9 : (pxLoad (.pointer (some ⟨u.heap.size, 0, none⟩))).run Try.prog V4 = .ok (.agg (pxc ⟨6, 0, 0, 0, .slice none 0 0, []⟩)) V4 := run_pxLoad fun j u hj => by rw [Whole.at_ HT.out.1.px, Nat.zero_add, ← hj]; simp [pxc]
    have ld10 := HT.out.1.an.load
    have TB := Lib.hid HT.out.1.b
    have CS := Lib.hid (CS0.out V4 (below_more B3.out TB.out) ⟨6, 0, 0, 0, .slice none 0 0, []⟩ 0 8 (.slice none 0 0) [] (ra_nil_by V4) (by simp) (ra_nil_by V4))
    have NO : Hid (∀ b s', SeeQ (jS N) 6 0 0 [] 0 8 [] b s' → b = false ∧ s' = jS N) := Lib.hid (fun b s' q => q.one qk2)
    clear HT
    clear HV
    go_wp2_with fail
    refine (CS.out).mono ?_; rintro e wa ⟨b, s', rfl, hq, ha, hc⟩
    obtain ⟨rfl, rfl⟩ := NO.out _ _ hq
    have HA := Lib.hid ha
    have CB := Lib.hid ha.blk
    have OA := Lib.hid (O3.out _ _ TB.out hc)
    clear ha hq hc CS
    go_wp2_with fail
    refine (CB.out).mono ?_; rintro e wb ⟨⟨vb, rfl, ob⟩, bb⟩
    have HB2 := Lib.hid (HA.out.below bb)
    have SB := Lib.hid (blks_same (w := wb) ob.ra (ra_below OA.out bb))
    obtain ⟨qb, cb, rfl, _⟩ := ra_shape ob.ra
    clear ob bb CB HA
    go_wp2_with fail
    refine (SB.out).mono ?_; rintro e wc ⟨rfl, nc, rfl⟩
    have HC := Lib.hid (HB2.out.below (below_drewN (Below.refl _ _) nc))
    have CW := Lib.hid HC.out.worn
    clear SB HB2
    go_wp2_with fail
    refine (CW.out).mono ?_; rintro e wd ⟨rfl, rfl⟩
    dsimp only [jS]
    go_wp2_with fail
    refine (awake_any _).mono ?_; rintro e we ⟨rfl, be⟩
    have DE := Lib.hid (below_more HC.out.b be)
    go_wp2_with fail
    go_ret
    exact ⟨rfl, DE.out⟩
  · have HV2 := Lib.hid HV.out.1
    obtain ⟨V3, V4, st3, st4, HT⟩ := HV2.out.put ⟨1, 0, 1, 0, .slice none 0 0, []⟩ 4 0 (.slice none 0 0) rfl rfl
    have ld9 : (pxLoad (.pointer (some ⟨u.heap.size, 0, none⟩))).run Try.prog V4 = .ok (.agg (pxc ⟨1, 0, 1, 0, .slice none 0 0, []⟩)) V4 := run_pxLoad fun j u hj => by rw [Whole.at_ HT.out.1.px, Nat.zero_add, ← hj]; simp [pxc]
    have ld10 := HT.out.1.an.load
    have TB := Lib.hid HT.out.1.b
    have CS := Lib.hid (CS0.out V4 (below_more B3.out TB.out) ⟨1, 0, 1, 0, .slice none 0 0, []⟩ 4 0 (.slice none 0 0) [] (ra_nil_by V4) (by simp) (ra_nil_by V4))
    have NO : Hid (∀ b s', SeeQ (jS N) 1 0 1 [] 4 0 [] b s' → b = false ∧ s' = jS N) := Lib.hid (fun b s' q => q.one (qk3 HJ.out))
    clear HT
    clear HV
    go_wp2_with fail
    refine (CS.out).mono ?_; rintro e wa ⟨b, s', rfl, hq, ha, hc⟩
    obtain ⟨rfl, rfl⟩ := NO.out _ _ hq
    have HA := Lib.hid ha
    have CB := Lib.hid ha.blk
    have OA := Lib.hid (O3.out _ _ TB.out hc)
    clear ha hq hc CS
    go_wp2_with fail
    refine (CB.out).mono ?_; rintro e wb ⟨⟨vb, rfl, ob⟩, bb⟩
    have HB2 := Lib.hid (HA.out.below bb)
    have SB := Lib.hid (blks_same (w := wb) ob.ra (ra_below OA.out bb))
    obtain ⟨qb, cb, rfl, _⟩ := ra_shape ob.ra
    clear ob bb CB HA
    go_wp2_with fail
    refine (SB.out).mono ?_; rintro e wc ⟨rfl, nc, rfl⟩
    have HC := Lib.hid (HB2.out.below (below_drewN (Below.refl _ _) nc))
    have CW := Lib.hid HC.out.worn
    clear SB HB2
    go_wp2_with fail
    refine (CW.out).mono ?_; rintro e wd ⟨rfl, rfl⟩
    dsimp only [jS]
    go_wp2_with fail
    refine (awake_any _).mono ?_; rintro e we ⟨rfl, be⟩
    have DE := Lib.hid (below_more HC.out.b be)
    go_wp2_with fail
    go_ret
    exact ⟨rfl, DE.out⟩
  · have HV2 := Lib.hid HV.out.1
    obtain ⟨V3, V4, st3, st4, HT⟩ := HV2.out.put ⟨5, O0, 0, 0, .slice none 0 0, []⟩ 0 0 (.slice none 0 0) rfl rfl
    have ld9 : (pxLoad (.pointer (some ⟨u.heap.size, 0, none⟩))).run Try.prog V4 = .ok (.agg (pxc ⟨5, O0, 0, 0, .slice none 0 0, []⟩)) V4 := run_pxLoad fun j u hj => by rw [Whole.at_ HT.out.1.px, Nat.zero_add, ← hj]; simp [pxc]
    have ld10 := HT.out.1.an.load
    have TB := Lib.hid HT.out.1.b
    have CS := Lib.hid (CS0.out V4 (below_more B3.out TB.out) ⟨5, O0, 0, 0, .slice none 0 0, []⟩ 0 0 (.slice none 0 0) [] (ra_nil_by V4) (by simp) (ra_nil_by V4))
    have NO : Hid (∀ b s', SeeQ (jS N) 5 (O0 : Int) 0 [] 0 0 [] b s' → b = false ∧ s' = jS N) := Lib.hid (fun b s' q => q.one (qk4 RT.out))
    clear HT
    clear HV
    go_wp2_with fail
    refine (CS.out).mono ?_; rintro e wa ⟨b, s', rfl, hq, ha, hc⟩
    obtain ⟨rfl, rfl⟩ := NO.out _ _ hq
    have HA := Lib.hid ha
    have CB := Lib.hid ha.blk
    have OA := Lib.hid (O3.out _ _ TB.out hc)
    clear ha hq hc CS
    go_wp2_with fail
    refine (CB.out).mono ?_; rintro e wb ⟨⟨vb, rfl, ob⟩, bb⟩
    have HB2 := Lib.hid (HA.out.below bb)
    have SB := Lib.hid (blks_same (w := wb) ob.ra (ra_below OA.out bb))
    obtain ⟨qb, cb, rfl, _⟩ := ra_shape ob.ra
    clear ob bb CB HA
    go_wp2_with fail
    refine (SB.out).mono ?_; rintro e wc ⟨rfl, nc, rfl⟩
    have HC := Lib.hid (HB2.out.below (below_drewN (Below.refl _ _) nc))
    have CW := Lib.hid HC.out.worn
    clear SB HB2
    go_wp2_with fail
    refine (CW.out).mono ?_; rintro e wd ⟨rfl, rfl⟩
    dsimp only [jS]
    go_wp2_with fail
    refine (awake_any _).mono ?_; rintro e we ⟨rfl, be⟩
    have DE := Lib.hid (below_more HC.out.b be)
    go_wp2_with fail
    go_ret
    exact ⟨rfl, DE.out⟩
  · have HV2 := Lib.hid HV.out.1
    obtain ⟨V3, V4, st3, st4, HT⟩ := HV2.out.put ⟨4, 8, 0, 0, .slice none 0 0, []⟩ 3 0 (.slice none 0 0) rfl rfl
    have ld9 : (pxLoad (.pointer (some ⟨u.heap.size, 0, none⟩))).run Try.prog V4 = .ok (.agg (pxc ⟨4, 8, 0, 0, .slice none 0 0, []⟩)) V4 := run_pxLoad fun j u hj => by rw [Whole.at_ HT.out.1.px, Nat.zero_add, ← hj]; simp [pxc]
    have ld10 := HT.out.1.an.load
    have TB := Lib.hid HT.out.1.b
    have CS := Lib.hid (CS0.out V4 (below_more B3.out TB.out) ⟨4, 8, 0, 0, .slice none 0 0, []⟩ 3 0 (.slice none 0 0) [] (ra_nil_by V4) (by simp) (ra_nil_by V4))
    have NO : Hid (∀ b s', SeeQ (jS N) 4 8 0 [] 3 0 [] b s' → b = false ∧ s' = jS N) := Lib.hid (fun b s' q => qk5 HJ.out q)
    clear HT
    clear HV
    go_wp2_with fail
    refine (CS.out).mono ?_; rintro e wa ⟨b, s', rfl, hq, ha, hc⟩
    obtain ⟨rfl, rfl⟩ := NO.out _ _ hq
    have HA := Lib.hid ha
    have CB := Lib.hid ha.blk
    have OA := Lib.hid (O3.out _ _ TB.out hc)
    clear ha hq hc CS
    go_wp2_with fail
    refine (CB.out).mono ?_; rintro e wb ⟨⟨vb, rfl, ob⟩, bb⟩
    have HB2 := Lib.hid (HA.out.below bb)
    have SB := Lib.hid (blks_same (w := wb) ob.ra (ra_below OA.out bb))
    obtain ⟨qb, cb, rfl, _⟩ := ra_shape ob.ra
    clear ob bb CB HA
    go_wp2_with fail
    refine (SB.out).mono ?_; rintro e wc ⟨rfl, nc, rfl⟩
    have HC := Lib.hid (HB2.out.below (below_drewN (Below.refl _ _) nc))
    have CW := Lib.hid HC.out.worn
    clear SB HB2
    go_wp2_with fail
    refine (CW.out).mono ?_; rintro e wd ⟨rfl, rfl⟩
    dsimp only [jS]
    go_wp2_with fail
    refine (awake_any _).mono ?_; rintro e we ⟨rfl, be⟩
    have DE := Lib.hid (below_more HC.out.b be)
    go_wp2_with fail
    go_ret
    exact ⟨rfl, DE.out⟩
  · have HT : Hid (Two u V ⟨2, 8, 0, 0, .slice none 0 0, []⟩ 0 (X0 : Int) (.slice none 0 0) ∧ Chg [u.heap.size, u.heap.size + 1] V V) := Lib.hid ⟨HV.out.1, Chg.refl _ _⟩
    have ld9 : (pxLoad (.pointer (some ⟨u.heap.size, 0, none⟩))).run Try.prog V = .ok (.agg (pxc ⟨2, 8, 0, 0, .slice none 0 0, []⟩)) V := run_pxLoad fun j u hj => by rw [Whole.at_ HT.out.1.px, Nat.zero_add, ← hj]; simp [pxc]
    have ld10 := HT.out.1.an.load
    have TB := Lib.hid HT.out.1.b
    have CS := Lib.hid (CS0.out V (below_more B3.out TB.out) ⟨2, 8, 0, 0, .slice none 0 0, []⟩ 0 (X0 : Int) (.slice none 0 0) [] (ra_nil_by V) (by simp) (ra_nil_by V))
    have NO : Hid (∀ b s', SeeQ (jS N) 2 8 0 [] 0 (X0 : Int) [] b s' → b = false ∧ s' = jS N) := Lib.hid (fun b s' q => q.one (qk6 HJ.out HX.out.1))
    clear HT
    clear HV
    go_wp2_with fail
    refine (CS.out).mono ?_; rintro e wa ⟨b, s', rfl, hq, ha, hc⟩
    obtain ⟨rfl, rfl⟩ := NO.out _ _ hq
    have HA := Lib.hid ha
    have CB := Lib.hid ha.blk
    have OA := Lib.hid (O3.out _ _ TB.out hc)
    clear ha hq hc CS
    go_wp2_with fail
    refine (CB.out).mono ?_; rintro e wb ⟨⟨vb, rfl, ob⟩, bb⟩
    have HB2 := Lib.hid (HA.out.below bb)
    have SB := Lib.hid (blks_same (w := wb) ob.ra (ra_below OA.out bb))
    obtain ⟨qb, cb, rfl, _⟩ := ra_shape ob.ra
    clear ob bb CB HA
    go_wp2_with fail
    refine (SB.out).mono ?_; rintro e wc ⟨rfl, nc, rfl⟩
    have HC := Lib.hid (HB2.out.below (below_drewN (Below.refl _ _) nc))
    have CW := Lib.hid HC.out.worn
    clear SB HB2
    go_wp2_with fail
    refine (CW.out).mono ?_; rintro e wd ⟨rfl, rfl⟩
    dsimp only [jS]
    go_wp2_with fail
    refine (awake_any _).mono ?_; rintro e we ⟨rfl, be⟩
    have DE := Lib.hid (below_more HC.out.b be)
    go_wp2_with fail
    go_ret
    exact ⟨rfl, DE.out⟩
set_option maxRecDepth 100000 in
theorem lifted (os : Os) (started : os.Started) (H : Type) (enc : TypeId × Value → H) :
    ReturnsInHanded {} Try.checked os 5 .any (Rows.judgeLiesSpec.pre6 enc Try.prog Try.f5 Rows.judgeLiesRow.domain false) (Rows.judgeLiesSpec.post enc Try.prog Try.f5 false true false false) := by
  refine returnsInHanded_of_change (C := Try.checked) own started (by kernel_rfl) Try.func5
    (ChangeSpec.witness6 (enc := enc) (C := Try.checked) false ⟨#[], #[.int .i64 0, .int .i64 0, .int .i64 0], []⟩ 8 (by kernel_rfl) (by kernel_rfl) (by kernel_rfl) (by kernel_rfl)) ?_
  intro W base args ds gs before hval0 hW hcnd _
  have hval : ∀ (j : Nat) t v, Try.f5.params[j]? = some t → args[j]? = some v → Value.okWide Try.prog W .any base t v := hval0
  have hW' := hW
  have hlt := hW.lt
  obtain ⟨p, q, hA0, hV, hpq, hfz, hnd⟩ := hW
  have hA : DataW.TrodAll enc Try.prog W 0 (fun _ => true) true Try.f5.params.toList args.toList ds p := hA0
  rw [Try.params5] at hA hval
  obtain ⟨v0, vs0, d0, ds0, p0, q0, hargs, rfl, hp, h0, r0⟩ := trodAll_cons hA
  obtain ⟨v1, vs1, d1, ds1, p1, q1, rfl, rfl, rfl, h1, r1⟩ := trodAll_cons r0
  obtain ⟨v2, vs2, d2, ds2, p2, q2, rfl, rfl, rfl, h2, r2⟩ := trodAll_cons r1
  obtain ⟨rfl, rfl, rfl⟩ := trodAll_nil r2
  obtain rfl : args = #[v0, v1, v2] := by cases args; simp_all
  obtain ⟨rfl, rfl⟩ := trodVars_none hV
  have hlt' : ∀ x ∈ before, x.block < W.heap.size := fun x hx => hlt x hx
  obtain ⟨a0, rfl, rfl, rfl, w0⟩ := open_int Try.underlying3 (hval 0 3 v0 rfl rfl) h0
  obtain ⟨a1, rfl, rfl, rfl, w1⟩ := open_int Try.underlying3 (hval 1 3 v1 rfl rfl) h1
  obtain ⟨a2, rfl, rfl, rfl, w2⟩ := open_int Try.underlying3 (hval 2 3 v2 rfl rfl) h2
  refine (walk a0 a1 a2 W w0 w1 w2).mono fun e W' ⟨he, hb⟩ => ?_
  subst he
  exact ⟨_, rfl, law_post rfl (by kernel_rfl) hW' (by rw [Try.params5]; intro t ht; simp only [List.mem_cons, List.not_mem_nil, or_false] at ht; (repeat' (first | (rcases ht with rfl | ht) | subst ht)) <;> exact ⟨by kernel_rfl, of_decide_eq_true (by kernel_rfl)⟩) rfl hb⟩

theorem over : Rows.judgeLiesRow.holds Try.pinned (OpenSpec.ofChange Rows.judgeLiesSpec) :=
  OpenClaim.holds_of_wide 5 Try.f5 rfl rfl rfl rfl rfl rfl rfl ⟨rfl, rfl, rfl, rfl, rfl⟩ rfl rfl rfl rfl rfl (by kernel_rfl) Try.func5 (by kernel_rfl)
    (of_decide_eq_true (by kernel_rfl)) (by unfold Func.isWrapper; first | (rw [if_pos (by decide +kernel)]; kernel_rfl) | (rw [if_neg (by decide +kernel)]; exact ⟨rfl, rfl⟩))
    (fun os started H enc _ => lifted os started H enc)

theorem proved : Rows.JudgeLiesSaid := over
end Go.Proofs.Ytkpefnjohdjejaa.judgeLies
