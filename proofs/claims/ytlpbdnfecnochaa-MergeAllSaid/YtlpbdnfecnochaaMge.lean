/-
  Contract of package merge: the word that is written where a block is given back.
-/
import Derived.Test.YtlpbdnfecnochaaMgm
namespace Go.Proofs.Ytlpbdnfecnochaa
set_option maxRecDepth 100000
open Go.ChangeShapes Go.WideShapes Go.ChangeAt Go.RowKit

theorem results_row_tmp {P : Program} {fn : Func} {p q : Tmp} {ty : TypeId} (h : fn.results = #[.cell p ty, .tmp q]) (tmps : Array Value) (w : World) (v : Value) (g : Nat) (t : TypeId) (cs : Array Value) (fr : Nat × Nat) (d : TypeDesc)
    (hp : tmps.getD p undef = .pointer (some ⟨g, 0, none⟩)) (hq : tmps.getD q undef = v) (hg : w.heap[g]? = some (.cells cs t fr))
    (hu : P.underlying ty = some d) (hd : (match d with | .struct _ | .array _ _ => true | _ => false) = true) (hi : (P.info? ty).map (·.size) = some cs.size) :
    (results fn tmps).run P w = .ok (.tuple #[.agg cs, v]) w := by
  have hp' : tmps[p]?.getD undef = .pointer (some ⟨g, 0, none⟩) := by simpa using hp
  have hq' : tmps[q]?.getD undef = v := by simpa using hq
  simp [results, h, hp', hq', asAddr, run_loadVar_row w g t ty cs fr d hg hu hd hi]
theorem built_ed0 : Try.prog.built 30 [] = some (ec ⟨0, 0⟩) := by kernel_rfl
@[go_sem] theorem run_edBuild0 (w : World) : (edBuild #[]).run Try.prog w = .ok (.agg (ec ⟨0, 0⟩)) w := run_build w _ _ _ built_ed0

set_option maxHeartbeats 2000000 in
theorem medit_is (l : List Bk) (i : Int) (v : Value) (w : World) (hv : RA blkE w v l) (hl : l.length ≤ 1000) (r : Bool) (h : canM l i = r) :
    Calls Try.prog 10 #[v, .int .i64 i] w fun e w' => e = .returned (.tuple #[.agg (ec (medF l i)), .bool r]) ∧ Below w.heap.size w w' := by
  obtain ⟨W, hW, H0⟩ := ed_box0 w
  have hvW := ra_below hv H0.out.2
  cases r with
  | false =>
    have C1 := Lib.hid (joined_no l i v W hvW hl h)
    rw [medF_no h]
    obtain ⟨p, cap, rfl, _⟩ := ra_shape hv
    generalize l.length = L at *
    clear hv hl h hvW
    go_enter Try.func10, Try.ntmps10
    go_wp2_with fail
    refine (C1.out).mono ?_; rintro e w1 ⟨rfl, b1⟩
    have G1 := H0.out.1.below b1
    have hst := G1.store ⟨0, 0⟩
    have FY := Lib.hid (G1.put ⟨0, 0⟩)
    have BF := Lib.hid (((Chg.of_below b1 [w.heap.size]).setRow (g := w.heap.size) (.inl (by simp)) (ec ⟨0, 0⟩)).below H0.out.2 H0.out.2.size (fun k hk => by rw [List.mem_singleton.1 hk]; exact Nat.le_refl _))
    clear b1 G1 C1
    go_wp2
    exact bodyPost_ret (v := .tuple #[.agg (ec ⟨0, 0⟩), .bool false]) (results_row_tmp rfl _ _ _ _ _ _ _ _ rfl rfl FY.out Try.underlying30 rfl (by rw [info_edit]; rfl)) rfl ⟨rfl, BF.out⟩
  | true =>
    obtain ⟨k, rfl⟩ : ∃ k : Nat, i = k := ⟨i.toNat, by have := (canM_yes.1 h).2.1; omega⟩
    have C1 := Lib.hid (joined_yes l k v W hvW hl h)
    obtain ⟨hm, hk, hu⟩ := canM_nat h
    rw [medF_yes h]
    have HV := Lib.hid (fun (w' : World) (hb : Below W.heap.size W w') => ra_below hvW hb)
    obtain ⟨p, c, rfl, hlc, hcm⟩ := ra_shape hv
    obtain ⟨b, off, rfl, _⟩ := blk_at hv (by omega)
    have hft := frm_too hk
    have hml := mid_length hk
    obtain ⟨hms, hma⟩ := mid_sum h
    have C2 := Lib.hid (fun (w' : World) (hb : Below W.heap.size W w') => one_is (midB l k) _ w' (ra_mid hk (HV.out w' hb)) (by omega) (by omega) _ _ hma hms)
    obtain ⟨a, ha⟩ : ∃ a, (oneB l k).a = a := ⟨_, rfl⟩
    obtain ⟨s, hs⟩ : ∃ a, (oneB l k).s = a := ⟨_, rfl⟩
    rw [ha, hs] at C2 ⊢
    have C3 := Lib.hid (fun w => wordb_is s false w)
    obtain ⟨x, hx⟩ : ∃ x, hdB s false = x := ⟨_, rfl⟩
    rw [hx] at C3 ⊢
    clear hms hma hml ha hs hx h hm hu hv hvW hl HV
    generalize frm l k = F at *
    generalize too l k = T at *
    have i1 : (F : Int) ≤ (T : Int) := by omega
    have i4 : (T : Int) ≤ (c : Int) := by omega
    have i6 : ¬ c = F := by omega
    clear hft hlc hcm hk
    generalize l.length = L at *
    go_enter Try.func10, Try.ntmps10
    go_wp2_with fail
    refine (C1.out).mono ?_; rintro e w1 ⟨rfl, b1⟩
    have D1 := Lib.hid b1
    clear b1 C1
    go_wp2_with fail
    refine (C2.out _ D1.out).mono ?_; rintro e w2 ⟨rfl, b2⟩
    have D2 := Lib.hid (below_more D1.out b2)
    clear b2 C2 D1
    obtain ⟨V, hV, HV⟩ := blk_boxed w2 ⟨a, s, false⟩
    have D3 := Lib.hid (below_more D2.out HV.out.2)
    have GV := Lib.hid (H0.out.1.below D3.out)
    have hlt := Nat.ne_of_gt (Nat.lt_of_lt_of_le H0.out.1.lt D2.out.size)
    have c0 : ∀ w', Chg [w.heap.size] V w' → w'.cell? ⟨w2.heap.size, 0, none⟩ = some (.int .i64 a) := fun w' hc => (HV.out.1.chg hc (by simpa using hlt)).c0
    have c1 : ∀ w', Chg [w.heap.size] V w' → w'.cell? ⟨w2.heap.size, 1, none⟩ = some (.int .i64 s) := fun w' hc => (HV.out.1.chg hc (by simpa using hlt)).c1
    have c2 : ∀ w', Chg [w.heap.size] V w' → w'.cell? ⟨w2.heap.size, 2, none⟩ = some (.bool false) := fun w' hc => (HV.out.1.chg hc (by simpa using hlt)).c2
    clear hlt D2
    go_wp2_with fail
    go_region_held3 (fun w' => Chg [w.heap.size] V w')
      (first | assumption | exact (Chg.refl _ _).drew | exact Chg.setRow (by assumption) (.inl (by simp)) _)
      (first
        | (go_at_call 24; refine (C3.out _).mono ?_; rintro e wy ⟨rfl, rfl⟩
           have GY : Ev V.drew w.heap.size ⟨0, 0⟩ := GV.out
           have hst := GY.store ⟨a, x⟩
           have FY := Lib.hid (GY.put ⟨a, x⟩)
           have CY := Lib.hid ((Chg.refl [w.heap.size] V).drew)
           clear GY))
    have BF := Lib.hid (((CY.out.setRow (g := w.heap.size) (.inl (by simp)) (ec ⟨a, x⟩)).below (below_more H0.out.2 D3.out) (Nat.le_trans H0.out.2.size D3.out.size) (fun k hk => by rw [List.mem_singleton.1 hk]; exact Nat.le_refl _)))
    go_wp2
    exact bodyPost_ret (v := .tuple #[.agg (ec ⟨a, x⟩), .bool true]) (results_row_tmp rfl _ _ _ _ _ _ _ _ rfl rfl FY.out Try.underlying30 rfl (by rw [info_edit]; rfl)) rfl ⟨rfl, BF.out⟩
end Go.Proofs.Ytlpbdnfecnochaa
