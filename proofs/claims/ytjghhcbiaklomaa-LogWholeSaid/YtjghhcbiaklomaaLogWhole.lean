/-
  Whenever the power goes in a commit, or in a recover, all homes hold what they held, or all hold what was committed. No conditions.
-/
import Derived.Test.YtjghhcbiaklomaaMgd
import Derived.BigQuiet
namespace Go.Proofs.Ytjghhcbiaklomaa.logWhole
set_option maxRecDepth 100000
open Go.Proofs.Ytjghhcbiaklomaa Go.ChangeShapes Go.WideShapes Go.ChangeAt Go.RowKit

section
variable {ops : Array Oper} {rest : List Oper} {o : Oper} {a : Act} {w : World} {Q : Exit → Act → World → Prop}
theorem app_line (hgd : o.guard = none) (s x : Operand) (ho : o.op = .call { callee := .builtin .append, args := #[s, x], argTypes := #[32, 32] }) (B : Nat) (v : Value) (l : List (List Int)) (hs : a.eval s = v) (hown : OwnA lineE B w v l)
    (u : Value) (r : List (List Int)) (hx : a.eval x = u) (hr : RA lineE w u r) (hlen : Hid (l.length + r.length ≤ 1000)) (hB : B ≤ w.heap.size)
    (h : ∀ v' w', OwnA lineE B w' v' (l ++ r) → w.grownBy w' v.ownBlock → (v'.ownBlock = v.ownBlock ∨ v'.ownBlock = some w.heap.size) → wpList Try.prog ops Q rest (a.put o.dst v') w') : wpList Try.prog ops Q (o :: rest) a w :=
  list_app lineE hgd s x ho B v l hs hown u r hx hr (by have := hlen.out; show _ * 64 ≤ _; omega) hB h
end

theorem view_wide {s : Nv} (h : s.Ok) (n P b : Nat) : (view s n P b).length = 8 := by
  unfold view
  rcases hv_cases (com s n P) (th s n P) b with ⟨x, hx, _, e⟩ | ⟨_, e⟩
  · rw [e]; exact com_wide h n P x hx
  · rw [e]; exact th_wide h n P b
theorem ol_lt {B : Nat} {w : World} {g n c : Nat} {f : Nat → List Int} (h : Ol B w g n c f) (hn : 0 < n) : g < w.heap.size := by
  obtain ⟨_, _, e, hlt, _⟩ := ra_at (OwnA.ra h) (by simp; omega)
  cases e; exact hlt

set_option maxHeartbeats 8000000 in
theorem walk_ (C : Ctr) (a0 a1 a2 : Int) (l3 : List Int) (v3 : Value) (l4 : List (List Hm)) (v4 : Value) (l5 : List Hm) (v5 : Value) (a6 a7 : Int) (l8 : List Int) (v8 : Value) (w : World)
    (h3 : RI w v3 l3) (h4 : RAs homeE rowsE w v4 l4) (z4 : l4.length * 24 ≤ 140737488351232) (h5 : RA homeE w v5 l5) (h8 : RI w v8 l8) :
    Calls Try.prog 4 #[.int .i64 a0, .int .i64 a1, .int .i64 a2, v3, v4, v5, .int .i64 a6, .int .i64 a7, v8] w fun e w' => e = .returned (.bool true) ∧ Below w.heap.size w w' := by
  obtain ⟨p5, c5, rfl, _, _⟩ := ra_shape h5
  obtain ⟨vs, hvs, hvl, hve⟩ := h4
  obtain ⟨p4, c4, rfl, _, _⟩ := ra_shape hvs
  obtain ⟨p8, c8, rfl, g8, g9, h8c⟩ := h8
  unfold maxLen at g9
  have HV := Lib.hid (And.intro hvs (And.intro hvl hve))
  have HV4 : Hid (RAs homeE rowsE w (.slice p4 vs.length c4) l4) := Lib.hid ⟨vs, hvs, hvl, hve⟩
  have H3 := Lib.hid h3
  have H5 := Lib.hid h5
  have H8 : Hid (∀ w' : World, Below w.heap.size w w' → ∀ k, k < l8.length → ∃ b off, p8 = some ⟨b, off, none⟩ ∧ w'.cell? ⟨b, off + k, none⟩ = some (.int .i64 (l8.getD k 0))) := Lib.hid fun w' hb k hk => by
    rcases h8c with rfl | ⟨b, off, rfl, hc⟩
    · simp at hk
    · exact ⟨b, off, rfl, (hb.cell (p := ⟨b, off + k, none⟩) (World.block_lt_of_cell? _ _ (hc k hk))).trans (hc k hk)⟩
  have ok5 : ∀ x ∈ [Value.slice p5 l5.length c5], x.oneCell' = true := fun x hx => by rw [List.mem_singleton.1 hx]; rfl
  have O1 := own_lit_a rowsE w (l := [.slice p5 l5.length c5]) ok5 (by unfold maxLen; show 1 ≤ _; decide)
  obtain ⟨W, hW⟩ : ∃ W, w.alloc (.cells #[.slice p5 l5.length c5] 33) = W := ⟨_, rfl⟩
  have e1 : w.alloc (.cells (([Value.slice p5 l5.length c5].flatMap rowsE.enc).toArray) rowsE.e) = W := hW
  have BW := bal (o := .cells (([Value.slice p5 l5.length c5].flatMap rowsE.enc).toArray) rowsE.e) (Below.refl w.heap.size w)
  rw [e1] at O1 BW
  have HO := Lib.hid O1
  have HBW := Lib.hid BW
  have HR := Lib.hid (ra_below hvs BW)
  have HLN : Hid (([Value.slice p5 l5.length c5].length + vs.length) * 24 ≤ 140737488355328) := Lib.hid (by simp only [List.length_singleton]; omega)
  have i8 : Hid (l8.length ≤ 9223372036854775807) := Lib.hid (by omega)
  have HX : Hid (∀ w' : World, Below w.heap.size w w' → ∀ k, k < l4.length → ∃ b off u, p4 = some ⟨b, off, none⟩ ∧ w'.cell? ⟨b, off + k, none⟩ = some u ∧ RA homeE w u (l4.getD k [])) := Lib.hid fun w' hb k hk => by
    obtain ⟨b, off, e, hlt, hx⟩ := ras_at rfl rfl HV4.out (by omega)
    obtain ⟨u, hc, hr⟩ := hx k hk
    exact ⟨b, off, u, e, (hb.cell (p := ⟨b, off + k, none⟩) hlt).trans hc, hr⟩
  have HRS : Hid (∀ w1 v1, Below w.heap.size w w1 → OwnA rowsE w.heap.size w1 v1 ([Value.slice p5 l5.length c5] ++ vs) → RAs homeE rowsE w1 v1 (l5 :: l4)) := Lib.hid fun w1 v1 hb ho => by
    refine ⟨_, ho.ra, by simp [hvl], fun k hk => ?_⟩
    cases k with
    | zero => exact ra_below h5 hb
    | succ k =>
      have hk' : k < l4.length := by simpa using hk
      exact ra_below (hve k hk') hb
  have LEQ : Hid ((l5 :: l4).length = vs.length + 1) := Lib.hid (by simp [hvl])
  have LV : Hid (vs.length = l4.length) := Lib.hid hvl
  have HLB : Hid (∀ k, k < l4.length → ((l5 :: l4).getD (k + 1) []) = l4.getD k []) := Lib.hid fun k _ => rfl
  obtain ⟨len, hvn⟩ : ∃ len, vs.length = len := ⟨_, rfl⟩
  rw [hvn] at HR LEQ LV ⊢
  clear hvs hve z4 h3 h5 h8c ok5 O1 e1 BW g8 g9 HV4 hvl hvn HV HLB
  obtain ⟨lf, hlf⟩ : ∃ lf : Nat → List Hm, ∀ k, l4.getD k [] = lf k := ⟨fun k => l4.getD k [], fun _ => rfl⟩
  have HY : Hid (∀ w' : World, Below w.heap.size w w' → ∀ k, k < len → ∃ b off u, p4 = some ⟨b, off, none⟩ ∧ w'.cell? ⟨b, off + k, none⟩ = some u ∧ RA homeE w u (lf k)) := Lib.hid fun w' hb k hk => by
    rw [← hlf]; exact HX.out w' hb k (by rw [← LV.out]; exact hk)
  clear hlf HX LV
  go_enter Try.func4, Try.ntmps4
  go_wp2_with (at_builtin; refine list_app rowsE (o := ⟨some 46, _, _, _, _, _⟩) rfl (.tmp 44) (.tmp 45) rfl w.heap.size _ [_] rfl HO.out _ vs rfl HR.out HLN.out HBW.out.size ?_)
  intro v1 w1 hown hg _
  have BW1 := Lib.hid (below_app HBW.out HBW.out.size HO.out hg)
  have RS := HRS.out w1 v1 BW1.out hown
  have HH := Lib.hid (heavy_any (l5 :: l4) l3 v1 v3 w1 RS (ri_below H3.out BW1.out))
  clear hown hg RS HRS HO HBW HR HLN hW
  go_wp2_with fail
  refine (HH.out).mono ?_; rintro e w' ⟨⟨r, rfl, hr⟩, rfl⟩
  by_cases hr0 : r = 0
  rotate_left
  · have i1 : (r : Int) > 0 := by omega
    clear hr hr0
    go_wp2_with fail
    refine (awake_any C _).mono ?_; rintro e w' ⟨rfl, hb⟩
    have B2 := Lib.hid (below_more BW1.out hb)
    go_wp2_with fail
    go_ret
    exact ⟨rfl, B2.out⟩
  subst hr0
  have HL : Hid (len ≤ 29) := Lib.hid (by have h1 := (hr rfl).1; have h2 := LEQ.out; omega)
  clear hr HH LEQ
  by_cases h6 : 6 < l8.length
  · have i1 : (l8.length : Int) > 6 := by omega
    clear h6
    go_wp2_with fail
    refine (awake_any C _).mono ?_; rintro e w' ⟨rfl, hb⟩
    have B2 := Lib.hid (below_more BW1.out hb)
    go_wp2_with fail
    go_ret
    exact ⟨rfl, B2.out⟩
  have i1 : ¬ (l8.length : Int) > 6 := by omega
  have H86 : Hid (l8.length ≤ 6) := Lib.hid (by omega)
  have HZ := Lib.hid (sized_any a0 a1 a2 w1)
  clear h6
  go_wp2_with fail
  refine (HZ.out).mono ?_; rintro e w' ⟨⟨n, P, per, rfl, n1, n2, n3, n4, n5⟩, rfl⟩
  have HM := Lib.hid (made_yes C v3 l3 w1 n1 n2 n3 n4 n5 (ri_below H3.out BW1.out))
  have HN : Hid (1 ≤ n ∧ n ≤ 20 ∧ P ≤ 16 ∧ 1 ≤ per ∧ per ≤ 20) := Lib.hid ⟨n1, n2, n3, n4, n5⟩
  have NL := Lib.hid (newNv_lg (n := 16 + n) (P := P) (by omega) n3 (by omega) l3)
  have NC : Hid ((newNv (16 + n + 1 + P) l3).calm ∧ (newNv (16 + n + 1 + P) l3).c = 0) := Lib.hid ⟨newNv_calm _ _, rfl⟩
  have hmk := run_make_want n (by omega)
  have i0 : (0 : Int) ≤ (n : Int) := by omega
  have k16 : IntKind.i64.wrap (16 + (n : Int)) = ((16 + n : Nat) : Int) := by rw [show 16 + (n : Int) = ((16 + n : Nat) : Int) by omega]; exact i64_nat _ (by omega)
  obtain ⟨s0, e0⟩ : ∃ s0, newNv (16 + n + 1 + P) l3 = s0 := ⟨_, rfl⟩
  rw [e0] at HM NL NC
  clear n1 n2 n3 n4 n5 e0 HZ
  go_wp2_with fail
  refine (HM.out).mono ?_; rintro e w2 ⟨x, g, y, q, rfl, hx, hg, hy, hq, hL, hb⟩
  obtain ⟨gw, hgw⟩ : ∃ gw, w2.heap.size = gw := ⟨_, rfl⟩
  have W3 := Wt.new w2 n
  have hB : Below w.heap.size w (w2.alloc (.cells (tab (n * 8) (wl fun _ => zeros)) 39)) := bal (below_base BW1.out BW1.out.size hb)
  have hO : Ol w.heap.size (w2.alloc (.cells (tab (n * 8) (wl fun _ => zeros)) 39)) gw n n (fun _ => zeros) := by
    rw [← hgw]; exact Ol.of_wt W3 (Nat.le_trans BW1.out.size hb.size) (by unfold maxLen; have := HN.out; omega)
  have GWL : Hid (w.heap.size ≤ gw) := Lib.hid (by rw [← hgw]; exact Nat.le_trans BW1.out.size hb.size)
  have KP : Hid (∃ p s, Kp w (w2.alloc (.cells (tab (n * 8) (wl fun _ => zeros)) 39)) x g y q n P per gw 0 p s (fun i => view s (16 + n) P (16 + i))) :=
    Lib.hid ⟨0, s0, hL.below (bal (Below.refl _ _)), NL.out.1, NC.out.1, hO.as fun i _ => NL.out.2.2.2.2 _, hB, ⟨Nat.le_trans BW1.out.size hg, Nat.le_trans BW1.out.size hy, by have := hL.nm.lt; omega, by have := hL.tq.lt; omega, by have := hL.xlt; omega, by have := hL.lq.lt; omega⟩, by have := HN.out; have := NL.out.2.2.1; omega, by rw [NC.out.2]; exact Int.le_refl _⟩
  have hmk2 := hmk w2
  clear hmk
  rw [hgw] at hmk2
  clear hx hg hy hq hL hb W3 hB hO hgw
  go_wp2
  go_loopw [78] (fun i wr => ∃ k : Nat, k ≤ len ∧ i = .int .i64 k ∧ Hid (∃ p s, Kp w wr x g y q n P per gw k p s (fun i => view s (16 + n) P (16 + i)))) (fun i _ => len - (intOf i).toNat)
  case atStart => exact ⟨0, Nat.zero_le _, rfl, KP⟩
  case round =>
    obtain ⟨k, hk, rfl, H⟩ := hrel
    obtain ⟨p, s, hs⟩ := H.out
    have K0 := Lib.hid hs
    clear hs H KP hmk2
    by_cases hlt : k < len
    · as_aux_lemma =>
        obtain ⟨b, off, u, rfl, hc, hru⟩ := HY.out _ K0.out.bel k hlt
        obtain ⟨h, hh⟩ : ∃ h, lf k = h := ⟨_, rfl⟩
        rw [hh] at hru
        obtain ⟨q5, c6, rfl, hc5, _⟩ := ra_shape hru
        have RU := Lib.hid hru
        have KN : Hid (k < len ∧ k < 100) := Lib.hid ⟨hlt, by have := HL.out; omega⟩
        have i2 : (0 : Int) ≤ (k : Int) := by omega
        have i3 : (k : Int) < (len : Int) := by omega
        have i4 : ¬ (k : Int) < 0 := by omega
        have j0 : IntKind.i64.wrap ((k : Int) + 1) = ((k + 1 : Nat) : Int) := by rw [show (k : Int) + 1 = ((k + 1 : Nat) : Int) by omega]; exact i64_nat _ (by have := KN.out; omega)
        have FIN : ∀ z, z = k + 1 → z ≤ len := fun z e => by have := KN.out; omega
        have FI := Lib.hid FIN
        have CA := Lib.hid (K0.out.com_all C KN.out.2 RU.out)
        clear hru hh hc5 hk hlt FIN
        go_wp2_with fail
        refine (CA.out).mono ?_; rintro e w3 ⟨E, p1, s1, rfl, hk1, ho⟩
        have K1 := Lib.hid hk1
        clear hk1 hc
        rcases ho with ⟨rfl, hm, hvv⟩ | ⟨hE, hvv⟩
        · have HM1 := Lib.hid hm
          have HVW := Lib.hid hvv
          have K3 := Lib.hid (K1.out.as (f' := fun i => hv (h.take 0) (view s (16 + n) P) (16 + i)) fun i _ => hv_zero _ _ _)
          obtain ⟨bq, oq, rfl, hbq, hxq⟩ := home_at RU.out (by have := HM1.out.lo; omega)
          have HQ : Hid (∀ w' : World, Below w.heap.size w w' → ∀ j, j < h.length → (homeLoad (.pointer (some ⟨bq, oq + j * 9, none⟩))).run Try.prog w' = .ok (.agg (hmc (h.getD j default))) w' ∧ (h.getD j default).Wf) := Lib.hid fun w' hb j hj => by
            obtain ⟨b', o', e, _, hx⟩ := home_at (ra_below RU.out hb) (by omega)
            cases e
            exact ⟨(hx j hj).1, (hx j hj).2.2.2⟩
          clear hm hvv hbq hxq
          go_wp2
          go_loopw [88] (fun i wi => ∃ j : Nat, j ≤ h.length ∧ i = .int .i64 j ∧ Hid (Kp w wi x g y q n P per gw (k + 1) p1 s1 (fun i => hv (h.take j) (view s (16 + n) P) (16 + i)))) (fun i _ => h.length - (intOf i).toNat)
          case atStart => exact ⟨0, Nat.zero_le _, rfl, K3⟩
          case round =>
            obtain ⟨j, hj, rfl, KI⟩ := hrel
            clear K3
            by_cases hjl : j < h.length
            · obtain ⟨hl, hwf⟩ := HQ.out _ KI.out.bel j hjl
              obtain ⟨X, hX⟩ : ∃ X, h.getD j default = X := ⟨_, rfl⟩
              have hat := HM1.out.at_ _ (getD_mem hjl)
              rw [hX] at hl hwf hat
              obtain ⟨m, hm⟩ : ∃ m : Nat, X.i = ((16 + m : Nat) : Int) := ⟨(X.i - 16).toNat, by omega⟩
              have hmn : m < n := by omega
              obtain ⟨W1, hW1, H1⟩ := home_boxed wr hwf.len
              have KJ := Lib.hid (KI.out.below H1.out.2)
              obtain ⟨hst, kst⟩ := KJ.out.lay hmn hwf.len GWL.out
              obtain ⟨V, hV⟩ : ∃ V, W1.setCells gw (m * 8) (X.l.map uv) = V := ⟨_, rfl⟩
              rw [hV] at hst kst
              have KV : Hid (Kp w V x g y q n P per gw (k + 1) p1 s1 (fun i => hv (h.take (j + 1)) (view s (16 + n) P) (16 + i))) := Lib.hid (kst.as fun i _ => by
                rw [hv_step HM1.out.nd hjl (m := m) (by rw [hX]; exact hm), hX])
              have d0 := H1.out.1.slot
              rw [hm] at d0
              have d1 := H1.out.1.line
              have hw8 := hwf.len
              obtain ⟨Xl, hXl⟩ : ∃ z, X.l = z := ⟨_, rfl⟩
              rw [hXl] at hst d1
              have m0 : (0 : Int) ≤ (j : Int) := by omega
              have m1 : (j : Int) < (h.length : Int) := by omega
              have m2 : ¬ (j : Int) < 0 := by omega
              have m3 : IntKind.i64.wrap (((16 + m : Nat) : Int) - 16) = (m : Int) := by rw [show ((16 + m : Nat) : Int) - 16 = (m : Int) by omega]; exact i64_nat _ (by have := HN.out; omega)
              have m4 : (0 : Int) ≤ (m : Int) := by omega
              have m5 : (m : Int) < (n : Int) := by omega
              have m6 : IntKind.i64.wrap ((j : Int) + 1) = ((j + 1 : Nat) : Int) := by rw [show (j : Int) + 1 = ((j + 1 : Nat) : Int) by omega]; exact i64_nat _ (by have := HM1.out.hi; omega)
              have HJ := Lib.hid hjl
              clear hX hat hm hmn kst hXl hwf hj hjl hV
              generalize 16 + m = Z at *
              go_wp2
              exact ⟨⟨j + 1, by have := HJ.out; omega, by go_num, KV⟩, by have := HJ.out; simp [intOf]; omega⟩
            · obtain rfl : j = h.length := by omega
              have KT : Hid (Kp w wr x g y q n P per gw (k + 1) p1 s1 (fun i => view s1 (16 + n) P (16 + i))) := Lib.hid (KI.out.as fun i hi => by rw [HVW.out _ (by omega) (by omega), hv_all])
              clear KI HQ
              go_wp2
              exact ⟨⟨k + 1, FI.out _ rfl, by go_num, Lib.hid ⟨_, _, KT.out⟩⟩, by have := KN.out; simp [intOf]; omega⟩
        · have b0 : (E == 0) = false := beq_eq_false_iff_ne.2 hE
          have KT := Lib.hid (K1.out.as (f' := fun i => view s1 (16 + n) P (16 + i)) fun i hi => hvv _ (by omega) (by omega))
          clear hE hvv
          go_wp2
          exact ⟨⟨k + 1, FI.out _ rfl, by go_num, Lib.hid ⟨_, _, KT.out⟩⟩, by have := KN.out; simp [intOf]; omega⟩
    · obtain rfl : k = len := by omega
      clear hk hlt
      as_aux_lemma =>
        obtain ⟨f, hf⟩ : ∃ f : Nat → List Int, f = fun i => view s (16 + n) P (16 + i) := ⟨_, rfl⟩
        rw [← hf] at K0
        have HF := Lib.hid hf
        clear hf
        have hn1 := HN.out.1
        have OE := own_lit_a lineE wr (l := ([] : List (List Int))) (fun x hx => (by cases hx)) (by unfold maxLen; show 0 ≤ _; decide)
        obtain ⟨E1, hE1⟩ : ∃ E1, wr.alloc (.cells #[] 39) = E1 := ⟨_, rfl⟩
        have BE : Below wr.heap.size wr E1 := by rw [← hE1]; exact bal (Below.refl _ _)
        rw [show wr.alloc (.cells ((([] : List (List Int)).flatMap lineE.enc).toArray) lineE.e) = E1 from hE1] at OE
        have HOE := Lib.hid OE
        have HBE := Lib.hid BE
        have KE := Lib.hid (K0.out.below BE)
        have RW := Lib.hid (OwnA.ra KE.out.own)
        have LN : Hid ((([] : List (List Int)).length + ((List.range n).map f).length) ≤ 1000) := Lib.hid (by simp; have := HN.out; omega)
        clear OE BE
        go_wp2_with (at_builtin; refine app_line (o := ⟨some 103, _, _, _, _, _⟩) rfl (.tmp 101) (.tmp 102) rfl wr.heap.size _ [] rfl HOE.out _ ((List.range n).map f) rfl RW.out LN HBE.out.size ?_)
        intro vx w3 hox hgx _
        have KX : ∃ gx cx, vx = .slice (some ⟨gx, 0, none⟩) n cx ∧ Hid (Kx w w3 x g y q n P per gw gx cx k p s f f ∧ n ≤ cx) := by
          obtain ⟨gx, cx, e, h1, h2, h3, _⟩ := OwnA.block hox (by simp; omega)
          simp only [List.length_map, List.length_range] at e h3
          subst e
          have B3 := below_app HBE.out HBE.out.size HOE.out hgx
          have k3 := K0.out.below B3
          have lg := K0.out.lg
          refine ⟨gx, cx, rfl, Lib.hid ⟨⟨k3, OwnA.mono hox (Nat.le_trans K0.out.bel.size (Nat.le_refl _)), ⟨by have := lg.nm.lt; omega, by have := lg.tq.lt; omega, by have := lg.xlt; omega, by have := lg.lq.lt; omega, by have := ol_lt K0.out.own hn1; omega, Nat.le_trans K0.out.bel.size h1⟩⟩, h3⟩⟩
        obtain ⟨gx, cx, rfl, HK3⟩ := KX
        have KX3 := Lib.hid HK3.out.1
        have CXN := Lib.hid HK3.out.2
        clear hox hgx HK3 HOE HBE KE RW LN K0 hn1 hE1
        obtain ⟨r, hr⟩ : ∃ r : Bool, r = true ↔ MayH ((16 + n : Nat) : Int) l5 := by
          by_cases hm : MayH ((16 + n : Nat) : Int) l5
          · exact ⟨true, fun _ => hm, fun _ => rfl⟩
          · exact ⟨false, fun e => (by cases e), fun e => absurd e hm⟩
        have HRR := Lib.hid hr
        have MC := Lib.hid (rmayh_some ((16 + n : Nat) : Int) l5 _ r w3 (ra_below H5.out KX3.out.kp.bel) hr)
        clear hr
        go_upto_region 19 with fail
        go_cut [27] (fun v27 wx => ∃ b : Bool, v27 = .bool b ∧ Hid ((b = true ↔ lk s = 0 ∧ MayH ((16 + n : Nat) : Int) l5) ∧ Kx w wx x g y q n P per gw gx cx k p s f f))
        case first => as_aux_lemma =>
          cases r
          · go_wp2_with fail
            refine (MC.out).mono ?_; rintro e w4 ⟨rfl, hb⟩
            have KT := Lib.hid (KX3.out.below hb)
            clear hb
            go_wp2_with fail
            go_meet
            exact ⟨_, rfl, Lib.hid ⟨⟨fun e => (by cases e), fun e => absurd e.2 (fun e2 => by have := HRR.out.2 e2; cases this)⟩, KT.out⟩⟩
          · go_wp2_with fail
            refine (MC.out).mono ?_; rintro e w4 ⟨rfl, hb⟩
            have KT := Lib.hid (KX3.out.below hb)
            have PD := C.pend _ _ _ _ _ _ _ _ _ _ KT.out.kp.lg KT.out.kp.ok KT.out.kp.calm.1
            clear hb
            by_cases h0 : lk s = 0
            · rw [show decide (lk s ≠ 0) = false by simp [h0]] at PD
              have PD := Lib.hid PD
              have H0 := Lib.hid h0
              clear h0
              go_wp2_with fail
              refine (PD.out).mono ?_; rintro e w5 ⟨rfl, hb⟩
              have KU := Lib.hid (KT.out.below hb)
              clear hb
              go_wp2_with fail
              go_meet
              exact ⟨_, rfl, Lib.hid ⟨⟨fun _ => ⟨H0.out, by first | exact HRR.out.1 rfl | exact HRR.out.1 trivial⟩, fun _ => rfl⟩, KU.out⟩⟩
            · rw [show decide (lk s ≠ 0) = true by simp [h0]] at PD
              have PD := Lib.hid PD
              have H0 := Lib.hid h0
              clear h0
              go_wp2_with fail
              refine (PD.out).mono ?_; rintro e w5 ⟨rfl, hb⟩
              have KU := Lib.hid (KT.out.below hb)
              clear hb
              go_wp2_with fail
              go_meet
              exact ⟨_, rfl, Lib.hid ⟨⟨fun e => (by cases e), fun e => absurd e.1 H0.out⟩, KU.out⟩⟩
        case rest => as_aux_lemma =>
          obtain ⟨mayb, rfl, HC⟩ := hcut
          have HMB := Lib.hid HC.out.1
          have KX4 := Lib.hid HC.out.2
          clear HC MC HRR KX3
          go_upto_if 113 with fail
          go_cut [27] (fun v27 wx => v27 = .bool mayb ∧ Hid (∃ fx, (∀ i, i < n → fx i = if mayb = true then hv l5 (view s (16 + n) P) (16 + i) else f i) ∧ Kx w wx x g y q n P per gw gx cx k p s f fx))
          case first => as_aux_lemma =>
            cases mayb
            · go_wp2_with fail
              go_meet
              exact ⟨rfl, Lib.hid ⟨f, fun i _ => rfl, KX4.out⟩⟩
            · have HM1 := Lib.hid (HMB.out.1 rfl).2
              have K3 := Lib.hid (KX4.out.as (fx' := fun i => hv (l5.take 0) (view s (16 + n) P) (16 + i)) fun i _ => by rw [HF.out]; exact hv_zero _ _ _)
              obtain ⟨bq, oq, rfl, hbq, hxq⟩ := home_at H5.out (by have := HM1.out.lo; omega)
              have HQ : Hid (∀ w' : World, Below w.heap.size w w' → ∀ j, j < l5.length → (homeLoad (.pointer (some ⟨bq, oq + j * 9, none⟩))).run Try.prog w' = .ok (.agg (hmc (l5.getD j default))) w' ∧ (l5.getD j default).Wf) := Lib.hid fun w' hb j hj => by
                obtain ⟨b', o', e, _, hx⟩ := home_at (ra_below H5.out hb) (by omega)
                cases e
                exact ⟨(hx j hj).1, (hx j hj).2.2.2⟩
              clear hbq hxq
              go_wp2
              go_loopw [116] (fun i wi => ∃ j : Nat, j ≤ l5.length ∧ i = .int .i64 j ∧ Hid (Kx w wi x g y q n P per gw gx cx k p s f (fun i => hv (l5.take j) (view s (16 + n) P) (16 + i)))) (fun i _ => l5.length - (intOf i).toNat)
              case atStart => exact ⟨0, Nat.zero_le _, rfl, K3⟩
              case round =>
                obtain ⟨j, hj, rfl, KI⟩ := hrel
                clear K3
                by_cases hjl : j < l5.length
                · obtain ⟨hl, hwf⟩ := HQ.out _ KI.out.kp.bel j hjl
                  obtain ⟨X, hX⟩ : ∃ X, l5.getD j default = X := ⟨_, rfl⟩
                  have hat := HM1.out.at_ _ (getD_mem hjl)
                  rw [hX] at hl hwf hat
                  obtain ⟨m, hm⟩ : ∃ m : Nat, X.i = ((16 + m : Nat) : Int) := ⟨(X.i - 16).toNat, by omega⟩
                  have hmn : m < n := by omega
                  obtain ⟨W1, hW1, H1⟩ := home_boxed wr hwf.len
                  have KJ := Lib.hid (KI.out.below H1.out.2)
                  obtain ⟨hst, kst⟩ := KJ.out.lay hmn hwf.len
                  obtain ⟨V, hV⟩ : ∃ V, W1.setCells gx (m * 8) (X.l.map uv) = V := ⟨_, rfl⟩
                  rw [hV] at hst kst
                  have KV : Hid (Kx w V x g y q n P per gw gx cx k p s f (fun i => hv (l5.take (j + 1)) (view s (16 + n) P) (16 + i))) := Lib.hid (kst.as fun i _ => by
                    rw [hv_step HM1.out.nd hjl (m := m) (by rw [hX]; exact hm), hX])
                  have d0 := H1.out.1.slot
                  rw [hm] at d0
                  have d1 := H1.out.1.line
                  have hw8 := hwf.len
                  obtain ⟨Xl, hXl⟩ : ∃ z, X.l = z := ⟨_, rfl⟩
                  rw [hXl] at hst d1
                  have m0 : (0 : Int) ≤ (j : Int) := by omega
                  have m1 : (j : Int) < (l5.length : Int) := by omega
                  have m2 : ¬ (j : Int) < 0 := by omega
                  have m3 : IntKind.i64.wrap (((16 + m : Nat) : Int) - 16) = (m : Int) := by rw [show ((16 + m : Nat) : Int) - 16 = (m : Int) by omega]; exact i64_nat _ (by have := HN.out; omega)
                  have m4 : (0 : Int) ≤ (m : Int) := by omega
                  have m5 : (m : Int) < (n : Int) := by omega
                  have m6 : IntKind.i64.wrap ((j : Int) + 1) = ((j + 1 : Nat) : Int) := by rw [show (j : Int) + 1 = ((j + 1 : Nat) : Int) by omega]; exact i64_nat _ (by have := HM1.out.hi; omega)
                  have HJ := Lib.hid hjl
                  clear hX hat hm hmn kst hXl hwf hj hjl hV
                  generalize 16 + m = Z at *
                  go_wp2
                  exact ⟨⟨j + 1, by have := HJ.out; omega, by go_num, KV⟩, by have := HJ.out; simp [intOf]; omega⟩
                · obtain rfl : j = l5.length := by omega
                  have KT : Hid (∃ fx, (∀ i, i < n → fx i = if true = true then hv l5 (view s (16 + n) P) (16 + i) else f i) ∧ Kx w wr x g y q n P per gw gx cx k p s f fx) := Lib.hid ⟨_, fun i _ => by rw [if_pos rfl, hv_all], KI.out⟩
                  clear KI HQ
                  go_wp2_with fail
                  go_meet
                  exact ⟨rfl, KT⟩
          case rest => as_aux_lemma =>
            rename_i wa _
            obtain ⟨rfl, HC⟩ := hcut
            obtain ⟨fx, hfx, hkx⟩ := HC.out
            have KX := Lib.hid hkx
            have HFX := Lib.hid hfx
            clear HC KX4 hfx hkx
            as_aux_lemma =>
              obtain ⟨u, hu, _⟩ := u64_nat a6
              obtain ⟨ac, hac⟩ : ∃ m, u % 60 = m := ⟨_, rfl⟩
              have t0 : (u : Int).tmod 60 = (ac : Int) := by rw [← hac]; exact tmod_nat u 60
              have hac60 : ac < 60 := by omega
              have t1 : IntKind.i64.wrap (ac : Int) = (ac : Int) := i64_nat _ (by omega)
              have HAC := Lib.hid hac60
              have FXE : Hid (lk s = 0 → MayH ((16 + n : Nat) : Int) l5 → ∀ i, i < n → fx i = hv l5 (view s (16 + n) P) (16 + i)) := Lib.hid fun h0 hm i hi => by
                rw [HFX.out i hi, if_pos (HMB.out.2 ⟨h0, hm⟩)]
              clear hac hac60 HFX HMB
              go_wp2_with fail
              refine (cut_any g s _ _ _ KX.out.kp.lg.nm).mono ?_; rintro e w5 ⟨rfl, hN, hC⟩
              have CC := Lib.hid (KX.out.cutcom C (by have := HL.out; omega) H5.out (fun i _ => by rw [HF.out]) FXE.out (by have := HAC.out; omega) hN hC)
              clear hN hC t0 t1 hu
              go_wp2_with fail
              refine (CC.out).mono ?_; rintro e w6 ⟨E, s6, F, rfl, hkw, hE0, hE1, hF⟩
              have KW : Hid (∃ s', Kw w w6 g n P gw gx cx (k + 1 + 3 * 0) s' f fx F) := Lib.hid ⟨s6, hkw⟩
              have EE := Lib.hid (And.intro hE0 (And.intro hE1 hF))
              clear hkw hE0 hE1 hF CC KX FXE HAC
              go_wp2
              go_loopw [140] (fun i wr => ∃ z : Nat, z ≤ l8.length ∧ i = .int .i64 z ∧ Hid (∃ s', Kw w wr g n P gw gx cx (k + 1 + 3 * z) s' f fx F)) (fun i _ => l8.length - (intOf i).toNat)
              case atStart => exact ⟨0, Nat.zero_le _, rfl, KW⟩
              case round =>
                obtain ⟨z, hz, rfl, H⟩ := hrel
                obtain ⟨sz, hs⟩ := H.out
                have K0 := Lib.hid hs
                clear hs H KW
                by_cases hlt : z < l8.length
                · as_aux_lemma =>
                    obtain ⟨b, off, rfl, hc⟩ := H8.out _ K0.out.bel z hlt
                    obtain ⟨cz, hcz⟩ : ∃ cz, l8.getD z 0 = cz := ⟨_, rfl⟩
                    rw [hcz] at hc
                    obtain ⟨u, hu, _⟩ := u64_nat cz
                    obtain ⟨m, hm⟩ : ∃ m, u % 40 = m := ⟨_, rfl⟩
                    have t0 : (u : Int).tmod 40 = (m : Int) := by rw [← hm]; exact tmod_nat u 40
                    have hm40 : m < 40 := by omega
                    have t1 : IntKind.i64.wrap (m : Int) = (m : Int) := i64_nat _ (by omega)
                    have HMM := Lib.hid hm40
                    have i2 : (0 : Int) ≤ (z : Int) := by omega
                    have i3 : (z : Int) < (l8.length : Int) := by omega
                    have i4 : ¬ (z : Int) < 0 := by omega
                    have HK : Hid (z < l8.length ∧ z < 6 ∧ k + 1 + 3 * z + 3 ≤ 60) := Lib.hid (by have := H86.out; have := HL.out; omega)
                    have j0 : IntKind.i64.wrap ((z : Int) + 1) = ((z + 1 : Nat) : Int) := by rw [show (z : Int) + 1 = ((z + 1 : Nat) : Int) by omega]; exact i64_nat _ (by have := HK.out; omega)
                    clear hcz hm hm40 hlt hz
                    go_wp2_with fail
                    refine (power_any g sz _ K0.out.nm).mono ?_; rintro e w7 ⟨rfl, hN, hC⟩
                    have K1 := Lib.hid (K0.out.power hN hC (by have := HK.out; omega))
                    clear hN hC hc
                    go_wp2_with fail
                    refine (cut_any g sz.power _ _ _ K1.out.nm).mono ?_; rintro e w8 ⟨rfl, hN, hC⟩
                    have K2 := Lib.hid (K1.out.cut (by have := HMM.out; omega) hN hC (by have := HK.out; omega))
                    have OV := Lib.hid (over_yes C K2.out.ok rfl HN.out.1 HN.out.2.1 HN.out.2.2.2.1 HN.out.2.2.2.2 (by have := K2.out.num; omega) K2.out.nm)
                    clear hN hC t0 t1 hu
                    go_wp2_with fail
                    refine (OV.out).mono ?_; rintro e w9 ⟨x', y', q', rfl, hx, hy, hq, hL, hb⟩
                    have K3 := Lib.hid (K2.out.below hb)
                    have RV := Lib.hid (recv_all C K3.out hL rfl ⟨Nat.le_trans K2.out.bel.size hy, by have := ol_lt K2.out.own HN.out.1; omega, by have := ol_lt K2.out.nxt HN.out.1; omega⟩ HN.out.2.2.2.2 (by decide) (by have := HK.out; omega))
                    clear hx hy hq hL hb OV
                    go_wp2_with fail
                    refine (RV.out).mono ?_; rintro e wa ⟨E', p', s', rfl, _, _, hk', _⟩
                    have K4 : Hid (∃ s', Kw w wa g n P gw gx cx (k + 1 + 3 * (z + 1)) s' f fx F) := Lib.hid ⟨s', hk'⟩
                    clear hk' RV
                    go_wp2
                    exact ⟨⟨z + 1, by have := HK.out; omega, by go_num, K4⟩, by have := HK.out; simp [intOf]; omega⟩
                · obtain rfl : z = l8.length := by omega
                  clear hz hlt
                  as_aux_lemma =>
                    have HK : Hid (k + 1 + 3 * l8.length + 10 ≤ 80) := Lib.hid (by have := H86.out; have := HL.out; omega)
                    generalize hKN : k + 1 + 3 * l8.length = KN at *
                    clear hKN H8 H86
                    go_wp2_with fail
                    refine (power_any g sz _ K0.out.nm).mono ?_; rintro e w7 ⟨rfl, hN, hC⟩
                    have K1 := Lib.hid (K0.out.power hN hC (by have := HK.out; omega))
                    have OV := Lib.hid (over_yes C K1.out.ok rfl HN.out.1 HN.out.2.1 HN.out.2.2.2.1 HN.out.2.2.2.2 (by have := K1.out.num; omega) K1.out.nm)
                    clear hN hC
                    go_wp2_with fail
                    refine (OV.out).mono ?_; rintro e w9 ⟨x', y', q', rfl, hx, hy, hq, hL, hb⟩
                    have K3 := Lib.hid (K1.out.below hb)
                    have YF : Hid (w.heap.size ≤ y' ∧ gw ≠ y' ∧ gx ≠ y') := Lib.hid ⟨Nat.le_trans K1.out.bel.size hy, by have := ol_lt K1.out.own HN.out.1; omega, by have := ol_lt K1.out.nxt HN.out.1; omega⟩
                    have RV := Lib.hid (recv_all C K3.out hL rfl YF.out HN.out.2.2.2.2 (by decide) (by have := HK.out; omega))
                    clear hx hy hq hL hb OV
                    go_wp2_with fail
                    refine (RV.out).mono ?_; rintro e wa ⟨E', p', s', rfl, hp', hL', hk', hcm⟩
                    obtain ⟨rfl, h1, h2⟩ := hcm rfl
                    have KZ : Hid (Kz w wa x' g y' q' n P per gw gx cx (KN + 1 + 1) p' s' f fx F) := Lib.hid ⟨hk', hL', ⟨h1, h2⟩, YF.out, ⟨HN.out.2.2.2.2, by omega⟩⟩
                    have HP := Lib.hid hp'
                    clear hp' hL' hk' hcm h1 h2 RV K0 K1 K3
                    go_wp2
                    go_loopw [35, 36, 180] (fun v35 v36 i wr => ∃ z : Nat, z ≤ n ∧ i = .int .i64 z ∧ ∃ o nw : Bool, v35 = .bool o ∧ v36 = .bool nw ∧ Hid ((o = true ↔ ∀ i, i < z → F i = f i) ∧ (nw = true ↔ ∀ i, i < z → F i = fx i) ∧ Kz w wr x' g y' q' n P per gw gx cx (KN + 1 + 1) p' s' f fx F)) (fun _ _ i _ => n - (intOf i).toNat)
                    case atStart => exact ⟨0, Nat.zero_le _, rfl, true, true, rfl, rfl, Lib.hid ⟨⟨fun _ i hi => by omega, fun _ => rfl⟩, ⟨fun _ i hi => by omega, fun _ => rfl⟩, KZ.out⟩⟩
                    case round =>
                      obtain ⟨z, hz, rfl, o, nw, rfl, rfl, H⟩ := hrel
                      clear KZ
                      by_cases hlt : z < n
                      · as_aux_lemma =>
                          obtain ⟨Y, hY⟩ : ∃ Y, F z = Y := ⟨_, rfl⟩
                          have GC := Lib.hid (H.out.2.2.get C hlt hY)
                          have h8 : Y.length = 8 := by rw [← hY, ← H.out.2.2.kw.eq z hlt]; exact view_wide H.out.2.2.kw.ok.g.ok _ _ _
                          have hf8 := H.out.2.2.kw.own.wide hlt
                          have hx8 := H.out.2.2.kw.nxt.wide hlt
                          obtain ⟨A, hA⟩ : ∃ A, f z = A := ⟨_, rfl⟩
                          obtain ⟨B, hB⟩ : ∃ B, fx z = B := ⟨_, rfl⟩
                          rw [hA] at hf8
                          rw [hB] at hx8
                          have O1 : Hid (∀ b : Bool, (b = true ↔ o = true ∧ Y = A) → (b = true ↔ ∀ i, i < z + 1 → F i = f i)) := Lib.hid fun b hb => hb.trans ⟨fun ⟨h1, h2⟩ i hi => by
                              by_cases e : i = z
                              · subst e; rw [hY, hA]; exact h2
                              · exact H.out.1.1 h1 i (by omega), fun h => ⟨H.out.1.2 fun i hi => h i (by omega), by rw [← hY, ← hA]; exact h z (by omega)⟩⟩
                          have O2 : Hid (∀ b : Bool, (b = true ↔ nw = true ∧ Y = B) → (b = true ↔ ∀ i, i < z + 1 → F i = fx i)) := Lib.hid fun b hb => hb.trans ⟨fun ⟨h1, h2⟩ i hi => by
                              by_cases e : i = z
                              · subst e; rw [hY, hB]; exact h2
                              · exact H.out.2.1.1 h1 i (by omega), fun h => ⟨H.out.2.1.2 fun i hi => h i (by omega), by rw [← hY, ← hB]; exact h z (by omega)⟩⟩
                          have KZ := Lib.hid H.out.2.2
                          have AE := Lib.hid (And.intro hA hB)
                          have HZ := Lib.hid hlt
                          have i2 : (0 : Int) ≤ (z : Int) := by omega
                          have i3 : (z : Int) < (n : Int) := by omega
                          have hz40 : z < 40 := by have := HN.out; omega
                          have jz : IntKind.i64.wrap (16 + (z : Int)) = ((16 + z : Nat) : Int) := by rw [show 16 + (z : Int) = ((16 + z : Nat) : Int) by omega]; exact i64_nat _ (by omega)
                          have j0 : IntKind.i64.wrap ((z : Int) + 1) = ((z + 1 : Nat) : Int) := by rw [show (z : Int) + 1 = ((z + 1 : Nat) : Int) by omega]; exact i64_nat _ (by omega)
                          clear hY hA hB H hz hlt hz40
                          go_wp2_with fail
                          refine (GC.out).mono ?_; rintro e w5 ⟨rfl, hb⟩
                          obtain ⟨W2, hW2, H2⟩ := boxed1 w5 h8
                          have KM := Lib.hid ((KZ.out.below hb).below H2.out.2)
                          have ld : ∀ d, (lineLoad (.pointer (some ⟨w5.heap.size, 0, none⟩))).run Try.prog (W2.drewN d) = .ok (.agg (lc Y)) (W2.drewN d) := fun d => (H2.out.1.below (below_drewN (Below.refl _ _) d)).load
                          have lf_ : ∀ d, (lineLoad (.pointer (some ⟨gw, z * 8, none⟩))).run Try.prog (W2.drewN d) = .ok (.agg (lc A)) (W2.drewN d) := fun d => by
                            have := (KM.out.below (below_drewN (Below.refl _ _) d)).kw.own.load HZ.out
                            rw [AE.out.1] at this; exact this
                          have lx_ : ∀ d, (lineLoad (.pointer (some ⟨gx, z * 8, none⟩))).run Try.prog (W2.drewN d) = .ok (.agg (lc B)) (W2.drewN d) := fun d => by
                            have := (KM.out.below (below_drewN (Below.refl _ _) d)).kw.nxt.load HZ.out
                            rw [AE.out.2] at this; exact this
                          clear hb GC KZ
                          cases o <;> cases nw
                          all_goals
                            go_wp2_with fail
                            go_quiet (fail)
                            have KN2 := Lib.hid (KM.out.below (below_drewN (Below.refl _ _) nq))
                            go_wp2
                            refine ⟨⟨z + 1, by have := HZ.out; omega, by go_num, _, _, rfl, rfl, Lib.hid ⟨O1.out _ ?_, O2.out _ ?_, KN2.out⟩⟩, by have := HZ.out; simp [intOf]; omega⟩ <;> simp
                      · obtain rfl : n = z := by omega
                        clear hz hlt
                        as_aux_lemma =>
                          have KZ := Lib.hid H.out.2.2
                          have D0 : E = 0 → nw = true := fun e => H.out.2.1.2 (EE.out.1 e)
                          have D1 : E ≠ 0 → E ≠ 2 → o = true := fun e1 e2 => H.out.1.2 (EE.out.2.1 e1 e2)
                          have D2 : o = true ∨ nw = true := EE.out.2.2.imp H.out.1.2 H.out.2.1.2
                          have FG : Hid (∀ i, i < n → F i = if nw = true then fx i else f i) := Lib.hid fun i hi => by
                            by_cases e : nw = true
                            · rw [if_pos e]; exact H.out.2.1.1 e i hi
                            · rw [if_neg e]; exact H.out.1.1 (D2.resolve_right e) i hi
                          have RR := Lib.hid (KZ.out.recv C (by have := HK.out; omega) (by have := HP.out; omega))
                          clear H EE
                          go_upto_region 50 with fail
                          go_cut [236] (fun v236 wx => v236 = .bool false ∧ wx = wr)
                          case first => as_aux_lemma =>
                            by_cases e0 : E = 0
                            · subst e0
                              obtain rfl := D0 rfl
                              clear D0 D1 D2
                              cases o
                              all_goals
                                go_wp2_with fail
                                go_meet
                                exact ⟨rfl, rfl⟩
                            · have b0 : (E == 0) = false := beq_eq_false_iff_ne.2 e0
                              have b1 : (E != 0) = true := bne_iff_ne.2 e0
                              by_cases e2 : E = 2
                              · subst e2
                                clear D0 D1
                                cases o <;> cases nw
                                · rcases D2 with h | h <;> cases h
                                all_goals
                                  clear D2
                                  go_wp2_with fail
                                  go_meet
                                  exact ⟨rfl, rfl⟩
                              · have b2 : (E != 2) = true := bne_iff_ne.2 e2
                                have b3 : (E == 2) = false := beq_eq_false_iff_ne.2 e2
                                obtain rfl := D1 e0 e2
                                clear D0 D1 D2
                                cases nw
                                all_goals
                                  go_wp2_with fail
                                  go_meet
                                  exact ⟨rfl, rfl⟩
                          case rest => as_aux_lemma =>
                            obtain ⟨rfl, hwc⟩ := hcut
                            subst hwc
                            clear D0 D1 D2
                            go_wp2_with fail
                            refine (RR.out).mono ?_; rintro e w7 ⟨rfl, p2, s2, _, hkz⟩
                            have KT := Lib.hid hkz
                            clear hkz RR KZ
                            cases nw
                            · as_aux_lemma =>
                                go_wp2
                                go_loopw [241] (fun i wr => ∃ z : Nat, z ≤ n ∧ i = .int .i64 z ∧ Hid (Kz w wr x' g y' q' n P per gw gx cx (KN + 1 + 1 + 1) p2 s2 f fx F)) (fun i _ => n - (intOf i).toNat)
                                case atStart => exact ⟨0, Nat.zero_le _, rfl, KT⟩
                                case round =>
                                  obtain ⟨z, hz, rfl, H⟩ := hrel
                                  clear KT
                                  by_cases hlt : z < n
                                  · obtain ⟨Y, hY⟩ : ∃ Y, F z = Y := ⟨_, rfl⟩
                                    have GC := Lib.hid (H.out.get C hlt hY)
                                    have h8 : Y.length = 8 := by rw [← hY, ← H.out.kw.eq z hlt]; exact view_wide H.out.kw.ok.g.ok _ _ _
                                    have YE : Hid (f z = Y) := Lib.hid (by rw [← hY, FG.out z hlt]; rfl)
                                    have HZ := Lib.hid hlt
                                    have KZ := Lib.hid H.out
                                    have i2 : (0 : Int) ≤ (z : Int) := by omega
                                    have i3 : (z : Int) < (n : Int) := by omega
                                    have hz40 : z < 40 := by have := HN.out; omega
                                    have jz : IntKind.i64.wrap (16 + (z : Int)) = ((16 + z : Nat) : Int) := by rw [show 16 + (z : Int) = ((16 + z : Nat) : Int) by omega]; exact i64_nat _ (by omega)
                                    have j0 : IntKind.i64.wrap ((z : Int) + 1) = ((z + 1 : Nat) : Int) := by rw [show (z : Int) + 1 = ((z + 1 : Nat) : Int) by omega]; exact i64_nat _ (by omega)
                                    clear hY H hz hlt hz40
                                    go_wp2_with fail
                                    refine (GC.out).mono ?_; rintro e w5 ⟨rfl, hb⟩
                                    obtain ⟨W2, hW2, H2⟩ := boxed1 w5 h8
                                    have KM := Lib.hid ((KZ.out.below hb).below H2.out.2)
                                    have ld : ∀ d, (lineLoad (.pointer (some ⟨w5.heap.size, 0, none⟩))).run Try.prog (W2.drewN d) = .ok (.agg (lc Y)) (W2.drewN d) := fun d => (H2.out.1.below (below_drewN (Below.refl _ _) d)).load
                                    have lg_ : ∀ d, (lineLoad (.pointer (some ⟨gw, z * 8, none⟩))).run Try.prog (W2.drewN d) = .ok (.agg (lc Y)) (W2.drewN d) := fun d => by
                                      have := (KM.out.below (below_drewN (Below.refl _ _) d)).kw.own.load HZ.out
                                      rw [YE.out] at this; exact this
                                    clear hb GC KZ
                                    go_wp2_with fail
                                    go_quiet (fail)
                                    have KN2 := Lib.hid (KM.out.below (below_drewN (Below.refl _ _) nq))
                                    go_wp2
                                    exact ⟨⟨z + 1, by have := HZ.out; omega, by go_num, KN2⟩, by have := HZ.out; simp [intOf]; omega⟩
                                  · obtain rfl : n = z := by omega
                                    clear hz hlt
                                    go_wp2_with fail
                                    refine (awake_any C _).mono ?_; rintro e w8 ⟨rfl, hb⟩
                                    have BF := Lib.hid (below_base H.out.kw.bel H.out.kw.bel.size hb)
                                    go_wp2
                                    go_ret
                                    exact ⟨rfl, BF.out⟩
                            · as_aux_lemma =>
                                go_wp2
                                go_loopw [241] (fun i wr => ∃ z : Nat, z ≤ n ∧ i = .int .i64 z ∧ Hid (Kz w wr x' g y' q' n P per gw gx cx (KN + 1 + 1 + 1) p2 s2 f fx F)) (fun i _ => n - (intOf i).toNat)
                                case atStart => exact ⟨0, Nat.zero_le _, rfl, KT⟩
                                case round =>
                                  obtain ⟨z, hz, rfl, H⟩ := hrel
                                  clear KT
                                  by_cases hlt : z < n
                                  · obtain ⟨Y, hY⟩ : ∃ Y, F z = Y := ⟨_, rfl⟩
                                    have GC := Lib.hid (H.out.get C hlt hY)
                                    have h8 : Y.length = 8 := by rw [← hY, ← H.out.kw.eq z hlt]; exact view_wide H.out.kw.ok.g.ok _ _ _
                                    have YE : Hid (fx z = Y) := Lib.hid (by rw [← hY, FG.out z hlt]; rfl)
                                    have HZ := Lib.hid hlt
                                    have KZ := Lib.hid H.out
                                    have i2 : (0 : Int) ≤ (z : Int) := by omega
                                    have i3 : (z : Int) < (n : Int) := by omega
                                    have hz40 : z < 40 := by have := HN.out; omega
                                    have jz : IntKind.i64.wrap (16 + (z : Int)) = ((16 + z : Nat) : Int) := by rw [show 16 + (z : Int) = ((16 + z : Nat) : Int) by omega]; exact i64_nat _ (by omega)
                                    have j0 : IntKind.i64.wrap ((z : Int) + 1) = ((z + 1 : Nat) : Int) := by rw [show (z : Int) + 1 = ((z + 1 : Nat) : Int) by omega]; exact i64_nat _ (by omega)
                                    clear hY H hz hlt hz40
                                    go_wp2_with fail
                                    refine (GC.out).mono ?_; rintro e w5 ⟨rfl, hb⟩
                                    obtain ⟨W2, hW2, H2⟩ := boxed1 w5 h8
                                    have KM := Lib.hid ((KZ.out.below hb).below H2.out.2)
                                    have ld : ∀ d, (lineLoad (.pointer (some ⟨w5.heap.size, 0, none⟩))).run Try.prog (W2.drewN d) = .ok (.agg (lc Y)) (W2.drewN d) := fun d => (H2.out.1.below (below_drewN (Below.refl _ _) d)).load
                                    have lg_ : ∀ d, (lineLoad (.pointer (some ⟨gx, z * 8, none⟩))).run Try.prog (W2.drewN d) = .ok (.agg (lc Y)) (W2.drewN d) := fun d => by
                                      have := (KM.out.below (below_drewN (Below.refl _ _) d)).kw.nxt.load HZ.out
                                      rw [YE.out] at this; exact this
                                    clear hb GC KZ
                                    go_wp2_with fail
                                    go_quiet (fail)
                                    have KN2 := Lib.hid (KM.out.below (below_drewN (Below.refl _ _) nq))
                                    go_wp2
                                    exact ⟨⟨z + 1, by have := HZ.out; omega, by go_num, KN2⟩, by have := HZ.out; simp [intOf]; omega⟩
                                  · obtain rfl : n = z := by omega
                                    clear hz hlt
                                    go_wp2_with fail
                                    refine (awake_any C _).mono ?_; rintro e w8 ⟨rfl, hb⟩
                                    have BF := Lib.hid (below_base H.out.kw.bel H.out.kw.bel.size hb)
                                    go_wp2
                                    go_ret
                                    exact ⟨rfl, BF.out⟩

theorem walk (a0 a1 a2 : Int) (l3 : List Int) (v3 : Value) (l4 : List (List Hm)) (v4 : Value) (l5 : List Hm) (v5 : Value) (a6 a7 : Int) (l8 : List Int) (v8 : Value) (w : World) (_ : (Lit.int .i64 a0).wf = true) (_ : (Lit.int .i64 a1).wf = true) (_ : (Lit.int .i64 a2).wf = true) (h3 : IntsIn .i64 w v3 l3) (h4 : RAs homeE rowsE w v4 l4) (z4 : l4.length * 24 ≤ 140737488351232) (h5 : RA homeE w v5 l5) (_ : l5.length * 72 ≤ 140737488351232) (_ : (Lit.int .i64 a6).wf = true) (_ : (Lit.int .i64 a7).wf = true) (h8 : IntsIn .i64 w v8 l8) :
    Calls Try.prog 4 #[.int .i64 a0, .int .i64 a1, .int .i64 a2, v3, v4, v5, .int .i64 a6, .int .i64 a7, v8] w fun e w' => e = .returned (.bool true) ∧ Below w.heap.size w w' := walk_ ctr a0 a1 a2 l3 v3 l4 v4 l5 v5 a6 a7 l8 v8 w (ri_in h3) h4 z4 h5 (ri_in h8)

set_option maxRecDepth 100000 in
theorem lifted (os : Os) (started : os.Started) (H : Type) (enc : TypeId × Value → H) :
    ReturnsInHanded {} Try.checked os 4 .any (Rows.logWholeSpec.pre6 enc Try.prog Try.f4 Rows.logWholeRow.domain false) (Rows.logWholeSpec.post enc Try.prog Try.f4 false true false false) := by
  refine returnsInHanded_of_change_sized (C := Try.checked) own started (by kernel_rfl) Try.func4
    (ChangeSpec.witness6 (enc := enc) (C := Try.checked) false ⟨#[], #[.int .i64 0, .int .i64 0, .int .i64 0, .slice none 0 0, .slice none 0 0, .slice none 0 0, .int .i64 0, .int .i64 0, .slice none 0 0], []⟩ 8 (by kernel_rfl) (by kernel_rfl) (by kernel_rfl) (by kernel_rfl)) ?_
  intro W base args ds gs before hval0 hW hcnd hsz _
  have hval : ∀ (j : Nat) t v, Try.f4.params[j]? = some t → args[j]? = some v → Value.okWide Try.prog W .any base t v := hval0
  have hW' := hW
  have hlt := hW.lt
  obtain ⟨p, q, hA0, hV, hpq, hfz, hnd⟩ := hW
  have hA : DataW.TrodAll enc Try.prog W 0 (fun _ => true) true Try.f4.params.toList args.toList ds p := hA0
  rw [Try.params4] at hA hval
  obtain ⟨v0, vs0, d0, ds0, p0, q0, hargs, rfl, hp, h0, r0⟩ := trodAll_cons hA
  obtain ⟨v1, vs1, d1, ds1, p1, q1, rfl, rfl, rfl, h1, r1⟩ := trodAll_cons r0
  obtain ⟨v2, vs2, d2, ds2, p2, q2, rfl, rfl, rfl, h2, r2⟩ := trodAll_cons r1
  obtain ⟨v3, vs3, d3, ds3, p3, q3, rfl, rfl, rfl, h3, r3⟩ := trodAll_cons r2
  obtain ⟨v4, vs4, d4, ds4, p4, q4, rfl, rfl, rfl, h4, r4⟩ := trodAll_cons r3
  obtain ⟨v5, vs5, d5, ds5, p5, q5, rfl, rfl, rfl, h5, r5⟩ := trodAll_cons r4
  obtain ⟨v6, vs6, d6, ds6, p6, q6, rfl, rfl, rfl, h6, r6⟩ := trodAll_cons r5
  obtain ⟨v7, vs7, d7, ds7, p7, q7, rfl, rfl, rfl, h7, r7⟩ := trodAll_cons r6
  obtain ⟨v8, vs8, d8, ds8, p8, q8, rfl, rfl, rfl, h8, r8⟩ := trodAll_cons r7
  obtain ⟨rfl, rfl, rfl⟩ := trodAll_nil r8
  obtain rfl : args = #[v0, v1, v2, v3, v4, v5, v6, v7, v8] := by cases args; simp_all
  obtain ⟨rfl, rfl⟩ := trodVars_none hV
  have hlt' : ∀ x ∈ before, x.block < W.heap.size := fun x hx => hlt x hx
  obtain ⟨a0, rfl, rfl, rfl, w0⟩ := open_int Try.underlying3 (hval 0 3 v0 rfl rfl) h0
  obtain ⟨a1, rfl, rfl, rfl, w1⟩ := open_int Try.underlying3 (hval 1 3 v1 rfl rfl) h1
  obtain ⟨a2, rfl, rfl, rfl, w2⟩ := open_int Try.underlying3 (hval 2 3 v2 rfl rfl) h2
  obtain ⟨l3, w3⟩ := ints_in Try.underlying22 Try.underlying3 (by kernel_rfl) (hval 3 22 v3 rfl rfl) (fun x hx => hlt' x (by rw [hpq, hp]; simp [hx])) h3
  obtain ⟨l4, w4, z4⟩ := homess_in_sized (hval 4 23 v4 rfl rfl) h4 (j := 4) rfl rfl hsz
  obtain ⟨l5, w5, z5⟩ := homes_in_sized (hval 5 33 v5 rfl rfl) h5 (j := 5) rfl rfl hsz
  obtain ⟨a6, rfl, rfl, rfl, w6⟩ := open_int Try.underlying3 (hval 6 3 v6 rfl rfl) h6
  obtain ⟨a7, rfl, rfl, rfl, w7⟩ := open_int Try.underlying3 (hval 7 3 v7 rfl rfl) h7
  obtain ⟨l8, w8⟩ := ints_in Try.underlying22 Try.underlying3 (by kernel_rfl) (hval 8 22 v8 rfl rfl) (fun x hx => hlt' x (by rw [hpq, hp]; simp [hx])) h8
  refine (walk a0 a1 a2 l3 v3 l4 v4 l5 v5 a6 a7 l8 v8 W w0 w1 w2 w3 w4 z4 w5 z5 w6 w7 w8).mono fun e W' ⟨he, hb⟩ => ?_
  subst he
  exact ⟨_, rfl, law_post rfl (by kernel_rfl) hW' (by rw [Try.params4]; intro t ht; simp only [List.mem_cons, List.not_mem_nil, or_false] at ht; (repeat' (first | (rcases ht with rfl | ht) | subst ht)) <;> exact ⟨by kernel_rfl, of_decide_eq_true (by kernel_rfl)⟩) rfl hb⟩

theorem over : Rows.logWholeRow.holds Try.pinned (OpenSpec.ofChange Rows.logWholeSpec) :=
  OpenClaim.holds_of_wide 4 Try.f4 rfl rfl rfl rfl rfl rfl rfl ⟨rfl, rfl, rfl, rfl, rfl⟩ rfl rfl rfl rfl rfl (by kernel_rfl) Try.func4 (by kernel_rfl)
    (of_decide_eq_true (by kernel_rfl)) (by unfold Func.isWrapper; first | (rw [if_pos (by decide +kernel)]; kernel_rfl) | (rw [if_neg (by decide +kernel)]; exact ⟨rfl, rfl⟩))
    (fun os started H enc _ => lifted os started H enc)

theorem proved : Rows.LogWholeSaid := over
end Go.Proofs.Ytjghhcbiaklomaa.logWhole
