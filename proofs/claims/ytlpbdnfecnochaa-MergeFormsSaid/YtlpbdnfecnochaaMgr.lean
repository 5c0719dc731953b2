/-
  Contract of the reference's Merged: the blocks behind the giving back, and where the free one is.
-/
import Derived.Test.YtlpbdnfecnochaaMgm
import Derived.Test.YtlpbdnfecnochaaCrj
import Derived.Deep.DeepCutAuto
namespace Go.Proofs.Ytlpbdnfecnochaa
set_option maxRecDepth 100000
open Go.ChangeShapes Go.WideShapes Go.ChangeAt Go.RowKit

set_option maxHeartbeats 1000000 in
theorem rmerged_no (l : List Bk) (i : Int) (v : Value) (w : World) (hv : RA blkE w v l) (hl : l.length ≤ 1000) (h : canM l i = false) :
    Calls Try.prog 9 #[v, .int .i64 i] w fun e w' => e = .returned (.tuple #[.slice none 0 0, .int .i64 0, .bool false]) ∧ Below w.heap.size w w' := by
  have C1 := Lib.hid (rsizes_is l v w hv hl)
  have C2 := Lib.hid (fun (w' : World) (hb : Below w.heap.size w w') => rmay_is (szR l) l v (mayS l) w' (ra_below hv hb) hl (may_szR l))
  have H0 := Lib.hid (fun (w' : World) (hb : Below w.heap.size w w') => ra_below hv hb)
  obtain ⟨p, cap, rfl, hlc, hcm⟩ := ra_shape hv
  generalize szR l = z at *
  cases hm : mayS l
  · rw [hm] at C2
    generalize l.length = L at *
    clear hv hl h hlc hcm
    go_enter Try.func9, Try.ntmps9
    go_wp2_with fail
    refine (C1.out).mono ?_; rintro e w' ⟨rfl, b1⟩
    have D1 := Lib.hid b1
    go_wp2_with fail
    refine (C2.out _ D1.out).mono ?_; rintro e w2 ⟨rfl, b2⟩
    have D2 := Lib.hid (below_more D1.out b2)
    clear b1 b2
    go_wp2_with fail
    go_ret3
    exact ⟨rfl, D2.out⟩
  rw [hm] at C2
  rcases canM_no h with h | h | h | ⟨h0, h1, h⟩
  · rw [h] at hm
    cases hm
  · generalize l.length = L at *
    clear hv hl hm hlc hcm
    go_enter Try.func9, Try.ntmps9
    go_wp2_with fail
    refine (C1.out).mono ?_; rintro e w' ⟨rfl, b1⟩
    have D1 := Lib.hid b1
    go_wp2_with fail
    refine (C2.out _ D1.out).mono ?_; rintro e w2 ⟨rfl, b2⟩
    have D2 := Lib.hid (below_more D1.out b2)
    clear b1 b2
    go_wp2_with fail
    go_ret3
    exact ⟨rfl, D2.out⟩
  · have h2 : ¬ i < 0 := by omega
    have h3 : i ≥ (l.length : Int) := h
    generalize l.length = L at *
    clear hv hl hm hlc hcm h
    go_enter Try.func9, Try.ntmps9
    go_wp2_with fail
    refine (C1.out).mono ?_; rintro e w' ⟨rfl, b1⟩
    have D1 := Lib.hid b1
    go_wp2_with fail
    refine (C2.out _ D1.out).mono ?_; rintro e w2 ⟨rfl, b2⟩
    have D2 := Lib.hid (below_more D1.out b2)
    clear b1 b2
    go_wp2_with fail
    go_ret3
    exact ⟨rfl, D2.out⟩
  · obtain ⟨k, rfl⟩ : ∃ k : Nat, i = k := ⟨i.toNat, by omega⟩
    have h2 : ¬ (k : Int) < 0 := by omega
    have h3 : ¬ (k : Int) ≥ (l.length : Int) := by omega
    have h4 : ¬ (l.length : Int) ≤ (k : Int) := by omega
    have hk : k < l.length := by omega
    have HX := Lib.hid (fun (w' : World) (hb : Below w.heap.size w w') => blk_at (H0.out w' hb) (Nat.lt_of_le_of_lt (Nat.zero_le _) hk))
    have HK := Lib.hid hk
    rw [bAt_nat] at h
    have HU := Lib.hid h
    clear hv hl hm hlc hcm hk h0 h
    go_enter Try.func9, Try.ntmps9
    go_wp2_with fail
    refine (C1.out).mono ?_; rintro e w' ⟨rfl, b1⟩
    have D1 := Lib.hid b1
    go_wp2_with fail
    refine (C2.out _ D1.out).mono ?_; rintro e w2 ⟨rfl, b2⟩
    have D2 := Lib.hid (below_more D1.out b2)
    clear b1 b2
    obtain ⟨b, off, rfl, _, hx⟩ := HX.out w2 D2.out
    obtain ⟨_, _, _, hu, _⟩ := hx k HK.out
    rw [HU.out] at hu
    clear hx
    generalize l.length = L at *
    go_wp2_with fail
    go_ret3
    exact ⟨rfl, D2.out⟩

theorem ahead_b (l : List Bk) (k : Nat) (hk : k < l.length) (hl : l.length ≤ 1000) : ∃ (K0 F : Nat) (f : Bool), frm l k = F ∧ (f = true → IntKind.i64.wrap ((k : Int) - 1) = (F : Int)) ∧ (f = false → k = F) ∧
    ((¬ (k : Int) > 0 ∧ f = false) ∨ ((k : Int) > 0 ∧ IntKind.i64.wrap ((k : Int) - 1) = (K0 : Int) ∧ K0 < l.length ∧ (l.getD K0 default).u = !f)) := by
  obtain ⟨K0, F, h, h1 | ⟨h1, h2, h3, h4 | h4⟩⟩ := ahead_of l k hk hl
  · exact ⟨K0, F, false, h, (fun e => by cases e), (fun _ => h1.2.symm), .inl ⟨h1.1, rfl⟩⟩
  · exact ⟨K0, F, false, h, (fun e => by cases e), (fun _ => h4.2.symm), .inr ⟨h1, h2, h3, h4.1⟩⟩
  · exact ⟨K0, F, true, h, (fun _ => by rw [h2, h4.2]), (fun e => by cases e), .inr ⟨h1, h2, h3, h4.1⟩⟩
theorem behind_b (l : List Bk) (k : Nat) (hk : k < l.length) (hl : l.length ≤ 1000) : ∃ (K1 T : Nat) (f : Bool), too l k = T ∧ IntKind.i64.wrap ((k : Int) + 1) = (K1 : Int) ∧ (f = true → IntKind.i64.wrap ((K1 : Int) + 1) = (T : Int)) ∧ (f = false → K1 = T) ∧
    ((¬ (K1 : Int) < (l.length : Int) ∧ f = false) ∨ ((K1 : Int) < (l.length : Int) ∧ K1 < l.length ∧ (l.getD K1 default).u = !f)) := by
  obtain ⟨K1, K2, T, h, _, j1, j2, h1 | ⟨h1, h3, h4 | h4⟩⟩ := behind_of l k hk hl
  · exact ⟨K1, T, false, h, j1, (fun e => by cases e), (fun _ => h1.2.symm), .inl ⟨h1.1, rfl⟩⟩
  · exact ⟨K1, T, false, h, j1, (fun e => by cases e), (fun _ => h4.2.symm), .inr ⟨h1, h3, h4.1⟩⟩
  · exact ⟨K1, T, true, h, j1, (fun _ => by rw [j2, h4.2]), (fun e => by cases e), .inr ⟨h1, h3, h4.1⟩⟩
theorem szs_drop {m : List Bk} {j : Nat} (h : j < m.length) : szs (m.drop j) = (m.getD j default).s + szs (m.drop (j + 1)) := by rw [getD_cut h, szs]

set_option maxHeartbeats 4000000 in
theorem rmerged_yes (l : List Bk) (k : Nat) (v : Value) (w : World) (hv : RA blkE w v l) (hl : l.length ≤ 1000) (h : canM l k = true) :
    Calls Try.prog 9 #[v, .int .i64 k] w fun e w' => (∃ u, e = .returned (.tuple #[u, .int .i64 (frm l k : Nat), .bool true]) ∧ OwnA blkE w.heap.size w' u (mrgF l k)) ∧ Below w.heap.size w w' := by
  have C1 := Lib.hid (rsizes_is l v w hv hl)
  have C2 := Lib.hid (fun (w' : World) (hb : Below w.heap.size w w') => rmay_is (szR l) l v (mayS l) w' (ra_below hv hb) hl (may_szR l))
  have H0 := Lib.hid (fun (w' : World) (hb : Below w.heap.size w w') => ra_below hv hb)
  obtain ⟨p, cap, rfl, hlc, hcm⟩ := ra_shape hv
  obtain ⟨hm, hk, hu⟩ := canM_nat h
  have hz := (mayL_yes.1 hm).2
  rw [hm] at C2
  generalize szR l = z at *
  obtain ⟨b, off, rfl, _, _⟩ := blk_at hv (by omega)
  have HX : Hid (∀ w', Below w.heap.size w w' → ∀ j, j < l.length → w'.cell? ⟨b, off + j * 3, none⟩ = some (.int .i64 (l.getD j default).a) ∧ w'.cell? ⟨b, off + j * 3 + 2, none⟩ = some (.bool (l.getD j default).u)) := Lib.hid fun w' hb' j hj => by
    obtain ⟨_, _, e, _, hx⟩ := blk_at (H0.out w' hb') (by omega)
    cases e
    exact ⟨(hx j hj).2.1, (hx j hj).2.2.2.1⟩
  obtain ⟨K0, F, f0, hF, hA1, hA2, hA⟩ := ahead_b l k hk hl
  obtain ⟨K1, T, f1, hT, j1, hB1, hB2, hB⟩ := behind_b l k hk hl
  have h2 : ¬ (k : Int) < 0 := by omega
  have h3 : ¬ (k : Int) ≥ (l.length : Int) := by omega
  have h4 : ¬ (l.length : Int) ≤ (k : Int) := by omega
  have HU := Lib.hid (And.intro hk hu)
  rw [mrgF_yes h, hF, hT]
  have hft := frm_too hk
  have HM := Lib.hid (fun (w' : World) (hb : Below w.heap.size w w') => ra_mid hk (H0.out w' hb))
  have hml := mid_length hk
  rw [hF, hT] at hft HM hml
  have HS : Hid (∀ j, j < (midB l k).length → ∃ n : Nat, ((midB l k).getD j default).s = n ∧ n ≤ 512) := Lib.hid fun j hj => by
    have hmem : (midB l k).getD j default ∈ l := mid_in hk _ (by rw [List.getD_eq_getElem?_getD, List.getElem?_eq_getElem hj]; exact List.getElem_mem _)
    obtain ⟨g1, g2⟩ := (mayF_sizes hz _ hmem).1
    exact ⟨((midB l k).getD j default).s.toNat, by omega, by omega⟩
  obtain ⟨howf, hos, hoa, hoa2⟩ := one_wf h
  have hz0 : szs ((midB l k).drop 0) = (oneB l k).s := rfl
  have hla : (l.getD F default).a = (oneB l k).a := by rw [← hF]; rfl
  have eo : oneB l k = ⟨(oneB l k).a, (oneB l k).s, false⟩ := rfl
  obtain ⟨a, ha⟩ : ∃ a, (oneB l k).a = a := ⟨_, rfl⟩
  obtain ⟨s, hs⟩ : ∃ a, (oneB l k).s = a := ⟨_, rfl⟩
  rw [ha, hs] at eo
  rw [eo] at howf ⊢
  rw [hs] at hz0
  rw [ha] at hla
  have HZ := Lib.hid hz0
  have HLA := Lib.hid hla
  obtain ⟨q, hq⟩ : ∃ q : Addr, q = if cap = T then ⟨b, off, none⟩ else ⟨b, off + T * 3, none⟩ := ⟨_, rfl⟩
  have HP : Hid (∀ w', Below w.heap.size w w' → RA blkE w' (.slice (some ⟨b, off, none⟩) F cap) (l.take F) ∧ RA blkE w' (.slice (some q) (l.length - T) (cap - T)) (l.drop T)) := Lib.hid fun w' hb => by
    unfold maxLen at hcm
    refine ⟨?_, ?_⟩
    · have := ra_take (H0.out w' hb) F
      rwa [Nat.min_eq_left (by omega)] at this
    · by_cases hlt : T < l.length
      · have := ra_drop (H0.out w' hb) hlt
        rw [if_neg (by omega)] at hq
        rw [hq]; exact this
      · rw [List.drop_eq_nil_of_le (by omega), show l.length - T = 0 by omega]
        exact ⟨_, _, rfl, Nat.zero_le _, by unfold maxLen; omega, (fun _ h => by cases h), .inl rfl⟩
  have N1 : Hid (([] : List Bk).length + (l.take F).length ≤ 2000) := Lib.hid (by rw [List.length_take]; simp; omega)
  have N2 : Hid (([] ++ l.take F).length + [(⟨a, s, false⟩ : Bk)].length ≤ 2000) := Lib.hid (by rw [List.nil_append, List.length_take]; simp; omega)
  have N4 : Hid ((([] ++ l.take F) ++ [(⟨a, s, false⟩ : Bk)]).length + (l.drop T).length ≤ 2000) := Lib.hid (by rw [List.nil_append, List.length_append, List.length_take, List.length_drop]; simp; omega)
  have R1 : Hid (∀ w1 : World, RA blkE (w1.alloc (.cells (bc ⟨a, s, false⟩) 35)) (.slice (some ⟨w1.heap.size, 0, none⟩) 1 1) [⟨a, s, false⟩]) := Lib.hid fun w1 => (blk_one w1 howf).ra
  obtain ⟨U0, hU0⟩ : ∃ T, l.take F = T := ⟨_, rfl⟩
  obtain ⟨U1, hU1⟩ : ∃ x, l.drop T = x := ⟨_, rfl⟩
  rw [hU0] at HP N1 N2 N4 ⊢
  rw [hU1] at HP N4 ⊢
  have i1 : (F : Int) ≤ (T : Int) := by omega
  have i2 : (T : Int) ≤ (l.length : Int) := by omega
  have i3 : (F : Int) ≤ (cap : Int) := by omega
  have i4 : (T : Int) ≤ (cap : Int) := by omega
  have i5 : ¬ cap = 0 := by omega
  have i6 : ¬ cap = F := by omega
  have i7 : ¬ (F : Int) < 0 := by omega
  have i8 : ¬ (l.length : Int) ≤ (F : Int) := by omega
  have HF : Hid (F < l.length ∧ T - F ≤ 3) := Lib.hid (by omega)
  rw [hml] at HS
  have HML := Lib.hid hml
  clear hv h hlc hcm hm hk hu hF hT H0 hz hz0 hla eo ha hs howf hos hoa hoa2 hft hl hU0 hU1 hml
  generalize midB l k = M at *
  have SZ : Hid (∀ x : World, Below w.heap.size w x → w.heap.size ≤ x.heap.size) := Lib.hid fun _ h => h.size
  have GR : Hid (∀ (x y : World) (r : Option Nat), Below w.heap.size w x → x.grownBy y r → r = none → Below w.heap.size w y) := Lib.hid fun x y r h g e => by subst e; exact h.grown g h.size (fun k hk => by cases hk)
  go_enter Try.func9, Try.ntmps9
  go_wp2_with fail
  refine (C1.out).mono ?_; rintro e w' ⟨rfl, b1⟩
  have D1 := Lib.hid b1
  go_wp2_with fail
  refine (C2.out _ D1.out).mono ?_; rintro e w2 ⟨rfl, b2⟩
  have D2 := Lib.hid (below_more D1.out b2)
  clear b1 b2 C1 C2 D1
  have x1 := (HX.out w2 D2.out k HU.out.1).2
  rw [HU.out.2] at x1
  have HA1 := Lib.hid hA1
  have HA2 := Lib.hid hA2
  have HB1 := Lib.hid hB1
  have HB2 := Lib.hid hB2
  clear hA1 hA2 hB1 hB2
  go_upto_region 4 with fail
  go_cut [49] (fun v49 wx => v49 = .bool f0 ∧ wx = w2)
  case first =>
    rcases hA with ⟨a1, rfl⟩ | ⟨a1, a2, a3, a4⟩
    · go_wp2_with fail
      go_meet
      exact ⟨rfl, rfl⟩
    · have z1 := (HX.out w2 D2.out K0 a3).2
      have a5 : (K0 : Int) < (l.length : Int) := by omega
      have a6 : ¬ (l.length : Int) ≤ (K0 : Int) := by omega
      rw [a4] at z1
      cases f0 <;> (go_wp2_with fail; go_meet; exact ⟨rfl, rfl⟩)
  case rest =>
    obtain ⟨rfl, rfl⟩ := hcut
    clear hA
    go_upto_if 49 with fail
    go_cut [7] (fun v7 wx => v7 = .int .i64 (F : Int) ∧ wx = wc)
    case first =>
      cases f0
      · have e := HA2.out rfl
        subst e
        go_wp2_with fail
        go_meet
        exact ⟨rfl, rfl⟩
      · have e := HA1.out rfl
        go_wp2_with fail
        go_meet
        exact ⟨rfl, rfl⟩
    case rest =>
      obtain ⟨rfl, rfl⟩ := hcut
      clear HA1 HA2
      go_upto_region 6 with fail
      go_cut [63] (fun v63 wx => v63 = .bool f1 ∧ wx = wc)
      case first =>
        rcases hB with ⟨a1, rfl⟩ | ⟨a1, a3, a4⟩
        · go_wp2_with fail
          go_meet
          exact ⟨rfl, rfl⟩
        · have z1 := (HX.out _ D2.out K1 a3).2
          have a6 : ¬ (l.length : Int) ≤ (K1 : Int) := by omega
          rw [a4] at z1
          cases f1 <;> (go_wp2_with fail; go_meet; exact ⟨rfl, rfl⟩)
      case rest =>
        obtain ⟨rfl, rfl⟩ := hcut
        clear hB
        go_upto_if 63 with fail
        go_cut [8] (fun v8 wx => v8 = .int .i64 (T : Int) ∧ wx = wc)
        case first =>
          cases f1
          · have e := HB2.out rfl
            subst e
            go_wp2_with fail
            go_meet
            exact ⟨rfl, rfl⟩
          · have e := HB1.out rfl
            go_wp2_with fail
            go_meet
            exact ⟨rfl, rfl⟩
        case rest =>
          obtain ⟨rfl, rfl⟩ := hcut
          clear HB1 HB2
          clear x1 HU j1
          go_wp2
          go_loopw [9, 11, 71] (fun z x i wr => ∃ j z' : Nat, j ≤ T - F ∧ i = .int .i64 j ∧ z = .int .i64 z' ∧ z' ≤ 512 * j ∧ Hid ((z' : Int) + szs (M.drop j) = s ∧ Below w.heap.size w wr)) (fun _ _ i _ => (T - F) - (intOf i).toNat)
          case atStart => exact ⟨0, 0, Nat.zero_le _, rfl, rfl, Nat.zero_le _, Lib.hid ⟨by have := HZ.out; simpa using this, D2.out⟩⟩
          case round =>
            obtain ⟨j, z', hj, rfl, rfl, hz', H⟩ := hrel
            by_cases hlt : j < T - F
            · have hjm : j < M.length := by rw [HML.out]; exact hlt
              obtain ⟨_, _, e, _, hx⟩ := blk_at (HM.out wr H.out.2) (by omega)
              cases e
              obtain ⟨hld, _, _, _, _⟩ := hx j hjm
              obtain ⟨n, hn, hn2⟩ := HS.out j hlt
              have hF := H.out.1
              rw [szs_drop hjm, hn] at hF
              obtain ⟨⟨ya, ys, yu⟩, hy⟩ : ∃ y, M.getD j default = y := ⟨_, rfl⟩
              rw [hy] at hld hn
              simp only at hn
              subst hn
              obtain ⟨W, hW, HW⟩ := blk_boxed wr ⟨ya, n, yu⟩
              have c1 : W.cell? ⟨wr.heap.size, 1, none⟩ = some (.int .i64 n) := HW.out.1.c1
              have HB := Lib.hid (below_more H.out.2 HW.out.2)
              have k0 : (0 : Int) ≤ (j : Int) := by omega
              have k1 : (j : Int) < ((T - F : Nat) : Int) := by omega
              have k2 : ¬ (j : Int) < 0 := by omega
              have k3 : IntKind.i64.wrap ((j : Int) + 1) = ((j + 1 : Nat) : Int) := by rw [show (j : Int) + 1 = ((j + 1 : Nat) : Int) by omega]; exact i64_nat _ (by have := HF.out; omega)
              have k4 : IntKind.i64.wrap ((z' : Int) + (n : Int)) = ((z' + n : Nat) : Int) := by rw [show (z' : Int) + (n : Int) = ((z' + n : Nat) : Int) by omega]; exact i64_nat _ (by have := HF.out; omega)
              have k5 : ¬ ((T - F : Nat) : Int) ≤ (j : Int) := by omega
              have k6 : ¬ T - F ≤ j := by omega
              have HK := Lib.hid (And.intro hlt (And.intro hz' hn2))
              have HN : Hid (((z' + n : Nat) : Int) + szs (M.drop (j + 1)) = s ∧ Below w.heap.size w W) := Lib.hid ⟨by rw [← hF]; push_cast; rw [Int.add_assoc], HB.out⟩
              clear hx hF hz' hn2 hjm hj hy
              go_wp2
              go_roundw
              case rel => exact ⟨j + 1, z' + n, by have := HK.out; omega, by go_num, rfl, by have := HK.out; omega, HN⟩
              case measure => have := HK.out; simp [intOf]; omega
            · obtain rfl : j = T - F := by omega
              have hF := H.out.1
              rw [← HML.out, List.drop_length, szs, Int.add_zero] at hF
              have DR := Lib.hid H.out.2
              have HFS := Lib.hid hF
              subst hF
              have x := (HX.out wr DR.out F HF.out.1).1
              rw [HLA.out] at x
              have HXF : Hid (∀ w', Below w.heap.size w w' → w'.cell? ⟨b, off + F * 3, none⟩ = some (.int .i64 a)) := Lib.hid fun w' hb => by
                have := (HX.out w' hb F HF.out.1).1
                rw [HLA.out] at this
                exact this
              clear H hj hlt hz' HM HS HML HZ HX HLA
              generalize l.length = L at *
              go_wp2_with fail
              go_region_law (first
                | (refine step_blk (o := ⟨some 83, _, _, _, _, _⟩) rfl (.const (.slice none 0 0)) (.tmp 82) rfl w.heap.size (.slice none 0 0) [] (by simp [Act.eval]) (own_nil_a _ _ _) (.slice (some ⟨b, off, none⟩) F cap) U0 (by simp [Act.eval, Act.put]) (HP.out _ (by repeat' (first | (with_reducible exact DR.out) | (with_reducible refine Below.drew ?_) | (with_reducible refine bal ?_)))).1 N1.out (SZ.out _ (by repeat' (first | (with_reducible exact DR.out) | (with_reducible refine Below.drew ?_) | (with_reducible refine bal ?_)))) ?_
                   intro vb wb ob gb _
                   have OB := Lib.hid ob
                   have GB : Hid (Below w.heap.size w wb) := Lib.hid (GR.out _ _ _ (by repeat' (first | (with_reducible exact DR.out) | (with_reducible refine Below.drew ?_) | (with_reducible refine bal ?_))) gb rfl)
                   have GX := Lib.hid ((Below.refl _ _).grown gb (Nat.le_refl _) (by intro k hk; cases hk))
                   have y1 := HXF.out wb GB.out
                   clear ob)
                | (refine step_blk (o := ⟨some 92, _, _, _, _, _⟩) rfl (.tmp 83) (.tmp 91) rfl w.heap.size vb ([] ++ U0) (by simp [Act.eval]) (OB.out.alloc _) (.slice (some ⟨wb.heap.size, 0, none⟩) 1 1) [⟨a, z', false⟩] (by simp [Act.eval]) (R1.out wb) N2.out (SZ.out _ (bal GB.out)) ?_
                   intro vc wc oc gc _
                   have OC := Lib.hid oc
                   have GC := Lib.hid (below_app (bal GB.out) (SZ.out _ (bal GB.out)) (OB.out.alloc _) gc)
                   clear oc gc)
                | (refine step_blk (o := ⟨some 92, _, _, _, _, _⟩) rfl (.tmp 83) (.tmp 91) rfl w.heap.size vb ([] ++ U0) (by simp [Act.eval]) OB.out (.slice (some ⟨wr.heap.size, 0, none⟩) 1 1) [⟨a, z', false⟩] (by simp [Act.eval]) (ra_below (ra_below (R1.out wr) ((Below.refl _ _).drew)) GX.out) N2.out (SZ.out _ GB.out) ?_
                   intro vc wc oc gc _
                   have OC := Lib.hid oc
                   have GC := Lib.hid (below_app GB.out (SZ.out _ GB.out) OB.out gc)
                   clear oc gc))
              all_goals
                clear R1 gb
                by_cases e9 : cap = T
                · rw [if_pos e9] at hq
                  subst hq
                  have e2 : T = cap := e9.symm
                  subst e2
                  rw [Nat.sub_self] at HP
                  go_wp2_with (at_builtin; refine app_blk (o := ⟨some 97, _, _, _, _, _⟩) rfl (.tmp 93) (.tmp 96) rfl w.heap.size vc (([] ++ U0) ++ [(⟨a, z', false⟩ : Bk)]) rfl OC.out _ U1 rfl (HP.out _ GC.out).2 N4.out (SZ.out _ GC.out) ?_)
                  intro ve we oe ge _
                  have OE : Hid (OwnA blkE w.heap.size we ve (U0 ++ (⟨a, z', false⟩ :: U1))) := Lib.hid (by simpa using oe)
                  have GE := Lib.hid (below_app GC.out (SZ.out _ GC.out) OC.out ge)
                  clear oe ge
                  go_wp2
                  go_ret3
                  exact ⟨⟨_, rfl, OE.out⟩, GE.out⟩
                · rw [if_neg e9] at hq
                  subst hq
                  go_wp2_with (at_builtin; refine app_blk (o := ⟨some 97, _, _, _, _, _⟩) rfl (.tmp 93) (.tmp 96) rfl w.heap.size vc (([] ++ U0) ++ [(⟨a, z', false⟩ : Bk)]) rfl OC.out _ U1 rfl (HP.out _ GC.out).2 N4.out (SZ.out _ GC.out) ?_)
                  intro ve we oe ge _
                  have OE : Hid (OwnA blkE w.heap.size we ve (U0 ++ (⟨a, z', false⟩ :: U1))) := Lib.hid (by simpa using oe)
                  have GE := Lib.hid (below_app GC.out (SZ.out _ GC.out) OC.out ge)
                  clear oe ge
                  go_wp2
                  go_ret3
                  exact ⟨⟨_, rfl, OE.out⟩, GE.out⟩
end Go.Proofs.Ytlpbdnfecnochaa
