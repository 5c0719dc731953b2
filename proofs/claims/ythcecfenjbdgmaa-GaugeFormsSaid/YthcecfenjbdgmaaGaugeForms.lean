/-
  Package gauge tells what the document says: of any wear and limit, of any memory. No conditions.
-/
import Derived.Test.YthcecfenjbdgmaaGua
import Derived.Test.YthcecfenjbdgmaaIsm
import Derived.Test.YthcecfenjbdgmaaIsz
import Derived.Handy
namespace Go.Proofs.Ythcecfenjbdgmaa.gaugeForms
set_option maxRecDepth 100000
open Go.Proofs.Ythcecfenjbdgmaa Go.Proofs.Ythcecfenjbdgmaa.D Go.ChangeShapes Go.WideShapes Go.ChangeAt Go.RowKit

theorem sums_wrap {a b c : Nat} (h1 : a ≤ 17592186044416) (h2 : b ≤ 17592186044416) (h3 : c ≤ 17592186044416) : IntKind.i64.wrap ((a : Int) + (b : Int)) = (a : Int) + (b : Int) ∧ IntKind.i64.wrap ((a : Int) + (b : Int) + (c : Int)) = (a : Int) + (b : Int) + (c : Int) := by
  exact ⟨isN _ (by omega) (by omega), isN _ (by omega) (by omega)⟩

theorem long (x y a f t : Int) (p q r : Option Addr) (n c k d j e : Nat) (w : World) (h : 500 < n + k + j) (h1 : n ≤ 17592186044416) (h2 : k ≤ 17592186044416) (h3 : j ≤ 17592186044416) :
    Calls Try.prog 3 #[.int .i64 x, .int .i64 y, .slice p n c, .slice q k d, .int .i64 a, .int .i64 f, .int .i64 t, .slice r j e] w fun e w' => e = .returned (.bool true) ∧ Below w.heap.size w w' := by
  obtain ⟨s1, s2⟩ := sums_wrap h1 h2 h3
  have i1 : (500 : Int) < (n : Int) + (k : Int) + (j : Int) := by omega
  clear h h1 h2 h3
  go_enter Try.func3, Try.ntmps3
  go_wp2_with fail
  refine (awake_any _).mono ?_; rintro e w' ⟨rfl, hb⟩
  go_wp2_with fail
  go_ret
  exact ⟨rfl, hb⟩

set_option maxRecDepth 100000 in
set_option maxHeartbeats 8000000 in
theorem short (x y a f t : Int) (v u o : Value) (l m b : List Int) (w : World) (hx : (Lit.int .i64 x).wf = true) (hy : (Lit.int .i64 y).wf = true) (hf : (Lit.int .i64 f).wf = true) (ht : (Lit.int .i64 t).wf = true)
    (hv : IntsIn .i64 w v l) (hu : IntsIn .i64 w u m) (ho : IntsIn .i64 w o b) (hl : l.length + m.length + b.length ≤ 500) :
    Calls Try.prog 3 #[.int .i64 x, .int .i64 y, v, u, .int .i64 a, .int .i64 f, .int .i64 t, o] w fun e w' => e = .returned (.bool true) ∧ Below w.heap.size w w' := by
  obtain ⟨s1, s2⟩ := sums_wrap (show l.length ≤ 17592186044416 by omega) (show m.length ≤ 17592186044416 by omega) (show b.length ≤ 17592186044416 by omega)
  have F1 := Lib.hid (i64_wf hf)
  have T1 := Lib.hid (i64_wf ht)
  have LF := Lib.hid (fun w => life_w x y _ w rfl hx hy)
  have RF := Lib.hid (fun w => rlife_is x y w hx hy)
  have LL := Lib.hid (lifeV_lt x y)
  have WS := Lib.hid (fun w1 (hb : Below w.heap.size w w1) => worst_is v u l m w1 (ri_below (ri_in hv) hb) (ri_below (ri_in hu) hb) (by omega) (in_wf hv) (in_wf hu))
  have ML := Lib.hid (worst_lt l m)
  have SL := Lib.hid (lvs_small l m)
  have HV := Lib.hid (ri_in hv)
  have HU := Lib.hid (ri_in hu)
  have HO := Lib.hid (ri_in ho)
  have WL := Lib.hid (in_wf hv)
  have WM := Lib.hid (in_wf hu)
  have HN : Hid (l.length ≤ 500 ∧ b.length ≤ 500) := Lib.hid (by omega)
  have B0 := Lib.hid (Below.refl w.heap.size w)
  have i1 : ¬ (500 : Int) < (l.length : Int) + (m.length : Int) + (b.length : Int) := by omega
  generalize lifeV x y = U at *
  obtain ⟨p, c, rfl, hcut⟩ := hv
  clear hcut
  obtain ⟨q, d, rfl, hcut⟩ := hu
  clear hcut
  obtain ⟨r, g, rfl, hcut⟩ := ho
  clear hcut hl hf ht hx hy
  go_enter Try.func3, Try.ntmps3
  go_wp2
  go_loopw [17, 18, 19, 20, 38] (fun z _ _ _ i wr => ∃ k : Nat, k ≤ l.length ∧ i = .int .i64 k ∧ Hid (Own w.heap.size wr z ((lvs l m).take k) ∧ Below w.heap.size w wr)) (fun _ _ _ _ i _ => l.length - (intOf i).toNat)
  case atStart => exact ⟨0, Nat.zero_le _, rfl, Lib.hid ⟨World.ownsRow_nil _ _ _ _, B0.out⟩⟩
  case round =>
    obtain ⟨k, hk, rfl, H⟩ := hrel
    by_cases hlt : k < l.length
    · clear s1 s2 i1
      have j1 : IntKind.i64.wrap ((k : Int) + 1) = ((k + 1 : Nat) : Int) := by rw [show (k : Int) + 1 = ((k + 1 : Nat) : Int) by omega]; exact i64_nat _ (by have := HN.out; omega)
      obtain ⟨b1, off1, rfl, _, hc⟩ := ri_some (ri_below HV.out H.out.2) (by omega)
      have c1 := hc k hlt
      have i4 : (0 : Int) ≤ (k : Int) := by omega
      have i5 : (k : Int) < (l.length : Int) := by omega
      have i6 : ¬ (k : Int) < 0 := by omega
      clear hc
      obtain ⟨i0, hi, hz0, hz1, hz2⟩ := info_parts info_f64
      have hlk : ((lvs l m).take k).length = k := by rw [List.length_take, lvs_length]; omega
      have HO := H.out.1
      unfold Own at HO
      rw [hlk] at HO
      have HO := Lib.hid HO
      have HB := Lib.hid H.out.2
      have hsz := H.out.2.size
      obtain ⟨zk, hz7⟩ : ∃ zk, lifeV (l.getD k 0) (limAt m k) = zk := ⟨_, rfl⟩
      have HS := Lib.hid (lvs_take (m := m) hlt)
      rw [hz7] at HS
      have F := rlife_is (l.getD k 0) (limAt m k) wr (at_wf WL.out hlt) (limAt_wf WM.out k)
      rw [hz7] at F
      have F := Lib.hid F
      by_cases hkm : k < m.length
      · have el : limAt m k = m.getD k 0 := by unfold limAt; rw [if_pos hkm]
        obtain ⟨b2, off2, rfl, _, hc⟩ := ri_some (ri_below HU.out H.out.2) (by omega)
        have c2 := hc k hkm
        have i7 : (k : Int) < (m.length : Int) := by omega
        rw [el] at F
        clear hc el hz7 H
        generalize l.getD k 0 = yy at *
        generalize m.getD k 0 = nn at *
        go_wp2_with fail
        refine F.out.mono ?_; rintro e w' ⟨rfl, rfl⟩
        clear F
        go_wp2_with (at_builtin; refine wpList_append_own _ rfl _ _ 24 rfl w.heap.size 25 i0 (.float .f64 0) 1 8 Try.underlying24 hi hz0 hz1 hz2 rfl (by decide) _ _ _ rfl (HO.out.alloc _) ⟨wr.heap.size, 0, none⟩ 1 1 [.float .f64 zk] rfl rfl ?c1 ?c2 ?c3 ?c4 ?c5 ?_)
        case c1 =>
          intro j u hj
          match j, hj with
          | 0, hj => simp at hj; subst hj; simp [Addr.add]
        case c2 => intro u hu; simp at hu; subst hu; rfl
        case c3 => unfold maxLen; have := HN.out; omega
        case c4 => have := HN.out; omega
        case c5 => simp; omega
        intro v' w1 hown1 hgrow _
        have hb1 : Below w.heap.size w w1 := (HB.out.alloc hsz _).grown hgrow (by rw [size_alloc]; omega) (by intro q hq; exact (HO.out.lt q hq).1)
        have hown2 : Own w.heap.size w1 v' ((lvs l m).take (k + 1)) := by
          unfold Own
          rw [HS.out, List.length_append, List.map_append, hlk, List.map_take]; exact hown1
        have HF := Lib.hid (And.intro hown2 hb1)
        clear hown1 hgrow HO HB hown2 hb1 hi hz0 hz1 hz2
        go_wp2
        exact ⟨⟨k + 1, by omega, by go_num, HF⟩, by simp [intOf]; omega⟩
      · have el : limAt m k = -1 := by unfold limAt; rw [if_neg hkm]
        have i7 : ¬ (k : Int) < (m.length : Int) := by omega
        rw [el] at F
        clear el hz7 H
        generalize l.getD k 0 = yy at *
        go_wp2_with fail
        refine F.out.mono ?_; rintro e w' ⟨rfl, rfl⟩
        clear F
        go_wp2_with (at_builtin; refine wpList_append_own _ rfl _ _ 24 rfl w.heap.size 25 i0 (.float .f64 0) 1 8 Try.underlying24 hi hz0 hz1 hz2 rfl (by decide) _ _ _ rfl (HO.out.alloc _) ⟨wr.heap.size, 0, none⟩ 1 1 [.float .f64 zk] rfl rfl ?c1 ?c2 ?c3 ?c4 ?c5 ?_)
        case c1 =>
          intro j u hj
          match j, hj with
          | 0, hj => simp at hj; subst hj; simp [Addr.add]
        case c2 => intro u hu; simp at hu; subst hu; rfl
        case c3 => unfold maxLen; have := HN.out; omega
        case c4 => have := HN.out; omega
        case c5 => simp; omega
        intro v' w1 hown1 hgrow _
        have hb1 : Below w.heap.size w w1 := (HB.out.alloc hsz _).grown hgrow (by rw [size_alloc]; omega) (by intro q hq; exact (HO.out.lt q hq).1)
        have hown2 : Own w.heap.size w1 v' ((lvs l m).take (k + 1)) := by
          unfold Own
          rw [HS.out, List.length_append, List.map_append, hlk, List.map_take]; exact hown1
        have HF := Lib.hid (And.intro hown2 hb1)
        clear hown1 hgrow HO HB hown2 hb1 hi hz0 hz1 hz2
        go_wp2
        exact ⟨⟨k + 1, by omega, by go_num, HF⟩, by simp [intOf]; omega⟩
    · obtain rfl : k = l.length := by omega
      rename World => wr
      have RD := Lib.hid (H.out.1).reads
      rw [show l.length = (lvs l m).length from (lvs_length l m).symm, List.take_length] at RD
      have RB := Lib.hid H.out.2
      clear H hk
      go_wp2_with fail
      refine (LF.out _).mono ?_; rintro e w1 ⟨rfl, hb⟩
      have RD1 := Lib.hid (RD.out.below hb)
      have RB1 := Lib.hid (below_more RB.out hb)
      clear hb RD RB
      go_wp2_with fail
      refine (RF.out _).mono ?_; rintro e w' ⟨rfl, rfl⟩
      go_wp2_with fail
      refine (same_is U U LL.out LL.out true (by simp) _).mono ?_; rintro e w' ⟨rfl, rfl⟩
      go_wp2_with fail
      refine (WS.out _ RB1.out).mono ?_; rintro e w2 ⟨rfl, hb⟩
      have RD2 := Lib.hid (RD1.out.below hb)
      have RB2 := Lib.hid (below_more RB1.out hb)
      clear hb RD1 RB1
      go_wp2_with fail
      refine (rmin_any _ _ w2 RD2.out (by rw [lvs_length]; have := HN.out; omega) SL.out).mono ?_; rintro e w3 ⟨z3, rfl, z4, z5, hb⟩
      have RB3 := Lib.hid (below_more RB2.out hb)
      have SS := Lib.hid (same_is (minV (lvs l m)) z3 ML.out z4 true (by rw [z5]; simp))
      clear hb RD2 RB2 z4 z5
      go_wp2_with fail
      refine (SS.out _).mono ?_; rintro e w' ⟨rfl, rfl⟩
      clear SS LF RF LL WS ML SL HV HU WL WM B0
      go_wp2_with fail
      refine (mnew_is a w3).mono ?_; rintro e w4 ⟨vm, s0, rfl, hM, hc0, hb⟩
      obtain ⟨pm, rfl⟩ := hM.ptr
      have M0 := Lib.hid hM
      have C0 := Lib.hid hc0
      have RB4 := Lib.hid (below_more RB3.out hb)
      have BS : Hid (w.heap.size ≤ w3.heap.size) := Lib.hid RB3.out.size
      clear hM hc0 hb RB3
      go_wp2
      go_loopw [23, 79] (fun _ i wr => ∃ k : Nat, k ≤ b.length ∧ i = .int .i64 k ∧ Hid (∃ s, Mm w3.heap.size wr (.pointer pm) s ∧ s.c ≤ k ∧ Below w.heap.size w wr)) (fun _ i _ => b.length - (intOf i).toNat)
      case atStart => exact ⟨0, Nat.zero_le _, rfl, Lib.hid ⟨_, M0.out, by rw [C0.out]; exact Int.le_refl _, RB4.out⟩⟩
      case round =>
        rename World => wr
        obtain ⟨k, hk, rfl, H⟩ := hrel
        obtain ⟨s, hM, hc, hB⟩ := H.out
        have SM := Lib.hid hM
        have SC := Lib.hid hc
        have SB := Lib.hid hB
        clear hM hc hB H M0 C0 RB4
        by_cases hlt : k < b.length
        · have j1 : IntKind.i64.wrap ((k : Int) + 1) = ((k + 1 : Nat) : Int) := by rw [show (k : Int) + 1 = ((k + 1 : Nat) : Int) by omega]; exact i64_nat _ (by have := HN.out; omega)
          obtain ⟨b1, off1, rfl, _, hc⟩ := ri_some (ri_below HO.out SB.out) (by omega)
          have c1 := hc k hlt
          have i4 : (0 : Int) ≤ (k : Int) := by omega
          have i5 : (k : Int) < (b.length : Int) := by omega
          have i6 : ¬ (k : Int) < 0 := by omega
          clear hc
          generalize b.getD k 0 = yy at *
          have P := Lib.hid (mput_is SM.out yy (l := [0, 0, 0, 0, 0, 0, 0, 0]) rfl (by have := SC.out; have := HN.out; omega))
          go_wp2_with fail
          refine P.out.mono ?_; rintro e w5 ⟨x5, s', rfl, hM, hc, hb⟩
          have HF : Hid (∃ s, Mm w3.heap.size w5 (.pointer pm) s ∧ s.c ≤ ((k + 1 : Nat) : Int) ∧ Below w.heap.size w w5) := Lib.hid ⟨s', hM, by have := SC.out; omega, hb w BS.out SB.out⟩
          clear hM hc hb P
          go_wp2
          exact ⟨⟨k + 1, by omega, by go_num, HF⟩, by simp [intOf]; omega⟩
        · obtain rfl : k = b.length := by omega
          clear hk SC
          obtain ⟨N, hN⟩ : ∃ N : Int, (s.n : Int) = N := ⟨_, rfl⟩
          have HWR : Hid (wrs s f t = byF (min t N - max f 0).toNat fun k => s.wear (max f 0 + k)) := Lib.hid (by rw [← hN]; rfl)
          have EN := Lib.hid hN
          have HN := Lib.hid (show 0 ≤ N ∧ N ≤ 200 by have := SM.out.few; omega)
          clear hN
          by_cases hA : 0 < f
          · clear s1 s2
            obtain ⟨A, hA'⟩ : ∃ A : Int, A = f := ⟨_, rfl⟩
            have HA := Lib.hid hA'
            have hW2 : wrs s f t = byF (min t N - A).toNat fun k => s.wear (A + k) := by
              rw [HWR.out, show max f 0 = A by omega]
            have HW := Lib.hid hW2
            have L1 : Hid (0 ≤ A) := Lib.hid (by omega)
            clear hW2 hA' HWR
            go_wp2
            go_loopw [24, 25] (fun u i wq => ∃ k : Nat, (k = 0 ∨ (A + (k : Int) ≤ t ∧ A + (k : Int) ≤ N)) ∧ i = .int .i64 (A + (k : Int)) ∧ Hid (OwnI wr.heap.size wq u (byF k fun j => s.wear (A + j)) ∧ Below wr.heap.size wr wq)) (fun _ i _ => (N - intOf i).toNat)
            case atStart => exact ⟨0, .inl rfl, by rw [HA.out]; simp, Lib.hid ⟨World.ownsRow_nil _ _ _ _, Below.refl _ _⟩⟩
            case round =>
              rename World => wq
              obtain ⟨k, hk, rfl, H⟩ := hrel
              have LN := Lib.hid (mlines_is (SM.out.below H.out.2))
              rw [EN.out] at LN
              by_cases hlt : A + (k : Int) < t
              · by_cases hlN : A + (k : Int) < N
                · have k0 : k ≤ 200 := by have := L1.out; have := HN.out; omega
                  have s1 : A + (k : Int) + 1 = A + ((k + 1 : Nat) : Int) := by omega
                  have j0 : IntKind.i64.wrap (A + (k : Int) + 1) = A + ((k + 1 : Nat) : Int) := by rw [s1]; exact isN _ (by have := L1.out; omega) (by have := HN.out; omega)
                  have M := Lib.hid (mwear_is (SM.out.below H.out.2) (A + (k : Int)))
                  have hsz := H.out.2.size
                  have O1 := Lib.hid (fun x : Int => own_below_i H.out.1 (bal (o := .cells #[.int .i64 x] 3) (Below.refl wq.heap.size wq)))
                  have hb1 : ∀ x : Int, wr.heap.size ≤ (wq.alloc (.cells #[.int .i64 x] 3)).heap.size := fun x => by rw [size_alloc]; omega
                  have hlen : (byF k fun j => s.wear (A + j)).length + [s.wear (A + (k : Int))].length ≤ 1000000 := by rw [byF_length]; simp; omega
                  have HL := Lib.hid hlen
                  have HB1 := Lib.hid hb1
                  have HK := Lib.hid (And.intro hlt hlN)
                  obtain ⟨OL, hOL⟩ : ∃ OL, (byF k fun j => s.wear (A + j)) = OL := ⟨_, rfl⟩
                  obtain ⟨z, hz⟩ : ∃ z, s.wear (A + (k : Int)) = z := ⟨_, rfl⟩
                  rw [hz] at M HL
                  have HS : Hid ((byF (k + 1) fun j => s.wear (A + j)) = OL ++ [z]) := Lib.hid (by rw [byF_succ, hz, hOL])
                  have LW := Lib.hid fun q hq => (H.out.1.lt q hq).1
                  have BW := Lib.hid H.out.2
                  rw [hOL] at HL O1
                  clear H hOL s1 hlen hb1 hz
                  go_wp2_with fail
                  refine LN.out.mono ?_; rintro e w' ⟨rfl, rfl⟩
                  go_wp2_with fail
                  refine M.out.mono ?_; rintro e w' ⟨rfl, rfl⟩
                  go_wp2_with (at_builtin; refine list_app_int (o := ⟨some 106, _, _, _, _, _⟩) rfl (.tmp 101) (.tmp 105) rfl wr.heap.size _ OL rfl (O1.out z) _ [z] rfl (ri_one _ _) HL.out (HB1.out z) ?_; intro v1 w2 hown hg _)
                  have hbw : Below wr.heap.size wr w2 := (BW.out.alloc hsz _).grown hg (HB1.out z) LW.out
                  rw [← HS.out] at hown
                  have HF := Lib.hid (And.intro hown hbw)
                  clear hown hg hbw O1 HS M
                  go_wp2
                  exact ⟨⟨k + 1, .inr (by have := HK.out; omega), rfl, HF⟩, by have := HK.out; simp [intOf]; omega⟩
                · have e : k = (min t N - A).toNat := by omega
                  subst e
                  have O := Lib.hid H.out.1
                  rw [← HW.out] at O
                  have OW := O
                  have M := Lib.hid (SM.out.below H.out.2)
                  have BL := Lib.hid (below_more SB.out H.out.2)
                  clear H hk HW O
                  obtain ⟨K, hK⟩ : ∃ K : Int, A + (((min t N - A).toNat : Nat) : Int) = K := ⟨_, rfl⟩
                  rw [hK] at hlt hlN ⊢
                  go_wp2_with fail
                  refine LN.out.mono ?_; rintro e w' ⟨rfl, rfl⟩
                  have HL3 := Lib.hid hK
                  clear hK
                  clear HL3
                  have R0 := Lib.hid OW.out.ri
                  have FL := Lib.hid (wrs_few M.out f t)
                  go_wp2_with fail
                  refine (wears_is M.out f t (i64_of F1.out.1 F1.out.2) (i64_of T1.out.1 T1.out.2)).mono ?_; rintro e w2 ⟨u1, rfl, ho, hb⟩
                  have O1 := Lib.hid ho.ri
                  have M1 := Lib.hid (M.out.below hb)
                  have R1 := Lib.hid (ri_below R0.out hb)
                  have B1 := Lib.hid (below_more BL.out hb)
                  clear ho hb M R0 BL OW
                  go_wp2_with fail
                  refine (ints_same O1.out R1.out).mono ?_; rintro e w' ⟨rfl, n1, rfl⟩
                  go_wp2_with fail
                  refine (guneven_is (M1.out.below (below_drewN (Below.refl _ _) n1)) f t (i64_of F1.out.1 F1.out.2) (i64_of T1.out.1 T1.out.2)).mono ?_; rintro e w3 ⟨rfl, hb⟩
                  have hb := below_more (below_drewN (Below.refl w2.heap.size w2) n1) hb
                  have R2 := Lib.hid (runev_any _ _ w3 (ri_below R1.out hb).m (by have := FL.out; unfold maxLen; omega))
                  have UL := Lib.hid (unV_le (held (wrs s f t)))
                  have B2 := Lib.hid (below_more B1.out hb)
                  clear hb M1 R1 B1 O1
                  generalize unV (held (wrs s f t)) = U at *
                  go_wp2_with fail
                  refine R2.out.mono ?_; rintro e w' ⟨rfl, rfl⟩
                  go_wp2_with fail
                  refine (same_is U U UL.out UL.out true (by simp) _).mono ?_; rintro e w' ⟨rfl, rfl⟩
                  go_wp2_with fail
                  refine (awake_any _).mono ?_; rintro e w4 ⟨rfl, hb⟩
                  go_wp2_with fail
                  go_ret
                  exact ⟨rfl, below_more B2.out hb⟩
              · have e : k = (min t N - A).toNat := by omega
                subst e
                have O := Lib.hid H.out.1
                rw [← HW.out] at O
                have OW := O
                have M := Lib.hid (SM.out.below H.out.2)
                have BL := Lib.hid (below_more SB.out H.out.2)
                clear H hk HW O LN
                obtain ⟨K, hK⟩ : ∃ K : Int, A + (((min t N - A).toNat : Nat) : Int) = K := ⟨_, rfl⟩
                rw [hK] at hlt ⊢
                have HL3 := Lib.hid hK
                clear hK
                clear HL3
                have R0 := Lib.hid OW.out.ri
                have FL := Lib.hid (wrs_few M.out f t)
                go_wp2_with fail
                refine (wears_is M.out f t (i64_of F1.out.1 F1.out.2) (i64_of T1.out.1 T1.out.2)).mono ?_; rintro e w2 ⟨u1, rfl, ho, hb⟩
                have O1 := Lib.hid ho.ri
                have M1 := Lib.hid (M.out.below hb)
                have R1 := Lib.hid (ri_below R0.out hb)
                have B1 := Lib.hid (below_more BL.out hb)
                clear ho hb M R0 BL OW
                go_wp2_with fail
                refine (ints_same O1.out R1.out).mono ?_; rintro e w' ⟨rfl, n1, rfl⟩
                go_wp2_with fail
                refine (guneven_is (M1.out.below (below_drewN (Below.refl _ _) n1)) f t (i64_of F1.out.1 F1.out.2) (i64_of T1.out.1 T1.out.2)).mono ?_; rintro e w3 ⟨rfl, hb⟩
                have hb := below_more (below_drewN (Below.refl w2.heap.size w2) n1) hb
                have R2 := Lib.hid (runev_any _ _ w3 (ri_below R1.out hb).m (by have := FL.out; unfold maxLen; omega))
                have UL := Lib.hid (unV_le (held (wrs s f t)))
                have B2 := Lib.hid (below_more B1.out hb)
                clear hb M1 R1 B1 O1
                generalize unV (held (wrs s f t)) = U at *
                go_wp2_with fail
                refine R2.out.mono ?_; rintro e w' ⟨rfl, rfl⟩
                go_wp2_with fail
                refine (same_is U U UL.out UL.out true (by simp) _).mono ?_; rintro e w' ⟨rfl, rfl⟩
                go_wp2_with fail
                refine (awake_any _).mono ?_; rintro e w4 ⟨rfl, hb⟩
                go_wp2_with fail
                go_ret
                exact ⟨rfl, below_more B2.out hb⟩
          · clear s1 s2
            obtain ⟨A, hA'⟩ : ∃ A : Int, A = 0 := ⟨_, rfl⟩
            have HA := Lib.hid hA'
            have hW2 : wrs s f t = byF (min t N - A).toNat fun k => s.wear (A + k) := by
              rw [HWR.out, show max f 0 = A by omega]
            have HW := Lib.hid hW2
            have L1 : Hid (0 ≤ A) := Lib.hid (by omega)
            clear hW2 hA' HWR
            go_wp2
            go_loopw [24, 25] (fun u i wq => ∃ k : Nat, (k = 0 ∨ (A + (k : Int) ≤ t ∧ A + (k : Int) ≤ N)) ∧ i = .int .i64 (A + (k : Int)) ∧ Hid (OwnI wr.heap.size wq u (byF k fun j => s.wear (A + j)) ∧ Below wr.heap.size wr wq)) (fun _ i _ => (N - intOf i).toNat)
            case atStart => exact ⟨0, .inl rfl, by rw [HA.out]; simp, Lib.hid ⟨World.ownsRow_nil _ _ _ _, Below.refl _ _⟩⟩
            case round =>
              rename World => wq
              obtain ⟨k, hk, rfl, H⟩ := hrel
              have LN := Lib.hid (mlines_is (SM.out.below H.out.2))
              rw [EN.out] at LN
              by_cases hlt : A + (k : Int) < t
              · by_cases hlN : A + (k : Int) < N
                · have k0 : k ≤ 200 := by have := L1.out; have := HN.out; omega
                  have s1 : A + (k : Int) + 1 = A + ((k + 1 : Nat) : Int) := by omega
                  have j0 : IntKind.i64.wrap (A + (k : Int) + 1) = A + ((k + 1 : Nat) : Int) := by rw [s1]; exact isN _ (by have := L1.out; omega) (by have := HN.out; omega)
                  have M := Lib.hid (mwear_is (SM.out.below H.out.2) (A + (k : Int)))
                  have hsz := H.out.2.size
                  have O1 := Lib.hid (fun x : Int => own_below_i H.out.1 (bal (o := .cells #[.int .i64 x] 3) (Below.refl wq.heap.size wq)))
                  have hb1 : ∀ x : Int, wr.heap.size ≤ (wq.alloc (.cells #[.int .i64 x] 3)).heap.size := fun x => by rw [size_alloc]; omega
                  have hlen : (byF k fun j => s.wear (A + j)).length + [s.wear (A + (k : Int))].length ≤ 1000000 := by rw [byF_length]; simp; omega
                  have HL := Lib.hid hlen
                  have HB1 := Lib.hid hb1
                  have HK := Lib.hid (And.intro hlt hlN)
                  obtain ⟨OL, hOL⟩ : ∃ OL, (byF k fun j => s.wear (A + j)) = OL := ⟨_, rfl⟩
                  obtain ⟨z, hz⟩ : ∃ z, s.wear (A + (k : Int)) = z := ⟨_, rfl⟩
                  rw [hz] at M HL
                  have HS : Hid ((byF (k + 1) fun j => s.wear (A + j)) = OL ++ [z]) := Lib.hid (by rw [byF_succ, hz, hOL])
                  have LW := Lib.hid fun q hq => (H.out.1.lt q hq).1
                  have BW := Lib.hid H.out.2
                  rw [hOL] at HL O1
                  clear H hOL s1 hlen hb1 hz
                  go_wp2_with fail
                  refine LN.out.mono ?_; rintro e w' ⟨rfl, rfl⟩
                  go_wp2_with fail
                  refine M.out.mono ?_; rintro e w' ⟨rfl, rfl⟩
                  go_wp2_with (at_builtin; refine list_app_int (o := ⟨some 106, _, _, _, _, _⟩) rfl (.tmp 101) (.tmp 105) rfl wr.heap.size _ OL rfl (O1.out z) _ [z] rfl (ri_one _ _) HL.out (HB1.out z) ?_; intro v1 w2 hown hg _)
                  have hbw : Below wr.heap.size wr w2 := (BW.out.alloc hsz _).grown hg (HB1.out z) LW.out
                  rw [← HS.out] at hown
                  have HF := Lib.hid (And.intro hown hbw)
                  clear hown hg hbw O1 HS M
                  go_wp2
                  exact ⟨⟨k + 1, .inr (by have := HK.out; omega), rfl, HF⟩, by have := HK.out; simp [intOf]; omega⟩
                · have e : k = (min t N - A).toNat := by omega
                  subst e
                  have O := Lib.hid H.out.1
                  rw [← HW.out] at O
                  have OW := O
                  have M := Lib.hid (SM.out.below H.out.2)
                  have BL := Lib.hid (below_more SB.out H.out.2)
                  clear H hk HW O
                  obtain ⟨K, hK⟩ : ∃ K : Int, A + (((min t N - A).toNat : Nat) : Int) = K := ⟨_, rfl⟩
                  rw [hK] at hlt hlN ⊢
                  go_wp2_with fail
                  refine LN.out.mono ?_; rintro e w' ⟨rfl, rfl⟩
                  have HL3 := Lib.hid hK
                  clear hK
                  clear HL3
                  have R0 := Lib.hid OW.out.ri
                  have FL := Lib.hid (wrs_few M.out f t)
                  go_wp2_with fail
                  refine (wears_is M.out f t (i64_of F1.out.1 F1.out.2) (i64_of T1.out.1 T1.out.2)).mono ?_; rintro e w2 ⟨u1, rfl, ho, hb⟩
                  have O1 := Lib.hid ho.ri
                  have M1 := Lib.hid (M.out.below hb)
                  have R1 := Lib.hid (ri_below R0.out hb)
                  have B1 := Lib.hid (below_more BL.out hb)
                  clear ho hb M R0 BL OW
                  go_wp2_with fail
                  refine (ints_same O1.out R1.out).mono ?_; rintro e w' ⟨rfl, n1, rfl⟩
                  go_wp2_with fail
                  refine (guneven_is (M1.out.below (below_drewN (Below.refl _ _) n1)) f t (i64_of F1.out.1 F1.out.2) (i64_of T1.out.1 T1.out.2)).mono ?_; rintro e w3 ⟨rfl, hb⟩
                  have hb := below_more (below_drewN (Below.refl w2.heap.size w2) n1) hb
                  have R2 := Lib.hid (runev_any _ _ w3 (ri_below R1.out hb).m (by have := FL.out; unfold maxLen; omega))
                  have UL := Lib.hid (unV_le (held (wrs s f t)))
                  have B2 := Lib.hid (below_more B1.out hb)
                  clear hb M1 R1 B1 O1
                  generalize unV (held (wrs s f t)) = U at *
                  go_wp2_with fail
                  refine R2.out.mono ?_; rintro e w' ⟨rfl, rfl⟩
                  go_wp2_with fail
                  refine (same_is U U UL.out UL.out true (by simp) _).mono ?_; rintro e w' ⟨rfl, rfl⟩
                  go_wp2_with fail
                  refine (awake_any _).mono ?_; rintro e w4 ⟨rfl, hb⟩
                  go_wp2_with fail
                  go_ret
                  exact ⟨rfl, below_more B2.out hb⟩
              · have e : k = (min t N - A).toNat := by omega
                subst e
                have O := Lib.hid H.out.1
                rw [← HW.out] at O
                have OW := O
                have M := Lib.hid (SM.out.below H.out.2)
                have BL := Lib.hid (below_more SB.out H.out.2)
                clear H hk HW O LN
                obtain ⟨K, hK⟩ : ∃ K : Int, A + (((min t N - A).toNat : Nat) : Int) = K := ⟨_, rfl⟩
                rw [hK] at hlt ⊢
                have HL3 := Lib.hid hK
                clear hK
                clear HL3
                have R0 := Lib.hid OW.out.ri
                have FL := Lib.hid (wrs_few M.out f t)
                go_wp2_with fail
                refine (wears_is M.out f t (i64_of F1.out.1 F1.out.2) (i64_of T1.out.1 T1.out.2)).mono ?_; rintro e w2 ⟨u1, rfl, ho, hb⟩
                have O1 := Lib.hid ho.ri
                have M1 := Lib.hid (M.out.below hb)
                have R1 := Lib.hid (ri_below R0.out hb)
                have B1 := Lib.hid (below_more BL.out hb)
                clear ho hb M R0 BL OW
                go_wp2_with fail
                refine (ints_same O1.out R1.out).mono ?_; rintro e w' ⟨rfl, n1, rfl⟩
                go_wp2_with fail
                refine (guneven_is (M1.out.below (below_drewN (Below.refl _ _) n1)) f t (i64_of F1.out.1 F1.out.2) (i64_of T1.out.1 T1.out.2)).mono ?_; rintro e w3 ⟨rfl, hb⟩
                have hb := below_more (below_drewN (Below.refl w2.heap.size w2) n1) hb
                have R2 := Lib.hid (runev_any _ _ w3 (ri_below R1.out hb).m (by have := FL.out; unfold maxLen; omega))
                have UL := Lib.hid (unV_le (held (wrs s f t)))
                have B2 := Lib.hid (below_more B1.out hb)
                clear hb M1 R1 B1 O1
                generalize unV (held (wrs s f t)) = U at *
                go_wp2_with fail
                refine R2.out.mono ?_; rintro e w' ⟨rfl, rfl⟩
                go_wp2_with fail
                refine (same_is U U UL.out UL.out true (by simp) _).mono ?_; rintro e w' ⟨rfl, rfl⟩
                go_wp2_with fail
                refine (awake_any _).mono ?_; rintro e w4 ⟨rfl, hb⟩
                go_wp2_with fail
                go_ret
                exact ⟨rfl, below_more B2.out hb⟩


theorem walk (a0 a1 : Int) (l2 : List Int) (v2 : Value) (l3 : List Int) (v3 : Value) (a4 a5 a6 : Int) (l7 : List Int) (v7 : Value) (w : World) (w0 : (Lit.int .i64 a0).wf = true) (w1 : (Lit.int .i64 a1).wf = true) (w2 : IntsIn .i64 w v2 l2) (m2 : l2.length ≤ 17592186044416) (w3 : IntsIn .i64 w v3 l3) (m3 : l3.length ≤ 17592186044416)
    (_ : (Lit.int .i64 a4).wf = true) (w5 : (Lit.int .i64 a5).wf = true) (w6 : (Lit.int .i64 a6).wf = true) (w7 : IntsIn .i64 w v7 l7) (m7 : l7.length ≤ 17592186044416) :
    Calls Try.prog 3 #[.int .i64 a0, .int .i64 a1, v2, v3, .int .i64 a4, .int .i64 a5, .int .i64 a6, v7] w fun e w' => e = .returned (.bool true) ∧ Below w.heap.size w w' := by
  by_cases h : l2.length + l3.length + l7.length ≤ 500
  · exact short a0 a1 a4 a5 a6 v2 v3 v7 l2 l3 l7 w w0 w1 w5 w6 w2 w3 w7 h
  · have h' : 500 < l2.length + l3.length + l7.length := by omega
    obtain ⟨p, c, rfl, _⟩ := w2
    obtain ⟨q, d, rfl, _⟩ := w3
    obtain ⟨r, e, rfl, _⟩ := w7
    exact long a0 a1 a4 a5 a6 p q r _ c _ d _ e w h' m2 m3 m7

set_option maxRecDepth 100000 in
theorem lifted (os : Os) (started : os.Started) (H : Type) (enc : TypeId × Value → H) :
    ReturnsInHanded {} Try.checked os 3 .any (Rows.gaugeFormsSpec.pre6 enc Try.prog Try.f3 Rows.gaugeFormsRow.domain false) (Rows.gaugeFormsSpec.post enc Try.prog Try.f3 false true false false) := by
  refine returnsInHanded_of_change_sized (C := Try.checked) own started (by kernel_rfl) Try.func3
    (ChangeSpec.witness6 (enc := enc) (C := Try.checked) false ⟨#[], #[.int .i64 0, .int .i64 0, .slice none 0 0, .slice none 0 0, .int .i64 0, .int .i64 0, .int .i64 0, .slice none 0 0], []⟩ 8 (by kernel_rfl) (by kernel_rfl) (by kernel_rfl) (by kernel_rfl)) ?_
  intro W base args ds gs before hval0 hW hcnd hsz _
  have hval : ∀ (j : Nat) t v, Try.f3.params[j]? = some t → args[j]? = some v → Value.okWide Try.prog W .any base t v := hval0
  have hW' := hW
  have hlt := hW.lt
  obtain ⟨p, q, hA0, hV, hpq, hfz, hnd⟩ := hW
  have hA : DataW.TrodAll enc Try.prog W 0 (fun _ => true) true Try.f3.params.toList args.toList ds p := hA0
  rw [Try.params3] at hA hval
  obtain ⟨v0, vs0, d0, ds0, p0, q0, hargs, rfl, hp, h0, r0⟩ := trodAll_cons hA
  obtain ⟨v1, vs1, d1, ds1, p1, q1, rfl, rfl, rfl, h1, r1⟩ := trodAll_cons r0
  obtain ⟨v2, vs2, d2, ds2, p2, q2, rfl, rfl, rfl, h2, r2⟩ := trodAll_cons r1
  obtain ⟨v3, vs3, d3, ds3, p3, q3, rfl, rfl, rfl, h3, r3⟩ := trodAll_cons r2
  obtain ⟨v4, vs4, d4, ds4, p4, q4, rfl, rfl, rfl, h4, r4⟩ := trodAll_cons r3
  obtain ⟨v5, vs5, d5, ds5, p5, q5, rfl, rfl, rfl, h5, r5⟩ := trodAll_cons r4
  obtain ⟨v6, vs6, d6, ds6, p6, q6, rfl, rfl, rfl, h6, r6⟩ := trodAll_cons r5
  obtain ⟨v7, vs7, d7, ds7, p7, q7, rfl, rfl, rfl, h7, r7⟩ := trodAll_cons r6
  obtain ⟨rfl, rfl, rfl⟩ := trodAll_nil r7
  obtain rfl : args = #[v0, v1, v2, v3, v4, v5, v6, v7] := by cases args; simp_all
  obtain ⟨rfl, rfl⟩ := trodVars_none hV
  have hlt' : ∀ x ∈ before, x.block < W.heap.size := fun x hx => hlt x hx
  obtain ⟨a0, rfl, rfl, rfl, w0⟩ := open_int Try.underlying3 (hval 0 3 v0 rfl rfl) h0
  obtain ⟨a1, rfl, rfl, rfl, w1⟩ := open_int Try.underlying3 (hval 1 3 v1 rfl rfl) h1
  obtain ⟨l2, w2, z2⟩ := ints_in_sized (hval 2 22 v2 rfl rfl) (fun x hx => hlt' x (by rw [hpq, hp]; simp [hx])) h2 (j := 2) rfl rfl hsz
  obtain ⟨l3, w3, z3⟩ := ints_in_sized (hval 3 22 v3 rfl rfl) (fun x hx => hlt' x (by rw [hpq, hp]; simp [hx])) h3 (j := 3) rfl rfl hsz
  obtain ⟨a4, rfl, rfl, rfl, w4⟩ := open_int Try.underlying3 (hval 4 3 v4 rfl rfl) h4
  obtain ⟨a5, rfl, rfl, rfl, w5⟩ := open_int Try.underlying3 (hval 5 3 v5 rfl rfl) h5
  obtain ⟨a6, rfl, rfl, rfl, w6⟩ := open_int Try.underlying3 (hval 6 3 v6 rfl rfl) h6
  obtain ⟨l7, w7, z7⟩ := ints_in_sized (hval 7 22 v7 rfl rfl) (fun x hx => hlt' x (by rw [hpq, hp]; simp [hx])) h7 (j := 7) rfl rfl hsz
  refine (walk a0 a1 l2 v2 l3 v3 a4 a5 a6 l7 v7 W w0 w1 w2 z2 w3 z3 w4 w5 w6 w7 z7).mono fun e W' ⟨he, hb⟩ => ?_
  subst he
  exact ⟨_, rfl, law_post rfl (by kernel_rfl) hW' (by rw [Try.params3]; intro t ht; simp only [List.mem_cons, List.not_mem_nil, or_false] at ht; (repeat' (first | (rcases ht with rfl | ht) | subst ht)) <;> exact ⟨by kernel_rfl, of_decide_eq_true (by kernel_rfl)⟩) rfl hb⟩

theorem over : Rows.gaugeFormsRow.holds Try.pinned (OpenSpec.ofChange Rows.gaugeFormsSpec) :=
  OpenClaim.holds_of_wide 3 Try.f3 rfl rfl rfl rfl rfl rfl rfl ⟨rfl, rfl, rfl, rfl, rfl⟩ rfl rfl rfl rfl rfl (by kernel_rfl) Try.func3 (by kernel_rfl)
    (of_decide_eq_true (by kernel_rfl)) (by unfold Func.isWrapper; first | (rw [if_pos (by decide +kernel)]; kernel_rfl) | (rw [if_neg (by decide +kernel)]; exact ⟨rfl, rfl⟩))
    (fun os started H enc _ => lifted os started H enc)

theorem proved : Rows.GaugeFormsSaid := over
end Go.Proofs.Ythcecfenjbdgmaa.gaugeForms
