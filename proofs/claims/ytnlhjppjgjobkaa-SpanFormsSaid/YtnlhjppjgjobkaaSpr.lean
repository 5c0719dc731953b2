/-
  Contracts: bytes that are read (package span and the reference).
-/
import Derived.Test.YtnlhjppjgjobkaaSpn
import Derived.Test.YtnlhjppjgjobkaaRu
namespace Go.Proofs.Ytnlhjppjgjobkaa
set_option maxRecDepth 100000
open Go.RowKit

theorem wd_at {l : List Int} (h : ∀ x ∈ l, Wd x) {k : Nat} (hk : k < l.length) : Wd (l.getD k 0) := by
  rw [List.getD_eq_getElem?_getD, List.getElem?_eq_getElem hk]; exact h _ (List.getElem_mem hk)
/-- bytes being read, part by part -/
structure Rb (wl : List Int) (o n : Nat) (w1 wr : World) (lv : Value) (k a m : Nat) : Prop where
  sum : a + m = o + n
  ge : o ≤ a
  rest : (pcs o n).drop k = pcs a m
  own : OwnA byE w1.heap.size wr lv (rdB wl o (a - o))
  below : Below w1.heap.size w1 wr
set_option maxHeartbeats 2000000 in
theorem read_yes (wl : List Int) (v : Value) (o n : Nat) (w : World) (hv : RU w v wl) (hw : ∀ x ∈ wl, Wd x) (hL : wl.length ≤ 1000) (hn : n ≤ 448) (hon : o + n ≤ 8 * wl.length) :
    Calls Try.prog 11 #[v, .int .i64 o, .int .i64 n] w fun e w' => (∃ u, e = .returned (.tuple #[u, .bool true]) ∧ OwnA byE w.heap.size w' u (rdB wl o n)) ∧ Below w.heap.size w w' := by
  obtain ⟨p, cap, rfl, _, _, _⟩ := id hv
  have C := Lib.hid (within_yes o n wl.length cap p hn hon hL w)
  have D := Lib.hid (parts_is o n (by omega) hn w)
  have HV := Lib.hid (fun (w' : World) (hb : Below w.heap.size w w') => ru_below hv hb)
  have HW := Lib.hid hw
  have HL := Lib.hid (And.intro hL (And.intro hn hon))
  clear hv hw hL hn hon
  obtain ⟨Lw, hLw⟩ : ∃ Lw, wl.length = Lw := ⟨_, rfl⟩
  rw [hLw] at C HV ⊢
  have HLw := Lib.hid hLw
  clear hLw
  go_enter Try.func11, Try.ntmps11
  go_wp2_with fail
  refine (C.out).mono ?_; rintro e w' ⟨rfl, rfl⟩
  go_wp2_with fail
  refine (D.out).mono ?_; rintro e w1 ⟨⟨u1, rfl, o1⟩, b1⟩
  have D1 := Lib.hid b1
  have O1 := Lib.hid o1
  obtain ⟨g, d, rfl, _, _⟩ := o1.shape
  have hpl := pcs_length n o
  have HP : Hid ((pcs o n).length ≤ 1000) := Lib.hid (by rw [hpl]; have := HL.out; unfold cnt; split <;> omega)
  clear b1 D o1 hpl C
  obtain ⟨P, hP⟩ : ∃ P, pcs o n = P := ⟨_, rfl⟩
  rw [hP] at O1 HP ⊢
  have HPe := Lib.hid hP
  clear hP
  go_wp2
  go_loopw [8, 21] (fun y i wr => ∃ (k a m : Nat) (lv : Value), k ≤ P.length ∧ i = .int .i64 k ∧ lv = y ∧ Hid (Rb wl o n w1 wr lv k a m)) (fun _ i _ => P.length - (intOf i).toNat)
  case atStart => exact ⟨0, o, n, _, Nat.zero_le _, rfl, rfl, Lib.hid ⟨rfl, Nat.le_refl _, rfl, by rw [Nat.sub_self]; exact own_nil_a _ _ _, Below.refl _ _⟩⟩
  case round =>
    obtain ⟨k, a, m, lv, hk, rfl, rfl, H⟩ := hrel
    by_cases hlt : k < P.length
    · have hst := pcs_step H.out.rest (by rw [HPe.out]; exact hlt)
      rw [HPe.out] at hst
      obtain ⟨hm0, hg1, hdr⟩ := hst
      obtain ⟨k1, k2, k3, _⟩ := pcK_le (a := a) hm0
      obtain ⟨b, off, e, hb, hx⟩ := pc_at (ra_below O1.out.ra H.out.below) (by omega)
      cases e
      obtain ⟨hld, _, _, _⟩ := hx k hlt
      rw [hg1] at hld
      obtain ⟨Q, hQ⟩ : ∃ Q, a / 8 = Q := ⟨_, rfl⟩
      obtain ⟨F, hF⟩ : ∃ F, a % 8 = F := ⟨_, rfl⟩
      obtain ⟨N, hN⟩ : ∃ N, pcK a m = N := ⟨_, rfl⟩
      rw [hQ, hF, hN] at hld
      rw [hN] at k1 k2 k3 hdr
      rw [hF] at k3
      have hsum := H.out.sum
      have hge := H.out.ge
      obtain ⟨hL1, hL2, hL3⟩ := HL.out
      obtain ⟨wo, hwo⟩ : ∃ wo, wo = wr := ⟨_, rfl⟩
      subst hwo
      obtain ⟨W, hW, HWp⟩ := pc_boxed wo ⟨Q, F, N⟩
      have c1 : W.cell? ⟨wo.heap.size, 1, none⟩ = some (.int .i64 F) := HWp.out.1.c1
      have i0 : (0 : Int) ≤ (k : Int) := by omega
      have i1 : (k : Int) < (P.length : Int) := by omega
      have i2 : ¬ (k : Int) < 0 := by omega
      have i3 : IntKind.i64.wrap ((k : Int) + 1) = ((k + 1 : Nat) : Int) := by rw [show (k : Int) + 1 = ((k + 1 : Nat) : Int) by omega]; exact i64_nat _ (by have := HP.out; omega)
      obtain ⟨E, hE⟩ : ∃ E, F + N = E := ⟨_, rfl⟩
      have i4 : IntKind.i64.wrap ((F : Int) + (N : Int)) = (E : Int) := by rw [show (F : Int) + (N : Int) = (E : Int) by omega]; exact i64_nat _ (by omega)
      have HB := Lib.hid (below_more H.out.below HWp.out.2)
      have HO := Lib.hid (H.out.own.below HWp.out.2)
      have HPv := Lib.hid HWp.out.1
      have HNe : Hid (lv.ownBlock ≠ some wo.heap.size) := Lib.hid fun e => by have := H.out.own.lt _ e; omega
      have HQ : Hid (Q < Lw ∧ Q < wl.length ∧ F + N ≤ 8) := Lib.hid ⟨by have := HLw.out; omega, by omega, by omega⟩
      have HA := Lib.hid (And.intro hQ (And.intro hF (And.intro hge (And.intro hE (And.intro hsum (And.intro k1 k2))))))
      have HD := Lib.hid hdr
      have HK := Lib.hid hlt
      clear hx hb hQ hF hN hge hsum hL1 hL2 hL3 hlt hk hm0 hg1 hdr k1 k2 k3 hE HWp H
      go_wp2
      go_loopw [8, 11] (fun y x wr => ∃ (j : Nat) (lv : Value), j ≤ N ∧ x = .int .i64 ((F + j : Nat) : Int) ∧ lv = y ∧ Hid (OwnA byE w1.heap.size wr lv (rdB wl o (a - o + j)) ∧ Below w1.heap.size w1 wr ∧ Pv wr wo.heap.size ⟨Q, F, N⟩ ∧ lv.ownBlock ≠ some wo.heap.size)) (fun _ x _ => E - (intOf x).toNat)
      case atStart => exact ⟨0, _, Nat.zero_le _, by simp, rfl, Lib.hid ⟨HO.out, HB.out, HPv.out, HNe.out⟩⟩
      case round =>
        obtain ⟨j, lz, hj, rfl, rfl, H⟩ := hrel
        have V := H.out.2.2.1
        have d0 : wr.cell? ⟨wo.heap.size, 0, none⟩ = some (.int .i64 Q) := V.c0
        have d1 : wr.cell? ⟨wo.heap.size, 1, none⟩ = some (.int .i64 F) := V.c1
        have d2 : wr.cell? ⟨wo.heap.size, 2, none⟩ = some (.int .i64 N) := V.c2
        obtain ⟨x, hx⟩ : ∃ x, F + j = x := ⟨_, rfl⟩
        by_cases hlt : j < N
        · have hE := HA.out.2.2.2.1
          have hq := HQ.out
          have j1 : ((x : Nat) : Int) < (E : Int) := by omega
          have j2 : x < E := by omega
          have j3 : IntKind.i64.wrap ((x : Int) + 1) = ((x + 1 : Nat) : Int) := by rw [show (x : Int) + 1 = ((x + 1 : Nat) : Int) by omega]; exact i64_nat _ (by omega)
          obtain ⟨bb, of, e, _, hc⟩ := ru_some (HV.out wr (below_more D1.out H.out.2.1)) (by rw [HLw.out]; omega)
          cases e
          have hcell := hc Q (by rw [HLw.out]; omega)
          have q0 : (0 : Int) ≤ (Q : Int) := by omega
          have q1 : (Q : Int) < (Lw : Int) := by omega
          have q2 : ¬ (Q : Int) < 0 := by omega
          have G := Lib.hid (get_is (wl.getD Q 0) x (wd_at HW.out hq.2.1) (by omega) wr)
          have hby : By (bt (wl.getD Q 0) x) := bt_by _ _
          have hsn : rdB wl o (a - o + (j + 1)) = rdB wl o (a - o + j) ++ [bt (wl.getD Q 0) x] := by
            rw [← Nat.add_assoc, rdB_snoc, bAt_]
            have e1 : (o + (a - o + j)) / 8 = Q := by have := HA.out; omega
            have e2 : (o + (a - o + j)) % 8 = x := by have := HA.out; omega
            rw [e1, e2]
          have hlen : Hid ((rdB wl o (a - o + j)).length + [bt (wl.getD Q 0) x].length ≤ 4000) := Lib.hid (by rw [rdB_length]; have := HA.out; have := HL.out; simp only [List.length_singleton]; omega)
          have HS := Lib.hid hsn
          have HK2 := Lib.hid (And.intro hlt hx)
          generalize bt (wl.getD Q 0) x = y at *
          generalize wl.getD Q 0 = z at *
          have R2 : Hid (RA byE (wr.alloc (.cells #[.int .u8 y] 5)) (.slice (some ⟨wr.heap.size, 0, none⟩) 1 1) [y]) := Lib.hid (by_one wr hby).ra
          have O2 : Hid (OwnA byE w1.heap.size (wr.alloc (.cells #[.int .u8 y] 5)) lz (rdB wl o (a - o + j))) := Lib.hid (H.out.1.below (bal (Below.refl _ _)))
          have B2 : Hid (Below w1.heap.size w1 (wr.alloc (.cells #[.int .u8 y] 5))) := Lib.hid (bal H.out.2.1)
          have V2 : Hid (Pv (wr.alloc (.cells #[.int .u8 y] 5)) wo.heap.size ⟨Q, F, N⟩) := Lib.hid (V.below (bal (Below.refl _ _)))
          clear hc hsn hlt hE hq hj hby
          rw [hx]
          clear hx
          go_wp2_with fail
          refine (G.out).mono ?_; rintro e w' ⟨rfl, rfl⟩
          go_wp2_with (at_builtin; refine app_by rfl _ _ rfl _ _ _ rfl O2.out _ [y] rfl R2.out hlen B2.out.size ?_)
          intro v' w' ho hg hx
          have HN := Lib.hid (show OwnA byE w1.heap.size w' v' (rdB wl o (a - o + (j + 1))) ∧ Below w1.heap.size w1 w' ∧ Pv w' wo.heap.size ⟨Q, F, N⟩ ∧ v'.ownBlock ≠ some wo.heap.size from ⟨by rw [HS.out]; exact ho, below_app B2.out B2.out.size O2.out hg, (hg.block _ V2.out.lt (fun e => H.out.2.2.2 e.symm)).trans V2.out, fun e => by
            rcases hx with hx | hx
            · exact H.out.2.2.2 (hx.symm.trans e)
            · have := Option.some.inj (hx.symm.trans e)
              have := V.lt
              omega⟩)
          clear ho hg hx
          go_wp2
          go_roundw
          case rel => exact ⟨j + 1, _, by have := HK2.out; omega, by have := HK2.out; go_num, rfl, HN⟩
          case measure => have := HK2.out; have := HA.out; simp [intOf]; omega
        · have hjN : j = N := by omega
          have hE := HA.out.2.2.2.1
          have j1 : ¬ ((x : Nat) : Int) < (E : Int) := by omega
          have j2 : ¬ x < E := by omega
          rw [hx]
          clear hlt
          subst hjN
          have HN : Hid (Rb wl o n w1 wr lz (k + 1) (a + j) (m - j)) := Lib.hid ⟨by have := HA.out; omega, by have := HA.out; omega, by rw [HPe.out]; exact HD.out, by rw [show a + j - o = a - o + j by have := HA.out; omega]; exact H.out.1, H.out.2.1⟩
          go_wp2
          exact ⟨⟨k + 1, _, _, _, by have := HK.out; omega, by go_num, rfl, HN⟩, by have := HK.out; simp [intOf]; omega⟩
    · obtain rfl : k = P.length := by omega
      have h0 := H.out.rest
      have hm : m = 0 := by
        rw [HPe.out, List.drop_length] at h0
        rcases Nat.eq_zero_or_pos m with h | h
        · exact h
        · rw [pcs_more (by omega)] at h0; cases h0
      subst hm
      have ha : a - o = n := by have := H.out.sum; omega
      have HR := Lib.hid (And.intro H.out.own H.out.below)
      rw [ha] at HR
      clear h0 ha H
      go_wp2
      go_ret2
      exact ⟨⟨_, rfl, HR.out.1.mono D1.out.size⟩, below_more D1.out HR.out.2⟩

theorem read_no (o n : Int) (L c : Nat) (p : Option Addr) (hn : -9223372036854775808 ≤ n ∧ n ≤ 9223372036854775807) (h : ¬ InB L o n) (hL : L ≤ 1000) (w : World) :
    Calls Try.prog 11 #[.slice p L c, .int .i64 o, .int .i64 n] w fun e w' => e = .returned (.tuple #[.slice none 0 0, .bool false]) ∧ w = w' := by
  have C := Lib.hid (within_no o n L c p hn h hL w)
  clear hn h hL
  go_enter Try.func11, Try.ntmps11
  go_wp2_with fail
  refine (C.out).mono ?_; rintro e w' ⟨rfl, rfl⟩
  go_wp2_with fail
  go_ret2
  exact ⟨rfl, rfl⟩
/-- what is read, and whether it is there -/
def rdL (wl : List Int) (o n : Int) : List Int := if InB wl.length o n then rdB wl o.toNat n.toNat else []
theorem read_is (wl : List Int) (v : Value) (o n : Int) (w : World) (hv : RU w v wl) (hw : ∀ x ∈ wl, Wd x) (hn : -9223372036854775808 ≤ n ∧ n ≤ 9223372036854775807) (hL : wl.length ≤ 1000) :
    Calls Try.prog 11 #[v, .int .i64 o, .int .i64 n] w fun e w' => (∃ u, e = .returned (.tuple #[u, .bool (decide (InB wl.length o n))]) ∧ OwnA byE w.heap.size w' u (rdL wl o n)) ∧ Below w.heap.size w w' := by
  unfold rdL
  by_cases h : InB wl.length o n
  · rw [decide_eq_true h, if_pos h]
    obtain ⟨a, b, rfl, rfl, h1, h2⟩ := h.nat
    exact read_yes wl v a b w hv hw hL h1 h2
  · rw [decide_eq_false h, if_neg h]
    obtain ⟨p, cap, rfl, _, _, _⟩ := id hv
    exact (read_no o n _ cap p hn h hL w).mono fun e w' ⟨h1, h2⟩ => ⟨⟨_, h1, own_nil_a _ _ _⟩, h2 ▸ Below.refl _ _⟩
set_option maxHeartbeats 2000000 in
theorem rread_yes (wl : List Int) (v : Value) (o n : Nat) (w : World) (hv : RU w v wl) (hw : ∀ x ∈ wl, Wd x) (hL : wl.length ≤ 1000) (hn : n ≤ 448) (hon : o + n ≤ 8 * wl.length) :
    Calls Try.prog 12 #[v, .int .i64 o, .int .i64 n] w fun e w' => (∃ u, e = .returned (.tuple #[u, .bool true]) ∧ OwnA byE w.heap.size w' u (rdB wl o n)) ∧ Below w.heap.size w w' := by
  obtain ⟨p, cap, rfl, _, _, _⟩ := id hv
  have C0 := inside_is o n wl.length (by omega) (by omega) hL w
  rw [decide_eq_true (show InB wl.length o n from ⟨by omega, by omega, by omega, by omega⟩)] at C0
  have C := Lib.hid C0
  have HV := Lib.hid (fun (w' : World) (hb : Below w.heap.size w w') => ru_below hv hb)
  have HW := Lib.hid hw
  have HL := Lib.hid (And.intro hL (And.intro hn hon))
  obtain ⟨E, hE⟩ : ∃ E, o + n = E := ⟨_, rfl⟩
  have e1 : IntKind.i64.wrap ((o : Int) + (n : Int)) = (E : Int) := by rw [show (o : Int) + (n : Int) = (E : Int) by omega]; exact i64_nat _ (by omega)
  have HE := Lib.hid hE
  clear hv hw hL hn hon C0 hE
  obtain ⟨Lw, hLw⟩ : ∃ Lw, wl.length = Lw := ⟨_, rfl⟩
  rw [hLw] at C HV ⊢
  have HLw := Lib.hid hLw
  clear hLw
  go_enter Try.func12, Try.ntmps12
  go_wp2_with fail
  refine (C.out).mono ?_; rintro e w' ⟨rfl, rfl⟩
  go_wp2
  go_loopw [8, 9] (fun y x wr => ∃ (j : Nat) (lv : Value), j ≤ n ∧ x = .int .i64 ((o + j : Nat) : Int) ∧ lv = y ∧ Hid (OwnA byE w.heap.size wr lv (rdB wl o j) ∧ Below w.heap.size w wr)) (fun _ x _ => E - (intOf x).toNat)
  case atStart => exact ⟨0, _, Nat.zero_le _, by simp, rfl, Lib.hid ⟨own_nil_a _ _ _, Below.refl _ _⟩⟩
  case round =>
    obtain ⟨j, lz, hj, rfl, rfl, H⟩ := hrel
    obtain ⟨x, hx⟩ : ∃ x, o + j = x := ⟨_, rfl⟩
    have hEE := HE.out
    by_cases hlt : j < n
    · obtain ⟨hL1, hL2, hL3⟩ := HL.out
      obtain ⟨Q, hQ⟩ : ∃ Q, x / 8 = Q := ⟨_, rfl⟩
      obtain ⟨F, hF⟩ : ∃ F, x % 8 = F := ⟨_, rfl⟩
      obtain ⟨d, hd⟩ : ∃ d, 8 * F = d := ⟨_, rfl⟩
      have j1 : (x : Int) < (E : Int) := by omega
      have j2 : x < E := by omega
      have j3 : IntKind.i64.wrap ((x : Int) + 1) = ((x + 1 : Nat) : Int) := by rw [show (x : Int) + 1 = ((x + 1 : Nat) : Int) by omega]; exact i64_nat _ (by omega)
      have m1 : (x : Int) % 8 = (F : Int) := by omega
      have m2 : IntKind.i64.wrap ((x : Int) / 8) = (Q : Int) := by rw [show (x : Int) / 8 = (Q : Int) by omega]; exact i64_nat _ (by omega)
      have m3 : IntKind.i64.wrap ((F : Int) * 8) = (d : Int) := by rw [show (F : Int) * 8 = (d : Int) by omega]; exact i64_nat _ (by omega)
      have m4 : IntKind.u64.wrap (d : Int) = (d : Int) := by rw [IntKind.wrap_u64]; omega
      have m5 : min d 64 = d := by omega
      have hQL : Q < wl.length := by have := HLw.out; omega
      obtain ⟨bb, of, e, _, hc⟩ := ru_some (HV.out wr H.out.2) (by rw [HLw.out]; have := HLw.out; omega)
      cases e
      have hcell := hc Q hQL
      have q0 : (0 : Int) ≤ (Q : Int) := by omega
      have q1 : (Q : Int) < (Lw : Int) := by have := HLw.out; omega
      have q2 : ¬ (Q : Int) < 0 := by omega
      have m6 : IntKind.u8.wrap (wl.getD Q 0 / 2 ^ d) = bt (wl.getD Q 0) F := by rw [IntKind.wrap_u8', ← hd, ← pow_256, bt]
      have hby : By (bt (wl.getD Q 0) F) := bt_by _ _
      have hsn : rdB wl o (j + 1) = rdB wl o j ++ [bt (wl.getD Q 0) F] := by rw [rdB_snoc, bAt_, hx, hQ, hF]
      have hlen : Hid ((rdB wl o j).length + [bt (wl.getD Q 0) F].length ≤ 4000) := Lib.hid (by rw [rdB_length]; simp only [List.length_singleton]; omega)
      have HS := Lib.hid hsn
      have HK2 := Lib.hid (And.intro hlt hx)
      generalize bt (wl.getD Q 0) F = y at *
      generalize wl.getD Q 0 = z at *
      have R2 : Hid (RA byE (wr.alloc (.cells #[.int .u8 y] 5)) (.slice (some ⟨wr.heap.size, 0, none⟩) 1 1) [y]) := Lib.hid (by_one wr hby).ra
      have O2 : Hid (OwnA byE w.heap.size (wr.alloc (.cells #[.int .u8 y] 5)) lz (rdB wl o j)) := Lib.hid (H.out.1.below (bal (Below.refl _ _)))
      have B2 : Hid (Below w.heap.size w (wr.alloc (.cells #[.int .u8 y] 5))) := Lib.hid (bal H.out.2)
      rw [hx]
      clear hc hsn hlt hj hby hx hQ hF hd hL1 hL2 hL3 hQL hEE
      go_wp2_with (at_builtin; refine app_by rfl _ _ rfl _ _ _ rfl O2.out _ [y] rfl R2.out hlen B2.out.size ?_)
      intro v' w' ho hg hx
      have HN := Lib.hid (show OwnA byE w.heap.size w' v' (rdB wl o (j + 1)) ∧ Below w.heap.size w w' from ⟨by rw [HS.out]; exact ho, below_app B2.out B2.out.size O2.out hg⟩)
      clear ho hg hx
      go_wp2
      go_roundw
      case rel => exact ⟨j + 1, _, by have := HK2.out; omega, by have := HK2.out; go_num, rfl, HN⟩
      case measure => have := HK2.out; have := HE.out; simp [intOf]; omega
    · obtain rfl : j = n := by omega
      have j1 : ¬ (x : Int) < (E : Int) := by omega
      have j2 : ¬ x < E := by omega
      rw [hx]
      clear hlt hj hx hEE
      go_wp2
      go_ret2
      exact ⟨⟨_, rfl, H.out.1⟩, H.out.2⟩
theorem rread_is (wl : List Int) (v : Value) (o n : Int) (w : World) (hv : RU w v wl) (hw : ∀ x ∈ wl, Wd x) (ho : -9223372036854775808 ≤ o ∧ o ≤ 9223372036854775807) (hn : -9223372036854775808 ≤ n ∧ n ≤ 9223372036854775807) (hL : wl.length ≤ 1000) :
    Calls Try.prog 12 #[v, .int .i64 o, .int .i64 n] w fun e w' => (∃ u, e = .returned (.tuple #[u, .bool (decide (InB wl.length o n))]) ∧ OwnA byE w.heap.size w' u (rdL wl o n)) ∧ Below w.heap.size w w' := by
  unfold rdL
  by_cases h : InB wl.length o n
  · rw [decide_eq_true h, if_pos h]
    obtain ⟨a, b, rfl, rfl, h1, h2⟩ := h.nat
    exact rread_yes wl v a b w hv hw hL h1 h2
  · rw [decide_eq_false h, if_neg h]
    obtain ⟨p, cap, rfl, _, _, _⟩ := id hv
    have C0 := inside_is o n wl.length ho hn hL w
    rw [decide_eq_false h] at C0
    have C := Lib.hid C0
    clear C0 hv hw ho hn h hL
    generalize wl.length = L at *
    go_enter Try.func12, Try.ntmps12
    go_wp2_with fail
    refine (C.out).mono ?_; rintro e w' ⟨rfl, rfl⟩
    go_wp2_with fail
    go_ret2
    exact ⟨⟨_, rfl, own_nil_a _ _ _⟩, Below.refl _ _⟩
end Go.Proofs.Ytnlhjppjgjobkaa
