/-
  Contract: the edits that write bytes (the reference: byte by byte).
-/
import Derived.Test.YtnlhjppjgjobkaaSpe
namespace Go.Proofs.Ytnlhjppjgjobkaa
set_option maxRecDepth 100000
open Go.RowKit

set_option maxHeartbeats 2000000 in
theorem redits_yes (wl bl : List Int) (v u : Value) (o : Nat) (w : World) (hv : RU w v wl) (hu : RA byE w u bl) (hw : ∀ x ∈ wl, Wd x) (hL : wl.length ≤ 1000) (hn : bl.length ≤ 448) (hon : o + bl.length ≤ 8 * wl.length) :
    Calls Try.prog 14 #[v, .int .i64 o, u] w fun e w' => (∃ x L, e = .returned (.tuple #[x, .bool true]) ∧ OwnA edE w.heap.size w' x L ∧ IsE wl o bl.length (fun k => bl.getD k 0) L) ∧ Below w.heap.size w w' := by
  obtain ⟨p, cap, rfl, _, _, _⟩ := id hv
  obtain ⟨pu, cu, rfl, hlc, hcm⟩ := ra_shape hu
  have C0 := inside_is o bl.length wl.length (by omega) (by omega) hL w
  rw [decide_eq_true (show InB wl.length o bl.length from ⟨by omega, by omega, by omega, by omega⟩)] at C0
  have C := Lib.hid C0
  have HV := Lib.hid (fun (w' : World) (hb : Below w.heap.size w w') => ru_below hv hb)
  have HU := Lib.hid (fun (w' : World) (hb : Below w.heap.size w w') => ra_below hu hb)
  have HW := Lib.hid hw
  have HY := Lib.hid (show ∀ x ∈ bl, By x from ra_ok hu)
  have HL := Lib.hid (And.intro hL (And.intro hn hon))
  clear hv hw hL hn hon hu hlc hcm C0
  obtain ⟨Lw, hLw⟩ : ∃ Lw, wl.length = Lw := ⟨_, rfl⟩
  rw [hLw] at C HV ⊢
  have HLw := Lib.hid hLw
  clear hLw
  obtain ⟨n, hn⟩ : ∃ n, bl.length = n := ⟨_, rfl⟩
  rw [hn] at C HU ⊢
  have HNn := Lib.hid hn
  clear hn
  go_enter Try.func14, Try.ntmps14
  go_wp2_with fail
  refine (C.out).mono ?_; rintro e w' ⟨rfl, rfl⟩
  go_wp2
  go_loopw [8, 24] (fun y i wr => ∃ (k : Nat) (lv : Value), k ≤ n ∧ i = .int .i64 k ∧ lv = y ∧ Hid ((∃ L, OwnA edE w.heap.size wr lv L ∧ IsE wl o k (fun k => bl.getD k 0) L) ∧ Below w.heap.size w wr)) (fun _ i _ => n - (intOf i).toNat)
  case atStart => exact ⟨0, _, Nat.zero_le _, rfl, rfl, Lib.hid ⟨⟨[], own_nil_a _ _ _, IsE.none _ _ _⟩, Below.refl _ _⟩⟩
  case round =>
    obtain ⟨k, lv, hk, rfl, rfl, H⟩ := hrel
    by_cases hlt : k < n
    · obtain ⟨hL1, hL2, hL3⟩ := HL.out
      rw [HNn.out] at hL2 hL3
      obtain ⟨⟨L, OL, EL⟩, BL⟩ := H.out
      obtain ⟨bb, of, e, _, hc⟩ := ru_some (HV.out _ BL) (by rw [HLw.out]; have := HLw.out; omega)
      cases e
      obtain ⟨b2, f2, e, _, hcb⟩ := byte_at (HU.out wr BL) (by rw [HNn.out]; omega)
      cases e
      obtain ⟨cellb, hby0⟩ := hcb k (by rw [HNn.out]; exact hlt)
      obtain ⟨A, hA⟩ : ∃ A, o + k = A := ⟨_, rfl⟩
      obtain ⟨Q, hQ⟩ : ∃ Q, A / 8 = Q := ⟨_, rfl⟩
      obtain ⟨F, hF⟩ : ∃ F, A % 8 = F := ⟨_, rfl⟩
      obtain ⟨d, hdd⟩ : ∃ d, 8 * F = d := ⟨_, rfl⟩
      have hQL : Q < wl.length := by omega
      have cellw := hc Q hQL
      have hwz := wd_at HW.out hQL
      have HLe := EL.len
      have j0 : IntKind.i64.wrap ((k : Int) + 1) = ((k + 1 : Nat) : Int) := by rw [show (k : Int) + 1 = ((k + 1 : Nat) : Int) by omega]; exact i64_nat _ (by omega)
      have i0 : (0 : Int) ≤ (k : Int) := by omega
      have i1 : (k : Int) < (n : Int) := by omega
      have i2 : ¬ (k : Int) < 0 := by omega
      have m0 : IntKind.i64.wrap ((o : Int) + (k : Int)) = (A : Int) := by rw [show (o : Int) + (k : Int) = (A : Int) by omega]; exact i64_nat _ (by omega)
      have m1 : (A : Int) % 8 = (F : Int) := by omega
      have m2 : IntKind.i64.wrap ((A : Int) / 8) = (Q : Int) := by rw [show (A : Int) / 8 = (Q : Int) by omega]; exact i64_nat _ (by omega)
      have m3 : IntKind.i64.wrap ((F : Int) * 8) = (d : Int) := by rw [show (F : Int) * 8 = (d : Int) by omega]; exact i64_nat _ (by omega)
      have m4 : IntKind.u64.wrap (d : Int) = (d : Int) := by rw [IntKind.wrap_u64]; omega
      have m5 : min d 64 = d := by omega
      have q0 : (0 : Int) ≤ (Q : Int) := by omega
      have q1 : (Q : Int) < (Lw : Int) := by have := HLw.out; omega
      have q2 : ¬ (Q : Int) < 0 := by omega
      have hd := Lib.hid hdd
      have HQ : Hid (Q ≤ 1000) := Lib.hid (by omega)
      have hF8 : Hid (F < 8) := Lib.hid (by omega)
      have HK := Lib.hid hlt
      have hLen : L.length ≤ 1000 := by rw [HLe]; unfold cnt; split <;> omega
      by_cases hnew : k = 0 ∨ (o + k) % 8 = 0
      · have hmore : ∀ cb, By cb → (∀ j, j = k → bl.getD j 0 = cb) → IsE wl o (k + 1) (fun k => bl.getD k 0) (L ++ [⟨(Q : Int), sb (wl.getD Q 0) F cb⟩]) := fun cb hcb hj => by
          have := EL.more (k := 1) (v := sb (wl.getD Q 0) F cb) hnew (Nat.le_refl _) (by omega) (sb_wd hwz hcb hF8.out) (fun j hj8 => by
            rw [bt_sb hcb, hA, hF, hQ]
            by_cases e : j = F
            · rw [if_pos e, if_pos (by omega)]
              exact (hj _ (by omega)).symm
            · rw [if_neg e, if_neg (by omega)])
          rw [hA, hQ] at this
          exact this
        have HI1 := Lib.hid (hmore _ hby0 (fun j hj => by rw [hj]))
        have hby : Hid (By (bl.getD k 0)) := Lib.hid hby0
        have hz3 : Hid (Wd (wl.getD Q 0)) := Lib.hid hwz
        have O1 := Lib.hid OL
        have B1 := Lib.hid BL
        have hlen : Hid (L.length + [(⟨(Q : Int), wl.getD Q 0⟩ : Ed)].length ≤ 4000) := Lib.hid (by simp only [List.length_singleton]; omega)
        have HWf : Hid (Ed.Wf ⟨(Q : Int), wl.getD Q 0⟩) := Lib.hid (Ed.wf_of (by simp only; omega) (by simp only; omega) hwz.1 (by have := hwz.2; simp only; omega))
        have hlast : Hid (k ≠ 0 → 0 < L.length ∧ ∃ R : Nat, (L.getD (L.length - 1) default).w = (R : Int) ∧ R ≠ Q) := Lib.hid fun h0 => by
          obtain ⟨a1, a2, _⟩ := EL.last h0
          exact ⟨a1, _, a2, by omega⟩
        have hzero : Hid (k = 0 → L.length = 0) := Lib.hid fun h0 => by rw [HLe, cnt, if_pos h0]
        obtain ⟨cb, hcbe⟩ : ∃ cb, bl.getD k 0 = cb := ⟨_, rfl⟩
        obtain ⟨z3, hz⟩ : ∃ z, wl.getD Q 0 = z := ⟨_, rfl⟩
        rw [hcbe] at cellb hby HI1
        rw [hz] at cellw HI1 hlen HWf hz3
        clear hmore hby0 hwz hcbe hz hA hQ hF hdd hL1 hL2 hL3 hQL HLe EL BL hlt hk hnew hc hcb
        obtain ⟨pl, cl, rfl, hlcl, _⟩ := OL.shape
        obtain ⟨K0, hK0⟩ : ∃ K0, L.length = K0 := ⟨_, rfl⟩
        have R2 : Hid (RA edE (wr.alloc (.cells (ec ⟨(Q : Int), z3⟩) 43)) (.slice (some ⟨wr.heap.size, 0, none⟩) 1 1) [⟨(Q : Int), z3⟩]) := Lib.hid (ed_one wr HWf.out).ra
        have O2 := Lib.hid (O1.out.below (bal (o := .cells (ec ⟨(Q : Int), z3⟩) 43) (Below.refl _ _)))
        have B2 := Lib.hid (bal (o := .cells (ec ⟨(Q : Int), z3⟩) 43) B1.out)
        rw [hK0] at O1 O2 hlen hlast hzero OL hLen hlcl ⊢
        have HK0 := Lib.hid hK0
        clear hK0 OL H
        by_cases h0 : k = 0
        · obtain rfl : K0 = 0 := hzero.out h0
          clear h0 hlcl hLen hlast hzero
          go_wp2_with (at_builtin; refine app_ed rfl _ _ rfl _ _ _ rfl O2.out _ [⟨(Q : Int), z3⟩] rfl R2.out (by rw [HK0.out]; exact hlen) B2.out.size ?_)
          intro v' X3 ho hg hx
          have O30 := Lib.hid ho
          have B3 := Lib.hid (below_app B2.out B2.out.size O2.out hg)
          obtain ⟨g, c3, rfl, _, _, _, _⟩ := ho.block (by simp)
          obtain ⟨L3, hL3⟩ : ∃ L3, L ++ [(⟨(Q : Int), z3⟩ : Ed)] = L3 := ⟨_, rfl⟩
          have hE3 : Hid (∀ M, L3.length = M + 1 → L3.getD M default = ⟨(Q : Int), z3⟩) := Lib.hid fun M hM => by
            rw [← hL3] at hM ⊢
            rw [List.length_append, List.length_singleton] at hM
            rw [getD_snoc, if_pos (by omega)]
          have HI0 : Hid (∀ M, L3.length = M + 1 → IsE wl o (k + 1) (fun k => bl.getD k 0) (L3.set M ⟨(Q : Int), sb z3 F cb⟩)) := Lib.hid fun M hM => by
            rw [← hL3] at hM ⊢
            rw [List.length_append, List.length_singleton] at hM
            rw [show M = L.length by omega, List.set_append_right _ _ (Nat.le_refl _), Nat.sub_self]
            exact HI1.out
          rw [hL3] at O30 ⊢
          have O3 := O30
          obtain ⟨K, hK⟩ : ∃ K, L3.length = K := ⟨_, rfl⟩
          have hKp : 0 < K ∧ K ≤ 4001 := by
            rw [← hK, ← hL3, List.length_append, List.length_singleton]
            have a1 := hlen.out
            have a2 := HK0.out
            simp only [List.length_singleton] at a1
            omega
          rw [hK] at O3 O30 hE3 HI0 ⊢
          clear ho hg hx hL3
          obtain ⟨M, hM⟩ : ∃ M, K = M + 1 := ⟨K - 1, by omega⟩
          have t1 : IntKind.i64.wrap ((K : Int) - 1) = (M : Int) := by rw [show (K : Int) - 1 = (M : Int) by omega]; exact i64_nat _ (by omega)
          have t2 : (0 : Int) ≤ (M : Int) := by omega
          have t3 : (M : Int) < (K : Int) := by omega
          have t4 : ¬ (M : Int) < 0 := by omega
          obtain ⟨b9, o9, e9, _, hx9⟩ := ed_at O3.out.ra (by rw [hK]; omega)
          cases e9
          have hx9 := hx9 M (by rw [hK]; omega)
          have eM : (L3.getD M default) = ⟨(Q : Int), z3⟩ := hE3.out M hM
          rw [eM] at hx9
          simp only [Nat.zero_add] at hx9
          obtain ⟨_, x0, x1, _⟩ := hx9
          have x2 : X3.frozen? ⟨g, M * 2 + 1, none⟩ = false := OwnA.free O3.out (M * 2 + 1)
          obtain ⟨C0, Cs, Cz, n1, n2, n3, n4, n5⟩ := put_nums (k := F) hz3.out hby.out hF8.out hd.out
          have hY3 := sb_wd (k := F) hz3.out hby.out hF8.out
          have HS : Hid (OwnA edE w.heap.size (X3.setCell ⟨g, M * 2 + 1, none⟩ (.int .u64 (sb z3 F cb))) (.slice (some ⟨g, 0, none⟩) K c3) (L3.set M ⟨(Q : Int), sb z3 F cb⟩)) := Lib.hid (OwnA.setCell (E := edE) (k := M) (j := 1) O3.out (by rw [hK]; omega) (by decide) (Ed.wf_of (by simp only; omega) (by have := HQ.out; simp only; omega) hY3.1 (by have := hY3.2; simp only; omega)) (by rw [eM]; rfl))
          have HB3 : Hid (Below w.heap.size w (X3.setCell ⟨g, M * 2 + 1, none⟩ (.int .u64 (sb z3 F cb)))) := Lib.hid (B3.out.setCell (p := ⟨g, M * 2 + 1, none⟩) (O3.out.lt _ rfl).1 _)
          have HI : Hid (IsE wl o (k + 1) (fun k => bl.getD k 0) (L3.set M ⟨(Q : Int), sb z3 F cb⟩)) := Lib.hid (HI0.out M hM)
          clear eM hY3
          obtain ⟨y, hy⟩ : ∃ y, sb z3 F cb = y := ⟨_, rfl⟩
          rw [hy] at n5 HS HB3 HI
          have hKM := Lib.hid (And.intro hK hM)
          clear hy hK
          go_wp2
          go_roundw
          case rel => exact ⟨k + 1, _, by have := HK.out; omega, by go_num, rfl, Lib.hid ⟨⟨_, HS.out, HI.out⟩, HB3.out⟩⟩
          case measure => have := HK.out; simp [intOf]; omega
        · obtain ⟨hpos, R, hR, hRQ⟩ := hlast.out h0
          obtain ⟨b8, o8, e8, _, hx8⟩ := ed_at O1.out.ra (by rw [HK0.out]; omega)
          cases e8
          obtain ⟨M0, hM0⟩ : ∃ M, K0 = M + 1 := ⟨K0 - 1, by omega⟩
          have hx8 := (hx8 M0 (by rw [HK0.out]; omega)).2.1
          rw [show K0 - 1 = M0 by omega] at hR
          rw [hR] at hx8
          have s1 : IntKind.i64.wrap ((K0 : Int) - 1) = (M0 : Int) := by rw [show (K0 : Int) - 1 = (M0 : Int) by omega]; exact i64_nat _ (by omega)
          have s2 : (0 : Int) ≤ (M0 : Int) := by omega
          have s3 : (M0 : Int) < (K0 : Int) := by omega
          have s4 : ¬ (M0 : Int) < 0 := by omega
          have s5 : ¬ K0 = 0 := by omega
          have s8 : ((K0 : Int) == 0) = false := by simp; omega
          have s6 : ¬ R = Q := hRQ
          have s7 : ((R : Int) == (Q : Int)) = false := by simp; omega
          clear hR hpos hRQ h0 hlcl hLen hM0
          go_wp2_with (at_builtin; refine app_ed rfl _ _ rfl _ _ _ rfl O2.out _ [⟨(Q : Int), z3⟩] rfl R2.out (by rw [HK0.out]; exact hlen) B2.out.size ?_)
          intro v' X3 ho hg hx
          have O30 := Lib.hid ho
          have B3 := Lib.hid (below_app B2.out B2.out.size O2.out hg)
          obtain ⟨g, c3, rfl, _, _, _, _⟩ := ho.block (by simp)
          obtain ⟨L3, hL3⟩ : ∃ L3, L ++ [(⟨(Q : Int), z3⟩ : Ed)] = L3 := ⟨_, rfl⟩
          have hE3 : Hid (∀ M, L3.length = M + 1 → L3.getD M default = ⟨(Q : Int), z3⟩) := Lib.hid fun M hM => by
            rw [← hL3] at hM ⊢
            rw [List.length_append, List.length_singleton] at hM
            rw [getD_snoc, if_pos (by omega)]
          have HI0 : Hid (∀ M, L3.length = M + 1 → IsE wl o (k + 1) (fun k => bl.getD k 0) (L3.set M ⟨(Q : Int), sb z3 F cb⟩)) := Lib.hid fun M hM => by
            rw [← hL3] at hM ⊢
            rw [List.length_append, List.length_singleton] at hM
            rw [show M = L.length by omega, List.set_append_right _ _ (Nat.le_refl _), Nat.sub_self]
            exact HI1.out
          rw [hL3] at O30 ⊢
          have O3 := O30
          obtain ⟨K, hK⟩ : ∃ K, L3.length = K := ⟨_, rfl⟩
          have hKp : 0 < K ∧ K ≤ 4001 := by
            rw [← hK, ← hL3, List.length_append, List.length_singleton]
            have a1 := hlen.out
            have a2 := HK0.out
            simp only [List.length_singleton] at a1
            omega
          rw [hK] at O3 O30 hE3 HI0 ⊢
          clear ho hg hx hL3
          obtain ⟨M, hM⟩ : ∃ M, K = M + 1 := ⟨K - 1, by omega⟩
          have t1 : IntKind.i64.wrap ((K : Int) - 1) = (M : Int) := by rw [show (K : Int) - 1 = (M : Int) by omega]; exact i64_nat _ (by omega)
          have t2 : (0 : Int) ≤ (M : Int) := by omega
          have t3 : (M : Int) < (K : Int) := by omega
          have t4 : ¬ (M : Int) < 0 := by omega
          obtain ⟨b9, o9, e9, _, hx9⟩ := ed_at O3.out.ra (by rw [hK]; omega)
          cases e9
          have hx9 := hx9 M (by rw [hK]; omega)
          have eM : (L3.getD M default) = ⟨(Q : Int), z3⟩ := hE3.out M hM
          rw [eM] at hx9
          simp only [Nat.zero_add] at hx9
          obtain ⟨_, x0, x1, _⟩ := hx9
          have x2 : X3.frozen? ⟨g, M * 2 + 1, none⟩ = false := OwnA.free O3.out (M * 2 + 1)
          obtain ⟨C0, Cs, Cz, n1, n2, n3, n4, n5⟩ := put_nums (k := F) hz3.out hby.out hF8.out hd.out
          have hY3 := sb_wd (k := F) hz3.out hby.out hF8.out
          have HS : Hid (OwnA edE w.heap.size (X3.setCell ⟨g, M * 2 + 1, none⟩ (.int .u64 (sb z3 F cb))) (.slice (some ⟨g, 0, none⟩) K c3) (L3.set M ⟨(Q : Int), sb z3 F cb⟩)) := Lib.hid (OwnA.setCell (E := edE) (k := M) (j := 1) O3.out (by rw [hK]; omega) (by decide) (Ed.wf_of (by simp only; omega) (by have := HQ.out; simp only; omega) hY3.1 (by have := hY3.2; simp only; omega)) (by rw [eM]; rfl))
          have HB3 : Hid (Below w.heap.size w (X3.setCell ⟨g, M * 2 + 1, none⟩ (.int .u64 (sb z3 F cb)))) := Lib.hid (B3.out.setCell (p := ⟨g, M * 2 + 1, none⟩) (O3.out.lt _ rfl).1 _)
          have HI : Hid (IsE wl o (k + 1) (fun k => bl.getD k 0) (L3.set M ⟨(Q : Int), sb z3 F cb⟩)) := Lib.hid (HI0.out M hM)
          clear eM hY3
          obtain ⟨y, hy⟩ : ∃ y, sb z3 F cb = y := ⟨_, rfl⟩
          rw [hy] at n5 HS HB3 HI
          have hKM := Lib.hid (And.intro hK hM)
          clear hy hK
          go_wp2
          go_roundw
          case rel => exact ⟨k + 1, _, by have := HK.out; omega, by go_num, rfl, Lib.hid ⟨⟨_, HS.out, HI.out⟩, HB3.out⟩⟩
          case measure => have := HK.out; simp [intOf]; omega
      · have h0 : k ≠ 0 := fun e => hnew (.inl e)
        have h8 : (o + k) % 8 ≠ 0 := fun e => hnew (.inr e)
        obtain ⟨a1, a2, a3⟩ := EL.last h0
        have hb8 := EL.byte h0 h8 hby0
        rw [hA, hF] at hb8
        have hLM : (o + k - 1) / 8 = Q := by omega
        rw [hLM] at a2
        have hby : Hid (By (bl.getD k 0)) := Lib.hid hby0
        have B3 := Lib.hid BL
        obtain ⟨z3, hz⟩ : ∃ z, (L.getD (L.length - 1) default).v = z := ⟨_, rfl⟩
        rw [hz] at a3 hb8
        rw [a2] at hb8
        have hz3 := Lib.hid a3
        have hE3 : Hid (∀ M, L.length = M + 1 → L.getD M default = ⟨(Q : Int), z3⟩) := Lib.hid fun M hM => by
          rw [show L.length - 1 = M by omega] at a2 hz
          cases hx : L.getD M default
          rw [hx] at a2 hz
          simp only at a2 hz
          rw [a2, hz]
        obtain ⟨cb, hcbe⟩ : ∃ cb, bl.getD k 0 = cb := ⟨_, rfl⟩
        rw [hcbe] at cellb hby hb8
        have HI0 : Hid (∀ M, L.length = M + 1 → IsE wl o (k + 1) (fun k => bl.getD k 0) (L.set M ⟨(Q : Int), sb z3 F cb⟩)) := Lib.hid fun M hM => by
          rw [show L.length - 1 = M by omega] at hb8
          exact hb8
        obtain ⟨g, c3, rfl, _, _, _, _⟩ := OL.block a1
        have O3 := Lib.hid OL
        obtain ⟨K, hK⟩ : ∃ K, L.length = K := ⟨_, rfl⟩
        have hKp : 0 < K ∧ K ≤ 4001 := by omega
        rw [hK] at O3 hE3 HI0 ⊢
        have s5 : ¬ K = 0 := by omega
        have s8 : ((K : Int) == 0) = false := by simp; omega
        clear hby0 hwz hcbe hz hA hQ hF hdd hL1 hL2 hL3 hQL HLe EL BL hlt hk hnew hc hcb H OL hb8 a2 a3 h0 h8 hLM a1 cellw
        obtain ⟨M, hM⟩ : ∃ M, K = M + 1 := ⟨K - 1, by omega⟩
        have t1 : IntKind.i64.wrap ((K : Int) - 1) = (M : Int) := by rw [show (K : Int) - 1 = (M : Int) by omega]; exact i64_nat _ (by omega)
        have t2 : (0 : Int) ≤ (M : Int) := by omega
        have t3 : (M : Int) < (K : Int) := by omega
        have t4 : ¬ (M : Int) < 0 := by omega
        obtain ⟨b9, o9, e9, _, hx9⟩ := ed_at O3.out.ra (by rw [hK]; omega)
        cases e9
        have hx9 := hx9 M (by rw [hK]; omega)
        have eM : (L.getD M default) = ⟨(Q : Int), z3⟩ := hE3.out M hM
        rw [eM] at hx9
        simp only [Nat.zero_add] at hx9
        obtain ⟨_, x0, x1, _⟩ := hx9
        have x2 : wr.frozen? ⟨g, M * 2 + 1, none⟩ = false := OwnA.free O3.out (M * 2 + 1)
        obtain ⟨C0, Cs, Cz, n1, n2, n3, n4, n5⟩ := put_nums (k := F) hz3.out hby.out hF8.out hd.out
        have hY3 := sb_wd (k := F) hz3.out hby.out hF8.out
        have HS : Hid (OwnA edE w.heap.size (wr.setCell ⟨g, M * 2 + 1, none⟩ (.int .u64 (sb z3 F cb))) (.slice (some ⟨g, 0, none⟩) K c3) (L.set M ⟨(Q : Int), sb z3 F cb⟩)) := Lib.hid (OwnA.setCell (E := edE) (k := M) (j := 1) O3.out (by rw [hK]; omega) (by decide) (Ed.wf_of (by simp only; omega) (by have := HQ.out; simp only; omega) hY3.1 (by have := hY3.2; simp only; omega)) (by rw [eM]; rfl))
        have HB3 : Hid (Below w.heap.size w (wr.setCell ⟨g, M * 2 + 1, none⟩ (.int .u64 (sb z3 F cb)))) := Lib.hid (B3.out.setCell (p := ⟨g, M * 2 + 1, none⟩) (O3.out.lt _ rfl).1 _)
        have HI : Hid (IsE wl o (k + 1) (fun k => bl.getD k 0) (L.set M ⟨(Q : Int), sb z3 F cb⟩)) := Lib.hid (HI0.out M hM)
        clear eM hY3
        obtain ⟨y, hy⟩ : ∃ y, sb z3 F cb = y := ⟨_, rfl⟩
        rw [hy] at n5 HS HB3 HI
        have hKM := Lib.hid (And.intro hK hM)
        clear hy hK hM
        go_wp2
        go_roundw
        case rel => exact ⟨k + 1, _, by have := HK.out; omega, by go_num, rfl, Lib.hid ⟨⟨_, HS.out, HI.out⟩, HB3.out⟩⟩
        case measure => have := HK.out; simp [intOf]; omega
    · obtain rfl : k = n := by omega
      obtain ⟨⟨L, OL, EL⟩, BL⟩ := H.out
      have HR := Lib.hid (And.intro OL (And.intro EL BL))
      clear OL EL BL H
      go_wp2
      go_ret2
      exact ⟨⟨_, L, rfl, HR.out.1, HR.out.2.1⟩, HR.out.2.2⟩
theorem redits_no (o : Int) (bn L c d : Nat) (p q : Option Addr) (ho : -9223372036854775808 ≤ o ∧ o ≤ 9223372036854775807) (h : ¬ InB L o bn) (hL : L ≤ 1000) (hbn : bn ≤ 100000) (w : World) :
    Calls Try.prog 14 #[.slice p L c, .int .i64 o, .slice q bn d] w fun e w' => e = .returned (.tuple #[.slice none 0 0, .bool false]) ∧ w = w' := by
  have C0 := inside_is o bn L ho (by omega) hL w
  rw [decide_eq_false h] at C0
  have C := Lib.hid C0
  clear C0 h hL hbn ho
  go_enter Try.func14, Try.ntmps14
  go_wp2_with fail
  refine (C.out).mono ?_; rintro e w' ⟨rfl, rfl⟩
  go_wp2_with fail
  go_ret2
  exact ⟨rfl, rfl⟩
/-- what Edits tells: nothing where there is no room -/
def Tells (wl bl : List Int) (o : Int) (L : List Ed) : Prop := if InB wl.length o bl.length then IsE wl o.toNat bl.length (fun k => bl.getD k 0) L else L = []
theorem Tells.one {wl bl : List Int} {o : Int} {L L' : List Ed} (h : Tells wl bl o L) (h' : Tells wl bl o L') : L = L' := by
  unfold Tells at h h'
  split at h
  · rename_i hi
    rw [if_pos hi] at h'
    exact h.one h' fun _ _ => rfl
  · rename_i hi
    rw [if_neg hi] at h'
    rw [h, h']
theorem edits_is (wl bl : List Int) (v u : Value) (o : Int) (w : World) (hv : RU w v wl) (hu : RA byE w u bl) (hw : ∀ x ∈ wl, Wd x) (ho : -9223372036854775808 ≤ o ∧ o ≤ 9223372036854775807) (hL : wl.length ≤ 1000) (hbn : bl.length ≤ 100000) :
    Calls Try.prog 13 #[v, .int .i64 o, u] w fun e w' => (∃ x L, e = .returned (.tuple #[x, .bool (decide (InB wl.length o bl.length))]) ∧ OwnA edE w.heap.size w' x L ∧ Tells wl bl o L) ∧ Below w.heap.size w w' := by
  unfold Tells
  by_cases h : InB wl.length o bl.length
  · rw [decide_eq_true h]
    obtain ⟨a, b, rfl, hb, h1, h2⟩ := h.nat
    have eb : bl.length = b := by omega
    refine (edits_yes wl bl v u a w hv hu hw hL (by omega) (by omega)).mono fun e w' ⟨⟨x, L, r1, r2, r3⟩, r4⟩ => ⟨⟨x, L, r1, r2, ?_⟩, r4⟩
    rw [if_pos h, Int.toNat_natCast]
    exact r3
  · rw [decide_eq_false h]
    obtain ⟨p, cap, rfl, _, _, _⟩ := id hv
    obtain ⟨q, d, rfl, _, _⟩ := ra_shape hu
    exact (edits_no o bl.length _ cap d p q ho h hL hbn w).mono fun e w' ⟨h1, h2⟩ => ⟨⟨_, [], h1, own_nil_a _ _ _, by rw [if_neg h]⟩, h2 ▸ Below.refl _ _⟩
theorem redits_is (wl bl : List Int) (v u : Value) (o : Int) (w : World) (hv : RU w v wl) (hu : RA byE w u bl) (hw : ∀ x ∈ wl, Wd x) (ho : -9223372036854775808 ≤ o ∧ o ≤ 9223372036854775807) (hL : wl.length ≤ 1000) (hbn : bl.length ≤ 100000) :
    Calls Try.prog 14 #[v, .int .i64 o, u] w fun e w' => (∃ x L, e = .returned (.tuple #[x, .bool (decide (InB wl.length o bl.length))]) ∧ OwnA edE w.heap.size w' x L ∧ Tells wl bl o L) ∧ Below w.heap.size w w' := by
  unfold Tells
  by_cases h : InB wl.length o bl.length
  · rw [decide_eq_true h]
    obtain ⟨a, b, rfl, hb, h1, h2⟩ := h.nat
    have eb : bl.length = b := by omega
    refine (redits_yes wl bl v u a w hv hu hw hL (by omega) (by omega)).mono fun e w' ⟨⟨x, L, r1, r2, r3⟩, r4⟩ => ⟨⟨x, L, r1, r2, ?_⟩, r4⟩
    rw [if_pos h, Int.toNat_natCast]
    exact r3
  · rw [decide_eq_false h]
    obtain ⟨p, cap, rfl, _, _, _⟩ := id hv
    obtain ⟨q, d, rfl, _, _⟩ := ra_shape hu
    exact (redits_no o bl.length _ cap d p q ho h hL hbn w).mono fun e w' ⟨h1, h2⟩ => ⟨⟨_, [], h1, own_nil_a _ _ _, by rw [if_neg h]⟩, h2 ▸ Below.refl _ _⟩
end Go.Proofs.Ytnlhjppjgjobkaa
