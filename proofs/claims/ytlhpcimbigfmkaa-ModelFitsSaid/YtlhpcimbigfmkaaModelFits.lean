/-
  Told places are those of the smallest free blocks that are large enough; taken at any of them the block is of noughts; at another place nothing is taken. No conditions.
-/
import Derived.Test.YtlhpcimbigfmkaaMft
import Derived.Test.YtlhpcimbigfmkaaMqd
import Derived.Deep.RegionHeld3
namespace Go.Proofs.Ytlhpcimbigfmkaa.modelFits
set_option maxRecDepth 100000
open Go.Proofs.Ytlhpcimbigfmkaa Go.ChangeShapes Go.WideShapes Go.ChangeAt Go.RowKit

theorem many (a0 a2 a3 a4 : Int) (p : Option Addr) (L c : Nat) (w : World) (h : 60 < L) :
    Calls Try.prog 5 #[.int .i64 a0, .slice p L c, .int .i64 a2, .int .i64 a3, .int .i64 a4] w fun e w' => e = .returned (.bool true) ∧ Below w.heap.size w w' := by
  have i1 : (L : Int) > 60 := by omega
  clear h
  go_enter Try.func5, Try.ntmps5
  go_wp2_with fail
  refine (awake_any _).mono ?_; rintro e w' ⟨rfl, hb⟩
  go_wp2_with fail
  go_ret
  exact ⟨rfl, hb⟩
theorem none_ (a0 a2 a3 a4 : Int) (p : Option Addr) (L c : Nat) (w : World) (h : ¬ 60 < L) (hm : ¬ Mw a0) :
    Calls Try.prog 5 #[.int .i64 a0, .slice p L c, .int .i64 a2, .int .i64 a3, .int .i64 a4] w fun e w' => e = .returned (.bool true) ∧ Below w.heap.size w w' := by
  have i1 : ¬ (L : Int) > 60 := by omega
  have C1 := Lib.hid (mnew_no a0 hm w)
  have C2 := Lib.hid (rnew_no a0 hm)
  clear h hm
  go_enter Try.func5, Try.ntmps5
  go_wp2_with fail
  refine (C1.out).mono ?_; rintro e w1 ⟨rfl, b1⟩
  have D1 := Lib.hid b1
  clear b1
  go_wp2_with fail
  refine (C2.out _).mono ?_; rintro e w2 ⟨rfl, rfl⟩
  go_wp2_with fail
  refine (awake_any _).mono ?_; rintro e w2 ⟨rfl, b2⟩
  have D2 := Lib.hid (below_more D1.out b2)
  go_wp2_with fail
  go_ret
  exact ⟨rfl, D2.out⟩
/-- a place among some -/
theorem place (a : Int) (B : Nat) (h0 : 0 < B) (h1 : B ≤ 1000) : ∃ u k : Nat, IntKind.u64.wrap a = (u : Int) ∧ IntKind.u64.wrap (B : Int) = (B : Int) ∧ ¬ B = 0 ∧ (u : Int).tmod (B : Int) = (k : Int) ∧ IntKind.i64.wrap (k : Int) = (k : Int) ∧ k < B := by
  obtain ⟨u, hu, _⟩ := u64_nat a
  have hlt : u % B < B := Nat.mod_lt _ h0
  exact ⟨u, u % B, hu, by rw [IntKind.wrap_u64]; omega, by omega, tmod_nat u B, i64_nat _ (by omega), hlt⟩

set_option maxHeartbeats 8000000 in
theorem some_ (N : Nat) (ops : List Qx) (v : Value) (n a3 off : Int) (w : World) (h1 : RA (qoE w) w v ops) (h : ¬ 60 < ops.length) (hm : Mw N) :
    Calls Try.prog 5 #[.int .i64 N, v, .int .i64 n, .int .i64 a3, .int .i64 off] w fun e w' => e = .returned (.bool true) ∧ Below w.heap.size w w' := by
  have j1 : ¬ (ops.length : Int) > 60 := by omega
  have C1 := Lib.hid (mnew_yes N hm w)
  obtain ⟨p, c, rfl, _, _⟩ := ra_shape h1
  have HV := Lib.hid h1
  have HL := Lib.hid (show ops.length ≤ 60 by omega)
  clear h hm h1
  go_enter Try.func5, Try.ntmps5
  go_wp2_with fail
  refine (C1.out).mono ?_; rintro e w1 ⟨⟨g, rfl, hg, hM⟩, b1⟩
  have M1 := Lib.hid (hM [] (fun _ h => by cases h))
  have HG := Lib.hid (show ∀ k ∈ [g], w.heap.size ≤ k from fun k hk => by rw [List.mem_singleton.1 hk]; exact hg)
  have D1 := Lib.hid b1
  clear b1 hg hM C1
  go_wp2
  go_loopw [41] (fun i wr => ∃ k : Nat, k ≤ ops.length ∧ i = .int .i64 k ∧ Hid ((∃ wl l r, Mo wr [g] g wl l r) ∧ Below w.heap.size w wr)) (fun i _ => ops.length - (intOf i).toNat)
  case atStart => exact ⟨0, Nat.zero_le _, rfl, Lib.hid ⟨⟨_, _, _, M1.out⟩, D1.out⟩⟩
  case round =>
    clear M1 D1
    obtain ⟨k, hk, rfl, H⟩ := hrel
    by_cases hlt : k < ops.length
    · obtain ⟨b, of0, rfl, _, hx⟩ := qo_at (ra_below HV.out H.out.2) (by omega)
      obtain ⟨hld, hwf⟩ := hx k hlt
      have i0 : (0 : Int) ≤ (k : Int) := by omega
      have i1 : (k : Int) < (ops.length : Int) := by omega
      have i2 : ¬ (k : Int) < 0 := by omega
      have i3 : IntKind.i64.wrap ((k : Int) + 1) = ((k + 1 : Nat) : Int) := by rw [show (k : Int) + 1 = ((k + 1 : Nat) : Int) by omega]; exact i64_nat _ (by have := HL.out; omega)
      have HK := Lib.hid hlt
      clear hx hk hlt
      generalize ops.getD k default = X at *
      obtain ⟨W, hW, hst, HW⟩ := qo_boxed wr X hwf.one
      obtain ⟨d, m, o, bv, bl⟩ := X
      obtain ⟨wl, l, r, hP⟩ := H.out.1
      have P0 := Lib.hid (hP.below HW.out.2)
      have D0 := Lib.hid (below_more H.out.2 HW.out.2)
      have hnq : wr.heap.size ∉ [g] := fun q => by
        have h1 := hP.dlt g hP.gD
        have := List.mem_singleton.1 q
        omega
      have QV := Lib.hid (fun w' (hc : Chg [g] W w') => HW.out.1.chg hc hnq)
      have c1 : W.cell? ⟨wr.heap.size, 1, none⟩ = some (.int .i64 m) := HW.out.1.c1
      clear hP hwf hnq H
      have C2 := Lib.hid (mofs_is m W P0.out)
      go_wp2_with fail
      refine (C2.out).mono ?_; rintro e w2 ⟨⟨v2, rfl, o2⟩, b2⟩
      have P2 := Lib.hid (P0.out.below b2)
      have D2 := Lib.hid (below_more D0.out b2)
      have Q2 := Lib.hid (fun w' (hc : Chg [g] w2 w') => QV.out w' ((Chg.of_below b2 [g]).trans hc))
      have O2 := Lib.hid (And.intro o2.ri (fun k hk => (World.ownsRow.lt o2 k hk).1))
      have GW := Lib.hid (show g < W.heap.size from P0.out.dlt g P0.out.gD)
      have hfl : (fos (needN m) l).length ≤ 256 := by
        have := fbl_len (needN m) l
        rw [fos, List.length_map]
        have := P0.out.len.1
        omega
      obtain ⟨pf, cf, rfl⟩ := o2.shape
      have d0c : w2.cell? ⟨wr.heap.size, 0, none⟩ = some (.int .i64 d) := (Q2.out w2 (Chg.refl _ _)).c0
      have d2c : w2.cell? ⟨wr.heap.size, 2, none⟩ = some (.int .i64 o) := (Q2.out w2 (Chg.refl _ _)).c2
      clear b2 o2 C2 c1
      by_cases d0 : d = 0
      · have e0 : (d == 0) = true := by rw [d0]; rfl
        have e1 : (d == 1) = false := by rw [d0]; rfl
        clear d0
        by_cases hF : 0 < (fos (needN m) l).length
        · obtain ⟨bf, of, rfl, hbf, hcf⟩ := ri_some O2.out.1 hF
          have cf0 : w2.cell? ⟨bf, of, none⟩ = some (.int .i64 ((fos (needN m) l).getD 0 0)) := by have := hcf 0 hF; rwa [Nat.add_zero] at this
          have nf : bf ∉ [g] := fun q => by
            have := O2.out.2 bf rfl
            have := GW.out
            rw [List.mem_singleton.1 q] at *
            omega
          have f0 : ∀ w', Chg [g] w2 w' → w'.cell? ⟨bf, of, none⟩ = some (.int .i64 ((fos (needN m) l).getD 0 0)) := fun w' hc => (World.cell?_of_block (hc.block bf hbf nf)).trans cf0
          have c1 : ∀ w', Chg [g] w2 w' → w'.cell? ⟨wr.heap.size, 1, none⟩ = some (.int .i64 m) := fun w' hc => (Q2.out w' hc).c1
          generalize (fos (needN m) l).getD 0 0 = y at *
          have t1 : ((fos (needN m) l).length : Int) > 0 := by omega
          have t2 : (0 : Int) < ((fos (needN m) l).length : Int) := by omega
          generalize (fos (needN m) l).length = F at *
          have C3 := Lib.hid (malloc_is m y w2.drew (P2.out.below (Below.refl _ _).drew))
          generalize (alQ (needN m) l y).isSome = q at *
          clear nf hcf hbf cf0 hfl
          go_wp2_with fail
          go_region_held3 (fun w' => Chg [g] w2 w')
            (first | assumption | exact (Chg.refl _ _).drew)
            (first
              | (go_at_call 17; refine (C3.out).mono ?_; rintro e w3 ⟨rfl, m3, c3⟩
                 have P3 := Lib.hid m3
                 have SC := c3.from_drew
                 clear m3 c3))
          have D3 := Lib.hid (show (∃ wl l r, Mo w3 [g] g wl l r) ∧ Below w.heap.size w w3 from ⟨⟨_, _, _, P3.out⟩, below_chg D2.out SC HG.out⟩)
          have d3c : w3.cell? ⟨wr.heap.size, 0, none⟩ = some (.int .i64 d) := (Q2.out w3 SC).c0
          clear SC f0 c1
          go_wp2
          go_roundw
          case rel => exact ⟨k + 1, by have := HK.out; omega, by go_num, D3⟩
          case measure => have := HK.out; simp [intOf]; omega
        · have t1 : ¬ ((fos (needN m) l).length : Int) > 0 := by omega
          have t2 : (fos (needN m) l).length = 0 := by omega
          have D3 := Lib.hid (show (∃ wl l r, Mo w2 [g] g wl l r) ∧ Below w.heap.size w w2 from ⟨⟨_, _, _, P2.out⟩, D2.out⟩)
          rw [t2]
          clear hF hfl t1 t2
          go_wp2
          go_roundw
          case rel => exact ⟨k + 1, by have := HK.out; omega, by go_num, D3⟩
          case measure => have := HK.out; simp [intOf]; omega
      · have e0 : (d == 0) = false := beq_eq_false_iff_ne.2 d0
        clear d0
        generalize (fos (needN m) l).length = F at *
        by_cases d1 : d = 1
        · have e1 : (d == 1) = true := by rw [d1]; rfl
          clear d1
          have C3 := Lib.hid (mfree_is o w2 P2.out)
          generalize feQ l o r = q at *
          go_wp2_with fail
          refine (C3.out).mono ?_; rintro e w3 ⟨rfl, m3, c3⟩
          have D3 := Lib.hid (show (∃ wl l r, Mo w3 [g] g wl l r) ∧ Below w.heap.size w w3 from ⟨⟨_, _, _, m3⟩, below_chg D2.out c3 HG.out⟩)
          clear m3 c3 C3
          go_wp2
          go_roundw
          case rel => exact ⟨k + 1, by have := HK.out; omega, by go_num, D3⟩
          case measure => have := HK.out; simp [intOf]; omega
        · have e1 : (d == 1) = false := beq_eq_false_iff_ne.2 d1
          have D3 := Lib.hid (show (∃ wl l r, Mo w2 [g] g wl l r) ∧ Below w.heap.size w w2 from ⟨⟨_, _, _, P2.out⟩, D2.out⟩)
          clear d1 hfl
          go_wp2
          go_roundw
          case rel => exact ⟨k + 1, by have := HK.out; omega, by go_num, D3⟩
          case measure => have := HK.out; simp [intOf]; omega
    · obtain rfl : k = ops.length := by omega
      obtain ⟨wl, l, r, hP⟩ := H.out.1
      have P0 := Lib.hid hP
      have D0 := Lib.hid H.out.2
      clear hk hlt H hP HV
      have C2 := Lib.hid (mofs_is n wr P0.out)
      go_wp2_with fail
      refine (C2.out).mono ?_; rintro e w2 ⟨⟨v2, rfl, o2⟩, b2⟩
      have P2 := Lib.hid (P0.out.below b2)
      have D2 := Lib.hid (below_more D0.out b2)
      have O2 := Lib.hid o2.ri
      have hfl : (fos (needN n) l).length ≤ 256 := by
        have := fbl_len (needN n) l
        rw [fos, List.length_map]
        have := P0.out.len.1
        omega
      obtain ⟨pf, cf, rfl⟩ := o2.shape
      clear b2 o2 C2 P0 D0
      by_cases hF : (fos (needN n) l).length = 0
      · have C3 := Lib.hid (malloc_is n off w2 P2.out)
        rw [alq_none hF] at C3
        rw [hF]
        clear hF hfl O2
        go_wp2_with fail
        refine (C3.out).mono ?_; rintro e w3 ⟨rfl, m3, c3⟩
        have D3 := Lib.hid (below_chg D2.out c3 HG.out)
        clear m3 c3 C3
        go_wp2_with fail
        refine (awake_any _).mono ?_; rintro e w4 ⟨rfl, b4⟩
        have D4 := Lib.hid (below_more D3.out b4)
        go_wp2_with fail
        go_ret
        exact ⟨rfl, D4.out⟩
      · obtain ⟨u, j, p1, p2, p3, p4, p5, p6⟩ := place a3 (fos (needN n) l).length (by omega) (by omega)
        have hj := p6
        obtain ⟨bf, of, rfl, hbf, hcf⟩ := ri_some O2.out (by omega)
        have cA : w2.cell? ⟨bf, of + j, none⟩ = some (.int .i64 ((fos (needN n) l).getD j 0)) := hcf j hj
        have HC := Lib.hid hcf
        have hAm : (fos (needN n) l).getD j 0 ∈ fos (needN n) l := by
          rw [List.getD_eq_getElem?_getD, List.getElem?_eq_getElem hj]
          exact List.getElem_mem hj
        obtain ⟨d, q1, q2, q3⟩ := alq_mem hAm
        obtain ⟨⟨n1, n2⟩, r1, r2⟩ := taken_read P2.out.hB P2.out.ok q2 q3
        obtain ⟨n', rfl⟩ : ∃ m : Nat, n = m := ⟨n.toNat, by omega⟩
        rw [Int.toNat_natCast] at r2
        have hq := alq_any (needN n') l off
        have HQ := Lib.hid (show alQ (needN n') l ((fos (needN n') l).getD j 0) = some d ∧ refF (appF wl (cedF l d (needN n'))) ((fos (needN n') l).getD j 0) n' = 0 ∧ rdR (appF wl (cedF l d (needN n'))) ((fos (needN n') l).getD j 0) n' = List.replicate n' 0 from ⟨q1, r1, r2⟩)
        have HN2 := Lib.hid (show n' ≤ 448 by omega)
        obtain ⟨F, hFF⟩ : ∃ F, fos (needN n') l = F := ⟨_, rfl⟩
        rw [hFF] at HQ HC cA hF hfl hq p2 p3 p4 p6 O2 ⊢
        generalize F.getD j 0 = A at *
        have hL0 : 0 < F.length := by omega
        have p7 : ((F.length : Int) == 0) = false := beq_eq_false_iff_ne.2 (by omega)
        have p8 : (j : Int) < (F.length : Int) := by omega
        have p9 : ¬ (j : Int) < 0 := by omega
        have pa : (0 : Int) ≤ (j : Int) := by omega
        have HFL := Lib.hid hfl
        clear hFF hj hAm q1 q2 q3 r1 r2 n1 n2 hcf p6 hfl hL0
        go_wp2
        go_loopw [17, 98] (fun inn i w3 => ∃ k : Nat, k ≤ F.length ∧ i = .int .i64 k ∧ inn = .bool ((F.take k).any (· == off)) ∧ w3 = w2) (fun _ i _ => F.length - (intOf i).toNat)
        case atStart => exact ⟨0, Nat.zero_le _, rfl, rfl, rfl⟩
        case round =>
          obtain ⟨k, hk, rfl, rfl, rfl⟩ := hrel
          by_cases hlt : k < F.length
          · have ck := HC.out k hlt
            have i0 : (0 : Int) ≤ (k : Int) := by omega
            have i1 : (k : Int) < (F.length : Int) := by omega
            have i2 : ¬ (k : Int) < 0 := by omega
            have i3 : IntKind.i64.wrap ((k : Int) + 1) = ((k + 1 : Nat) : Int) := by rw [show (k : Int) + 1 = ((k + 1 : Nat) : Int) by omega]; exact i64_nat _ (by have := HFL.out; omega)
            have HK := Lib.hid hlt
            have hst : (F.take (k + 1)).any (· == off) = ((F.take k).any (· == off) || (F.getD k 0 == off)) := by
              rw [List.take_add_one, List.getElem?_eq_getElem hlt, List.any_append, List.getD_eq_getElem?_getD, List.getElem?_eq_getElem hlt]
              simp
            have HS := Lib.hid hst
            clear hk hlt hst
            generalize F.getD k 0 = y at *
            generalize (F.take k).any (· == off) = t at *
            cases t
            · cases hy : (y == off)
              · rw [hy] at HS
                go_wp2
                go_roundw
                case rel => exact ⟨k + 1, by have := HK.out; omega, by go_num, by rw [HS.out]; rfl, trivial⟩
                case measure => have := HK.out; simp [intOf]; omega
              · rw [hy] at HS
                go_wp2
                go_roundw
                case rel => exact ⟨k + 1, by have := HK.out; omega, by go_num, by rw [HS.out]; rfl, trivial⟩
                case measure => have := HK.out; simp [intOf]; omega
            · rw [Bool.true_or] at HS
              go_wp2
              go_roundw
              case rel => exact ⟨k + 1, by have := HK.out; omega, by go_num, by rw [HS.out], trivial⟩
              case measure => have := HK.out; simp [intOf]; omega
          · obtain rfl : k = F.length := by omega
            rw [List.take_length, ← hq]
            have C3 := Lib.hid (mcopy_is _ P2.out)
            clear hk hlt hq HC O2
            go_wp2_with fail
            refine (C3.out).mono ?_; rintro e w3 ⟨⟨y, rfl, hy, hy2, hM⟩, b3⟩
            have P3 := Lib.hid (show Mo w3 [y, g] y wl l r ∧ Mo w3 [y, g] g wl l r from ⟨hM, P2.out.more b3 hy hy2⟩)
            have hyg : y ≠ g := fun e => by have := P2.out.dlt g P2.out.gD; omega
            have Y3 := Lib.hid (show (∀ k ∈ [y], w.heap.size ≤ k) ∧ (∀ k ∈ [y], k ∈ [y, g]) ∧ g ∉ [y] from ⟨fun k hk => by rw [List.mem_singleton.1 hk]; exact Nat.le_trans D2.out.size hy, fun k hk => by rw [List.mem_singleton.1 hk]; exact List.mem_cons_self .., fun q => hyg (List.mem_singleton.1 q).symm⟩)
            have D3 := Lib.hid (below_more D2.out b3)
            clear hy hy2 hM b3 C3 hyg
            have C4 := Lib.hid (malloc_is n' off w3 P3.out.1)
            generalize (alQ (needN n') l off).isSome = qq at *
            go_wp2_with fail
            refine (C4.out).mono ?_; rintro e w4 ⟨rfl, m4, c4⟩
            have P4 := Lib.hid (P3.out.2.chg c4 Y3.out.2.1 Y3.out.2.2)
            have D4 := Lib.hid (below_chg D3.out c4 Y3.out.1)
            clear m4 c4 C4 P3
            have C5 := Lib.hid (malloc_is n' A w4 P4.out)
            have ew : alW wl (needN n') l A = appF wl (cedF l d (needN n')) := by unfold alW; rw [HQ.out.1]
            rw [ew, HQ.out.1] at C5
            simp only [Option.isSome_some] at C5
            clear ew
            go_wp2_with fail
            refine (C5.out).mono ?_; rintro e w5 ⟨rfl, m5, c5⟩
            have D5 := Lib.hid (below_chg D4.out c5 HG.out)
            have C6 := Lib.hid (mread_is A n' w5 m5)
            rw [HQ.out.2.1, HQ.out.2.2] at C6
            clear m5 c5 C5 P4
            go_wp2_with fail
            refine (C6.out).mono ?_; rintro e w6 ⟨⟨v6, rfl, o6⟩, b6⟩
            have D6 := Lib.hid (below_more D5.out b6)
            have O6 := Lib.hid o6.ra
            obtain ⟨pb, cb, rfl, _, _⟩ := ra_shape o6.ra
            clear b6 o6 C6
            rw [List.length_replicate] at O6 ⊢
            go_wp2
            go_loopw [133] (fun i w7 => ∃ k : Nat, k ≤ n' ∧ i = .int .i64 k ∧ w7 = w6) (fun i _ => n' - (intOf i).toNat)
            case atStart => exact ⟨0, Nat.zero_le _, rfl, rfl⟩
            case round =>
              obtain ⟨k, hk, rfl, rfl⟩ := hrel
              by_cases hlt : k < n'
              · obtain ⟨bb, ob, rfl, _, hcb⟩ := byte_at O6.out (by rw [List.length_replicate]; omega)
                have ck := (hcb k (by rw [List.length_replicate]; exact hlt)).1
                rw [show (List.replicate n' (0 : Int)).getD k 0 = 0 by rw [List.getD_eq_getElem?_getD, List.getElem?_replicate, if_pos hlt]; rfl] at ck
                have i0 : (0 : Int) ≤ (k : Int) := by omega
                have i1 : (k : Int) < (n' : Int) := by omega
                have i2 : ¬ (k : Int) < 0 := by omega
                have i3 : IntKind.i64.wrap ((k : Int) + 1) = ((k + 1 : Nat) : Int) := by rw [show (k : Int) + 1 = ((k + 1 : Nat) : Int) by omega]; exact i64_nat _ (by have := HN2.out; omega)
                have HK := Lib.hid hlt
                clear hk hlt hcb
                go_wp2
                go_roundw
                case rel => exact ⟨k + 1, by have := HK.out; omega, by go_num, trivial⟩
                case measure => have := HK.out; simp [intOf]; omega
              · obtain rfl : k = n' := by omega
                clear hk hlt
                go_wp2_with fail
                refine (awake_any _).mono ?_; rintro e w8 ⟨rfl, b8⟩
                have D8 := Lib.hid (below_more D6.out b8)
                go_wp2_with fail
                go_ret
                exact ⟨rfl, D8.out⟩

theorem walk (a0 : Int) (l1 : List Qx) (v1 : Value) (a2 a3 a4 : Int) (w : World) (_h0 : (Lit.int .i64 a0).wf = true) (h1 : RA (qoE w) w v1 l1) (_h2 : (Lit.int .i64 a2).wf = true) (_h3 : (Lit.int .i64 a3).wf = true) (_h4 : (Lit.int .i64 a4).wf = true) :
    Calls Try.prog 5 #[.int .i64 a0, v1, .int .i64 a2, .int .i64 a3, .int .i64 a4] w fun e w' => e = .returned (.bool true) ∧ Below w.heap.size w w' := by
  obtain ⟨p, c, rfl, _, _⟩ := ra_shape h1
  by_cases h : 60 < l1.length
  · exact many a0 a2 a3 a4 p _ c w h
  · by_cases hm : Mw a0
    · obtain ⟨N, rfl⟩ : ∃ N : Nat, a0 = N := ⟨a0.toNat, by have := hm.1; omega⟩
      exact some_ N l1 _ a2 a3 a4 w h1 h hm
    · exact none_ a0 a2 a3 a4 p _ c w h hm

set_option maxRecDepth 100000 in
theorem lifted (os : Os) (started : os.Started) (H : Type) (enc : TypeId × Value → H) :
    ReturnsInHanded {} Try.checked os 5 .any (Rows.modelFitsSpec.pre6 enc Try.prog Try.f5 Rows.modelFitsRow.domain false) (Rows.modelFitsSpec.post enc Try.prog Try.f5 false true false false) := by
  refine returnsInHanded_of_change (C := Try.checked) own started (by kernel_rfl) Try.func5
    (ChangeSpec.witness6 (enc := enc) (C := Try.checked) false ⟨#[], #[.int .i64 0, .slice none 0 0, .int .i64 0, .int .i64 0, .int .i64 0], []⟩ 8 (by kernel_rfl) (by kernel_rfl) (by kernel_rfl) (by kernel_rfl)) ?_
  intro W base args ds gs before hval0 hW hcnd _
  have hval : ∀ (j : Nat) t v, Try.f5.params[j]? = some t → args[j]? = some v → Value.okWide Try.prog W .any base t v := hval0
  have hW' := hW
  have hlt := hW.lt
  obtain ⟨p, q, hA0, hV, hpq, hfz, hnd⟩ := hW
  have hA : DataW.TrodAll enc Try.prog W 0 (fun _ => true) true Try.f5.params.toList args.toList ds p := hA0
  rw [Try.params5] at hA hval
  obtain ⟨v0, vs0, d0, ds0, p0, q0, hargs, rfl, hp, h0, r0⟩ := trodAll_cons hA
  obtain ⟨v1, vs1, d1, ds1, p1, q1, rfl, rfl, rfl, h1, r1⟩ := trodAll_cons r0
  obtain ⟨v2, vs2, d2, ds2, p2, q2, rfl, rfl, rfl, h2, r2⟩ := trodAll_cons r1
  obtain ⟨v3, vs3, d3, ds3, p3, q3, rfl, rfl, rfl, h3, r3⟩ := trodAll_cons r2
  obtain ⟨v4, vs4, d4, ds4, p4, q4, rfl, rfl, rfl, h4, r4⟩ := trodAll_cons r3
  obtain ⟨rfl, rfl, rfl⟩ := trodAll_nil r4
  obtain rfl : args = #[v0, v1, v2, v3, v4] := by cases args; simp_all
  obtain ⟨rfl, rfl⟩ := trodVars_none hV
  have hlt' : ∀ x ∈ before, x.block < W.heap.size := fun x hx => hlt x hx
  obtain ⟨a0, rfl, rfl, rfl, w0⟩ := open_int Try.underlying3 (hval 0 3 v0 rfl rfl) h0
  obtain ⟨l1, w1⟩ := mops_in (hval 1 22 v1 rfl rfl) h1
  obtain ⟨a2, rfl, rfl, rfl, w2⟩ := open_int Try.underlying3 (hval 2 3 v2 rfl rfl) h2
  obtain ⟨a3, rfl, rfl, rfl, w3⟩ := open_int Try.underlying3 (hval 3 3 v3 rfl rfl) h3
  obtain ⟨a4, rfl, rfl, rfl, w4⟩ := open_int Try.underlying3 (hval 4 3 v4 rfl rfl) h4
  refine (walk a0 l1 v1 a2 a3 a4 W w0 w1 w2 w3 w4).mono fun e W' ⟨he, hb⟩ => ?_
  subst he
  exact ⟨_, rfl, law_post rfl (by kernel_rfl) hW' (by rw [Try.params5]; intro t ht; simp only [List.mem_cons, List.not_mem_nil, or_false] at ht; (repeat' (first | (rcases ht with rfl | ht) | subst ht)) <;> exact ⟨by kernel_rfl, of_decide_eq_true (by kernel_rfl)⟩) rfl hb⟩

theorem over : Rows.modelFitsRow.holds Try.pinned (OpenSpec.ofChange Rows.modelFitsSpec) :=
  OpenClaim.holds_of_wide 5 Try.f5 rfl rfl rfl rfl rfl rfl rfl ⟨rfl, rfl, rfl, rfl, rfl⟩ rfl rfl rfl rfl rfl (by kernel_rfl) Try.func5 (by kernel_rfl)
    (of_decide_eq_true (by kernel_rfl)) (by unfold Func.isWrapper; first | (rw [if_pos (by decide +kernel)]; kernel_rfl) | (rw [if_neg (by decide +kernel)]; exact ⟨rfl, rfl⟩))
    (fun os started H enc _ => lifted os started H enc)

theorem proved : Rows.ModelFitsSaid := over
end Go.Proofs.Ytlhpcimbigfmkaa.modelFits
