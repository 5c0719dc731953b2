/-
  Where a free block is large enough, one is chosen; never a larger one where a smaller one is enough, nor one of a page written more often, where one of the same size is in a page written less. No conditions.
-/
import Derived.Test.YtnhhdkdjejfcjaaFtw
namespace Go.Proofs.Ytnhhdkdjejfcjaa.fitBest
set_option maxRecDepth 100000
open Go.Proofs.Ytnhhdkdjejfcjaa Go.ChangeShapes Go.WideShapes Go.ChangeAt Go.RowKit

theorem pgn_q {cs : List Int} {v : Value} {w : World} (hv : RI w v cs) : ∀ n a x, (Lit.int .i64 a).wf = true → wrN cs a = x → Calls Try.prog 10 #[.int .i64 a, v] (w.drewN n) fun e w' => e = .returned (.int .i64 x) ∧ ∃ k, w' = (w.drewN n).drewN k :=
  fun n a x ha hx => (pgn_is a cs v x _ (ri_below hv (below_drewN (Below.refl _ _) n)) ha hx).mono fun _ _ h => ⟨h.1, 0, h.2.symm⟩

theorem far (l : List Bk) (cs : List Int) (p q : Option Addr) (c c2 : Nat) (n : Int) (w : World) (h : 300 < l.length ∨ 100 < cs.length) :
    Calls Try.prog 3 #[.slice p l.length c, .int .i64 n, .slice q cs.length c2] w fun e w' => e = .returned (.bool true) ∧ Below w.heap.size w w' := by
  generalize l.length = L at *
  generalize cs.length = M at *
  by_cases h1 : 300 < L
  · have i1 : (L : Int) > 300 := by omega
    clear h
    go_enter Try.func3, Try.ntmps3
    go_wp2_with fail
    refine (awake_any _).mono ?_; rintro e w' ⟨rfl, hb⟩
    go_wp2_with fail
    go_ret
    exact ⟨rfl, hb⟩
  · have i1 : ¬ (L : Int) > 300 := by omega
    have i2 : (M : Int) > 100 := by omega
    clear h
    go_enter Try.func3, Try.ntmps3
    go_wp2_with fail
    refine (awake_any _).mono ?_; rintro e w' ⟨rfl, hb⟩
    go_wp2_with fail
    go_ret
    exact ⟨rfl, hb⟩

def anyF (n : Int) (l : List Bk) : Bool := l.any (fitB n)
theorem anyF_cons (n : Int) (b : Bk) (r : List Bk) : anyF n (b :: r) = (fitB n b || anyF n r) := rfl
/-- what is known of the chosen one -/
structure Best (n : Int) (cs : List Int) (l : List Bk) (d : Nat) : Prop where
  lt : d < l.length
  fit : fitB n (l.getD d default) = true
  mem : d ∈ fitN n l
  all : ∀ i ∈ fitN n l, i < l.length ∧ (l.getD i default).s = (l.getD d default).s ∧ wrN cs (l.getD d default).a ≤ wrN cs (l.getD i default).a
  low : ∀ b ∈ l, fitB n b = true → (l.getD d default).s ≤ b.s
theorem plain_some {n : Int} {cs : List Int} {l : List Bk} (h : anyF n l = true) : ∃ d, chN n cs l = some d ∧ Best n cs l d := by
  obtain ⟨b, hb, hf⟩ := List.any_eq_true.1 h
  obtain ⟨d, e, hd, hw⟩ := chN_some (cs := cs) (fitN_some hb hf)
  obtain ⟨h1, h2, h3, h4⟩ := fitN_mem hd
  exact ⟨d, e, ⟨h1, h2, hd, fun i hi => ⟨(fitN_mem hi).1, by rw [(fitN_mem hi).2.2.2, h4], hw i hi⟩, h3⟩⟩
theorem plain_none {n : Int} {l : List Bk} (h : anyF n l = false) : fitN n l = [] := fitN_none fun b hb => by
  cases hf : fitB n b
  · rfl
  · rw [anyF, List.any_eq_true.2 ⟨b, hb, hf⟩] at h; cases h

set_option maxHeartbeats 2000000 in
theorem near (l : List Bk) (cs : List Int) (p q : Option Addr) (cp cq : Nat) (a1 : Int) (w : World) (hv : RA blkE w (.slice p l.length cp) l) (hu : RI w (.slice q cs.length cq) cs) (h : l.length ≤ 300) (h2 : cs.length ≤ 100) :
    Calls Try.prog 3 #[.slice p l.length cp, .int .i64 a1, .slice q cs.length cq] w fun e w' => e = .returned (.bool true) ∧ Below w.heap.size w w' := by
  obtain ⟨x, hx, _⟩ := u64_nat a1
  have t1 : (x : Int).tmod 60 = ((x % 60 : Nat) : Int) := tmod_nat x 60
  obtain ⟨p1, hp⟩ : ∃ p, x % 60 = p := ⟨_, rfl⟩
  rw [hp] at t1
  have t3 : IntKind.i64.wrap (p1 : Int) = p1 := i64_nat _ (by omega)
  obtain ⟨n, hn⟩ : ∃ n, 2 + p1 = n := ⟨_, rfl⟩
  have t5 : IntKind.i64.wrap (2 + (p1 : Int)) = (n : Int) := by rw [show 2 + (p1 : Int) = (n : Int) by omega]; exact i64_nat _ (by omega)
  have HN2 : Hid (2 ≤ n) := Lib.hid (by omega)
  obtain ⟨rr, hrr⟩ : ∃ r, chN n cs l = r := ⟨_, rfl⟩
  have C1 := Lib.hid (choose_is n cs l _ _ rr w hv hu (by omega) hrr)
  have C2 := Lib.hid (fun w' (hb : Below w.heap.size w w') => fits_is n l _ w' (ra_below hv hb) (by omega))
  have HV := Lib.hid hv
  have HU := Lib.hid hu
  have i1 : ¬ (l.length : Int) > 300 := by omega
  have i2 : ¬ (cs.length : Int) > 100 := by omega
  have HL := Lib.hid h
  have HRR := Lib.hid hrr
  clear hv hu h h2 hrr hp hn
  go_enter Try.func3, Try.ntmps3
  go_wp2_with fail
  refine (C1.out).mono ?_; rintro e w1 ⟨rfl, b1⟩
  have D1 := Lib.hid b1
  clear b1 C1 t1 t3 t5 hx
  go_wp2
  go_loopw [8, 36] (fun z i wr => ∃ (k : Nat) (s : Bool), k ≤ l.length ∧ i = .int .i64 k ∧ z = .bool s ∧ Hid ((s || anyF n (l.drop k)) = anyF n l ∧ Below w.heap.size w wr)) (fun _ i _ => l.length - (intOf i).toNat)
  case atStart => exact ⟨0, false, Nat.zero_le _, rfl, rfl, Lib.hid ⟨rfl, D1.out⟩⟩
  case round =>
    obtain ⟨k, sm, hk, rfl, rfl, H⟩ := hrel
    by_cases hlt : k < l.length
    · obtain ⟨b, off, rfl, hb, hx⟩ := blk_at (ra_below HV.out H.out.2) (by omega)
      obtain ⟨hld, _, _, _, hwf⟩ := hx k hlt
      have hF := H.out.1
      rw [getD_cut hlt, anyF_cons, ← Bool.or_assoc] at hF
      generalize l.getD k default = y at *
      obtain ⟨a, s, u⟩ := y
      obtain ⟨W, hW, HW⟩ := blk_boxed wr ⟨a, s, u⟩
      have c1 : W.cell? ⟨wr.heap.size, 1, none⟩ = some (.int .i64 s) := HW.out.1.c1
      have c2 : W.cell? ⟨wr.heap.size, 2, none⟩ = some (.bool u) := HW.out.1.c2
      have HB := Lib.hid (below_more H.out.2 HW.out.2)
      have i0 : (0 : Int) ≤ (k : Int) := by omega
      have i1 : (k : Int) < (l.length : Int) := by omega
      have i2 : ¬ (k : Int) < 0 := by omega
      have i3 : IntKind.i64.wrap ((k : Int) + 1) = ((k + 1 : Nat) : Int) := by rw [show (k : Int) + 1 = ((k + 1 : Nat) : Int) by omega]; exact i64_nat _ (by have := HL.out; omega)
      have HK := Lib.hid hlt
      clear hx hk hb hwf
      obtain ⟨f, hf⟩ : ∃ f, fitB n ⟨a, s, u⟩ = f := ⟨_, rfl⟩
      rw [hf] at hF
      have HF := Lib.hid hF
      clear hF
      cases sm with
      | true =>
        clear hf
        go_wp2
        go_roundw
        case rel => exact ⟨k + 1, true, by have := HK.out; omega, by go_num, rfl, Lib.hid ⟨HF.out, HB.out⟩⟩
        case measure => have := HK.out; simp [intOf]; omega
      | false =>
        cases u with
        | true =>
          obtain rfl : false = f := by rw [← hf]; simp [fitB]
          clear hf
          go_wp2
          go_roundw
          case rel => exact ⟨k + 1, false, by have := HK.out; omega, by go_num, rfl, Lib.hid ⟨HF.out, HB.out⟩⟩
          case measure => have := HK.out; simp [intOf]; omega
        | false =>
          by_cases hs : s ≥ (n : Int)
          · obtain rfl : true = f := by rw [← hf]; exact (fitB_iff.2 ⟨rfl, by have := HN2.out; omega, hs⟩).symm
            clear hf
            go_wp2
            go_roundw
            case rel => exact ⟨k + 1, true, by have := HK.out; omega, by go_num, rfl, Lib.hid ⟨HF.out, HB.out⟩⟩
            case measure => have := HK.out; simp [intOf]; omega
          · obtain rfl : false = f := by
              rw [← hf]
              cases hq : fitB n ⟨a, s, false⟩
              · rfl
              · exact absurd (fitB_iff.1 hq).2.2 hs
            clear hf
            go_wp2
            go_roundw
            case rel => exact ⟨k + 1, false, by have := HK.out; omega, by go_num, rfl, Lib.hid ⟨HF.out, HB.out⟩⟩
            case measure => have := HK.out; simp [intOf]; omega
    · obtain rfl : k = l.length := by omega
      have hF := H.out.1
      rw [List.drop_length, show anyF n [] = false from rfl, Bool.or_false] at hF
      have D2 := Lib.hid H.out.2
      cases sm with
      | false =>
        have hnone := plain_none hF.symm
        have hrr := HRR.out
        rw [chN_none hnone] at hrr
        subst hrr
        rw [hnone] at C2
        simp only [oi]
        clear hF H hk i1 i2
        generalize l.length = L at *
        go_wp2_with fail
        refine (C2.out _ D2.out).mono ?_; rintro e w3 ⟨⟨v3, rfl, o3⟩, b3⟩
        obtain ⟨p3, c3, rfl⟩ := o3.shape
        have D3 := Lib.hid (below_more D2.out b3)
        clear b3 o3
        go_wp2_with fail
        refine (awake_any _).mono ?_; rintro e w4 ⟨rfl, b4⟩
        have D4 := Lib.hid (below_more D3.out b4)
        clear b4
        go_wp2_with fail
        go_ret
        exact ⟨rfl, D4.out⟩
      | true =>
        obtain ⟨d, hd, HBs⟩ := plain_some (cs := cs) hF.symm
        have hrr := HRR.out
        rw [hd] at hrr
        subst hrr
        have BST := Lib.hid HBs
        have hdl := HBs.lt
        obtain ⟨b, off, rfl, _, _⟩ := blk_at HV.out (by omega)
        have HX : Hid (∀ w', Below w.heap.size w w' → ∀ j, j < l.length → w'.cell? ⟨b, off + j * 3, none⟩ = some (.int .i64 (l.getD j default).a) ∧ w'.cell? ⟨b, off + j * 3 + 1, none⟩ = some (.int .i64 (l.getD j default).s) ∧ w'.cell? ⟨b, off + j * 3 + 2, none⟩ = some (.bool (l.getD j default).u) ∧ (l.getD j default).Wf) := Lib.hid fun w' hb j hj => by
          obtain ⟨_, _, e, _, hx⟩ := blk_at (ra_below HV.out hb) (by omega)
          cases e
          exact (hx j hj).2
        obtain ⟨hdu, _, hds⟩ := fitB_iff.1 HBs.fit
        have HWD := Lib.hid (HX.out wr D2.out d hdl).2.2.2.wa
        obtain ⟨_, c1, c2, _⟩ := HX.out wr D2.out d hdl
        rw [hdu] at c2
        obtain ⟨ad, had⟩ : ∃ a, (l.getD d default).a = a := ⟨_, rfl⟩
        obtain ⟨sd, hsd⟩ : ∃ s, (l.getD d default).s = s := ⟨_, rfl⟩
        rw [hsd] at c1 hds
        rw [had] at HWD
        have q1 : ¬ (d : Int) < 0 := by omega
        have q2 : ¬ (d : Int) ≥ (l.length : Int) := by omega
        have q3 : (d : Int) < (l.length : Int) := by omega
        have q4 : (0 : Int) ≤ (d : Int) := by omega
        have q5 : ¬ sd < (n : Int) := by omega
        have HED := Lib.hid (And.intro had hsd)
        have HDL := Lib.hid hdl
        simp only [oi]
        have HV0 := Lib.hid HV.out
        clear hF H hk i1 i2 hd HBs had hsd hds hdu hdl HV
        go_wp2_with fail
        refine (C2.out _ D2.out).mono ?_; rintro e w3 ⟨⟨v3, rfl, o3⟩, b3⟩
        have D3 := Lib.hid (below_more D2.out b3)
        have R3 := Lib.hid o3.ri
        obtain ⟨p3, c3, rfl⟩ := o3.shape
        have HFL : Hid ((fitN n l).length ≤ 9223372036854775807) := Lib.hid (by
          obtain ⟨_, _, _, h1, h2, _⟩ := o3.ri
          rw [ins_length] at h1
          unfold maxLen at h2
          omega)
        have HAL := Lib.hid BST.out.all
        have HME := Lib.hid BST.out.mem
        have HLO := Lib.hid BST.out.low
        rw [ins_length] at R3 ⊢
        generalize fitN n l = F at *
        clear b3 o3 c1 c2 C2 BST
        go_wp2
        go_loopw [11, 95] (fun z i wr => ∃ (k : Nat) (s : Bool), k ≤ F.length ∧ i = .int .i64 k ∧ z = .bool s ∧ Hid ((s = true ∨ d ∈ F.drop k) ∧ Below w3.heap.size w3 wr)) (fun _ i _ => F.length - (intOf i).toNat)
        case atStart => exact ⟨0, false, Nat.zero_le _, rfl, rfl, Lib.hid ⟨.inr HME.out, Below.refl _ _⟩⟩
        case round =>
          obtain ⟨k, inn, hk, rfl, rfl, H⟩ := hrel
          by_cases hlt : k < F.length
          · obtain ⟨bf, of, rfl, _, hfr⟩ := ri_some (ri_below R3.out H.out.2) (by rw [ins_length]; omega)
            have cf1 := hfr k (by rw [ins_length]; exact hlt)
            rw [ins_getD hlt] at cf1
            obtain ⟨hil, his, hiw⟩ := HAL.out _ (getD_mem_n hlt)
            have i0 : (0 : Int) ≤ (k : Int) := by omega
            have i1 : (k : Int) < (F.length : Int) := by omega
            have i2 : ¬ (k : Int) < 0 := by omega
            have i3 : IntKind.i64.wrap ((k : Int) + 1) = ((k + 1 : Nat) : Int) := by rw [show (k : Int) + 1 = ((k + 1 : Nat) : Int) by omega]; exact i64_nat _ (by have := HFL.out; omega)
            have HK := Lib.hid hlt
            obtain ⟨jn, hjn⟩ : ∃ j, (inn || decide (F.getD k 0 = d)) = j := ⟨_, rfl⟩
            have HN : Hid (jn = true ∨ d ∈ F.drop (k + 1)) := Lib.hid (by
              rcases H.out.1 with h | h
              · left; rw [← hjn, h]; rfl
              · rw [getD_cut_n hlt] at h
                rcases List.mem_cons.1 h with h | h
                · left; rw [← hjn, decide_eq_true h.symm, Bool.or_true]
                · exact .inr h)
            generalize F.getD k 0 = I at *
            have hje : inn = true ∧ jn = true ∨ inn = false ∧ ((I : Int) == (d : Int)) = jn := by
              cases inn
              · right
                refine ⟨rfl, ?_⟩
                rw [← hjn, Bool.false_or]
                by_cases h : I = d
                · rw [h]; simp
                · rw [decide_eq_false h]; exact beq_eq_false_iff_ne.2 (by omega)
              · exact .inl ⟨rfl, by rw [← hjn]; rfl⟩
            have q6 : ¬ (I : Int) < 0 := by omega
            have q7 : ¬ (I : Int) ≥ (l.length : Int) := by omega
            have q8 : (I : Int) < (l.length : Int) := by omega
            have q7b : ¬ (l.length : Int) ≤ (I : Int) := by omega
            have q7c : ¬ l.length ≤ I := by omega
            have q7d : I < l.length := hil
            have q9 : (0 : Int) ≤ (I : Int) := by omega
            have HB := Lib.hid (below_more D3.out H.out.2)
            have HXI := Lib.hid (fun m => HX.out (wr.drewN m) (below_drewN HB.out m) I hil)
            have HXD := Lib.hid (fun m => HX.out (wr.drewN m) (below_drewN HB.out m) d HDL.out)
            have hwi : (Lit.int .i64 (l.getD I default).a).wf = true := (HXI.out 0).2.2.2.wa
            have hwd := HWD.out
            rw [his, HED.out.2] at HXI
            rw [HED.out.1, HED.out.2] at HXD
            rw [HED.out.1] at hiw
            have PG := Lib.hid (fun m => pgn_q (ri_below HU.out (below_drewN HB.out m)))
            have e1 : ∀ m, (wr.drewN m).cell? ⟨b, off + I * 3 + 1, none⟩ = some (.int .i64 sd) := fun m => (HXI.out m).2.1
            have e2 : ∀ m, (wr.drewN m).cell? ⟨b, off + d * 3 + 1, none⟩ = some (.int .i64 sd) := fun m => (HXD.out m).2.1
            have HE3 : Hid (∀ m m', ((wr.drewN m).drewN m').cell? ⟨b, off + I * 3, none⟩ = some (.int .i64 (l.getD I default).a)) := Lib.hid fun m m' => by rw [World.drewN_drewN]; exact (HXI.out _).1
            have HE4 : Hid (∀ m m', ((wr.drewN m).drewN m').cell? ⟨b, off + d * 3, none⟩ = some (.int .i64 ad)) := Lib.hid fun m m' => by rw [World.drewN_drewN]; exact (HXD.out _).1
            generalize (l.getD I default).a = ai at *
            obtain ⟨x1, hx1⟩ : ∃ x, wrN cs ai = x := ⟨_, rfl⟩
            obtain ⟨x2, hx2⟩ : ∃ x, wrN cs ad = x := ⟨_, rfl⟩
            rw [hx1, hx2] at hiw
            have qa : ¬ x1 < x2 := by omega
            clear hfr hk hil his hjn HXI HXD hiw
            go_wp2_with fail
            go_quiet (fail)
            have e3 := HE3.out nq
            have e4 := HE4.out nq
            have PG2 := Lib.hid (PG.out nq)
            have HB2 : Hid (∀ m, Below w3.heap.size w3 ((wr.drewN nq).drewN m)) := Lib.hid fun m => below_drewN (below_drewN H.out.2 nq) m
            clear e1 e2 HE3 HE4 PG
            generalize wr.drewN nq = V at *
            rcases hje with ⟨rfl, rfl⟩ | ⟨rfl, hje⟩
            · go_wp2_with fail
              go_quiet (refine Calls.quiet_of (PG2.out _ _ _ (by assumption) (by assumption)))
              go_wp2
              go_roundw
              case rel => exact ⟨k + 1, true, by have := HK.out; omega, by go_num, rfl, Lib.hid ⟨.inl rfl, HB2.out _⟩⟩
              case measure => have := HK.out; simp [intOf]; omega
            · go_wp2_with fail
              go_quiet (refine Calls.quiet_of (PG2.out _ _ _ (by assumption) (by assumption)))
              go_wp2
              go_roundw
              case rel => exact ⟨k + 1, jn, by have := HK.out; omega, by go_num, rfl, Lib.hid ⟨HN.out, HB2.out _⟩⟩
              case measure => have := HK.out; simp [intOf]; omega
          · obtain rfl : k = F.length := by omega
            obtain rfl : inn = true := by
              rcases H.out.1 with h | h
              · exact h
              · rw [List.drop_length] at h; cases h
            have D4 := Lib.hid (below_more D3.out H.out.2)
            have HVX := Lib.hid HV0.out
            clear H hk
            go_wp2
            go_loopw [144] (fun i wr => ∃ k : Nat, k ≤ l.length ∧ i = .int .i64 k ∧ Hid (Below w.heap.size w wr)) (fun i _ => l.length - (intOf i).toNat)
            case atStart => exact ⟨0, Nat.zero_le _, rfl, Lib.hid D4.out⟩
            case round =>
              obtain ⟨k, hk, rfl, H⟩ := hrel
              by_cases hlt : k < l.length
              · obtain ⟨_, _, e, hb, hx⟩ := blk_at (ra_below HVX.out H.out) (by omega)
                cases e
                obtain ⟨hld, _, _, _, hwf⟩ := hx k hlt
                have hlow := HLO.out (l.getD k default) (by rw [List.getD_eq_getElem?_getD, List.getElem?_eq_getElem hlt]; exact List.getElem_mem hlt)
                rw [HED.out.2] at hlow
                generalize l.getD k default = y at *
                obtain ⟨a, s, u⟩ := y
                obtain ⟨W, hW, HW⟩ := blk_boxed wr ⟨a, s, u⟩
                have c1 : ∀ m, (W.drewN m).cell? ⟨wr.heap.size, 1, none⟩ = some (.int .i64 s) := fun m => HW.out.1.c1
                have c2 : ∀ m, (W.drewN m).cell? ⟨wr.heap.size, 2, none⟩ = some (.bool u) := fun m => HW.out.1.c2
                have HB := Lib.hid (below_more H.out HW.out.2)
                have c3 : ∀ m, (W.drewN m).cell? ⟨b, off + d * 3 + 1, none⟩ = some (.int .i64 sd) := fun m => by
                  have := (HX.out (W.drewN m) (below_drewN HB.out m) d HDL.out).2.1
                  rwa [HED.out.2] at this
                have HBN : Hid (∀ m, Below w.heap.size w (W.drewN m)) := Lib.hid (below_drewN HB.out)
                have i0 : (0 : Int) ≤ (k : Int) := by omega
                have i1 : (k : Int) < (l.length : Int) := by omega
                have i2 : ¬ (k : Int) < 0 := by omega
                have i3 : IntKind.i64.wrap ((k : Int) + 1) = ((k + 1 : Nat) : Int) := by rw [show (k : Int) + 1 = ((k + 1 : Nat) : Int) by omega]; exact i64_nat _ (by have := HL.out; omega)
                have HK := Lib.hid hlt
                clear hx hk hb hwf
                have hcase : u = true ∨ u = false ∧ (decide (s ≥ (n : Int)) = false ∧ decide ((n : Int) ≤ s) = false) ∨ u = false ∧ (s ≥ (n : Int) ∧ (n : Int) ≤ s) ∧ ¬ s < sd ∧ ¬ sd > s := by
                  cases u
                  · right
                    by_cases hs : s ≥ (n : Int)
                    · have := hlow (fitB_iff.2 ⟨rfl, by have := HN2.out; omega, hs⟩)
                      exact .inr ⟨rfl, ⟨hs, hs⟩, by simp only at this; omega⟩
                    · exact .inl ⟨rfl, decide_eq_false hs, decide_eq_false hs⟩
                  · exact .inl rfl
                clear hlow
                rcases hcase with rfl | ⟨rfl, hs, hs1⟩ | ⟨rfl, ⟨hs, hs1⟩, hs2, hs3⟩
                all_goals
                  go_wp2_with fail
                  go_quiet (fail)
                  go_wp2
                  go_roundw
                  case rel => exact ⟨k + 1, by have := HK.out; omega, by go_num, Lib.hid (HBN.out _)⟩
                  case measure => have := HK.out; simp [intOf]; omega
              · obtain rfl : k = l.length := by omega
                go_wp2_with fail
                refine (awake_any _).mono ?_; rintro e w4 ⟨rfl, b4⟩
                have D5 := Lib.hid (below_more H.out b4)
                clear b4
                go_wp2_with fail
                go_ret
                exact ⟨rfl, D5.out⟩

theorem walk (l0 : List Bk) (v0 : Value) (a1 : Int) (l2 : List Int) (v2 : Value) (w : World) (h0 : RA blkE w v0 l0) (_ : (Lit.int .i64 a1).wf = true) (h2 : IntsIn .i64 w v2 l2) :
    Calls Try.prog 3 #[v0, .int .i64 a1, v2] w fun e w' => e = .returned (.bool true) ∧ Below w.heap.size w w' := by
  obtain ⟨p, c, rfl, _⟩ := ra_shape h0
  have h2 := ri_in h2
  obtain ⟨q, c2, rfl, _⟩ := id h2
  by_cases h : 300 < l0.length ∨ 100 < l2.length
  · exact far l0 l2 p q c c2 a1 w h
  · exact near l0 l2 p q c c2 a1 w h0 h2 (by omega) (by omega)

set_option maxRecDepth 100000 in
theorem lifted (os : Os) (started : os.Started) (H : Type) (enc : TypeId × Value → H) :
    ReturnsInHanded {} Try.checked os 3 .any (Rows.fitBestSpec.pre6 enc Try.prog Try.f3 Rows.fitBestRow.domain false) (Rows.fitBestSpec.post enc Try.prog Try.f3 false true false false) := by
  refine returnsInHanded_of_change (C := Try.checked) own started (by kernel_rfl) Try.func3
    (ChangeSpec.witness6 (enc := enc) (C := Try.checked) false ⟨#[], #[.slice none 0 0, .int .i64 0, .slice none 0 0], []⟩ 8 (by kernel_rfl) (by kernel_rfl) (by kernel_rfl) (by kernel_rfl)) ?_
  intro W base args ds gs before hval0 hW hcnd _
  have hval : ∀ (j : Nat) t v, Try.f3.params[j]? = some t → args[j]? = some v → Value.okWide Try.prog W .any base t v := hval0
  have hW' := hW
  have hlt := hW.lt
  obtain ⟨p, q, hA0, hV, hpq, hfz, hnd⟩ := hW
  have hA : DataW.TrodAll enc Try.prog W 0 (fun _ => true) true Try.f3.params.toList args.toList ds p := hA0
  rw [Try.params3] at hA hval
  obtain ⟨v0, vs0, d0, ds0, p0, q0, hargs, rfl, hp, h0, r0⟩ := trodAll_cons hA
  obtain ⟨v1, vs1, d1, ds1, p1, q1, rfl, rfl, rfl, h1, r1⟩ := trodAll_cons r0
  obtain ⟨v2, vs2, d2, ds2, p2, q2, rfl, rfl, rfl, h2, r2⟩ := trodAll_cons r1
  obtain ⟨rfl, rfl, rfl⟩ := trodAll_nil r2
  obtain rfl : args = #[v0, v1, v2] := by cases args; simp_all
  obtain ⟨rfl, rfl⟩ := trodVars_none hV
  have hlt' : ∀ x ∈ before, x.block < W.heap.size := fun x hx => hlt x hx
  obtain ⟨l0, w0⟩ := blocks_in (hval 0 22 v0 rfl rfl) h0
  obtain ⟨a1, rfl, rfl, rfl, w1⟩ := open_int Try.underlying3 (hval 1 3 v1 rfl rfl) h1
  obtain ⟨l2, w2⟩ := ints_in Try.underlying23 Try.underlying3 (by kernel_rfl) (hval 2 23 v2 rfl rfl) (fun x hx => hlt' x (by rw [hpq, hp]; simp [hx])) h2
  refine (walk l0 v0 a1 l2 v2 W w0 w1 w2).mono fun e W' ⟨he, hb⟩ => ?_
  subst he
  exact ⟨_, rfl, law_post rfl (by kernel_rfl) hW' (by rw [Try.params3]; intro t ht; simp only [List.mem_cons, List.not_mem_nil, or_false] at ht; (repeat' (first | (rcases ht with rfl | ht) | subst ht)) <;> exact ⟨by kernel_rfl, of_decide_eq_true (by kernel_rfl)⟩) rfl hb⟩

theorem over : Rows.fitBestRow.holds Try.pinned (OpenSpec.ofChange Rows.fitBestSpec) :=
  OpenClaim.holds_of_wide 3 Try.f3 rfl rfl rfl rfl rfl rfl rfl ⟨rfl, rfl, rfl, rfl, rfl⟩ rfl rfl rfl rfl rfl (by kernel_rfl) Try.func3 (by kernel_rfl)
    (of_decide_eq_true (by kernel_rfl)) (by unfold Func.isWrapper; first | (rw [if_pos (by decide +kernel)]; kernel_rfl) | (rw [if_neg (by decide +kernel)]; exact ⟨rfl, rfl⟩))
    (fun os started H enc _ => lifted os started H enc)

theorem proved : Rows.FitBestSaid := over
end Go.Proofs.Ytnhhdkdjejfcjaa.fitBest
