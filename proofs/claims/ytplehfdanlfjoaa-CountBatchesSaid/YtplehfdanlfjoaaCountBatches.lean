/-
  Of one page, each batch-th note is kept, whatever is noted of others. No conditions.
-/
import Derived.Test.YtplehfdanlfjoaaCnw
namespace Go.Proofs.Ytplehfdanlfjoaa.countBatches
open Go.Proofs.Ytplehfdanlfjoaa Go.ChangeShapes Go.WideShapes Go.ChangeAt Go.RowKit

/-- behind i notes of page 0 -/
structure St (b i : Nat) (s : Ct) : Prop where
  ok : s.Ok
  nn : s.n = 2
  bb : s.b = b
  c0 : s.c 0 = i
  k0 : s.k 0 + i % b = i
  c1 : s.c 1 ≤ 7 + i
theorem St.first {b : Nat} (h1 : 1 ≤ b) (h2 : b ≤ 100) : St b 0 (cnew b 2 [0, 7] 2) :=
  ⟨cnew_ok (l := [0, 7]) h1 h2 (by decide) 2, rfl, rfl, rfl, by rw [Nat.zero_mod]; rfl, Nat.le_refl _⟩
theorem St.other {b i : Nat} {s : Ct} (h : St b i s) : (s.note 1).Ok ∧ (s.note 1).n = 2 ∧ (s.note 1).b = b ∧ (s.note 1).c 0 = i ∧ (s.note 1).k 0 + i % b = i ∧ (s.note 1).c 1 ≤ 7 + i + 1 := by
  refine ⟨h.ok.note (by rw [h.nn]; decide), ?_, ?_, ?_, ?_, ?_⟩ <;> unfold Ct.note <;> split
  · exact h.nn
  · exact h.nn
  · exact h.bb
  · exact h.bb
  · exact h.c0
  · exact h.c0
  · exact h.k0
  · exact h.k0
  · have := h.c1; simp [Ct.up, Ct.kept, at1]; omega
  · have := h.c1; simp [Ct.up, at1]; omega
theorem mod_next {b i : Nat} (h1 : 1 ≤ b) : (i + 1) % b = if i % b + 1 = b then 0 else i % b + 1 := by
  have hlt : i % b < b := Nat.mod_lt _ (by omega)
  rw [Nat.add_mod]
  split
  · rename_i h
    by_cases hb : b = 1
    · subst hb; omega
    · rw [Nat.mod_eq_of_lt (a := 1) (by omega), h, Nat.mod_self]
  · rename_i h
    rw [Nat.mod_eq_of_lt (a := 1) (by omega), Nat.mod_eq_of_lt (by omega)]
/-- a note of page 0 -/
theorem St.next {b i : Nat} {s : Ct} (ok : s.Ok) (n : s.n = 2) (hb : s.b = b) (c0 : s.c 0 = i) (k0 : s.k 0 + i % b = i) (c1 : s.c 1 ≤ 7 + i + 1) (h1 : 1 ≤ b) :
    St b (i + 1) (s.note 0) ∧ s.due 0 = decide ((i + 1) % b = 0) ∧ (s.note 0).lag 0 = (i + 1) % b := by
  have hlt : i % b < b := Nat.mod_lt _ (by omega)
  have hm := mod_next (i := i) h1
  by_cases d : i % b + 1 = b
  · rw [if_pos d] at hm
    have hd : s.due 0 = true := by unfold Ct.due; rw [hb, c0]; simp; omega
    have e : s.note 0 = (s.up 0).kept 0 := by unfold Ct.note; rw [hd]; rfl
    rw [hm]
    refine ⟨⟨ok.note (by rw [n]; decide), by rw [e]; exact n, by rw [e]; exact hb, ?_, ?_, ?_⟩, by rw [hd]; rfl, ?_⟩ <;> rw [e]
    · simp [Ct.up, Ct.kept, at1, c0]
    · rw [hm]; simp [Ct.up, Ct.kept, at1, c0]
    · simp [Ct.up, Ct.kept, at1]; omega
    · simp [Ct.lag, Ct.up, Ct.kept, at1]
  · rw [if_neg d] at hm
    have hd : s.due 0 = false := by unfold Ct.due; rw [hb, c0]; simp; omega
    have e : s.note 0 = s.up 0 := by unfold Ct.note; rw [hd]; rfl
    rw [hm]
    refine ⟨⟨ok.note (by rw [n]; decide), by rw [e]; exact n, by rw [e]; exact hb, ?_, ?_, ?_⟩, by rw [hd]; simp, ?_⟩ <;> rw [e]
    · simp [Ct.up, at1, c0]
    · rw [hm]; simp only [Ct.up]; omega
    · simp [Ct.up, at1]; omega
    · simp [Ct.lag, Ct.up, at1]; omega

theorem long (a0 a1 : Int) (p : Option Addr) (n c : Nat) (w : World) (h : 50 < n) :
    Calls Try.prog 5 #[.int .i64 a0, .int .i64 a1, .slice p n c] w fun e w' => e = .returned (.bool true) ∧ Below w.heap.size w w' := by
  obtain ⟨u, hu, _⟩ := u64_nat a0
  obtain ⟨y, hy⟩ : ∃ y, y = u % 100 := ⟨_, rfl⟩
  have t1 : (u : Int).tmod 100 = (y : Int) := by rw [hy]; exact tmod_nat u 100
  have k0 : IntKind.i64.wrap (y : Int) = y := i64_nat _ (by omega)
  have k1 : IntKind.i64.wrap (1 + (y : Int)) = ((1 + y : Nat) : Int) := by rw [show 1 + (y : Int) = ((1 + y : Nat) : Int) by omega]; exact i64_nat _ (by omega)
  obtain ⟨v, hv, _⟩ := u64_nat a1
  obtain ⟨m, hm⟩ : ∃ m, m = v % 300 := ⟨_, rfl⟩
  have t2 : (v : Int).tmod 300 = (m : Int) := by rw [hm]; exact tmod_nat v 300
  have k2 : IntKind.i64.wrap (m : Int) = m := i64_nat _ (by omega)
  have i1 : (n : Int) > 50 := by omega
  clear hy hm
  go_enter Try.func5, Try.ntmps5
  go_wp2_with fail
  refine (awake_any _).mono ?_; rintro e w' ⟨rfl, hb⟩
  go_wp2_with fail
  go_ret
  exact ⟨rfl, hb⟩

set_option maxHeartbeats 2000000 in
theorem short (a0 a1 : Int) (p : Option Addr) (l : List Int) (c : Nat) (w : World) (hr : RI w (.slice p l.length c) l) (h : l.length ≤ 50) :
    Calls Try.prog 5 #[.int .i64 a0, .int .i64 a1, .slice p l.length c] w fun e w' => e = .returned (.bool true) ∧ Below w.heap.size w w' := by
  obtain ⟨u, hu, _⟩ := u64_nat a0
  obtain ⟨y, hy⟩ : ∃ y, y = u % 100 := ⟨_, rfl⟩
  have t1 : (u : Int).tmod 100 = (y : Int) := by rw [hy]; exact tmod_nat u 100
  have k0 : IntKind.i64.wrap (y : Int) = y := i64_nat _ (by omega)
  obtain ⟨b, hb⟩ : ∃ b : Nat, b = 1 + y := ⟨_, rfl⟩
  have k1 : IntKind.i64.wrap (1 + (y : Int)) = (b : Int) := by rw [show 1 + (y : Int) = (b : Int) by omega]; exact i64_nat _ (by omega)
  obtain ⟨v, hv, _⟩ := u64_nat a1
  obtain ⟨m, hm⟩ : ∃ m, m = v % 300 := ⟨_, rfl⟩
  have t2 : (v : Int).tmod 300 = (m : Int) := by rw [hm]; exact tmod_nat v 300
  have k2 : IntKind.i64.wrap (m : Int) = m := i64_nat _ (by omega)
  have i1 : ¬ (l.length : Int) > 50 := by omega
  have HB : Hid (1 ≤ b ∧ b ≤ 100) := Lib.hid (by omega)
  have HM : Hid (m < 300) := Lib.hid (by omega)
  have HR := Lib.hid hr
  obtain ⟨L, hL⟩ : ∃ L, l.length = L := ⟨_, rfl⟩
  rw [hL] at HR i1 ⊢
  have HL : Hid (l.length = L ∧ L ≤ 50) := Lib.hid ⟨hL, by omega⟩
  have R0 := (own_lit w [0, 7] (by unfold maxLen; decide)).ri
  have R := Lib.hid R0
  have B0 := Lib.hid (bal (o := .cells (([0, 7] : List Int).map iv).toArray 3) (Below.refl w.heap.size w))
  clear hy hb hm hr h hL R0
  go_enter Try.func5, Try.ntmps5
  go_wp2_with fail
  refine (cnew_yes b _ [0, 7] _ R.out HB.out.1 HB.out.2 (by decide)).mono ?_; rintro e w1 ⟨x, g, rfl, hx, hg, hQ, hbb⟩
  have Q0 := Lib.hid hQ
  have B1 := Lib.hid (below_more B0.out hbb)
  have G : Hid (∀ k ∈ [g], w.heap.size ≤ k) := Lib.hid (fun k hk => by rw [List.mem_singleton.1 hk]; exact Nat.le_trans B0.out.size hg)
  clear hQ hbb hx hg R B0
  go_wp2
  go_loopw [8, 9, 10, 30] (fun _ _ _ i wr => ∃ k : Nat, k ≤ m ∧ i = .int .i64 k ∧ Hid (∃ s, Cq wr x g s ∧ St b k s ∧ Below w.heap.size w wr)) (fun _ _ _ i _ => m - (intOf i).toNat)
  case atStart => exact ⟨0, Nat.zero_le _, rfl, Lib.hid ⟨_, Q0.out, St.first HB.out.1 HB.out.2, B1.out⟩⟩
  case round =>
    obtain ⟨k, hk, rfl, H⟩ := hrel
    clear Q0 B1
    by_cases hlt : k < m
    · obtain ⟨K, hK⟩ : ∃ K, k + 1 = K := ⟨_, rfl⟩
      have j0 : IntKind.i64.wrap ((k : Int) + 1) = (K : Int) := by rw [show (k : Int) + 1 = (K : Int) by omega]; exact i64_nat _ (by have := HM.out; omega)
      have j1 : (K : Int).tmod (b : Int) = ((K % b : Nat) : Int) := tmod_nat _ _
      obtain ⟨r, hrr⟩ : ∃ r, K % b = r := ⟨_, rfl⟩
      rw [hrr] at j1
      have j2 : IntKind.i64.wrap (r : Int) = (r : Int) := by rw [← hrr]; exact i64_nat _ (by have := Nat.mod_le K b; have := HM.out; omega)
      have j3 : ¬ (b : Int) = 0 := by have := HB.out; omega
      have j4 : ¬ b = 0 := by have := HB.out; omega
      obtain ⟨s, hQ, hS, hBl⟩ := H.out
      obtain ⟨D, hD⟩ : ∃ D : Bool, decide (r = 0) = D := ⟨_, rfl⟩
      have hgo : ∀ (s : Ct) (wx : World), Cq wx x g s → s.Ok → s.n = 2 → s.b = b → s.c 0 = k → s.k 0 + k % b = k → s.c 1 ≤ 7 + k + 1 → Chg [g] wr wx →
          Calls Try.prog 9 #[.pointer (some ⟨x, 0, none⟩), .int .i64 0] wx fun e w' => e = .returned (.tuple #[.int .i64 (K : Int), .bool D]) ∧ ∃ s', Cq w' x g s' ∧ St b K s' ∧ s'.lag 0 = r ∧ Below w.heap.size w w' := by
        intro s wx hQ h1 h2 h3 h4 h5 h6 hC
        obtain ⟨n1, n2, n3⟩ := St.next h1 h2 h3 h4 h5 h6 HB.out.1
        refine (cnote_is (p := 0) (a := (K : Int)) (d := D) (by rw [h4, hK]) (by rw [n2, hK, hrr, hD]) rfl hQ h1 (by rw [h2]; decide) (by rw [h4]; have := HM.out; omega)).mono ?_
        rintro e w' ⟨rfl, q, c⟩
        exact ⟨rfl, _, q, hK ▸ n1, by rw [n3, hK, hrr], (hC.trans c).below hBl hBl.size G.out⟩
      have GO := Lib.hid hgo
      have hLL := fun (w' : World) (s : Ct) (q : Cq w' x g s) (h : St b K s) (e : s.lag 0 = r) => clag_is (p := 0) (a := (r : Int)) (by rw [e]) q h.ok (by rw [h.nn]; decide)
      have GL := Lib.hid hLL
      have HQ := Lib.hid hQ
      have HS := Lib.hid hS
      have HBl := Lib.hid hBl
      have HK := Lib.hid hK
      have q1 : ((r : Int) == 0) = D := by rw [← hD]; by_cases h : r = 0 <;> simp [h]
      clear hgo hLL hQ hS hBl hD hrr H hK
      by_cases hL : 0 < L
      · obtain ⟨o, off, rfl, ho, hc⟩ := ri_some HR.out (by rw [HL.out.1]; exact hL)
        have c0 : wr.cell? ⟨o, off + k % L, none⟩ = some (.int .i64 (l.getD (k % L) 0)) := (HBl.out.cell (p := ⟨o, off + k % L, none⟩) ho).trans (hc _ (by rw [HL.out.1]; exact Nat.mod_lt _ hL))
        have l1 : (L : Int) > 0 := by omega
        have l2 : ¬ (L : Int) = 0 := by omega
        have l3 : ¬ L = 0 := by omega
        have l4 : (k : Int).tmod (L : Int) = ((k % L : Nat) : Int) := tmod_nat _ _
        have l5 : IntKind.i64.wrap ((k % L : Nat) : Int) = ((k % L : Nat) : Int) := i64_nat _ (by have := Nat.mod_le k L; have := HM.out; omega)
        have l6 : ((k % L : Nat) : Int) < (L : Int) := by have := Nat.mod_lt k hL; omega
        have l7 : (0 : Int) ≤ ((k % L : Nat) : Int) := by omega
        have l8 : ¬ ((k % L : Nat) : Int) < 0 := by omega
        obtain ⟨z, hz⟩ : ∃ z, bits .and .i64 (l.getD (k % L) 0) 1 = z := ⟨_, rfl⟩
        have HO := HS.out.other
        have CN := Lib.hid (cnote_is (p := 1) (s := s) rfl rfl rfl HQ.out HS.out.ok (by rw [HS.out.nn]; decide) (by have := HS.out.c1; have := HM.out; omega))
        have H2 := Lib.hid HO
        have GG := Lib.hid fun (wx : World) (q : Cq wx x g (s.note 1)) (cc : Chg [g] wr wx) => GO.out (s.note 1) wx q H2.out.1 H2.out.2.1 H2.out.2.2.1 H2.out.2.2.2.1 H2.out.2.2.2.2.1 H2.out.2.2.2.2.2 cc
        have NN := Lib.hid (GO.out s wr HQ.out HS.out.ok HS.out.nn HS.out.bb HS.out.c0 HS.out.k0 (by have := HS.out.c1; omega) (Chg.refl _ _))
        generalize l.getD (k % L) 0 = yy at *
        generalize k % L = kl at *
        clear hc HO GO
        by_cases hz1 : z = 1
        · subst hz1
          have z1 : bits .and .i64 yy 1 = 1 := hz
          clear NN
          go_wp2_with fail
          refine (CN.out).mono ?_; rintro e w2 ⟨rfl, hq2, hc2⟩
          have NN := Lib.hid (GG.out w2 hq2 hc2)
          clear hq2 hc2 GG CN HBl H2
          go_wp2_with fail
          refine (NN.out).mono ?_; rintro e w3 ⟨rfl, s', hQ, hS, hl, hB⟩
          have CL := Lib.hid fun (w' : World) (hb : Below w3.heap.size w3 w') => GL.out w' s' (hQ.below hb) hS hl
          have HF := Lib.hid (And.intro hQ (And.intro hS hB))
          have hb0 : Below w3.heap.size w3 w3.drew := (Below.refl _ _).drew
          clear hQ hS hl hB NN GL
          go_wp2
          cases D
          all_goals
           go_region_held3 (fun w' => Below w3.heap.size w3 w')
            (first | assumption | exact below_more ‹Below w3.heap.size w3 _› hbq)
            ((go_at_call 11; refine (CL.out _ (by assumption)).mono ?_; rintro e wq ⟨rfl, hbq⟩))
           have HE : Hid (∃ s, Cq wq x g s ∧ St b K s ∧ Below w.heap.size w wq) := Lib.hid ⟨s', HF.out.1.below ‹_›, HF.out.2.1, below_more HF.out.2.2 ‹_›⟩
           go_wp2
           go_roundw
           case rel => exact ⟨K, by have := HK.out; omega, rfl, HE⟩
           case measure => have := HK.out; simp [intOf]; omega
        · clear CN GG HBl H2
          go_wp2_with fail
          refine (NN.out).mono ?_; rintro e w3 ⟨rfl, s', hQ, hS, hl, hB⟩
          have CL := Lib.hid fun (w' : World) (hb : Below w3.heap.size w3 w') => GL.out w' s' (hQ.below hb) hS hl
          have HF := Lib.hid (And.intro hQ (And.intro hS hB))
          have hb0 : Below w3.heap.size w3 w3.drew := (Below.refl _ _).drew
          clear hQ hS hl hB NN GL
          go_wp2
          cases D
          all_goals
           go_region_held3 (fun w' => Below w3.heap.size w3 w')
            (first | assumption | exact below_more ‹Below w3.heap.size w3 _› hbq)
            ((go_at_call 11; refine (CL.out _ (by assumption)).mono ?_; rintro e wq ⟨rfl, hbq⟩))
           have HE : Hid (∃ s, Cq wq x g s ∧ St b K s ∧ Below w.heap.size w wq) := Lib.hid ⟨s', HF.out.1.below ‹_›, HF.out.2.1, below_more HF.out.2.2 ‹_›⟩
           go_wp2
           go_roundw
           case rel => exact ⟨K, by have := HK.out; omega, rfl, HE⟩
           case measure => have := HK.out; simp [intOf]; omega
      · have l1 : ¬ (L : Int) > 0 := by omega
        have NN := Lib.hid (GO.out s wr HQ.out HS.out.ok HS.out.nn HS.out.bb HS.out.c0 HS.out.k0 (by have := HS.out.c1; omega) (Chg.refl _ _))
        clear GO HBl
        go_wp2_with fail
        refine (NN.out).mono ?_; rintro e w3 ⟨rfl, s', hQ, hS, hl, hB⟩
        have CL := Lib.hid fun (w' : World) (hb : Below w3.heap.size w3 w') => GL.out w' s' (hQ.below hb) hS hl
        have HF := Lib.hid (And.intro hQ (And.intro hS hB))
        have hb0 : Below w3.heap.size w3 w3.drew := (Below.refl _ _).drew
        clear hQ hS hl hB NN GL
        go_wp2
        cases D
        all_goals
         go_region_held3 (fun w' => Below w3.heap.size w3 w')
          (first | assumption | exact below_more ‹Below w3.heap.size w3 _› hbq)
          ((go_at_call 11; refine (CL.out _ (by assumption)).mono ?_; rintro e wq ⟨rfl, hbq⟩))
         have HE : Hid (∃ s, Cq wq x g s ∧ St b K s ∧ Below w.heap.size w wq) := Lib.hid ⟨s', HF.out.1.below ‹_›, HF.out.2.1, below_more HF.out.2.2 ‹_›⟩
         go_wp2
         go_roundw
         case rel => exact ⟨K, by have := HK.out; omega, rfl, HE⟩
         case measure => have := HK.out; simp [intOf]; omega
    · obtain rfl : k = m := by omega
      obtain ⟨s, hQ, hS, hBl⟩ := H.out
      have D := Lib.hid (cof_is (p := 0) (a := (k : Int)) (by rw [hS.c0]) hQ (by rw [hS.nn]; decide))
      have BL := Lib.hid hBl
      clear hQ hS hBl H
      go_wp2_with fail
      refine (D.out).mono ?_; rintro e w' ⟨rfl, rfl⟩
      go_wp2_with fail
      refine (awake_any _).mono ?_; rintro e w' ⟨rfl, hb⟩
      have BF := Lib.hid (below_more BL.out hb)
      go_wp2
      go_ret
      exact ⟨rfl, BF.out⟩
theorem walk (a0 a1 : Int) (l : List Int) (v : Value) (w : World) (_ : (Lit.int .i64 a0).wf = true) (_ : (Lit.int .i64 a1).wf = true) (hl : IntsIn .i64 w v l) :
    Calls Try.prog 5 #[.int .i64 a0, .int .i64 a1, v] w fun e w' => e = .returned (.bool true) ∧ Below w.heap.size w w' := by
  have hr := ri_in hl
  obtain ⟨p, c, rfl, _⟩ := hl
  by_cases h : l.length ≤ 50
  · exact short a0 a1 p l c w hr h
  · exact long a0 a1 p _ c w (by omega)

set_option maxRecDepth 100000 in
theorem lifted (os : Os) (started : os.Started) (H : Type) (enc : TypeId × Value → H) :
    ReturnsInHanded {} Try.checked os 5 .any (Rows.countBatchesSpec.pre6 enc Try.prog Try.f5 Rows.countBatchesRow.domain false) (Rows.countBatchesSpec.post enc Try.prog Try.f5 false true false false) := by
  refine returnsInHanded_of_change (C := Try.checked) own started (by kernel_rfl) Try.func5
    (ChangeSpec.witness6 (enc := enc) (C := Try.checked) false ⟨#[], #[.int .i64 0, .int .i64 0, .slice none 0 0], []⟩ 8 (by kernel_rfl) (by kernel_rfl) (by kernel_rfl) (by kernel_rfl)) ?_
  intro W base args ds gs before hval0 hW hcnd _
  have hval : ∀ (j : Nat) t v, Try.f5.params[j]? = some t → args[j]? = some v → Value.okWide Try.prog W .any base t v := hval0
  have hW' := hW
  have hlt := hW.lt
  obtain ⟨p, q, hA0, hV, hpq, hfz, hnd⟩ := hW
  have hA : DataW.TrodAll enc Try.prog W 0 (fun _ => true) true Try.f5.params.toList args.toList ds p := hA0
  rw [Try.params5] at hA hval
  obtain ⟨v0, vs0, d0, ds0, p0, q0, hargs, rfl, hp, h0, r0⟩ := trodAll_cons hA
  obtain ⟨v1, vs1, d1, ds1, p1, q1, rfl, rfl, rfl, h1, r1⟩ := trodAll_cons r0
  obtain ⟨v2, vs2, d2, ds2, p2, q2, rfl, rfl, rfl, h2, r2⟩ := trodAll_cons r1
  obtain ⟨rfl, rfl, rfl⟩ := trodAll_nil r2
  obtain rfl : args = #[v0, v1, v2] := by cases args; simp_all
  obtain ⟨rfl, rfl⟩ := trodVars_none hV
  have hlt' : ∀ x ∈ before, x.block < W.heap.size := fun x hx => hlt x hx
  obtain ⟨a0, rfl, rfl, rfl, w0⟩ := open_int Try.underlying3 (hval 0 3 v0 rfl rfl) h0
  obtain ⟨a1, rfl, rfl, rfl, w1⟩ := open_int Try.underlying3 (hval 1 3 v1 rfl rfl) h1
  obtain ⟨l2, w2⟩ := ints_in Try.underlying22 Try.underlying3 (by kernel_rfl) (hval 2 22 v2 rfl rfl) (fun x hx => hlt' x (by rw [hpq, hp]; simp [hx])) h2
  refine (walk a0 a1 l2 v2 W w0 w1 w2).mono fun e W' ⟨he, hb⟩ => ?_
  subst he
  exact ⟨_, rfl, law_post rfl (by kernel_rfl) hW' (by rw [Try.params5]; intro t ht; simp only [List.mem_cons, List.not_mem_nil, or_false] at ht; (repeat' (first | (rcases ht with rfl | ht) | subst ht)) <;> exact ⟨by kernel_rfl, of_decide_eq_true (by kernel_rfl)⟩) rfl hb⟩

theorem over : Rows.countBatchesRow.holds Try.pinned (OpenSpec.ofChange Rows.countBatchesSpec) :=
  OpenClaim.holds_of_wide 5 Try.f5 rfl rfl rfl rfl rfl rfl rfl ⟨rfl, rfl, rfl, rfl, rfl⟩ rfl rfl rfl rfl rfl (by kernel_rfl) Try.func5 (by kernel_rfl)
    (of_decide_eq_true (by kernel_rfl)) (by unfold Func.isWrapper; first | (rw [if_pos (by decide +kernel)]; kernel_rfl) | (rw [if_neg (by decide +kernel)]; exact ⟨rfl, rfl⟩))
    (fun os started H enc _ => lifted os started H enc)

theorem proved : Rows.CountBatchesSaid := over
end Go.Proofs.Ytplehfdanlfjoaa.countBatches
