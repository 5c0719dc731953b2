/-
  Contracts of package code: the first operation of bytes.
-/
import Derived.Test.YtdnijdbhdlengaaCdc
import Derived.Deep.RegionHeld3
import Derived.BigQuiet
namespace Go.Proofs.Ytdnijdbhdlengaa
set_option maxRecDepth 100000
open Go.RowKit

theorem results_row_tmp5 {P : Program} {fn : Func} {p q : Tmp} {ty : TypeId} (h : fn.results = #[.cell p ty, .tmp q]) (tmps : Array Value) (w : World) (v : Value) (g : Nat) (t : TypeId) (cs : Array Value) (fr : Nat × Nat) (d : TypeDesc)
    (hp : tmps.getD p undef = .pointer (some ⟨g, 0, none⟩)) (hq : tmps.getD q undef = v) (hg : w.heap[g]? = some (.cells cs t fr))
    (hu : P.underlying ty = some d) (hd : (match d with | .struct _ | .array _ _ => true | _ => false) = true) (hi : (P.info? ty).map (·.size) = some cs.size) :
    (results fn tmps).run P w = .ok (.tuple #[.agg cs, v]) w := by
  have hp' : tmps[p]?.getD undef = .pointer (some ⟨g, 0, none⟩) := by simpa using hp
  have hq' : tmps[q]?.getD undef = v := by simpa using hq
  simp [results, h, hp', hq', asAddr, run_loadVar_row w g t ty cs fr d hg hu hd hi]
theorem wrap_by {a : Int} (h : By a) : IntKind.i64.wrap a = a := IntWalk.i64_in _ (by unfold By at h; omega)
/-- the number that two bytes are -/
theorem or_bytes {a c : Int} (ha : By a) (hc : By c) : bits .or .i64 a (IntKind.i64.wrap (c * 256)) = a + 256 * c := by
  unfold By at ha hc
  obtain ⟨m, rfl⟩ : ∃ m : Nat, a = m := ⟨a.toNat, by omega⟩
  obtain ⟨n, rfl⟩ : ∃ n : Nat, c = n := ⟨c.toNat, by omega⟩
  have e1 : IntKind.i64.wrap ((n : Int) * 256) = ((n * 256 : Nat) : Int) := by rw [show (n : Int) * 256 = ((n * 256 : Nat) : Int) by omega]; exact i64_nat _ (by omega)
  rw [e1]
  have key : (BitVec.ofInt 64 (m : Int) ||| BitVec.ofInt 64 ((n * 256 : Nat) : Int)).toNat = m + n * 256 := by
    rw [BitVec.toNat_or]
    simp only [BitVec.toNat_ofInt]
    have h1 : ((m : Int) % ((2 ^ 64 : Nat) : Int)).toNat = m := by omega
    have h2 : (((n * 256 : Nat) : Int) % ((2 ^ 64 : Nat) : Int)).toNat = n * 256 := by omega
    rw [h1, h2, Nat.or_comm, show n * 256 = 2 ^ 8 * n by omega, ← Nat.two_pow_add_eq_or_of_lt (show m < 2 ^ 8 by omega)]
    omega
  show IntKind.i64.wrap ((BitVec.ofInt 64 (m : Int) ||| BitVec.ofInt 64 ((n * 256 : Nat) : Int)).toNat : Nat) = _
  rw [key, i64_nat _ (by omega)]
  omega

theorem set_v (x : Px) (V z : Int) : (setZ (setW x V) z).v = x.v ∧ (setZ (setW x V) z).bl = x.bl := by
  unfold setZ setW; repeat' split
  all_goals exact ⟨rfl, rfl⟩
theorem set_wi {x : Px} (h : x.Wi) {V z : Int} (hV : (Lit.int .i64 V).wf = true) (hz : (Lit.int .i64 z).wf = true) : (setZ (setW x V) z).Wi := by
  unfold setZ setW; repeat' split
  all_goals constructor <;> first | exact hV | exact hz | exact h.wd | exact h.wo | exact h.wn | exact h.wm | exact h.one
theorem un_set {k : Int} (V z : Int) (r : List Int) (u : Value) (h : 1 ≤ k ∧ k ≤ 8) (h4 : k ≠ 4) : un k V z r = [toC (setZ (setW ⟨k, 0, 0, 0, u, []⟩ V) z)] := by
  have hc : k = 1 ∨ k = 2 ∨ k = 3 ∨ k = 5 ∨ k = 6 ∨ k = 7 ∨ k = 8 := by omega
  rcases hc with rfl | rfl | rfl | rfl | rfl | rfl | rfl <;> rfl
structure FOut (w w' : World) (v0 : Value) (b0 : List Int) (k v z : Int) (r : List Int) (x : Px) (u : Value) : Prop where
  wi : x.Wi
  bl : OwnA byE w.heap.size w' x.v x.bl
  rest : ∀ w', RA byE w' v0 b0 → RA byE w' u (r.drop (tk k z))
  kind : x.d = k
  op : (1 ≤ k ∧ k ≤ 8) → un k v z r = [toC x]
  few : x.bl.length ≤ 255
  below : Below w.heap.size w w'
set_option maxHeartbeats 4000000 in
theorem first_is (k a c z : Int) (r : List Int) (v : Value) (w : World) (h : RA byE w v (k :: a :: c :: z :: r)) :
    Calls Try.prog 22 #[v] w fun e w' => ∃ x q n d, e = .returned (.tuple #[.agg (pxc x), .slice q n d]) ∧ FOut w w' v (k :: a :: c :: z :: r) k (a + 256 * c) z r x (.slice q n d) := by
  obtain ⟨Wa, hWa⟩ : ∃ W, w.alloc (.cells #[.int .i64 0, .int .i64 0, .int .i64 0, .int .i64 0, .slice none 0 0] 26) = W := ⟨_, rfl⟩
  have A0 : Pxv Wa w.heap.size ⟨0, 0, 0, 0, .slice none 0 0, []⟩ := by rw [← hWa]; exact heap_alloc_new w _
  have Ba : Below w.heap.size w Wa := by rw [← hWa]; exact bal (Below.refl _ _)
  obtain ⟨p, cp, rfl, hcp1, hcp2, _⟩ := id h
  have hcp := And.intro hcp1 hcp2
  clear hcp1 hcp2
  obtain ⟨b, off, rfl, hb, hx⟩ := byte_at (ra_below h Ba) (by simp)
  have c0 : Wa.cell? ⟨b, off, none⟩ = some (.int .u8 k) := (hx 0 (by simp)).1
  have b0 : By k := (hx 0 (by simp)).2
  have b1 : By a := (hx 1 (by simp)).2
  have b2 : By c := (hx 2 (by simp)).2
  have b3 : By z := (hx 3 (by simp)).2
  have hor := or_bytes b1 b2
  obtain ⟨V, hV⟩ : ∃ V, a + 256 * c = V := ⟨_, rfl⟩
  obtain ⟨D, hD⟩ : ∃ D, IntKind.i64.wrap (c * 256) = D := ⟨_, rfl⟩
  rw [hV] at hor ⊢
  rw [hD] at hor
  obtain ⟨W, hW, hst, HW⟩ := px_boxed Wa ⟨k, 0, 0, 0, .slice none 0 0, []⟩ rfl
  have BW := ra_below h (Ba.trans (HW.out.2.mono Ba.size))
  have hbW := Nat.lt_of_lt_of_le hb HW.out.2.size
  have hlb : b < w.heap.size := by
    obtain ⟨_, _, e, h1, _⟩ := byte_at h (by simp)
    cases e; exact h1
  have hfl : ∀ w', Chg [Wa.heap.size] W w' → ∀ i (y : Int), i < 4 → (k :: a :: c :: z :: r).getD i 0 = y → w'.cell? ⟨b, off + i, none⟩ = some (.int .u8 y) := fun w' hc i y hi hy => by
    have hR : RA byE w' (.slice (some ⟨b, off, none⟩) (k :: a :: c :: z :: r).length cp) (k :: a :: c :: z :: r) := ra_chg BW hc (by
      intro g e
      cases e
      have := Ba.size
      simp; omega)
    obtain ⟨_, _, e, _, hx⟩ := byte_at hR (by simp)
    cases e
    rw [← hy]
    exact (hx i (by simp; omega)).1
  have c1 : ∀ w', Chg [Wa.heap.size] W w' → w'.cell? ⟨b, off + 1, none⟩ = some (.int .u8 a) := fun w' hc => hfl w' hc 1 a (by omega) rfl
  have c2 : ∀ w', Chg [Wa.heap.size] W w' → w'.cell? ⟨b, off + 2, none⟩ = some (.int .u8 c) := fun w' hc => hfl w' hc 2 c (by omega) rfl
  have c3 : ∀ w', Chg [Wa.heap.size] W w' → w'.cell? ⟨b, off + 3, none⟩ = some (.int .u8 z) := fun w' hc => hfl w' hc 3 z (by omega) rfl
  have CW := Lib.hid (wide_is (show Pxv W.drew Wa.heap.size _ from HW.out.1))
  have CS := Lib.hid (setw_is (show Pxv W.drew Wa.heap.size ⟨k, 0, 0, 0, .slice none 0 0, []⟩ from HW.out.1) V)
  obtain ⟨fw, hfw⟩ : ∃ fw, wdA k Wa.heap.size = fw := ⟨_, rfl⟩
  rw [show (Px.mk k 0 0 0 (.slice none 0 0) []).d = k from rfl, hfw] at CW CS
  have HB := Lib.hid (And.intro b0 (And.intro b1 (And.intro b2 b3)))
  have HH := Lib.hid h
  have HA := Lib.hid A0
  have HBa := Lib.hid Ba
  have HBW := Lib.hid BW
  have HWf : Hid ((Lit.int .i64 k).wf = true ∧ (Lit.int .i64 V).wf = true ∧ (Lit.int .i64 z).wf = true ∧ 0 ≤ z ∧ z ≤ 255) := Lib.hid (by unfold By at *; exact ⟨i64_of (by omega) (by omega), i64_of (by omega) (by omega), i64_of (by omega) (by omega), by omega, by omega⟩)
  have B0W := Lib.hid (Ba.trans (HW.out.2.mono Ba.size))
  have hlen : 4 ≤ (k :: a :: c :: z :: r).length := by simp
  obtain ⟨n, hn⟩ : ∃ n, (k :: a :: c :: z :: r).length = n := ⟨_, rfl⟩
  rw [hn] at HH hlen ⊢
  have w0 : IntKind.i64.wrap k = k := wrap_by b0
  have w1 : IntKind.i64.wrap a = a := wrap_by b1
  have w2 : IntKind.i64.wrap c = c := wrap_by b2
  have w3 : IntKind.i64.wrap z = z := wrap_by b3
  have g1 : (1 : Int) < (n : Int) := by omega
  have g2 : (2 : Int) < (n : Int) := by omega
  have g3 : (3 : Int) < (n : Int) := by omega
  have g4 : 1 < n := by omega
  have g5 : 2 < n := by omega
  have g6 : 3 < n := by omega
  have hn := Lib.hid hn
  have HCp := Lib.hid hcp
  clear h hx hfl A0 Ba b0 b1 b2 b3 BW hbW hb hcp hfw hV
  go_enter Try.func22, Try.ntmps22
  go_wp2
  go_region_held3 (fun w' => Chg [Wa.heap.size] W w')
    (first | assumption | exact (Chg.refl _ _).drew)
    (first
      | (go_at_call 24; refine (CW.out).mono ?_; rintro e wz ⟨rfl, rfl⟩)
      | (go_at_call 26; refine (CS.out).mono ?_; rintro e wy ⟨rfl, hVy, hCy⟩
         have VY := Lib.hid hVy
         have CY := Lib.hid (Chg.from_drew hCy)
         clear hVy hCy))
  have d1 := setW_d ⟨k, 0, 0, 0, .slice none 0 0, []⟩ V
  have HD : Hid (∀ y, setZ (setW ⟨k, 0, 0, 0, .slice none 0 0, []⟩ V) z = y → y.d = k) := Lib.hid fun y e => by rw [← e]; exact (setZ_d _ z).trans d1
  have CN := Lib.hid (narrow_is (show Pxv wy.drew Wa.heap.size _ from VY.out))
  have CS2 := Lib.hid (setz_is (show Pxv wy.drew Wa.heap.size _ from VY.out) z)
  obtain ⟨f2, hf2⟩ : ∃ f2, nwA k Wa.heap.size = f2 := ⟨_, rfl⟩
  rw [d1, hf2] at CN CS2
  have c3' : ∀ w', Chg [Wa.heap.size] wy w' → w'.cell? ⟨b, off + 3, none⟩ = some (.int .u8 z) := fun w' hc => c3 w' (CY.out.trans hc)
  have C3 := Lib.hid c3
  clear c1 c2 c3 hf2 d1 CW CS
  go_wp2
  go_region_held3 (fun w' => Chg [Wa.heap.size] wy w')
    (first | assumption | exact (Chg.refl _ _).drew)
    (first
      | (go_at_call 25; refine (CN.out).mono ?_; rintro e wz ⟨rfl, rfl⟩)
      | (go_at_call 26; refine (CS2.out).mono ?_; rintro e wv ⟨rfl, hVv, hCv⟩
         have VV := Lib.hid hVv
         have CV := Lib.hid (Chg.from_drew hCv)
         clear hVv hCv))
  have CWV := Lib.hid (CY.out.trans CV.out)
  have RV := ra_chg HBW.out CWV.out (by
    intro g e
    cases e
    have := HBa.out.size
    simp; omega)
  obtain ⟨q, d, hfr, HR⟩ := by_from (some ⟨b, off, none⟩) cp (k :: a :: c :: z :: r) (k := 4) (by simp) HCp.out.1 HCp.out.2 (a := 4) rfl
  obtain ⟨L, hL⟩ : ∃ L, n - 4 = L := ⟨_, rfl⟩
  have hLr : r.length = L := by have := hn.out; simp only [List.length_cons] at this; omega
  rw [hn.out, hL] at hfr HR
  rw [hn.out] at RV
  have HRr : Hid (∀ w, RA byE w (.slice (some ⟨b, off, none⟩) n cp) (k :: a :: c :: z :: r) → RA byE w (.slice q L d) r) := Lib.hid HR
  have HRV := Lib.hid RV
  have c3 := C3.out wv CWV.out
  obtain ⟨sv, sb⟩ := set_v ⟨k, 0, 0, 0, .slice none 0 0, []⟩ V z
  have swi := set_wi (x := ⟨k, 0, 0, 0, .slice none 0 0, []⟩) ⟨HWf.out.1, rfl, rfl, rfl, rfl⟩ HWf.out.2.1 HWf.out.2.2.1
  have hun := fun h h4 => un_set V z r (.slice none 0 0) (k := k) h h4
  have hx4 : k = 4 → setZ (setW ⟨k, 0, 0, 0, .slice none 0 0, []⟩ V) z = ⟨4, V, 0, 0, .slice none 0 0, []⟩ := fun e => by subst e; rfl
  obtain ⟨x2, hx2⟩ : ∃ x, setZ (setW ⟨k, 0, 0, 0, .slice none 0 0, []⟩ V) z = x := ⟨_, rfl⟩
  have hd := HD.out x2 hx2
  rw [hx2] at VV sv sb swi hun hx4
  have cd := VV.out.c0
  rw [hd] at cd
  have A2 := (HA.out.below (HW.out.2)).chg CWV.out (by have := HA.out.lt; have := HBa.out.size; simp; omega)
  have HA2 := Lib.hid A2
  have HX : Hid (x2.v = .slice none 0 0 ∧ x2.bl = [] ∧ x2.Wi ∧ x2.d = k ∧ ((1 ≤ k ∧ k ≤ 8) → k ≠ 4 → un k V z r = [toC x2]) ∧ (k = 4 → x2 = ⟨4, V, 0, 0, .slice none 0 0, []⟩)) := Lib.hid ⟨sv, sb, swi, hd, hun, hx4⟩
  have BWV := Lib.hid (CWV.out.below B0W.out B0W.out.size (fun g hg => by rw [List.mem_singleton.1 hg]; exact HBa.out.size))
  clear CN CS2 C3 c3' hx2 HD sv sb swi hun hx4 RV HR hd
  by_cases h4 : k = 4
  · obtain rfl := HX.out.2.2.2.2.2 h4
    subst h4
    obtain ⟨Z, rfl⟩ : ∃ Z : Nat, z = Z := ⟨z.toNat, by have := HWf.out; omega⟩
    have hz255 : Z ≤ 255 := by have := HWf.out; omega
    clear A2
    obtain ⟨S, hS⟩ : ∃ S, min Z L = S := ⟨_, rfl⟩
    have hSL : S ≤ L := by omega
    have RQ := HRr.out wv HRV.out
    have hsh : r.length ≤ d ∧ d ≤ maxLen := by
      obtain ⟨_, _, e, h1, h2⟩ := ra_shape RQ
      cases e; exact ⟨h1, h2⟩
    have hto := by_to q d r (k := S) (by omega) hsh.1 (a := S) rfl
    have hfr2 := by_from q d r (k := S) (by omega) hsh.1 hsh.2 (a := S) rfl
    rw [hLr] at hto hfr2
    obtain ⟨q2, d2, hfr2, HR2⟩ := hfr2
    obtain ⟨hto, HT⟩ := hto
    have CC := Lib.hid (clone_is (r.take S) _ wv.drew (HT wv RQ) (by rw [List.length_take]; omega))
    have HRR := Lib.hid HR2
    have HSr : Hid (r.take (tk 4 (Z : Int)) = r.take S ∧ r.drop (tk 4 (Z : Int)) = r.drop S ∧ (r.take S).length ≤ 255) := Lib.hid (by
      have e : tk 4 (Z : Int) = Z := rfl
      rw [e]
      by_cases hm : L < Z
      · obtain rfl : S = L := by omega
        rw [List.take_of_length_le (by omega), List.drop_eq_nil_of_le (by omega), List.take_of_length_le (by omega), List.drop_eq_nil_of_le (by omega)]
        exact ⟨rfl, rfl, by omega⟩
      · obtain rfl : S = Z := by omega
        exact ⟨rfl, rfl, by rw [List.length_take]; omega⟩)
    clear HR2 HT hsh RQ
    have HLr := Lib.hid hLr
    obtain ⟨T, hT⟩ : ∃ T, r.take S = T := ⟨_, rfl⟩
    rw [hT] at CC HSr
    have hTl : T.length = S := by rw [← hT, List.length_take]; omega
    have HTl := Lib.hid hTl
    clear hT hTl
    obtain ⟨M2, hM2⟩ : ∃ M, L - S = M := ⟨_, rfl⟩
    rw [hM2] at hfr2 HRR
    clear hM2 hL hLr
    rcases Nat.lt_or_ge L Z with hm | hm
    · have m1 : (L : Int) < (Z : Int) := by omega
      obtain rfl : S = L := by omega
      clear hS hSL hz255
      go_wp2
      go_region_held3 (fun w' => Chg [Wa.heap.size] wv w')
        (first | assumption | exact (Chg.refl _ _).drew | exact Chg.setCell (by assumption) (.inl (by simp)) _)
        (first
          | (go_at_call 28; refine (CC.out).mono ?_; rintro e wz ⟨⟨u, rfl, hu⟩, hbz⟩
             obtain ⟨pu, cu, rfl, _⟩ := hu.shape
             have hbz' : Below wv.heap.size wv wz := (Below.refl _ _).drew.trans hbz
             have VZ := VV.out.below hbz'
             have z4 := VZ.c4
             have zf := VZ.free 4
             have HU := Lib.hid hu
             have HVZ := Lib.hid VZ
             have CZ := Chg.of_below hbz' [Wa.heap.size]
             have HCZ := Lib.hid CZ
             clear hbz hbz' VZ hu))
      obtain ⟨w4, hw4⟩ : ∃ w4, wz.setCell ⟨Wa.heap.size, 4, none⟩ (.slice pu T.length cu) = w4 := ⟨_, rfl⟩
      have hc1 : Chg [Wa.heap.size] wz w4 := by rw [← hw4]; exact (Chg.refl _ wz).setCell (p := ⟨Wa.heap.size, 4, none⟩) (.inl (by simp)) _
      have V4 : Pxv w4 Wa.heap.size ⟨4, V, 0, 0, .slice pu T.length cu, T⟩ := by rw [← hw4]; exact HVZ.out.setv _
      have hC4 := HCZ.out.trans hc1
      have hlt1 : w.heap.size < Wa.heap.size := HA.out.lt
      have A4 := HA2.out.chg hC4 (by simp; omega)
      have U4 := HU.out.chg hc1 (fun g hg => by have := (HU.out.lt g hg).1; have h1 : Wa.heap.size < wv.heap.size := VV.out.lt; have h2 : wv.drew.heap.size = wv.heap.size := rfl; simp; omega)
      have ld := V4.whole
      have hst2 := A4.store (y := ⟨4, V, 0, 0, .slice pu T.length cu, T⟩) rfl
      have F1 := Lib.hid (A4.put (y := ⟨4, V, 0, 0, .slice pu T.length cu, T⟩))
      have hC5 := (Chg.refl [w.heap.size] w4).setRow (g := w.heap.size) (.inl (by simp)) (pxc ⟨4, V, 0, 0, .slice pu T.length cu, T⟩)
      have U5 := U4.chg hC5 (fun g hg => by have := (U4.lt g hg).1; have h1 : w.heap.size < wv.heap.size := HA2.out.lt; have h2 : wv.drew.heap.size = wv.heap.size := rfl; simp; omega)
      have HF : Hid (FOut w (w4.setRow w.heap.size (pxc ⟨4, V, 0, 0, .slice pu T.length cu, T⟩)) (.slice (some ⟨b, off, none⟩) n cp) (4 :: a :: c :: (Z : Int) :: r) 4 V (Z : Int) r ⟨4, V, 0, 0, .slice pu T.length cu, T⟩ (.slice q2 M2 d2)) := Lib.hid ⟨⟨rfl, HWf.out.2.1, rfl, rfl, rfl⟩, U5.mono BWV.out.size, by
          rw [HSr.out.2.1]
          exact fun w' h => HRR.out _ (HRr.out w' h), rfl, fun _ => by
          show [_] = [_]
          rw [show (r.take ((Z : Int).toNat)) = T from HSr.out.1]; rfl, HSr.out.2.2, (hC4.below BWV.out BWV.out.size (fun g hg => by rw [List.mem_singleton.1 hg]; omega)).trans (hC5.below (Below.refl _ _) (by have := (hC4.below BWV.out BWV.out.size (fun g hg => by rw [List.mem_singleton.1 hg]; omega)).size; exact this) (fun g hg => by rw [List.mem_singleton.1 hg]; exact Nat.le_refl _))⟩
      clear A4 hC4 hC5 U4 U5 hc1 V4
      rw [hw4]
      go_wp2
      exact bodyPost_ret (v := .tuple #[.agg (pxc ⟨4, V, 0, 0, .slice pu T.length cu, T⟩), .slice q2 M2 d2]) (results_row_tmp5 rfl _ _ _ _ _ _ _ _ rfl rfl F1.out Try.underlying26 rfl (by rw [info_hop, pxc_size])) rfl ⟨_, q2, M2, d2, rfl, HF.out⟩
    · have m1 : ¬ (L : Int) < (Z : Int) := by omega
      have m2 : ¬ L < Z := by omega
      obtain rfl : S = Z := by omega
      have m3 := hSL
      clear hS hSL hz255
      go_wp2
      go_region_held3 (fun w' => Chg [Wa.heap.size] wv w')
        (first | assumption | exact (Chg.refl _ _).drew | exact Chg.setCell (by assumption) (.inl (by simp)) _)
        (first
          | (go_at_call 28; refine (CC.out).mono ?_; rintro e wz ⟨⟨u, rfl, hu⟩, hbz⟩
             obtain ⟨pu, cu, rfl, _⟩ := hu.shape
             have hbz' : Below wv.heap.size wv wz := (Below.refl _ _).drew.trans hbz
             have VZ := VV.out.below hbz'
             have z4 := VZ.c4
             have zf := VZ.free 4
             have HU := Lib.hid hu
             have HVZ := Lib.hid VZ
             have CZ := Chg.of_below hbz' [Wa.heap.size]
             have HCZ := Lib.hid CZ
             clear hbz hbz' VZ hu))
      obtain ⟨w4, hw4⟩ : ∃ w4, wz.setCell ⟨Wa.heap.size, 4, none⟩ (.slice pu T.length cu) = w4 := ⟨_, rfl⟩
      have hc1 : Chg [Wa.heap.size] wz w4 := by rw [← hw4]; exact (Chg.refl _ wz).setCell (p := ⟨Wa.heap.size, 4, none⟩) (.inl (by simp)) _
      have V4 : Pxv w4 Wa.heap.size ⟨4, V, 0, 0, .slice pu T.length cu, T⟩ := by rw [← hw4]; exact HVZ.out.setv _
      have hC4 := HCZ.out.trans hc1
      have hlt1 : w.heap.size < Wa.heap.size := HA.out.lt
      have A4 := HA2.out.chg hC4 (by simp; omega)
      have U4 := HU.out.chg hc1 (fun g hg => by have := (HU.out.lt g hg).1; have h1 : Wa.heap.size < wv.heap.size := VV.out.lt; have h2 : wv.drew.heap.size = wv.heap.size := rfl; simp; omega)
      have ld := V4.whole
      have hst2 := A4.store (y := ⟨4, V, 0, 0, .slice pu T.length cu, T⟩) rfl
      have F1 := Lib.hid (A4.put (y := ⟨4, V, 0, 0, .slice pu T.length cu, T⟩))
      have hC5 := (Chg.refl [w.heap.size] w4).setRow (g := w.heap.size) (.inl (by simp)) (pxc ⟨4, V, 0, 0, .slice pu T.length cu, T⟩)
      have U5 := U4.chg hC5 (fun g hg => by have := (U4.lt g hg).1; have h1 : w.heap.size < wv.heap.size := HA2.out.lt; have h2 : wv.drew.heap.size = wv.heap.size := rfl; simp; omega)
      have HF : Hid (FOut w (w4.setRow w.heap.size (pxc ⟨4, V, 0, 0, .slice pu T.length cu, T⟩)) (.slice (some ⟨b, off, none⟩) n cp) (4 :: a :: c :: (S : Int) :: r) 4 V (S : Int) r ⟨4, V, 0, 0, .slice pu T.length cu, T⟩ (.slice q2 M2 d2)) := Lib.hid ⟨⟨rfl, HWf.out.2.1, rfl, rfl, rfl⟩, U5.mono BWV.out.size, by
          rw [HSr.out.2.1]
          exact fun w' h => HRR.out _ (HRr.out w' h), rfl, fun _ => by
          show [_] = [_]
          rw [show (r.take ((S : Int).toNat)) = T from HSr.out.1]; rfl, HSr.out.2.2, (hC4.below BWV.out BWV.out.size (fun g hg => by rw [List.mem_singleton.1 hg]; omega)).trans (hC5.below (Below.refl _ _) (by have := (hC4.below BWV.out BWV.out.size (fun g hg => by rw [List.mem_singleton.1 hg]; omega)).size; exact this) (fun g hg => by rw [List.mem_singleton.1 hg]; exact Nat.le_refl _))⟩
      clear A4 hC4 hC5 U4 U5 hc1 V4
      rw [hw4]
      go_wp2
      exact bodyPost_ret (v := .tuple #[.agg (pxc ⟨4, V, 0, 0, .slice pu T.length cu, T⟩), .slice q2 M2 d2]) (results_row_tmp5 rfl _ _ _ _ _ _ _ _ rfl rfl F1.out Try.underlying26 rfl (by rw [info_hop, pxc_size])) rfl ⟨_, q2, M2, d2, rfl, HF.out⟩
  · have e4 : (k == 4) = false := beq_eq_false_iff_ne.2 h4
    have ld := VV.out.whole
    have hst2 := A2.store (y := x2) (by rw [HX.out.1]; rfl)
    have F1 := Lib.hid (A2.put (y := x2))
    have hC := (Chg.refl [w.heap.size] wv).setRow (g := w.heap.size) (.inl (by simp)) (pxc x2)
    have HF : Hid (FOut w (wv.setRow w.heap.size (pxc x2)) (.slice (some ⟨b, off, none⟩) n cp) (k :: a :: c :: z :: r) k V z r x2 (.slice q L d)) := Lib.hid ⟨HX.out.2.2.1, by rw [HX.out.1, HX.out.2.1]; exact own_nil_a _ _ _, by
        rw [show tk k z = 0 from if_neg h4]
        exact HRr.out, HX.out.2.2.2.1, fun h => HX.out.2.2.2.2.1 h h4, by rw [HX.out.2.1]; simp, BWV.out.trans (hC.below (Below.refl _ _) BWV.out.size (fun g hg => by rw [List.mem_singleton.1 hg]; exact Nat.le_refl _))⟩
    clear A2 hC
    go_wp2
    exact bodyPost_ret (v := .tuple #[.agg (pxc x2), .slice q L d]) (results_row_tmp5 rfl _ _ _ _ _ _ _ _ rfl rfl F1.out Try.underlying26 rfl (by rw [info_hop, pxc_size])) rfl ⟨x2, q, L, d, rfl, HF.out⟩
end Go.Proofs.Ytdnijdbhdlengaa
