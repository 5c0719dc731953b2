/-
  Contract of the reference's DecodeOps.
-/
import Derived.Test.YtdnijdbhdlengaaCdf
namespace Go.Proofs.Ytdnijdbhdlengaa
set_option maxRecDepth 100000
open Go.RowKit

theorem built_op023 (d n m : Int) : Try.prog.built 26 [(0, .int .i64 d), (2, .int .i64 n), (3, .int .i64 m)] = some (pxc ⟨d, 0, n, m, .slice none 0 0, []⟩) := by kernel_rfl
@[go_sem] theorem run_opBuild023 (w : World) (d n m : Int) : (opBuild #[(0, .int .i64 d), (2, .int .i64 n), (3, .int .i64 m)]).run Try.prog w = .ok (.agg (pxc ⟨d, 0, n, m, .slice none 0 0, []⟩)) w := run_build w _ _ _ (built_op023 d n m)
set_option maxHeartbeats 4000000 in
theorem rdecode_is (l : List Int) (v : Value) (w : World) (h : RA byE w v l) (hl : l.length ≤ 100000) :
    Calls Try.prog 15 #[v] w fun e w' => (∃ u L, e = .returned u ∧ OO w.heap.size w' u L ∧ L.map toC = dec l ∧ ∀ x ∈ L, x.bl.length ≤ 255) ∧ Below w.heap.size w w' := by
  obtain ⟨p0, cp0, rfl, _⟩ := ra_shape h
  have HI := Lib.hid (show DS w w l (.slice p0 l.length cp0) (.slice none 0 0) l [] from ⟨fun w' hb => ra_below h hb, OO.nil _ _, rfl, hl, by simpa using hl, (fun x h => nomatch h), Below.refl _ _⟩)
  generalize l.length = N0 at HI ⊢
  clear h hl
  go_enter Try.func15, Try.ntmps15
  go_wp2
  go_loopw [0, 3] (fun bv lv wr => ∃ (q : Option Addr) (n d : Nat) (u : Value) (r : List Int) (L : List Px), bv = .slice q n d ∧ lv = u ∧ Hid (DS w wr l (.slice q n d) u r L)) (fun bv _ _ => (slLen bv : Nat))
  case atStart => exact ⟨p0, N0, cp0, _, l, [], rfl, rfl, HI⟩
  case round =>
    obtain ⟨q, n, d, u, r, L, rfl, rfl, H⟩ := hrel
    have hn : n = r.length := by
      obtain ⟨_, _, e, _⟩ := ra_shape (H.out.rest _ H.out.below)
      cases e; rfl
    by_cases h4 : 4 ≤ n
    · have i4 : (n : Int) ≥ 4 := by omega
      have R0 := H.out.rest _ H.out.below
      obtain ⟨b, off, rfl, hb, hx⟩ := byte_at R0 (by omega)
      have hcd : r.length ≤ d ∧ d ≤ maxLen := by
        obtain ⟨_, _, e, h1, h2⟩ := ra_shape R0
        cases e; exact ⟨h1, h2⟩
      obtain ⟨k, a, c, z, t, rfl⟩ := long_four (b := r) (by omega)
      have hlen : n = t.length + 4 := by rw [hn]; simp
      have c0 : wr.cell? ⟨b, off, none⟩ = some (.int .u8 k) := (hx 0 (by simp)).1
      have c1 : wr.cell? ⟨b, off + 1, none⟩ = some (.int .u8 a) := (hx 1 (by simp)).1
      have c2 : wr.cell? ⟨b, off + 2, none⟩ = some (.int .u8 c) := (hx 2 (by simp)).1
      have c3 : wr.cell? ⟨b, off + 3, none⟩ = some (.int .u8 z) := (hx 3 (by simp)).1
      have b0 : By k := (hx 0 (by simp)).2
      have b1 : By a := (hx 1 (by simp)).2
      have b2 : By c := (hx 2 (by simp)).2
      have b3 : By z := (hx 3 (by simp)).2
      obtain ⟨V, hV⟩ : ∃ V, a + 256 * c = V := ⟨_, rfl⟩
      obtain ⟨D, hD⟩ : ∃ D, IntKind.i64.wrap (256 * c) = D := ⟨_, rfl⟩
      have hD2 : IntKind.i64.wrap (256 * c) = 256 * c := IntWalk.i64_in _ (by unfold By at b2; omega)
      have hVD : IntKind.i64.wrap (a + D) = V := by rw [← hD, hD2, ← hV]; exact IntWalk.i64_in _ (by unfold By at b1 b2; omega)
      have w0 : IntKind.i64.wrap k = k := wrap_by b0
      have w1 : IntKind.i64.wrap a = a := wrap_by b1
      have w2 : IntKind.i64.wrap c = c := wrap_by b2
      have w3 : IntKind.i64.wrap z = z := wrap_by b3
      have g1 : (1 : Int) < (n : Int) := by omega
      have g2 : (2 : Int) < (n : Int) := by omega
      have g3 : (3 : Int) < (n : Int) := by omega
      have g4 : 1 < n := by omega
      have g5 : 2 < n := by omega
      have g6 : 3 < n := by omega
      have HWf : Hid ((Lit.int .i64 k).wf = true ∧ (Lit.int .i64 V).wf = true ∧ (Lit.int .i64 z).wf = true ∧ 0 ≤ z ∧ z ≤ 255) := Lib.hid (by unfold By at *; exact ⟨i64_of (by omega) (by omega), i64_of (by omega) (by omega), i64_of (by omega) (by omega), by omega, by omega⟩)
      obtain ⟨q1, d1, hfr, HR⟩ := by_from (some ⟨b, off, none⟩) d (k :: a :: c :: z :: t) (k := 4) (by simp) hcd.1 hcd.2 (a := 4) rfl
      obtain ⟨M, hM⟩ : ∃ M, n - 4 = M := ⟨_, rfl⟩
      rw [← hn, hM] at hfr HR
      have HRr : Hid (∀ w', Below w.heap.size w w' → RA byE w' (.slice q1 M d1) t) := Lib.hid (fun w' hb => HR w' (H.out.rest w' hb))
      have HE := Lib.hid (show dec l = L.map toC ++ un k V z t ++ dec (t.drop (tk k z)) by rw [H.out.eq, dec_cons, hV, List.append_assoc])
      have HL : Hid (n = t.length + 4 ∧ M = t.length) := Lib.hid ⟨hlen, by omega⟩
      clear hx hcd hD2 hV b0 b1 b2 b3 hlen hM HR R0 hn
      go_wp2_with fail
      go_quiet (fail)
      obtain ⟨Wq, hWq⟩ : ∃ Wq, wr.drewN nq = Wq := ⟨_, rfl⟩
      have HO : Hid (OO w.heap.size Wq u3 L) := Lib.hid (by rw [← hWq]; exact H.out.own.below (below_drewN (Below.refl _ _) nq))
      have HB : Hid (Below w.heap.size w Wq) := Lib.hid (by rw [← hWq]; exact below_drewN H.out.below nq)
      have HN : Hid (L.length * 4 + t.length + 4 ≤ 100000 ∧ ∀ x ∈ L, x.bl.length ≤ 255) := Lib.hid (by have := H.out.all; simp only [List.length_cons] at this; exact ⟨by omega, H.out.data⟩)
      rw [hWq]
      clear c0 c1 c2 c3 hWq H
      rcases kinds k with rfl | rfl | rfl | rfl | rfl | rfl | rfl | rfl | ⟨hk, e1, e2, e3, e4, e5, e6, e7, e8⟩
      · have HU : Hid (un 1 V z t = [toC ⟨1, 0, V, 0, .slice none 0 0, []⟩]) := Lib.hid rfl
        obtain ⟨W3, hW3⟩ : ∃ W3, Wq.alloc (.cells (pxc ⟨1, 0, V, 0, .slice none 0 0, []⟩) 26) = W3 := ⟨_, rfl⟩
        have hB3 : Below Wq.heap.size Wq W3 := by rw [← hW3]; exact bal (Below.refl _ _)
        have hsl := run_opSlice1 Wq ⟨1, 0, V, 0, .slice none 0 0, []⟩ (ra_nil byE _)
        rw [hW3] at hsl
        have O3 := Lib.hid (HO.out.below hB3)
        have R3 := Lib.hid (show OwnA opF Wq.heap.size W3 _ [⟨1, 0, V, 0, .slice none 0 0, []⟩] from by rw [← hW3]; exact op_one Wq (by have := HWf.out; constructor <;> first | exact this.1 | exact this.2.1 | exact this.2.2.1 | rfl))
        have B3 := Lib.hid (below_more HB.out hB3)
        have hlen : Hid (L.length + [(⟨1, 0, V, 0, .slice none 0 0, []⟩ : Px)].length ≤ 1000000) := Lib.hid (by have := HN.out; simp only [List.length_singleton]; omega)
        clear hB3
        go_wp2_with (at_builtin; refine app_op rfl _ _ rfl _ _ _ rfl O3.out.row _ [⟨1, 0, V, 0, .slice none 0 0, []⟩] rfl R3.out.ra hlen B3.out.size ?_)
        intro v' w4 ho hg hx
        have B4 := Lib.hid (below_app B3.out B3.out.size O3.out.row hg)
        have O4 := Lib.hid (O3.out.snoc (own_nil_a _ _ _) (.inl rfl) ho hg hx)
        obtain ⟨pv, cv, rfl, _⟩ := ho.shape
        have HS : Hid (DS w w4 l (.slice q1 M d1) _ t (L ++ [⟨1, 0, V, 0, .slice none 0 0, []⟩])) := Lib.hid ⟨HRr.out, O4.out, by rw [HE.out, HU.out, List.map_append]; rfl, by have := HN.out; omega, by have := HN.out; rw [List.length_append]; simp only [List.length_singleton]; omega, fun y hy => by
          rcases List.mem_append.1 hy with hy | hy
          · exact HN.out.2 y hy
          · rw [List.mem_singleton.1 hy]; simp, B4.out⟩
        clear ho hg hx
        go_wp2
        go_roundw
        case rel => exact ⟨q1, M, d1, _, _, _, rfl, rfl, HS⟩
        case measure => have h1 := HL.out; simp only [slLen]; omega
      · have HU : Hid (un 2 V z t = [toC ⟨2, V, 0, 0, .slice none 0 0, []⟩]) := Lib.hid rfl
        obtain ⟨W3, hW3⟩ : ∃ W3, Wq.alloc (.cells (pxc ⟨2, V, 0, 0, .slice none 0 0, []⟩) 26) = W3 := ⟨_, rfl⟩
        have hB3 : Below Wq.heap.size Wq W3 := by rw [← hW3]; exact bal (Below.refl _ _)
        have hsl := run_opSlice1 Wq ⟨2, V, 0, 0, .slice none 0 0, []⟩ (ra_nil byE _)
        rw [hW3] at hsl
        have O3 := Lib.hid (HO.out.below hB3)
        have R3 := Lib.hid (show OwnA opF Wq.heap.size W3 _ [⟨2, V, 0, 0, .slice none 0 0, []⟩] from by rw [← hW3]; exact op_one Wq (by have := HWf.out; constructor <;> first | exact this.1 | exact this.2.1 | exact this.2.2.1 | rfl))
        have B3 := Lib.hid (below_more HB.out hB3)
        have hlen : Hid (L.length + [(⟨2, V, 0, 0, .slice none 0 0, []⟩ : Px)].length ≤ 1000000) := Lib.hid (by have := HN.out; simp only [List.length_singleton]; omega)
        clear hB3
        go_wp2_with (at_builtin; refine app_op rfl _ _ rfl _ _ _ rfl O3.out.row _ [⟨2, V, 0, 0, .slice none 0 0, []⟩] rfl R3.out.ra hlen B3.out.size ?_)
        intro v' w4 ho hg hx
        have B4 := Lib.hid (below_app B3.out B3.out.size O3.out.row hg)
        have O4 := Lib.hid (O3.out.snoc (own_nil_a _ _ _) (.inl rfl) ho hg hx)
        obtain ⟨pv, cv, rfl, _⟩ := ho.shape
        have HS : Hid (DS w w4 l (.slice q1 M d1) _ t (L ++ [⟨2, V, 0, 0, .slice none 0 0, []⟩])) := Lib.hid ⟨HRr.out, O4.out, by rw [HE.out, HU.out, List.map_append]; rfl, by have := HN.out; omega, by have := HN.out; rw [List.length_append]; simp only [List.length_singleton]; omega, fun y hy => by
          rcases List.mem_append.1 hy with hy | hy
          · exact HN.out.2 y hy
          · rw [List.mem_singleton.1 hy]; simp, B4.out⟩
        clear ho hg hx
        go_wp2
        go_roundw
        case rel => exact ⟨q1, M, d1, _, _, _, rfl, rfl, HS⟩
        case measure => have h1 := HL.out; simp only [slLen]; omega
      · have HU : Hid (un 3 V z t = [toC ⟨3, V, z, 0, .slice none 0 0, []⟩]) := Lib.hid rfl
        obtain ⟨W3, hW3⟩ : ∃ W3, Wq.alloc (.cells (pxc ⟨3, V, z, 0, .slice none 0 0, []⟩) 26) = W3 := ⟨_, rfl⟩
        have hB3 : Below Wq.heap.size Wq W3 := by rw [← hW3]; exact bal (Below.refl _ _)
        have hsl := run_opSlice1 Wq ⟨3, V, z, 0, .slice none 0 0, []⟩ (ra_nil byE _)
        rw [hW3] at hsl
        have O3 := Lib.hid (HO.out.below hB3)
        have R3 := Lib.hid (show OwnA opF Wq.heap.size W3 _ [⟨3, V, z, 0, .slice none 0 0, []⟩] from by rw [← hW3]; exact op_one Wq (by have := HWf.out; constructor <;> first | exact this.1 | exact this.2.1 | exact this.2.2.1 | rfl))
        have B3 := Lib.hid (below_more HB.out hB3)
        have hlen : Hid (L.length + [(⟨3, V, z, 0, .slice none 0 0, []⟩ : Px)].length ≤ 1000000) := Lib.hid (by have := HN.out; simp only [List.length_singleton]; omega)
        clear hB3
        go_wp2_with (at_builtin; refine app_op rfl _ _ rfl _ _ _ rfl O3.out.row _ [⟨3, V, z, 0, .slice none 0 0, []⟩] rfl R3.out.ra hlen B3.out.size ?_)
        intro v' w4 ho hg hx
        have B4 := Lib.hid (below_app B3.out B3.out.size O3.out.row hg)
        have O4 := Lib.hid (O3.out.snoc (own_nil_a _ _ _) (.inl rfl) ho hg hx)
        obtain ⟨pv, cv, rfl, _⟩ := ho.shape
        have HS : Hid (DS w w4 l (.slice q1 M d1) _ t (L ++ [⟨3, V, z, 0, .slice none 0 0, []⟩])) := Lib.hid ⟨HRr.out, O4.out, by rw [HE.out, HU.out, List.map_append]; rfl, by have := HN.out; omega, by have := HN.out; rw [List.length_append]; simp only [List.length_singleton]; omega, fun y hy => by
          rcases List.mem_append.1 hy with hy | hy
          · exact HN.out.2 y hy
          · rw [List.mem_singleton.1 hy]; simp, B4.out⟩
        clear ho hg hx
        go_wp2
        go_roundw
        case rel => exact ⟨q1, M, d1, _, _, _, rfl, rfl, HS⟩
        case measure => have h1 := HL.out; simp only [slLen]; omega
      · obtain ⟨Z, rfl⟩ : ∃ Z : Nat, z = Z := ⟨z.toNat, by have := HWf.out; omega⟩
        have hz255 : Z ≤ 255 := by have := HWf.out; omega
        obtain ⟨S, hS⟩ : ∃ S, min Z M = S := ⟨_, rfl⟩
        have hSL : S ≤ M := by omega
        have hMt : M = t.length := HL.out.2
        have RQ := HRr.out Wq HB.out
        have hsh : t.length ≤ d1 ∧ d1 ≤ maxLen := by
          obtain ⟨_, _, e, h1, h2⟩ := ra_shape RQ
          cases e; exact ⟨h1, h2⟩
        have hto := by_to q1 d1 t (k := S) (by omega) hsh.1 (a := S) rfl
        have hfr2 := by_from q1 d1 t (k := S) (by omega) hsh.1 hsh.2 (a := S) rfl
        rw [← hMt] at hto hfr2
        obtain ⟨q2, d2, hfr2, HR2⟩ := hfr2
        obtain ⟨hto, HT⟩ := hto
        have HRR : Hid (∀ w', Below w.heap.size w w' → RA byE w' (.slice q2 (M - S) d2) (t.drop S)) := Lib.hid (fun w' hb => HR2 w' (HRr.out w' hb))
        have HSr : Hid (t.take (tk 4 (Z : Int)) = t.take S ∧ t.drop (tk 4 (Z : Int)) = t.drop S ∧ (t.take S).length ≤ 255) := Lib.hid (by
          have e : tk 4 (Z : Int) = Z := rfl
          rw [e]
          by_cases hm : M < Z
          · obtain rfl : S = M := by omega
            rw [List.take_of_length_le (by omega), List.drop_eq_nil_of_le (by omega), List.take_of_length_le (by omega), List.drop_eq_nil_of_le (by omega)]
            exact ⟨rfl, rfl, by omega⟩
          · obtain rfl : S = Z := by omega
            exact ⟨rfl, rfl, by rw [List.length_take]; omega⟩)
        have RT := HT Wq RQ
        obtain ⟨T, hT⟩ : ∃ T, t.take S = T := ⟨_, rfl⟩
        rw [hT] at RT HSr
        have HRT := Lib.hid RT
        obtain ⟨M2, hM2⟩ : ∃ M2, M - S = M2 := ⟨_, rfl⟩
        rw [hM2] at hfr2 HRR
        have HU : Hid (∀ u, un 4 V (Z : Int) t = [toC ⟨4, V, 0, 0, u, T⟩]) := Lib.hid (fun u => by show [_] = [_]; rw [show t.take ((Z : Int).toNat) = T from HSr.out.1]; rfl)
        have hlen0 : Hid (([] : List Int).length + T.length ≤ 140737488355328) := Lib.hid (by have := HSr.out.2.2; simp; omega)
        have HM2 := Lib.hid hM2
        clear HR2 HT hsh RQ RT hT hM2 hMt
        rcases Nat.lt_or_ge M Z with hm | hm
        · have m1 : (M : Int) < (Z : Int) := by omega
          obtain rfl : S = M := by omega
          clear hS hSL hz255
          go_wp2_with (at_builtin; refine app_bys rfl _ _ rfl _ _ _ rfl (own_nil_a byE w.heap.size Wq) _ T rfl HRT.out hlen0 HB.out.size ?_)
          intro vT wT hoT hgT hxT
          obtain ⟨pT, cT, rfl, _⟩ := hoT.shape
          have BT := below_app HB.out HB.out.size (own_nil_a byE w.heap.size Wq) hgT
          have hne : ∀ y : Value, y.ownBlock = none ∨ y.ownBlock ≠ (Value.slice none 0 0).ownBlock := fun y => by
            cases e : y.ownBlock with
            | none => exact .inl rfl
            | some g => exact .inr (by simp [Value.ownBlock])
          have OT : OO w.heap.size wT u3 L := ⟨HO.out.row.kept hgT (hne _), fun x hx => (HO.out.data x hx).kept hgT (hne _), HO.out.apt⟩
          have PT : Hid ((Value.slice pT T.length cT).ownBlock = none ∨ (Value.slice pT T.length cT).ownBlock ≠ u3.ownBlock) := Lib.hid (by
            rcases hxT with e | e
            · exact .inl e
            · rw [e]
              refine .inr fun e2 => ?_
              have := (HO.out.row.lt _ e2.symm).2
              omega)
          have DT := Lib.hid hoT
          obtain ⟨W3, hW3⟩ : ∃ W3, wT.alloc (.cells (pxc ⟨4, V, 0, 0, .slice pT T.length cT, T⟩) 26) = W3 := ⟨_, rfl⟩
          have hB3 : Below wT.heap.size wT W3 := by rw [← hW3]; exact bal (Below.refl _ _)
          have hsl : (opSlice 1 #[(0, .agg (pxc ⟨4, V, 0, 0, .slice pT T.length cT, []⟩))]).run Try.prog wT = .ok (.slice (some ⟨wT.heap.size, 0, none⟩) 1 1) (wT.alloc (.cells (pxc ⟨4, V, 0, 0, .slice pT T.length cT, T⟩) 26)) := run_opSlice1 wT ⟨4, V, 0, 0, .slice pT T.length cT, T⟩ hoT.ra
          rw [hW3] at hsl
          have O3 := Lib.hid (OT.below hB3)
          have D3 := Lib.hid (DT.out.below hB3)
          have R3 := Lib.hid (show OwnA opF wT.heap.size W3 _ [⟨4, V, 0, 0, .slice pT T.length cT, T⟩] from by rw [← hW3]; exact op_one wT (by have := HWf.out; constructor <;> first | exact this.2.1 | rfl))
          have B3 := Lib.hid (below_more BT hB3)
          have hlen : Hid (L.length + [(⟨4, V, 0, 0, .slice pT T.length cT, T⟩ : Px)].length ≤ 1000000) := Lib.hid (by have := HN.out; simp only [List.length_singleton]; omega)
          clear hB3 hoT hgT hxT BT OT hne
          go_wp2_with (at_builtin; refine app_op rfl _ _ rfl _ _ _ rfl O3.out.row _ [⟨4, V, 0, 0, .slice pT T.length cT, T⟩] rfl R3.out.ra hlen B3.out.size ?_)
          intro v' w4 ho hg hx
          have B4 := Lib.hid (below_app B3.out B3.out.size O3.out.row hg)
          have O4 := Lib.hid (O3.out.snoc D3.out PT.out ho hg hx)
          obtain ⟨pv, cv, rfl, _⟩ := ho.shape
          have HS : Hid (DS w w4 l (.slice q2 M2 d2) _ (t.drop S) (L ++ [⟨4, V, 0, 0, .slice pT T.length cT, T⟩])) := Lib.hid ⟨HRR.out, O4.out, by rw [HE.out, HU.out (.slice pT T.length cT), HSr.out.2.1, List.map_append]; rfl, by have := HN.out; rw [List.length_drop]; omega, by have := HN.out; rw [List.length_append, List.length_drop]; simp only [List.length_singleton]; omega, fun y hy => by
            rcases List.mem_append.1 hy with hy | hy
            · exact HN.out.2 y hy
            · rw [List.mem_singleton.1 hy]; exact HSr.out.2.2, B4.out⟩
          clear ho hg hx
          go_wp2
          go_roundw
          case rel => exact ⟨q2, M2, d2, _, _, _, rfl, rfl, HS⟩
          case measure => have h1 := HL.out; have h2 := HM2.out; simp only [slLen]; omega
        · have m1 : ¬ (M : Int) < (Z : Int) := by omega
          have m2 : ¬ M < Z := by omega
          obtain rfl : S = Z := by omega
          have m3 := hSL
          clear hS hSL hz255
          go_wp2_with (at_builtin; refine app_bys rfl _ _ rfl _ _ _ rfl (own_nil_a byE w.heap.size Wq) _ T rfl HRT.out hlen0 HB.out.size ?_)
          intro vT wT hoT hgT hxT
          obtain ⟨pT, cT, rfl, _⟩ := hoT.shape
          have BT := below_app HB.out HB.out.size (own_nil_a byE w.heap.size Wq) hgT
          have hne : ∀ y : Value, y.ownBlock = none ∨ y.ownBlock ≠ (Value.slice none 0 0).ownBlock := fun y => by
            cases e : y.ownBlock with
            | none => exact .inl rfl
            | some g => exact .inr (by simp [Value.ownBlock])
          have OT : OO w.heap.size wT u3 L := ⟨HO.out.row.kept hgT (hne _), fun x hx => (HO.out.data x hx).kept hgT (hne _), HO.out.apt⟩
          have PT : Hid ((Value.slice pT T.length cT).ownBlock = none ∨ (Value.slice pT T.length cT).ownBlock ≠ u3.ownBlock) := Lib.hid (by
            rcases hxT with e | e
            · exact .inl e
            · rw [e]
              refine .inr fun e2 => ?_
              have := (HO.out.row.lt _ e2.symm).2
              omega)
          have DT := Lib.hid hoT
          obtain ⟨W3, hW3⟩ : ∃ W3, wT.alloc (.cells (pxc ⟨4, V, 0, 0, .slice pT T.length cT, T⟩) 26) = W3 := ⟨_, rfl⟩
          have hB3 : Below wT.heap.size wT W3 := by rw [← hW3]; exact bal (Below.refl _ _)
          have hsl : (opSlice 1 #[(0, .agg (pxc ⟨4, V, 0, 0, .slice pT T.length cT, []⟩))]).run Try.prog wT = .ok (.slice (some ⟨wT.heap.size, 0, none⟩) 1 1) (wT.alloc (.cells (pxc ⟨4, V, 0, 0, .slice pT T.length cT, T⟩) 26)) := run_opSlice1 wT ⟨4, V, 0, 0, .slice pT T.length cT, T⟩ hoT.ra
          rw [hW3] at hsl
          have O3 := Lib.hid (OT.below hB3)
          have D3 := Lib.hid (DT.out.below hB3)
          have R3 := Lib.hid (show OwnA opF wT.heap.size W3 _ [⟨4, V, 0, 0, .slice pT T.length cT, T⟩] from by rw [← hW3]; exact op_one wT (by have := HWf.out; constructor <;> first | exact this.2.1 | rfl))
          have B3 := Lib.hid (below_more BT hB3)
          have hlen : Hid (L.length + [(⟨4, V, 0, 0, .slice pT T.length cT, T⟩ : Px)].length ≤ 1000000) := Lib.hid (by have := HN.out; simp only [List.length_singleton]; omega)
          clear hB3 hoT hgT hxT BT OT hne
          go_wp2_with (at_builtin; refine app_op rfl _ _ rfl _ _ _ rfl O3.out.row _ [⟨4, V, 0, 0, .slice pT T.length cT, T⟩] rfl R3.out.ra hlen B3.out.size ?_)
          intro v' w4 ho hg hx
          have B4 := Lib.hid (below_app B3.out B3.out.size O3.out.row hg)
          have O4 := Lib.hid (O3.out.snoc D3.out PT.out ho hg hx)
          obtain ⟨pv, cv, rfl, _⟩ := ho.shape
          have HS : Hid (DS w w4 l (.slice q2 M2 d2) _ (t.drop S) (L ++ [⟨4, V, 0, 0, .slice pT T.length cT, T⟩])) := Lib.hid ⟨HRR.out, O4.out, by rw [HE.out, HU.out (.slice pT T.length cT), HSr.out.2.1, List.map_append]; rfl, by have := HN.out; rw [List.length_drop]; omega, by have := HN.out; rw [List.length_append, List.length_drop]; simp only [List.length_singleton]; omega, fun y hy => by
            rcases List.mem_append.1 hy with hy | hy
            · exact HN.out.2 y hy
            · rw [List.mem_singleton.1 hy]; exact HSr.out.2.2, B4.out⟩
          clear ho hg hx
          go_wp2
          go_roundw
          case rel => exact ⟨q2, M2, d2, _, _, _, rfl, rfl, HS⟩
          case measure => have h1 := HL.out; have h2 := HM2.out; simp only [slLen]; omega
      · have HU : Hid (un 5 V z t = [toC ⟨5, V, 0, 0, .slice none 0 0, []⟩]) := Lib.hid rfl
        obtain ⟨W3, hW3⟩ : ∃ W3, Wq.alloc (.cells (pxc ⟨5, V, 0, 0, .slice none 0 0, []⟩) 26) = W3 := ⟨_, rfl⟩
        have hB3 : Below Wq.heap.size Wq W3 := by rw [← hW3]; exact bal (Below.refl _ _)
        have hsl := run_opSlice1 Wq ⟨5, V, 0, 0, .slice none 0 0, []⟩ (ra_nil byE _)
        rw [hW3] at hsl
        have O3 := Lib.hid (HO.out.below hB3)
        have R3 := Lib.hid (show OwnA opF Wq.heap.size W3 _ [⟨5, V, 0, 0, .slice none 0 0, []⟩] from by rw [← hW3]; exact op_one Wq (by have := HWf.out; constructor <;> first | exact this.1 | exact this.2.1 | exact this.2.2.1 | rfl))
        have B3 := Lib.hid (below_more HB.out hB3)
        have hlen : Hid (L.length + [(⟨5, V, 0, 0, .slice none 0 0, []⟩ : Px)].length ≤ 1000000) := Lib.hid (by have := HN.out; simp only [List.length_singleton]; omega)
        clear hB3
        go_wp2_with (at_builtin; refine app_op rfl _ _ rfl _ _ _ rfl O3.out.row _ [⟨5, V, 0, 0, .slice none 0 0, []⟩] rfl R3.out.ra hlen B3.out.size ?_)
        intro v' w4 ho hg hx
        have B4 := Lib.hid (below_app B3.out B3.out.size O3.out.row hg)
        have O4 := Lib.hid (O3.out.snoc (own_nil_a _ _ _) (.inl rfl) ho hg hx)
        obtain ⟨pv, cv, rfl, _⟩ := ho.shape
        have HS : Hid (DS w w4 l (.slice q1 M d1) _ t (L ++ [⟨5, V, 0, 0, .slice none 0 0, []⟩])) := Lib.hid ⟨HRr.out, O4.out, by rw [HE.out, HU.out, List.map_append]; rfl, by have := HN.out; omega, by have := HN.out; rw [List.length_append]; simp only [List.length_singleton]; omega, fun y hy => by
          rcases List.mem_append.1 hy with hy | hy
          · exact HN.out.2 y hy
          · rw [List.mem_singleton.1 hy]; simp, B4.out⟩
        clear ho hg hx
        go_wp2
        go_roundw
        case rel => exact ⟨q1, M, d1, _, _, _, rfl, rfl, HS⟩
        case measure => have h1 := HL.out; simp only [slLen]; omega
      · have HU : Hid (un 6 V z t = [toC ⟨6, 0, 0, 0, .slice none 0 0, []⟩]) := Lib.hid rfl
        obtain ⟨W3, hW3⟩ : ∃ W3, Wq.alloc (.cells (pxc ⟨6, 0, 0, 0, .slice none 0 0, []⟩) 26) = W3 := ⟨_, rfl⟩
        have hB3 : Below Wq.heap.size Wq W3 := by rw [← hW3]; exact bal (Below.refl _ _)
        have hsl := run_opSlice1 Wq ⟨6, 0, 0, 0, .slice none 0 0, []⟩ (ra_nil byE _)
        rw [hW3] at hsl
        have O3 := Lib.hid (HO.out.below hB3)
        have R3 := Lib.hid (show OwnA opF Wq.heap.size W3 _ [⟨6, 0, 0, 0, .slice none 0 0, []⟩] from by rw [← hW3]; exact op_one Wq (by have := HWf.out; constructor <;> first | exact this.1 | exact this.2.1 | exact this.2.2.1 | rfl))
        have B3 := Lib.hid (below_more HB.out hB3)
        have hlen : Hid (L.length + [(⟨6, 0, 0, 0, .slice none 0 0, []⟩ : Px)].length ≤ 1000000) := Lib.hid (by have := HN.out; simp only [List.length_singleton]; omega)
        clear hB3
        go_wp2_with (at_builtin; refine app_op rfl _ _ rfl _ _ _ rfl O3.out.row _ [⟨6, 0, 0, 0, .slice none 0 0, []⟩] rfl R3.out.ra hlen B3.out.size ?_)
        intro v' w4 ho hg hx
        have B4 := Lib.hid (below_app B3.out B3.out.size O3.out.row hg)
        have O4 := Lib.hid (O3.out.snoc (own_nil_a _ _ _) (.inl rfl) ho hg hx)
        obtain ⟨pv, cv, rfl, _⟩ := ho.shape
        have HS : Hid (DS w w4 l (.slice q1 M d1) _ t (L ++ [⟨6, 0, 0, 0, .slice none 0 0, []⟩])) := Lib.hid ⟨HRr.out, O4.out, by rw [HE.out, HU.out, List.map_append]; rfl, by have := HN.out; omega, by have := HN.out; rw [List.length_append]; simp only [List.length_singleton]; omega, fun y hy => by
          rcases List.mem_append.1 hy with hy | hy
          · exact HN.out.2 y hy
          · rw [List.mem_singleton.1 hy]; simp, B4.out⟩
        clear ho hg hx
        go_wp2
        go_roundw
        case rel => exact ⟨q1, M, d1, _, _, _, rfl, rfl, HS⟩
        case measure => have h1 := HL.out; simp only [slLen]; omega
      · have HU : Hid (un 7 V z t = [toC ⟨7, 0, V, z, .slice none 0 0, []⟩]) := Lib.hid rfl
        obtain ⟨W3, hW3⟩ : ∃ W3, Wq.alloc (.cells (pxc ⟨7, 0, V, z, .slice none 0 0, []⟩) 26) = W3 := ⟨_, rfl⟩
        have hB3 : Below Wq.heap.size Wq W3 := by rw [← hW3]; exact bal (Below.refl _ _)
        have hsl := run_opSlice1 Wq ⟨7, 0, V, z, .slice none 0 0, []⟩ (ra_nil byE _)
        rw [hW3] at hsl
        have O3 := Lib.hid (HO.out.below hB3)
        have R3 := Lib.hid (show OwnA opF Wq.heap.size W3 _ [⟨7, 0, V, z, .slice none 0 0, []⟩] from by rw [← hW3]; exact op_one Wq (by have := HWf.out; constructor <;> first | exact this.1 | exact this.2.1 | exact this.2.2.1 | rfl))
        have B3 := Lib.hid (below_more HB.out hB3)
        have hlen : Hid (L.length + [(⟨7, 0, V, z, .slice none 0 0, []⟩ : Px)].length ≤ 1000000) := Lib.hid (by have := HN.out; simp only [List.length_singleton]; omega)
        clear hB3
        go_wp2_with (at_builtin; refine app_op rfl _ _ rfl _ _ _ rfl O3.out.row _ [⟨7, 0, V, z, .slice none 0 0, []⟩] rfl R3.out.ra hlen B3.out.size ?_)
        intro v' w4 ho hg hx
        have B4 := Lib.hid (below_app B3.out B3.out.size O3.out.row hg)
        have O4 := Lib.hid (O3.out.snoc (own_nil_a _ _ _) (.inl rfl) ho hg hx)
        obtain ⟨pv, cv, rfl, _⟩ := ho.shape
        have HS : Hid (DS w w4 l (.slice q1 M d1) _ t (L ++ [⟨7, 0, V, z, .slice none 0 0, []⟩])) := Lib.hid ⟨HRr.out, O4.out, by rw [HE.out, HU.out, List.map_append]; rfl, by have := HN.out; omega, by have := HN.out; rw [List.length_append]; simp only [List.length_singleton]; omega, fun y hy => by
          rcases List.mem_append.1 hy with hy | hy
          · exact HN.out.2 y hy
          · rw [List.mem_singleton.1 hy]; simp, B4.out⟩
        clear ho hg hx
        go_wp2
        go_roundw
        case rel => exact ⟨q1, M, d1, _, _, _, rfl, rfl, HS⟩
        case measure => have h1 := HL.out; simp only [slLen]; omega
      · have HU : Hid (un 8 V z t = [toC ⟨8, 0, 0, 0, .slice none 0 0, []⟩]) := Lib.hid rfl
        obtain ⟨W3, hW3⟩ : ∃ W3, Wq.alloc (.cells (pxc ⟨8, 0, 0, 0, .slice none 0 0, []⟩) 26) = W3 := ⟨_, rfl⟩
        have hB3 : Below Wq.heap.size Wq W3 := by rw [← hW3]; exact bal (Below.refl _ _)
        have hsl := run_opSlice1 Wq ⟨8, 0, 0, 0, .slice none 0 0, []⟩ (ra_nil byE _)
        rw [hW3] at hsl
        have O3 := Lib.hid (HO.out.below hB3)
        have R3 := Lib.hid (show OwnA opF Wq.heap.size W3 _ [⟨8, 0, 0, 0, .slice none 0 0, []⟩] from by rw [← hW3]; exact op_one Wq (by have := HWf.out; constructor <;> first | exact this.1 | exact this.2.1 | exact this.2.2.1 | rfl))
        have B3 := Lib.hid (below_more HB.out hB3)
        have hlen : Hid (L.length + [(⟨8, 0, 0, 0, .slice none 0 0, []⟩ : Px)].length ≤ 1000000) := Lib.hid (by have := HN.out; simp only [List.length_singleton]; omega)
        clear hB3
        go_wp2_with (at_builtin; refine app_op rfl _ _ rfl _ _ _ rfl O3.out.row _ [⟨8, 0, 0, 0, .slice none 0 0, []⟩] rfl R3.out.ra hlen B3.out.size ?_)
        intro v' w4 ho hg hx
        have B4 := Lib.hid (below_app B3.out B3.out.size O3.out.row hg)
        have O4 := Lib.hid (O3.out.snoc (own_nil_a _ _ _) (.inl rfl) ho hg hx)
        obtain ⟨pv, cv, rfl, _⟩ := ho.shape
        have HS : Hid (DS w w4 l (.slice q1 M d1) _ t (L ++ [⟨8, 0, 0, 0, .slice none 0 0, []⟩])) := Lib.hid ⟨HRr.out, O4.out, by rw [HE.out, HU.out, List.map_append]; rfl, by have := HN.out; omega, by have := HN.out; rw [List.length_append]; simp only [List.length_singleton]; omega, fun y hy => by
          rcases List.mem_append.1 hy with hy | hy
          · exact HN.out.2 y hy
          · rw [List.mem_singleton.1 hy]; simp, B4.out⟩
        clear ho hg hx
        go_wp2
        go_roundw
        case rel => exact ⟨q1, M, d1, _, _, _, rfl, rfl, HS⟩
        case measure => have h1 := HL.out; simp only [slLen]; omega
      · have HU := Lib.hid (un_not (v := V) (z := z) (r := t) hk.out)
        have HT : Hid (tk k z = 0) := Lib.hid (if_neg (by have := hk.out; omega))
        have HS : Hid (DS w Wq l (.slice q1 M d1) u3 t L) := Lib.hid ⟨HRr.out, HO.out, by rw [HE.out, HU.out, HT.out, List.append_nil]; rfl, by have := HN.out; omega, by have := HN.out; omega, HN.out.2, HB.out⟩
        go_wp2
        go_roundw
        case rel => exact ⟨q1, M, d1, _, _, _, rfl, rfl, HS⟩
        case measure => have h1 := HL.out; simp only [slLen]; omega
    · have i4 : ¬ (n : Int) ≥ 4 := by omega
      have E := H.out.eq
      rw [dec_short (b := r) (by omega), List.append_nil] at E
      have HF := Lib.hid (And.intro H.out.own (And.intro E.symm (And.intro H.out.data H.out.below)))
      clear E
      go_wp2
      go_ret
      exact ⟨⟨_, rfl, L, HF.out.1, HF.out.2.1, HF.out.2.2.1⟩, HF.out.2.2.2⟩
end Go.Proofs.Ytdnijdbhdlengaa
