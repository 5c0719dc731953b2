/-
  Contracts of package count: New, All.
-/
import Derived.Test.YtplehfdanlfjoaaCne
namespace Go.Proofs.Ytplehfdanlfjoaa
open Go.RowKit

theorem info_tally : (Try.prog.info? 40).map (fun i => (i.zero, i.size, i.bytes)) = some (some (.agg #[.int .i64 0, .int .i64 0]), 2, 16) := by kernel_rfl
/-- b a batch, n pages, of which the first k are laid out of l -/
def cnew (b n : Nat) (l : List Int) (k : Nat) : Ct := ⟨b, n, fun p => if p < k then br (l.getD p 0) else 0, fun p => if p < k then br (l.getD p 0) else 0⟩
theorem cnew_step (b n : Nat) (l : List Int) (k : Nat) : ({ ({ cnew b n l k with c := at1 (cnew b n l k).c k (br (l.getD k 0)) } : Ct) with k := at1 (cnew b n l k).k k (br (l.getD k 0)) } : Ct) = cnew b n l (k + 1) := by
  have e : at1 (cnew b n l k).c k (br (l.getD k 0)) = (cnew b n l (k + 1)).c := by
    funext p
    unfold at1 cnew
    by_cases h : p = k
    · subst h; rw [if_pos rfl]; dsimp only; rw [if_pos (by omega)]
    · rw [if_neg h]; dsimp only
      by_cases hp : p < k
      · rw [if_pos hp, if_pos (by omega)]
      · rw [if_neg hp, if_neg (by omega)]
  have e2 : at1 (cnew b n l k).k k (br (l.getD k 0)) = (cnew b n l (k + 1)).k := e
  rw [e2]; dsimp only; rw [e]; rfl
theorem cnew_ok {b : Nat} {l : List Int} (h1 : 1 ≤ b) (h2 : b ≤ 100) (h3 : l.length ≤ 16) (k : Nat) : (cnew b l.length l k).Ok :=
  ⟨h1, h2, h3, fun _ _ => Nat.le_refl _, fun _ _ => Nat.lt_add_of_pos_right h1⟩
theorem run_make_tally (b n : Nat) (l : List Int) (hn : n ≤ 16) (w : World) :
    (Instr.makeSlice 36 (.int .i64 (n : Int)) (.int .i64 (n : Int))).run Try.prog w = .ok (.slice (some ⟨w.heap.size, 0, none⟩) n n) (w.alloc (.cells (tab (n * 2) (cnew b n l 0).f) 40)) := by
  obtain ⟨i, hi, hzz⟩ := Option.map_eq_some_iff.1 info_tally
  simp only [Prod.mk.injEq] at hzz
  obtain ⟨hz, hs, hb⟩ := hzz
  have := run_make (P := Try.prog) w 36 40 i _ Try.underlying36 hi hz .i64 .i64 n n (by omega) (by omega) (by rw [hb]; omega) (by omega)
  rw [Int.toNat_natCast, hs] at this
  rw [this, made_tab _ _ (cnew b n l 0).f]
  intro j _
  have h2 : (Value.agg #[.int .i64 0, .int .i64 0]).cells.size = 2 := rfl
  rw [h2]
  have e : (cnew b n l 0).f j = .int .i64 0 := by
    simp [Ct.f, cnew]
  rw [e]
  rcases (by omega : j % 2 = 0 ∨ j % 2 = 1) with h | h <;> rw [h] <;> rfl

theorem cnew_no (b : Int) (v : Value) (l : List Int) (w : World) (hr : RI w v l) (h : b < 1 ∨ 100 < b ∨ 16 < l.length) : Calls Try.prog 8 #[.int .i64 b, v] w fun e w' => e = .returned (.pointer none) ∧ w = w' := by
  obtain ⟨p, c, rfl, _⟩ := hr
  by_cases h1 : b < 1
  · clear h
    go_enter Try.func8, Try.ntmps8
    go_wp2_with fail
    go_ret
    exact ⟨rfl, rfl⟩
  · by_cases h2 : b > 100
    · clear h
      go_enter Try.func8, Try.ntmps8
      go_wp2_with fail
      go_ret
      exact ⟨rfl, rfl⟩
    · have h3 : (l.length : Int) > 16 := by omega
      have h4 : l.length > 16 := by omega
      clear h
      generalize l.length = n at *
      go_enter Try.func8, Try.ntmps8
      go_wp2_with fail
      go_ret
      exact ⟨rfl, rfl⟩
set_option maxHeartbeats 1000000 in
theorem cnew_yes (b : Nat) (v : Value) (l : List Int) (w : World) (hr : RI w v l) (h1 : 1 ≤ b) (h2 : b ≤ 100) (h3 : l.length ≤ 16) :
    Calls Try.prog 8 #[.int .i64 (b : Int), v] w fun e w' => ∃ x g, e = .returned (.pointer (some ⟨x, 0, none⟩)) ∧ w.heap.size ≤ x ∧ w.heap.size ≤ g ∧ Cq w' x g (cnew b l.length l l.length) ∧ Below w.heap.size w w' := by
  have HR := Lib.hid hr
  obtain ⟨p, c, rfl, q1, q2, q3⟩ := hr
  obtain ⟨n, hn⟩ : ∃ n, l.length = n := ⟨_, rfl⟩
  rw [hn]
  rw [hn] at h3 HR
  have hmk := run_make_tally b n l h3
  obtain ⟨W, hW⟩ : ∃ W, (w.alloc (.cells (tab (n * 2) (cnew b n l 0).f) 40)).alloc (.cells #[.int .i64 (b : Int), .slice (some ⟨w.heap.size, 0, none⟩) n n] 38) = W := ⟨_, rfl⟩
  have hs1 : (w.alloc (.cells (tab (n * 2) (cnew b n l 0).f) 40)).heap.size = w.heap.size + 1 := size_alloc _ _
  have CQ : Cq W (w.heap.size + 1) w.heap.size (cnew b n l 0) := by
    refine ⟨by omega, ?_, ?_⟩
    · rw [← hW]
      have := heap_alloc_new (w.alloc (.cells (tab (n * 2) (cnew b n l 0).f) 40)) (.cells #[.int .i64 (b : Int), .slice (some ⟨w.heap.size, 0, none⟩) n n] 38)
      rw [hs1] at this; exact this
    · rw [← hW]
      exact Whole.alloc (heap_alloc_new w _) _
  have BW : Below w.heap.size w W := by rw [← hW]; exact bal (bal (Below.refl _ _))
  have H0 := Lib.hid CQ
  have B0 := Lib.hid BW
  have HN := Lib.hid hn
  have H3 := Lib.hid h3
  have k1 : ¬ (b : Int) < 1 := by omega
  have k2 : ¬ (b : Int) > 100 := by omega
  have k3 : ¬ (n : Int) > 16 := by omega
  have k4 : ¬ n > 16 := by omega
  rw [hn] at q1
  clear CQ BW q1 q2 q3 h1 h2 h3 hn hs1
  go_enter Try.func8, Try.ntmps8
  go_wp2
  go_loopw [6, 7, 27] (fun _ _ i wr => ∃ k : Nat, k ≤ n ∧ i = .int .i64 k ∧ Hid (Cq wr (w.heap.size + 1) w.heap.size (cnew b n l k) ∧ Below w.heap.size w wr)) (fun _ _ i _ => n - (intOf i).toNat)
  case atStart => exact ⟨0, Nat.zero_le _, rfl, Lib.hid ⟨H0.out, B0.out⟩⟩
  case round =>
    obtain ⟨k, hk, rfl, H⟩ := hrel
    clear hmk
    by_cases hlt : k < n
    · have j0 : IntKind.i64.wrap ((k : Int) + 1) = ((k + 1 : Nat) : Int) := by rw [show (k : Int) + 1 = ((k + 1 : Nat) : Int) by omega]; exact i64_nat _ (by have := H3.out; omega)
      obtain ⟨bb, off, rfl, hbb, hc⟩ := ri_some HR.out (by rw [HN.out]; omega)
      have c0 : wr.cell? ⟨bb, off + k, none⟩ = some (.int .i64 (l.getD k 0)) := (H.out.2.cell (p := ⟨bb, off + k, none⟩) hbb).trans (hc k (by rw [HN.out]; exact hlt))
      have c1 := H.out.1.c1
      have f0 := H.out.1.free (k * 2)
      have f1 := H.out.1.free (k * 2 + 1)
      have p0 := H.out.1.p0 (p := k) hlt
      have p1 := H.out.1.p1 (p := k) hlt
      have i0 : (0 : Int) ≤ (k : Int) := by omega
      have i1 : (k : Int) < (n : Int) := by omega
      have i2 : ¬ (k : Int) < 0 := by omega
      have s1 := H.out.1.setc (p := k) hlt (br (l.getD k 0))
      have s2 := s1.setk (p := k) hlt (br (l.getD k 0))
      have s3 := s2.as (cnew_step b n l k)
      have B1 := (H.out.2.setCell (p := ⟨w.heap.size, k * 2, none⟩) (Nat.le_refl _) (.int .i64 (br (l.getD k 0) : Int))).setCell (p := ⟨w.heap.size, k * 2 + 1, none⟩) (Nat.le_refl _) (.int .i64 (br (l.getD k 0) : Int))
      have HF := Lib.hid (And.intro s3 B1)
      have CB := Lib.hid (bring_is (l.getD k 0) wr)
      have en : (cnew b n l k).n = n := rfl
      rw [en] at c1
      clear s1 s2 s3 B1 hc H en
      generalize br (l.getD k 0) = y at *
      generalize (cnew b n l k).c k = oc at *
      generalize (cnew b n l k).k k = ok at *
      generalize l.getD k 0 = yy at *
      go_wp2_with fail
      refine (CB.out).mono ?_; rintro e w' ⟨rfl, rfl⟩
      go_wp2
      exact ⟨⟨k + 1, by omega, by go_num, HF⟩, by simp [intOf]; omega⟩
    · obtain rfl : k = n := by omega
      go_wp2
      go_ret
      exact ⟨_, _, rfl, Nat.le_succ _, Nat.le_refl _, H.out.1, H.out.2⟩
set_option maxHeartbeats 1000000 in
theorem call_any {x g : Nat} {s : Ct} {w : World} (h : Cq w x g s) (hn : s.n ≤ 16) :
    Calls Try.prog 13 #[.pointer (some ⟨x, 0, none⟩)] w fun e w' => e = .returned (.slice (some ⟨w.heap.size, 0, none⟩) s.n s.n) ∧ OwnI w.heap.size w' (.slice (some ⟨w.heap.size, 0, none⟩) s.n s.n) (byF s.n fun p => (s.c p : Int)) ∧ Below w.heap.size w w' := by
  have hmk := run_make_row' (P := Try.prog) 22 3 (.int .i64 0) 8 Try.underlying22 info_int rfl .i64 .i64 s.n (by omega) (by omega)
  have O0 := made_own_i w s.n (by unfold maxLen; omega)
  rw [byF_zero s.n (f := fun p => if p < 0 then (s.c p : Int) else 0) fun k => rfl] at O0
  obtain ⟨W, hW⟩ : ∃ W, w.alloc (.cells (madeCells #[.int .i64 0] s.n) 3) = W := ⟨_, rfl⟩
  have B0 := bal (o := .cells (madeCells #[.int .i64 0] s.n) 3) (Below.refl w.heap.size w)
  rw [hW] at O0 B0
  have c1 := h.c1
  have d1 : W.cell? ⟨x, 1, none⟩ = some (.slice (some ⟨g, 0, none⟩) s.n s.n) := by rw [← hW]; exact cell_kept c1 _
  have OO := Lib.hid O0
  have BB := Lib.hid B0
  have HQ := Lib.hid h
  have HN := Lib.hid hn
  obtain ⟨n, hsn⟩ : ∃ n, s.n = n := ⟨_, rfl⟩
  rw [hsn] at hmk OO hW c1 d1 HN
  rw [hsn]
  have HS := Lib.hid hsn
  clear h hn O0 B0 hsn
  go_enter Try.func13, Try.ntmps13
  go_wp2
  go_loopw [4, 5, 19] (fun _ _ i wr => ∃ k : Nat, k ≤ n ∧ i = .int .i64 k ∧ Hid (OwnI w.heap.size wr (.slice (some ⟨w.heap.size, 0, none⟩) n n) (byF n fun p => if p < k then (s.c p : Int) else 0) ∧ Below w.heap.size w wr)) (fun _ _ i _ => n - (intOf i).toNat)
  case atStart => exact ⟨0, Nat.zero_le _, rfl, Lib.hid ⟨OO.out, BB.out⟩⟩
  case round =>
    obtain ⟨k, hk, rfl, H⟩ := hrel
    clear hmk
    by_cases hlt : k < n
    · have j0 : IntKind.i64.wrap ((k : Int) + 1) = ((k + 1 : Nat) : Int) := by rw [show (k : Int) + 1 = ((k + 1 : Nat) : Int) by omega]; exact i64_nat _ (by have := HN.out; omega)
      have Q := HQ.out.below H.out.2
      have p0 := Q.p0 (p := k) (by rw [HS.out]; exact hlt)
      have p1 := Q.p1 (p := k) (by rw [HS.out]; exact hlt)
      have i0 : (0 : Int) ≤ (k : Int) := by omega
      have i1 : (k : Int) < (n : Int) := by omega
      have i2 : ¬ (k : Int) < 0 := by omega
      obtain ⟨V, hV⟩ : ∃ V, wr.alloc (.cells #[.int .i64 (s.c k : Int), .int .i64 (s.k k : Int)] 40) = V := ⟨_, rfl⟩
      have hlv : Below wr.heap.size wr V := by rw [← hV]; exact bal (Below.refl _ _)
      have n0 : V.cell? ⟨wr.heap.size, 0, none⟩ = some (.int .i64 (s.c k : Int)) := by rw [← hV]; exact (Whole.at_ (heap_alloc_new wr _) 0).trans rfl
      have OV := own_below_i H.out.1 hlv
      obtain ⟨o1, o2⟩ := own_cell_i OV (j := k) (by rw [byF_length]; exact hlt)
      have OS := own_stored_i OV k (s.c k : Int)
      rw [byF_set (f' := fun p => if p < k + 1 then (s.c p : Int) else 0) (by rw [if_pos (by omega)]) (fun q hq => by
        by_cases h : q < k
        · rw [if_pos h, if_pos (by omega)]
        · rw [if_neg h, if_neg (by omega)])] at OS
      have BS := (below_more H.out.2 hlv).setCell (p := ⟨w.heap.size, k, none⟩) (Nat.le_refl _) (.int .i64 (s.c k : Int))
      have HF := Lib.hid (And.intro OS BS)
      generalize (byF n fun p => if p < k then (s.c p : Int) else 0).getD k 0 = ov at o1
      clear Q OV OS BS hlv H
      go_wp2
      exact ⟨⟨k + 1, by omega, by go_num, HF⟩, by simp [intOf]; omega⟩
    · obtain rfl : k = n := by omega
      go_wp2
      go_ret
      refine ⟨rfl, ?_, H.out.2⟩
      have e : (byF k fun p => if p < k then (s.c p : Int) else 0) = byF k fun p => (s.c p : Int) := by
        unfold byF
        refine List.map_congr_left fun p hp => ?_
        rw [if_pos (List.mem_range.1 hp)]
      rw [← e]; exact H.out.1
end Go.Proofs.Ytplehfdanlfjoaa
