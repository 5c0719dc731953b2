import Derived.BigQuiet
import Derived.Deep.RegionHeld3
import Derived.Deep.WholeRow
import Derived.OrdersHeld
import Derived.Deep.Draws
import Derived.Laws.PanicsMore
import Derived.Laws.CopyOwn
import Derived.Lib.Tables
import Derived.SizedLaws
import Derived.Lib.AppendZeros
import Derived.Shelf.Abstract
import Derived.Deep.RegionLaw
import Derived.Deep.DeepCutAuto
import Derived.Test.YtjkefcidbcifpaaGreatZoc
set_option maxRecDepth 100000
set_option maxHeartbeats 8000000
namespace Go.Proofs.YtjkefcidbcifpaaGreat
open Go.ChangeShapes Go.WideShapes Go.ChangeAt Go.RowKit
theorem info_tally : (Tryz.prog.info? 148).map (fun i => (i.zero, i.size, i.bytes)) = some (some (.agg #[.int .i64 0, .int .i64 0]), 2, 16) := by kernel_rfl
def cnew (b n : Nat) (l : List Int) (k : Nat) : Ct := ⟨b, n, fun p => if p < k then br (l.getD p 0) else 0, fun p => if p < k then br (l.getD p 0) else 0⟩
theorem cnew_step (b n : Nat) (l : List Int) (k : Nat) : ({ ({ cnew b n l k with c := at1 (cnew b n l k).c k (br (l.getD k 0)) } : Ct) with k := at1 (cnew b n l k).k k (br (l.getD k 0)) } : Ct) = cnew b n l (k + 1) := by
 have e : at1 (cnew b n l k).c k (br (l.getD k 0)) = (cnew b n l (k + 1)).c := by
  funext p
  unfold at1 cnew
  by_cases h : p = k
  . subst h; rw [if_pos rfl]; dsimp only; rw [if_pos (by omega)]
  . rw [if_neg h]; dsimp only
    by_cases hp : p < k
    . rw [if_pos hp, if_pos (by omega)]
    . rw [if_neg hp, if_neg (by omega)]
 have e2 : at1 (cnew b n l k).k k (br (l.getD k 0)) = (cnew b n l (k + 1)).k := e
 rw [e2]; dsimp only; rw [e]; rfl
theorem cnew_ok {b : Nat} {l : List Int} (h1 : 1 <= b) (h2 : b <= 100) (h3 : l.length <= 16) (k : Nat) : (cnew b l.length l k).Ok :=
 ⟨h1, h2, h3, fun _ _ => Nat.le_refl _, fun _ _ => Nat.lt_add_of_pos_right h1⟩
theorem run_make_tally (b n : Nat) (l : List Int) (hn : n <= 16) (w : World) :
 (Instr.makeSlice 144 (.int .i64 (n : Int)) (.int .i64 (n : Int))).run Tryz.prog w = .ok (.slice (some ⟨w.heap.size, 0, none⟩) n n) (w.alloc (.cells (tab (n * 2) (cnew b n l 0).f) 148)) := by
 obtain ⟨i, hi, hzz⟩ := Option.map_eq_some_iff.1 info_tally
 simp only [Prod.mk.injEq] at hzz
 obtain ⟨hz, hs, hb⟩ := hzz
 have := run_make (P := Tryz.prog) w 144 148 i _ Tryz.underlying144 hi hz .i64 .i64 n n (by omega) (by omega) (by rw [hb]; omega) (by omega)
 rw [Int.toNat_natCast, hs] at this
 rw [this, made_tab _ _ (cnew b n l 0).f]
 intro j _
 have h2 : (Value.agg #[.int .i64 0, .int .i64 0]).cells.size = 2 := rfl
 rw [h2]
 have e : (cnew b n l 0).f j = .int .i64 0 := by
  simp [Ct.f, cnew]
 rw [e]
 rcases (by omega : j % 2 = 0 \/ j % 2 = 1) with h | h <;> rw [h] <;> rfl
theorem cnew_no (b : Int) (v : Value) (l : List Int) (w : World) (hr : RI w v l) (h : b < 1 \/ 100 < b \/ 16 < l.length) : Calls Tryz.prog 78 #[.int .i64 b, v] w fun e w' => e = .returned (.pointer none) /\ w = w' := by
 obtain ⟨p, c, rfl, _⟩ := hr
 by_cases h1 : b < 1
 . clear h
   go_enter Tryz.func78, Tryz.ntmps78
   go_wp2_with fail
   go_ret
   exact ⟨rfl, rfl⟩
 . by_cases h2 : b > 100
   . clear h
     go_enter Tryz.func78, Tryz.ntmps78
     go_wp2_with fail
     go_ret
     exact ⟨rfl, rfl⟩
   . have h3 : (l.length : Int) > 16 := by omega
     have h4 : l.length > 16 := by omega
     clear h
     generalize l.length = n at *
     go_enter Tryz.func78, Tryz.ntmps78
     go_wp2_with fail
     go_ret
     exact ⟨rfl, rfl⟩
theorem cnew_yes (b : Nat) (v : Value) (l : List Int) (w : World) (hr : RI w v l) (h1 : 1 <= b) (h2 : b <= 100) (h3 : l.length <= 16) :
 Calls Tryz.prog 78 #[.int .i64 (b : Int), v] w fun e w' => ∃ x g, e = .returned (.pointer (some ⟨x, 0, none⟩)) /\ w.heap.size <= x /\ w.heap.size <= g /\ Cq w' x g (cnew b l.length l l.length) /\ Below w.heap.size w w' := by
 have HR := jz hr
 obtain ⟨p, c, rfl, q1, q2, q3⟩ := hr
 obtain ⟨n, hn⟩ : ∃ n, l.length = n := ⟨_, rfl⟩
 rw [hn]
 rw [hn] at h3 HR
 have hmk := run_make_tally b n l h3
 obtain ⟨W, hW⟩ : ∃ W, (w.alloc (.cells (tab (n * 2) (cnew b n l 0).f) 148)).alloc (.cells #[.int .i64 (b : Int), .slice (some ⟨w.heap.size, 0, none⟩) n n] 146) = W := ⟨_, rfl⟩
 have hs1 : (w.alloc (.cells (tab (n * 2) (cnew b n l 0).f) 148)).heap.size = w.heap.size + 1 := size_alloc _ _
 have CQ : Cq W (w.heap.size + 1) w.heap.size (cnew b n l 0) := by
  refine ⟨by omega, ?_, ?_⟩
  . rw [<- hW]
    have := heap_alloc_new (w.alloc (.cells (tab (n * 2) (cnew b n l 0).f) 148)) (.cells #[.int .i64 (b : Int), .slice (some ⟨w.heap.size, 0, none⟩) n n] 146)
    rw [hs1] at this; exact this
  . rw [<- hW]
    exact Whole.alloc (heap_alloc_new w _) _
 have BW : Below w.heap.size w W := by rw [<- hW]; exact bal (bal (Below.refl _ _))
 have H0 := jz CQ
 have B0 := jz BW
 have HN := jz hn
 have H3 := jz h3
 have k1 : ¬ (b : Int) < 1 := by omega
 have k2 : ¬ (b : Int) > 100 := by omega
 have k3 : ¬ (n : Int) > 16 := by omega
 have k4 : ¬ n > 16 := by omega
 rw [hn] at q1
 clear CQ BW q1 q2 q3 h1 h2 h3 hn hs1
 go_enter Tryz.func78, Tryz.ntmps78
 go_wp2
 go_loopw [6, 7, 27] (fun _ _ i wr => ∃ k : Nat, k <= n /\ i = .int .i64 k /\ Hid (Cq wr (w.heap.size + 1) w.heap.size (cnew b n l k) /\ Below w.heap.size w wr)) (fun _ _ i _ => n - (intOf i).toNat)
 case atStart => exact ⟨0, Nat.zero_le _, rfl, jz ⟨H0.out, B0.out⟩⟩
 case round =>
  obtain ⟨k, hk, rfl, H⟩ := hrel
  clear hmk
  by_cases hlt : k < n
  . have j0 : IntKind.i64.wrap ((k : Int) + 1) = ((k + 1 : Nat) : Int) := by rw [show (k : Int) + 1 = ((k + 1 : Nat) : Int) by omega]; exact i64_nat _ (by have := H3.out; omega)
    obtain ⟨bb, off, rfl, hbb, hc⟩ := ri_some HR.out (by rw [HN.out]; omega)
    have c0 : wr.cell? ⟨bb, off + k, none⟩ = some (.int .i64 (l.getD k 0)) := (H.out.2.cell (p := ⟨bb, off + k, none⟩) hbb).trans (hc k (by rw [HN.out]; exact hlt))
    have c1 := H.out.1.c1
    have f0 := H.out.1.free (k * 2)
    have f1 := H.out.1.free (k * 2 + 1)
    have p0 := H.out.1.p0 (p := k) hlt
    have p1 := H.out.1.p1 (p := k) hlt
    have i0 : (0 : Int) <= (k : Int) := by omega
    have i1 : (k : Int) < (n : Int) := by omega
    have i2 : ¬ (k : Int) < 0 := by omega
    have s1 := H.out.1.setc (p := k) hlt (br (l.getD k 0))
    have s2 := s1.setk (p := k) hlt (br (l.getD k 0))
    have s3 := s2.as (cnew_step b n l k)
    have B1 := (H.out.2.setCell (p := ⟨w.heap.size, k * 2, none⟩) (Nat.le_refl _) (.int .i64 (br (l.getD k 0) : Int))).setCell (p := ⟨w.heap.size, k * 2 + 1, none⟩) (Nat.le_refl _) (.int .i64 (br (l.getD k 0) : Int))
    have HF := jz (And.intro s3 B1)
    have CB := jz (bring_is (l.getD k 0) wr)
    have en : (cnew b n l k).n = n := rfl
    rw [en] at c1
    clear s1 s2 s3 B1 hc H en
    generalize br (l.getD k 0) = y at *
    generalize (cnew b n l k).c k = oc at *
    generalize (cnew b n l k).k k = ok at *
    generalize l.getD k 0 = yy at *
    go_wp2_with fail
    refine (CB.out).mono ?_; rintro e w' ⟨rfl, rfl⟩
    go_wp2
    exact ⟨⟨k + 1, by omega, by go_num, HF⟩, by simp [intOf]; omega⟩
  . obtain rfl : k = n := by omega
    go_wp2
    go_ret
    exact ⟨_, _, rfl, Nat.le_succ _, Nat.le_refl _, H.out.1, H.out.2⟩
theorem call_any {x g : Nat} {s : Ct} {w : World} (h : Cq w x g s) (hn : s.n <= 16) :
 Calls Tryz.prog 59 #[.pointer (some ⟨x, 0, none⟩)] w fun e w' => e = .returned (.slice (some ⟨w.heap.size, 0, none⟩) s.n s.n) /\ OwnI w.heap.size w' (.slice (some ⟨w.heap.size, 0, none⟩) s.n s.n) (byF s.n fun p => (s.c p : Int)) /\ Below w.heap.size w w' := by
 have hmk := run_make_row' (P := Tryz.prog) 24 3 (.int .i64 0) 8 Tryz.underlying24 info_int rfl .i64 .i64 s.n (by omega) (by omega)
 have O0 := made_own_i w s.n (by unfold maxLen; omega)
 rw [byF_zero s.n (f := fun p => if p < 0 then (s.c p : Int) else 0) fun k => rfl] at O0
 obtain ⟨W, hW⟩ : ∃ W, w.alloc (.cells (madeCells #[.int .i64 0] s.n) 3) = W := ⟨_, rfl⟩
 have B0 := bal (o := .cells (madeCells #[.int .i64 0] s.n) 3) (Below.refl w.heap.size w)
 rw [hW] at O0 B0
 have c1 := h.c1
 have d1 : W.cell? ⟨x, 1, none⟩ = some (.slice (some ⟨g, 0, none⟩) s.n s.n) := by rw [<- hW]; exact cell_kept c1 _
 have OO := jz O0
 have BB := jz B0
 have HQ := jz h
 have HN := jz hn
 obtain ⟨n, hsn⟩ : ∃ n, s.n = n := ⟨_, rfl⟩
 rw [hsn] at hmk OO hW c1 d1 HN
 rw [hsn]
 have HS := jz hsn
 clear h hn O0 B0 hsn
 go_enter Tryz.func59, Tryz.ntmps59
 go_wp2
 go_loopw [4, 5, 19] (fun _ _ i wr => ∃ k : Nat, k <= n /\ i = .int .i64 k /\ Hid (OwnI w.heap.size wr (.slice (some ⟨w.heap.size, 0, none⟩) n n) (byF n fun p => if p < k then (s.c p : Int) else 0) /\ Below w.heap.size w wr)) (fun _ _ i _ => n - (intOf i).toNat)
 case atStart => exact ⟨0, Nat.zero_le _, rfl, jz ⟨OO.out, BB.out⟩⟩
 case round =>
  obtain ⟨k, hk, rfl, H⟩ := hrel
  clear hmk
  by_cases hlt : k < n
  . have j0 : IntKind.i64.wrap ((k : Int) + 1) = ((k + 1 : Nat) : Int) := by rw [show (k : Int) + 1 = ((k + 1 : Nat) : Int) by omega]; exact i64_nat _ (by have := HN.out; omega)
    have Q := HQ.out.below H.out.2
    have p0 := Q.p0 (p := k) (by rw [HS.out]; exact hlt)
    have p1 := Q.p1 (p := k) (by rw [HS.out]; exact hlt)
    have i0 : (0 : Int) <= (k : Int) := by omega
    have i1 : (k : Int) < (n : Int) := by omega
    have i2 : ¬ (k : Int) < 0 := by omega
    obtain ⟨V, hV⟩ : ∃ V, wr.alloc (.cells #[.int .i64 (s.c k : Int), .int .i64 (s.k k : Int)] 148) = V := ⟨_, rfl⟩
    have hlv : Below wr.heap.size wr V := by rw [<- hV]; exact bal (Below.refl _ _)
    have n0 : V.cell? ⟨wr.heap.size, 0, none⟩ = some (.int .i64 (s.c k : Int)) := by rw [<- hV]; exact (Whole.at_ (heap_alloc_new wr _) 0).trans rfl
    have OV := own_below_i H.out.1 hlv
    obtain ⟨o1, o2⟩ := own_cell_i OV (j := k) (by rw [byF_length]; exact hlt)
    have OS := own_stored_i OV k (s.c k : Int)
    rw [byF_set (f' := fun p => if p < k + 1 then (s.c p : Int) else 0) (by rw [if_pos (by omega)]) (fun q hq => by
     by_cases h : q < k
     . rw [if_pos h, if_pos (by omega)]
     . rw [if_neg h, if_neg (by omega)])] at OS
    have BS := (below_more H.out.2 hlv).setCell (p := ⟨w.heap.size, k, none⟩) (Nat.le_refl _) (.int .i64 (s.c k : Int))
    have HF := jz (And.intro OS BS)
    generalize (byF n fun p => if p < k then (s.c p : Int) else 0).getD k 0 = ov at o1
    clear Q OV OS BS hlv H
    go_wp2
    exact ⟨⟨k + 1, by omega, by go_num, HF⟩, by simp [intOf]; omega⟩
  . obtain rfl : k = n := by omega
    go_wp2
    go_ret
    refine ⟨rfl, ?_, H.out.2⟩
    have e : (byF k fun p => if p < k then (s.c p : Int) else 0) = byF k fun p => (s.c p : Int) := by
     unfold byF
     refine List.map_congr_left fun p hp => ?_
     rw [if_pos (List.mem_range.1 hp)]
    rw [<- e]; exact H.out.1

def May (l s p b : Int) : Prop := (1 <= l /\ l <= 64) /\ (0 <= s /\ s <= 16) /\ (1 <= p /\ p <= 1000) /\ 1 <= b /\ b <= 100
instance (l s p b : Int) : Decidable (May l s p b) := by unfold May; infer_instance
theorem within_yes {n a b : Int} (h1 : a <= n) (h2 : n <= b) (w : World) : Calls Tryz.prog 102 #[.int .i64 n, .int .i64 a, .int .i64 b] w fun e w' => e = .returned (.bool true) /\ w = w' := by
 have i1 : n >= a := h1
 go_enter Tryz.func102, Tryz.ntmps102
 go_wp2_with fail
 go_ret
 exact ⟨rfl, rfl⟩
theorem pmay_yes {l s p b : Int} (h : May l s p b) (w : World) : Calls Tryz.prog 60 #[(Value.agg #[Value.int IntKind.i64 l, Value.int IntKind.i64 s, Value.int IntKind.i64 p, Value.int IntKind.i64 b])] w fun e w' => e = .returned (.bool true) /\ Below w.heap.size w w' := by
 obtain ⟨⟨h1, h2⟩, ⟨h3, h4⟩, ⟨h5, h6⟩, h7, h8⟩ := h
 have HB := jz (bal (o := .cells #[.int .i64 l, .int .i64 s, .int .i64 p, .int .i64 b] 23) (Below.refl w.heap.size w))
 go_enter Tryz.func60, Tryz.ntmps60
 go_wp2_with fail
 refine (within_yes h1 h2 _).mono ?_; rintro e w' ⟨rfl, rfl⟩
 go_wp2_with fail
 refine (within_yes h3 h4 _).mono ?_; rintro e w' ⟨rfl, rfl⟩
 go_wp2_with fail
 refine (within_yes h5 h6 _).mono ?_; rintro e w' ⟨rfl, rfl⟩
 go_wp2_with fail
 refine (within_yes h7 h8 _).mono ?_; rintro e w' ⟨rfl, rfl⟩
 go_wp2_with fail
 go_ret
 exact ⟨rfl, HB.out⟩
theorem rmay_yes {l s p b : Int} (h : May l s p b) (w : World) : Calls Tryz.prog 39 #[(Value.agg #[Value.int IntKind.i64 l, Value.int IntKind.i64 s, Value.int IntKind.i64 p, Value.int IntKind.i64 b])] w fun e w' => e = .returned (.bool true) /\ Below w.heap.size w w' := by
 obtain ⟨⟨h1, h2⟩, ⟨h3, h4⟩, ⟨h5, h6⟩, h7, h8⟩ := h
 have i1 : l >= 1 := h1
 have i3 : s >= 0 := h3
 have i5 : p >= 1 := h5
 have i7 : b >= 1 := h7
 have HB := jz (bal (o := .cells #[.int .i64 l, .int .i64 s, .int .i64 p, .int .i64 b] 23) (Below.refl w.heap.size w))
 go_enter Tryz.func39, Tryz.ntmps39
 go_wp2_with fail
 go_ret
 exact ⟨rfl, HB.out⟩
theorem info_plan : (Tryz.prog.info? 23).map (·.size) = some 4 := by kernel_rfl
def planLoad (p : Value) : Sem Value := Instr.loadAt 23 p
@[go_sem ↓] theorem loadAt_plan (p : Value) : Instr.loadAt 23 p = planLoad p := rfl
def Pq (w : World) (g : Nat) (l s p b : Int) : Prop := Whole w g 23 #[Value.int IntKind.i64 l, Value.int IntKind.i64 s, Value.int IntKind.i64 p, Value.int IntKind.i64 b]
theorem Pq.c0 {w : World} {g : Nat} {l s p b : Int} (h : Pq w g l s p b) : w.cell? ⟨g, 0, none⟩ = some (.int .i64 l) := Whole.at_ h 0
theorem Pq.c1 {w : World} {g : Nat} {l s p b : Int} (h : Pq w g l s p b) : w.cell? ⟨g, 1, none⟩ = some (.int .i64 s) := Whole.at_ h 1
theorem Pq.load {w : World} {g : Nat} {l s p b : Int} (h : Pq w g l s p b) : (planLoad (.pointer (some ⟨g, 0, none⟩))).run Tryz.prog w = .ok (Value.agg #[Value.int IntKind.i64 l, Value.int IntKind.i64 s, Value.int IntKind.i64 p, Value.int IntKind.i64 b]) w :=
 run_loadAt_mid (P := Tryz.prog) w g 0 23 [.int .i64 l, .int .i64 s, .int .i64 p, .int .i64 b] _ (fun j v hv => by
  rw [Whole.at_ h, Nat.zero_add, <- hv]; simp) Tryz.underlying23 rfl (by rw [info_plan]; rfl)
theorem Pq.below {w w' : World} {g : Nat} {l s p b : Int} (h : Pq w g l s p b) (hb : Below w.heap.size w w') : Pq w' g l s p b := (hb.block g (Whole.lt h)).trans h
theorem plan_boxed (w : World) (l s p b : Int) : ∃ W, w.alloc (.cells #[Value.int IntKind.i64 l, Value.int IntKind.i64 s, Value.int IntKind.i64 p, Value.int IntKind.i64 b] 23) = W /\ Hid (Pq W w.heap.size l s p b /\ Below w.heap.size w W) :=
 ⟨_, rfl, jz ⟨heap_alloc_last w _, bal (Below.refl _ _)⟩⟩
def MayN (l s p b : Nat) : Prop := (1 <= l /\ l <= 64) /\ s <= 16 /\ (1 <= p /\ p <= 1000) /\ 1 <= b /\ b <= 100
theorem MayN.may {l s p b : Nat} (h : MayN l s p b) : May (l : Int) (s : Int) (p : Int) (b : Int) := by unfold MayN at h; unfold May; omega
theorem May.nat {l s p b : Int} (h : May l s p b) : ∃ L S P B : Nat, l = L /\ s = S /\ p = P /\ b = B /\ MayN L S P B := by
 unfold May at h
 exact ⟨l.toNat, s.toNat, p.toNat, b.toNat, by omega, by omega, by omega, by omega, by unfold MayN; omega⟩
theorem words_yes {l s p b v : Nat} (h : MayN l s p b) (hv : l * 8 = v) (w : World) : Calls Tryz.prog 83 #[(Value.agg #[Value.int IntKind.i64 (l : Int), Value.int IntKind.i64 (s : Int), Value.int IntKind.i64 (p : Int), Value.int IntKind.i64 (b : Int)])] w fun e w' => e = .returned (.int .i64 (v : Int)) /\ Below w.heap.size w w' := by
 obtain ⟨W, hW, H⟩ := plan_boxed w l s p b
 have l0 := H.out.1.load
 have C := jz (pmay_yes h.may W)
 obtain ⟨⟨h1, h2⟩, h4, _⟩ := h
 have k0 : IntKind.i64.wrap ((l : Int) * 8) = v := by rw [show (l : Int) * 8 = (v : Int) by omega]; exact i64_nat _ (by omega)
 clear h1 h2 h4 hv
 go_enter Tryz.func83, Tryz.ntmps83
 go_wp2_with fail
 refine (C.out).mono ?_; rintro e w' ⟨rfl, hb⟩
 have HB := jz (below_more H.out.2 hb)
 have c0 := (H.out.1.below hb).c0
 have c1 := (H.out.1.below hb).c1
 clear hb
 go_wp2_with fail
 go_ret
 exact ⟨rfl, HB.out⟩
theorem logical_yes {l s p b v : Nat} (h : MayN l s p b) (hv : 16 + l = v) (w : World) : Calls Tryz.prog 87 #[(Value.agg #[Value.int IntKind.i64 (l : Int), Value.int IntKind.i64 (s : Int), Value.int IntKind.i64 (p : Int), Value.int IntKind.i64 (b : Int)])] w fun e w' => e = .returned (.int .i64 (v : Int)) /\ Below w.heap.size w w' := by
 obtain ⟨W, hW, H⟩ := plan_boxed w l s p b
 have l0 := H.out.1.load
 have C := jz (pmay_yes h.may W)
 obtain ⟨⟨h1, h2⟩, h4, _⟩ := h
 have k0 : IntKind.i64.wrap (16 + (l : Int)) = v := by rw [show 16 + (l : Int) = (v : Int) by omega]; exact i64_nat _ (by omega)
 clear h1 h2 h4 hv
 go_enter Tryz.func87, Tryz.ntmps87
 go_wp2_with fail
 refine (C.out).mono ?_; rintro e w' ⟨rfl, hb⟩
 have HB := jz (below_more H.out.2 hb)
 have c0 := (H.out.1.below hb).c0
 have c1 := (H.out.1.below hb).c1
 clear hb
 go_wp2_with fail
 go_ret
 exact ⟨rfl, HB.out⟩
theorem pages_yes {l s p b v : Nat} (h : MayN l s p b) (hv : (l + 3) / 4 = v) (w : World) : Calls Tryz.prog 22 #[(Value.agg #[Value.int IntKind.i64 (l : Int), Value.int IntKind.i64 (s : Int), Value.int IntKind.i64 (p : Int), Value.int IntKind.i64 (b : Int)])] w fun e w' => e = .returned (.int .i64 (v : Int)) /\ Below w.heap.size w w' := by
 obtain ⟨W, hW, H⟩ := plan_boxed w l s p b
 have l0 := H.out.1.load
 have C := jz (pmay_yes h.may W)
 obtain ⟨⟨h1, h2⟩, h4, _⟩ := h
 obtain ⟨m, hm⟩ : ∃ m, l - 1 = m := ⟨_, rfl⟩
 have k0 : IntKind.i64.wrap ((l : Int) - 1) = m := by rw [show (l : Int) - 1 = (m : Int) by omega]; exact i64_nat _ (by omega)
 have k1 : IntKind.i64.wrap (((m / 4 : Nat) : Int) + 1) = v := by rw [show ((m / 4 : Nat) : Int) + 1 = (v : Int) by omega]; exact i64_nat _ (by omega)
 have P := jz (page_is m (by omega))
 generalize m / 4 = q at *
 clear hm
 clear h1 h2 h4 hv
 go_enter Tryz.func22, Tryz.ntmps22
 go_wp2_with fail
 refine (C.out).mono ?_; rintro e w' ⟨rfl, hb⟩
 have HB := jz (below_more H.out.2 hb)
 have c0 := (H.out.1.below hb).c0
 have c1 := (H.out.1.below hb).c1
 clear hb
 go_wp2_with fail
 refine (P.out _).mono ?_; rintro e w' ⟨rfl, rfl⟩
 go_wp2_with fail
 go_ret
 exact ⟨rfl, HB.out⟩
theorem rdevice_yes {l s p b v : Nat} (h : MayN l s p b) (hv : 17 + l + s = v) (w : World) : Calls Tryz.prog 40 #[(Value.agg #[Value.int IntKind.i64 (l : Int), Value.int IntKind.i64 (s : Int), Value.int IntKind.i64 (p : Int), Value.int IntKind.i64 (b : Int)])] w fun e w' => e = .returned (.int .i64 (v : Int)) /\ Below w.heap.size w w' := by
 obtain ⟨W, hW, H⟩ := plan_boxed w l s p b
 have l0 := H.out.1.load
 have C := jz (rmay_yes h.may W)
 obtain ⟨⟨h1, h2⟩, h4, _⟩ := h
 have k0 : IntKind.i64.wrap (16 + (l : Int)) = ((16 + l : Nat) : Int) := by rw [show 16 + (l : Int) = ((16 + l : Nat) : Int) by omega]; exact i64_nat _ (by omega)
 have k1 : IntKind.i64.wrap (((16 + l : Nat) : Int) + 1) = ((17 + l : Nat) : Int) := by rw [show ((16 + l : Nat) : Int) + 1 = ((17 + l : Nat) : Int) by omega]; exact i64_nat _ (by omega)
 have k2 : IntKind.i64.wrap (((17 + l : Nat) : Int) + (s : Int)) = v := by rw [show ((17 + l : Nat) : Int) + (s : Int) = (v : Int) by omega]; exact i64_nat _ (by omega)
 generalize 16 + l = x at *
 generalize 17 + l = y at *
 clear h1 h2 h4 hv
 go_enter Tryz.func40, Tryz.ntmps40
 go_wp2_with fail
 refine (C.out).mono ?_; rintro e w' ⟨rfl, hb⟩
 have HB := jz (below_more H.out.2 hb)
 have c0 := (H.out.1.below hb).c0
 have c1 := (H.out.1.below hb).c1
 clear hb
 go_wp2_with fail
 go_ret
 exact ⟨rfl, HB.out⟩
theorem device_yes {l s p b v : Nat} (h : MayN l s p b) (hv : 17 + l + s = v) (w : World) : Calls Tryz.prog 38 #[(Value.agg #[Value.int IntKind.i64 (l : Int), Value.int IntKind.i64 (s : Int), Value.int IntKind.i64 (p : Int), Value.int IntKind.i64 (b : Int)])] w fun e w' => e = .returned (.int .i64 (v : Int)) /\ Below w.heap.size w w' := by
 obtain ⟨W, hW, H⟩ := plan_boxed w l s p b
 have l0 := H.out.1.load
 have C := jz (pmay_yes h.may W)
 have LG := jz (logical_yes h rfl)
 obtain ⟨⟨h1, h2⟩, h4, _⟩ := h
 have k1 : IntKind.i64.wrap (((16 + l : Nat) : Int) + 1) = ((17 + l : Nat) : Int) := by rw [show ((16 + l : Nat) : Int) + 1 = ((17 + l : Nat) : Int) by omega]; exact i64_nat _ (by omega)
 have k2 : IntKind.i64.wrap (((17 + l : Nat) : Int) + (s : Int)) = v := by rw [show ((17 + l : Nat) : Int) + (s : Int) = (v : Int) by omega]; exact i64_nat _ (by omega)
 generalize 16 + l = x at *
 generalize 17 + l = y at *
 clear h1 h2 h4 hv
 go_enter Tryz.func38, Tryz.ntmps38
 go_wp2_with fail
 refine (C.out).mono ?_; rintro e w' ⟨rfl, hb⟩
 have B1 := jz (below_more H.out.2 hb)
 have r0 : ∀ w1 : World, Below w'.heap.size w' w1 -> (planLoad (.pointer (some ⟨w.heap.size, 0, none⟩))).run Tryz.prog w1 = .ok (Value.agg #[Value.int IntKind.i64 (l : Int), Value.int IntKind.i64 (s : Int), Value.int IntKind.i64 (p : Int), Value.int IntKind.i64 (b : Int)]) w1 := fun _ hc => ((H.out.1.below hb).below hc).load
 have r1 : ∀ w1 : World, Below w'.heap.size w' w1 -> w1.cell? ⟨w.heap.size, 1, none⟩ = some (.int .i64 (s : Int)) := fun _ hc => ((H.out.1.below hb).below hc).c1
 clear hb
 go_wp2_with fail
 go_region_held3 (fun w1 => Below w'.heap.size w' w1)
  (first | assumption | exact (Below.refl _ _).drew | exact below_more ‹Below w'.heap.size w' _› hbq)
  ((go_at_call 87; refine (LG.out _).mono ?_; rintro e wq ⟨rfl, hbq⟩))
 have HB := jz (below_more B1.out ‹Below w'.heap.size w' wq›)
 go_wp2
 go_ret
 exact ⟨rfl, HB.out⟩
theorem home_yes {l s p b i v : Nat} (h : MayN l s p b) (hi : i < l) (hv : 16 + i = v) (w : World) : Calls Tryz.prog 85 #[(Value.agg #[Value.int IntKind.i64 (l : Int), Value.int IntKind.i64 (s : Int), Value.int IntKind.i64 (p : Int), Value.int IntKind.i64 (b : Int)]), .int .i64 (i : Int)] w fun e w' => e = .returned (.int .i64 (v : Int)) /\ Below w.heap.size w w' := by
 obtain ⟨W, hW, H⟩ := plan_boxed w l s p b
 have l0 := H.out.1.load
 have C := jz (pmay_yes h.may W)
 obtain ⟨⟨h1, h2⟩, h4, _⟩ := h
 obtain ⟨m, hm⟩ : ∃ m, l - 1 = m := ⟨_, rfl⟩
 have k0 : IntKind.i64.wrap ((l : Int) - 1) = m := by rw [show (l : Int) - 1 = (m : Int) by omega]; exact i64_nat _ (by omega)
 have k1 : IntKind.i64.wrap (16 + (i : Int)) = v := by rw [show 16 + (i : Int) = (v : Int) by omega]; exact i64_nat _ (by omega)
 have D := jz (within_yes (n := (i : Int)) (a := 0) (b := (m : Int)) (by omega) (by omega))
 clear h1 h2 h4 hv hm hi
 go_enter Tryz.func85, Tryz.ntmps85
 go_wp2_with fail
 refine (C.out).mono ?_; rintro e w' ⟨rfl, hb⟩
 have HB := jz (below_more H.out.2 hb)
 have c0 := (H.out.1.below hb).c0
 clear hb
 go_wp2_with fail
 refine (D.out _).mono ?_; rintro e w' ⟨rfl, rfl⟩
 go_wp2_with fail
 go_ret
 exact ⟨rfl, HB.out⟩
def dvM (l s : Int) : Int := 17 + l + s
theorem device_any {l s p b v : Int} (h : May l s p b) (hv : dvM l s = v) (w : World) : Calls Tryz.prog 38 #[(Value.agg #[Value.int IntKind.i64 l, Value.int IntKind.i64 s, Value.int IntKind.i64 p, Value.int IntKind.i64 b])] w fun e w' => e = .returned (.int .i64 v) /\ Below w.heap.size w w' := by
 obtain ⟨L, S, P, B, rfl, rfl, rfl, rfl, hN⟩ := h.nat
 unfold dvM at hv
 obtain rfl : ((17 + L + S : Nat) : Int) = v := by omega
 exact device_yes hN rfl w
theorem trod_struct4 {H : Type} {enc : TypeId × Value -> H} {P : Program} {w : World} {base : Nat} {spare : Nat -> Bool} {held : Bool} {t : TypeId} {f0 f1 f2 f3 : Field} {fuel : Nat} {cs : List Value} {x : DataW H × List MemPlace}
 (ht : P.underlying t = some (.struct #[f0, f1, f2, f3])) (h : DataW.trod enc P w base spare held fuel t cs = some x) :
 ∃ y0 y1 y2 y3 n, cs.length = P.cellsOf t /\ DataW.trod enc P w base spare held n f0.type ((cs.drop f0.offset).take (P.cellsOf f0.type)) = some y0 ∧
  DataW.trod enc P w base spare held n f1.type ((cs.drop f1.offset).take (P.cellsOf f1.type)) = some y1 /\ DataW.trod enc P w base spare held n f2.type ((cs.drop f2.offset).take (P.cellsOf f2.type)) = some y2 ∧
  DataW.trod enc P w base spare held n f3.type ((cs.drop f3.offset).take (P.cellsOf f3.type)) = some y3 := by
 obtain ⟨xs, n, _, rfl, hl, hlen, hf⟩ := DataW.trod_struct ht h
 match xs, hlen with
 | [y0, y1, y2, y3], _ => exact ⟨y0, y1, y2, y3, n, hl, by simpa using hf 0 f0 rfl, by simpa using hf 1 f1 rfl, by simpa using hf 2 f2 rfl, by simpa using hf 3 f3 rfl⟩
theorem cells_plan : Tryz.prog.cellsOf 23 = 4 := by kernel_rfl
theorem cells_int1 : Tryz.prog.cellsOf 3 = 1 := by kernel_rfl
theorem plan_in {H : Type} {enc : TypeId × Value -> H} {W : World} {base : Nat} {v : Value} {d : DataW H} {q : List MemPlace}
 (hval : Value.okWide Tryz.prog W .any base 23 v) (h : DataW.Trod enc Tryz.prog W 0 (fun _ => true) true 23 v d q) :
 ∃ l s p b : Int, v = (Value.agg #[Value.int IntKind.i64 l, Value.int IntKind.i64 s, Value.int IntKind.i64 p, Value.int IntKind.i64 b]) /\ (Lit.int .i64 l).wf = true /\ (Lit.int .i64 s).wf = true /\ (Lit.int .i64 p).wf = true /\ (Lit.int .i64 b).wf = true := by
 obtain ⟨cs, rfl, hsz, _⟩ : ∃ cs, v = .agg cs /\ cs.size = Tryz.prog.cellsOf 23 /\ Row.okWide Tryz.prog W .any base 23 cs := by
  simpa [Value.okWide, Tryz.underlying23] using hval
 obtain ⟨fuel, hf⟩ := h
 obtain ⟨y0, y1, y2, y3, k, hl, g0, g1, g2, g3⟩ := trod_struct4 Tryz.underlying23 hf
 rw [cells_plan] at hl
 dsimp only at g0 g1 g2 g3
 rw [cells_int1] at g0 g1 g2 g3
 obtain ⟨l, e0, _, w0⟩ := DataW.trod_int Tryz.underlying3 g0
 obtain ⟨s, e1, _, w1⟩ := DataW.trod_int Tryz.underlying3 g1
 obtain ⟨p, e2, _, w2⟩ := DataW.trod_int Tryz.underlying3 g2
 obtain ⟨b, e3, _, w3⟩ := DataW.trod_int Tryz.underlying3 g3
 refine ⟨l, s, p, b, ?_, w0, w1, w2, w3⟩
 obtain ⟨cl⟩ := cs
 simp [Value.cells] at hl e0 e1 e2 e3
 match cl, hl with
 | [c0, c1, c2, c3], _ =>
   simp at e0 e1 e2 e3
   simp [e0, e1, e2, e3]
structure Ha where
 z : Nat
 g : Nat
 y : Nat
 q : Nat
 x : Nat
 k : Nat
 kg : Nat
 N : Nat
 P : Nat
 per : Nat
 b : Nat
def Ha.D (a : Ha) : List Nat := [a.z, a.g, a.y, a.kg]
structure Hs where
 s : Nv
 p : Nat
 ct : Ct
 wf : Bool
def htop (a : Ha) (kv : Value) (wf : Bool) : Array Value := #[.pointer (some ⟨a.g, 0, none⟩), .int .i64 (a.N : Int), .int .i64 (a.P : Int), .int .i64 (a.per : Int), .int .i64 (a.b : Int), .pointer (some ⟨a.y, 0, none⟩), .pointer (some ⟨a.x, 0, none⟩), kv, .bool wf]
structure Hb (w : World) (a : Ha) (kv : Value) (wf : Bool) (s : Nv) (p : Nat) : Prop where
 top : Whole w a.z 98 (htop a kv wf)
 lg : Lg w a.x a.g a.y a.q (16 + a.N) a.P a.per p s
 zz : a.z ≠ a.g /\ a.z ≠ a.y /\ a.z ≠ a.q /\ a.z ≠ a.x
structure Hp (w : World) (a : Ha) (S : Hs) : Prop where
 hb : Hb w a (.pointer (some ⟨a.k, 0, none⟩)) S.wf S.s S.p
 cq : Cq w a.k a.kg S.ct
 far : a.z ≠ a.k /\ a.z ≠ a.kg /\ a.k ≠ a.g /\ a.k ≠ a.y /\ a.kg ≠ a.g /\ a.kg ≠ a.y /\ a.kg ≠ a.q /\ a.kg ≠ a.x
section
variable {w w' : World} {a : Ha} {S : Hs} {kv : Value} {wf : Bool} {s : Nv} {p : Nat}
theorem Hb.below (h : Hb w a kv wf s p) (hb : Below w.heap.size w w') : Hb w' a kv wf s p := ⟨(hb.block a.z (Whole.lt h.top)).trans h.top, h.lg.below hb, h.zz⟩
theorem Hb.chg {D : List Nat} (h : Hb w a kv wf s p) (hc : Chg D w w') (h1 : a.z ∉ D) (h2 : a.g ∉ D) (h3 : a.y ∉ D) (h4 : a.q ∉ D) (h5 : a.x ∉ D) : Hb w' a kv wf s p := ⟨hc.whole h.top h1, h.lg.chg hc h5 h2 h3 h4, h.zz⟩
theorem Hb.c0 (h : Hb w a kv wf s p) : w.cell? ⟨a.z, 0, none⟩ = some (.pointer (some ⟨a.g, 0, none⟩)) := Whole.at_ h.top 0
theorem Hb.c1 (h : Hb w a kv wf s p) : w.cell? ⟨a.z, 1, none⟩ = some (.int .i64 (a.N : Int)) := Whole.at_ h.top 1
theorem Hb.c6 (h : Hb w a kv wf s p) : w.cell? ⟨a.z, 6, none⟩ = some (.pointer (some ⟨a.x, 0, none⟩)) := Whole.at_ h.top 6
theorem Hb.c7 (h : Hb w a kv wf s p) : w.cell? ⟨a.z, 7, none⟩ = some kv := Whole.at_ h.top 7
theorem Hb.c8 (h : Hb w a kv wf s p) : w.cell? ⟨a.z, 8, none⟩ = some (.bool wf) := Whole.at_ h.top 8
theorem Hb.free (h : Hb w a kv wf s p) (i : Nat) : w.frozen? ⟨a.z, i, none⟩ = false := Whole.free h.top i
theorem Hb.lt (h : Hb w a kv wf s p) : a.z < w.heap.size := Whole.lt h.top
theorem Hb.plan (h : Hb w a kv wf s p) : (planLoad (.pointer (some ⟨a.z, 1, none⟩))).run Tryz.prog w = .ok (Value.agg #[Value.int IntKind.i64 (a.N : Int), Value.int IntKind.i64 (a.P : Int), Value.int IntKind.i64 (a.per : Int), Value.int IntKind.i64 (a.b : Int)]) w :=
 run_loadAt_mid (P := Tryz.prog) w a.z 1 23 #[Value.int IntKind.i64 (a.N : Int), Value.int IntKind.i64 (a.P : Int), Value.int IntKind.i64 (a.per : Int), Value.int IntKind.i64 (a.b : Int)].toList _ (fun j u hj => by rw [Whole.at_ h.top]; match j, hj with | 0, hj => exact hj | 1, hj => exact hj | 2, hj => exact hj | 3, hj => exact hj | j + 4, hj => simp at hj) Tryz.underlying23 rfl info_plan
theorem Hp.below (h : Hp w a S) (hb : Below w.heap.size w w') : Hp w' a S := ⟨h.hb.below hb, h.cq.below hb, h.far⟩
theorem Hp.chg {D : List Nat} (h : Hp w a S) (hc : Chg D w w') (h1 : a.z ∉ D) (h2 : a.g ∉ D) (h3 : a.y ∉ D) (h4 : a.q ∉ D) (h5 : a.x ∉ D) (h6 : a.k ∉ D) (h7 : a.kg ∉ D) : Hp w' a S := ⟨h.hb.chg hc h1 h2 h3 h4 h5, h.cq.chg hc h6 h7, h.far⟩
end
section
variable {P : Program} {ops : Array Oper} {Q : Exit -> Act -> World -> Prop} {w : World}
def yields (P : Program) (ops : Array Oper) (w : World) (K : Act -> Prop) : List Oper -> Act -> Prop
 | [], a => K a
 | o :: l, a => Region.wanted o (yielded ops a.tmps) = true /\ ∃ v, (execOp a.eval o).run P w = .ok (.value v) w /\ yields P ops w K l (a.put o.dst v)
end
section
variable {w : World} {a : Ha} {S : Hs} {kv : Value} {wf : Bool} {s : Nv} {p : Nat}
theorem hopd_is (h : Hb w a kv wf s p) : Calls Tryz.prog 56 #[.pointer (some ⟨a.z, 0, none⟩)] w fun e w' => e = .returned (.bool true) /\ w = w' := by
 have c := h.c0
 generalize a.z = z at *
 generalize a.g = g at *
 clear h
 go_enter Tryz.func56, Tryz.ntmps56
 go_wp2_with fail
 go_ret
 exact ⟨rfl, rfl⟩
def Hs.worn (S : Hs) : Bool := S.wf || decide (lk S.s ≠ 0)
theorem hworn_is (h : Hp w a S) (hd : S.s.dark = false) (hr : S.s.rg 1 = (lk S.s : Int)) : Calls Tryz.prog 20 #[.pointer (some ⟨a.z, 0, none⟩)] w fun e w' => e = .returned (.bool S.worn) /\ w = w' := by
 have C := jz (hopd_is h.hb)
 have C2 := jz (pd_live (decide (lk S.s ≠ 0)) h.hb.lg hd hr (by simp))
 have c8 := h.hb.c8
 have c6 := h.hb.c6
 unfold Hs.worn
 generalize decide (lk S.s ≠ 0) = r at *
 generalize a.z = z at *
 generalize a.x = x at *
 clear h hd hr
 generalize S.wf = b at *
 cases b with
 | true =>
   go_enter Tryz.func20, Tryz.ntmps20
   go_wp2_with fail
   refine (C.out).mono ?_; rintro e w' ⟨rfl, rfl⟩
   go_wp2_with fail
   go_ret
   exact ⟨rfl, rfl⟩
 | false =>
   go_enter Tryz.func20, Tryz.ntmps20
   go_wp2_with fail
   refine (C.out).mono ?_; rintro e w' ⟨rfl, rfl⟩
   go_wp2_with fail
   refine (C2.out).mono ?_; rintro e w' ⟨rfl, rfl⟩
   go_wp2_with fail
   go_ret
   exact ⟨rfl, rfl⟩
def Ct.ints (s : Ct) : List Int := byF s.n fun p => (s.c p : Int)
theorem hcnt_is (h : Hp w a S) (hn : S.ct.n <= 16) : Calls Tryz.prog 21 #[.pointer (some ⟨a.z, 0, none⟩)] w fun e w' => (∃ v, e = .returned v /\ OwnI w.heap.size w' v S.ct.ints) /\ Below w.heap.size w w' := by
 have C := jz (hopd_is h.hb)
 have C2 := jz (call_any h.cq hn)
 have c7 := h.hb.c7
 unfold Ct.ints
 generalize a.z = z at *
 generalize a.k = k at *
 generalize byF S.ct.n (fun p => (S.ct.c p : Int)) = l at *
 generalize S.ct.n = n at *
 clear h hn
 go_enter Tryz.func21, Tryz.ntmps21
 go_wp2_with fail
 refine (C.out).mono ?_; rintro e w' ⟨rfl, rfl⟩
 go_wp2_with fail
 refine (C2.out).mono ?_; rintro e w1 ⟨rfl, o, b⟩
 have O := jz o
 have B := jz b
 clear o b
 go_wp2_with fail
 go_ret
 exact ⟨⟨_, rfl, O.out⟩, B.out⟩
theorem hchk_ok (e : Int) (h : e ≠ 2) (w : World) : Calls Tryz.prog 105 #[.int .i64 e] w fun e w' => e = .returned (.tuple #[]) /\ w = w' := by
 have i1 : (e == 2) = false := beq_eq_false_iff_ne.2 h
 go_enter Tryz.func105, Tryz.ntmps105
 go_wp2_with fail
 go_end0
 exact ⟨rfl, rfl⟩
def Dies (e : Ending) : Prop := ∃ u pv, e = .panicked [{ v := .iface u pv, recovered := false }]
theorem hchk_dies (w : World) : Calls Tryz.prog 105 #[.int .i64 2] w fun e w' => Dies e /\ w = w' := by
 go_enter Tryz.func105, Tryz.ntmps105
 go_wp2_with fail
 exact ⟨rfl, ⟨_, _, rfl⟩, rfl⟩
theorem hreg_is {k v : Nat} (h : Hb w a kv wf s p) (hd : s.dark = false) (hk : k < 35) (hv : s.rg k = (v : Int)) (hv2 : v < 4611686018427387904) : Calls Tryz.prog 116 #[.pointer (some ⟨a.z, 0, none⟩), .int .i64 (k : Int)] w fun e w' => e = .returned (.int .i64 (v : Int)) /\ w = w' := by
 have hR : hasR (k : Int) = true := by simp [hasR]; omega
 have C := jz (reg_yes a.g s k w h.lg.nm (by simp [Nv.rdy, hR, hd]))
 rw [hv] at C
 have C2 := jz (fun w => hchk_ok 0 (by decide) w)
 have c0 := h.c0
 have j1 : IntKind.i64.wrap (v : Int) = (v : Int) := i64_nat _ (by omega)
 have i1 : ¬ (9223372036854775807 : Int) < (v : Int) := by omega
 have i2 : (v : Int) < 9223372036854775807 := by omega
 have i3 : (v : Int) <= 9223372036854775807 := by omega
 generalize a.z = z at *
 generalize a.g = g at *
 clear h hd hk hv hv2 hR
 go_enter Tryz.func116, Tryz.ntmps116
 go_wp2_with fail
 refine (C.out).mono ?_; rintro e w' ⟨rfl, rfl⟩
 go_wp2_with fail
 refine (C2.out _).mono ?_; rintro e w1 ⟨rfl, rfl⟩
 go_wp2_with fail
 go_ret
 exact ⟨rfl, rfl⟩
end
@[go_sem] theorem run_arrayAt_line (w : World) (q : Option Addr) (c : Nat) : (Instr.arrayAt 110 (.slice q 8 c)).run Tryz.prog w = .ok (.pointer q) w := by
  simp [Instr.arrayAt, run_underlying Tryz.underlying110, go_sem]
theorem slice_words (b off n cap lo hi : Nat) (h1 : lo < hi) (h2 : hi <= cap) (w : World) :
 (Instr.slice 44 (.slice (some ⟨b, off, none⟩) n cap) (some (.int .i64 (lo : Int))) (some (.int .i64 (hi : Int))) none).run Tryz.prog w = .ok (.slice (some ⟨b, off + lo, none⟩) (hi - lo) (cap - lo)) w := by
 obtain ⟨i0, hinf, hz0, hz1, hz2⟩ := info_parts info_u64
 have e2 : ∀ w, (Instr.sliceBound (.int .i64 (hi : Int)) cap .sliceAcap).run Tryz.prog w = .ok hi w := fun w => by rw [run_sliceBound (P := Tryz.prog) (w := w) .i64 hi cap .sliceAcap (by omega) (by omega)]; simp
 have e3 : ∀ w, (Instr.sliceBound (.int .i64 (lo : Int)) hi .sliceB).run Tryz.prog w = .ok lo w := fun w => by rw [run_sliceBound (P := Tryz.prog) (w := w) .i64 lo hi .sliceB (by omega) (by omega)]; simp
 unfold Instr.slice
 simp only [Sem.run_bind, run_underlying Tryz.underlying44, Result.andThen_ok]
 unfold Instr.sliceBounds sizeOf typeInfo
 simp [hinf, hz1, e2, e3, Addr.add_mid]
 omega
theorem sliceAt_words (b off n cap lo hi k c : Nat) (h1 : lo < hi) (h2 : hi <= cap) (hk : hi - lo = k) (hc : cap - lo = c) (w : World) :
 (Instr.sliceAt 44 (.slice (some ⟨b, off, none⟩) n cap) (some (.int .i64 (lo : Int))) (some (.int .i64 (hi : Int))) none).run Tryz.prog w = .ok (.slice (some ⟨b, off + lo, none⟩) k c) w := by
 subst hk hc
 exact (run_sliceAt_slice (h := Tryz.underlying44) ..).trans (slice_words b off n cap lo hi h1 h2 w)
theorem hlnof_is {X : List Int} {N i : Nat} {v : Value} (w : World) (hv : RU w v X) (hX : X.length = 8 * N) (hN : N <= 100) (hi : i < N) : Calls Tryz.prog 86 #[v, .int .i64 (i : Int)] w fun e w' => e = .returned (.agg (lc (lnO X i))) /\ Below w.heap.size w w' := by
 obtain ⟨q, c, rfl, h1, h2, _⟩ := id hv
 obtain ⟨b, off, rfl, hcell⟩ := ru_at hv (by omega)
 have hl := lnO_length hX hi
 obtain ⟨W, hW⟩ : ∃ W, w.alloc (.cells (lc [0, 0, 0, 0, 0, 0, 0, 0]) 110) = W := ⟨_, rfl⟩
 have HW : Hid (Ln W w.heap.size [0, 0, 0, 0, 0, 0, 0, 0] /\ Below w.heap.size w W) := jz (by rw [<- hW]; exact ⟨Ln.new w rfl, bal (Below.refl _ _)⟩)
 have LD : (lineLoad (.pointer (some ⟨b, off + i * 8, none⟩))).run Tryz.prog W = .ok (.agg (lc (lnO X i))) W := by
  refine run_loadAt_mid (P := Tryz.prog) W b (off + i * 8) 110 ((lnO X i).map uv) _ (fun j u hj => ?_) Tryz.underlying110 rfl (by rw [info_line, List.length_map, hl])
  have hj8 : j < 8 := by
   have := (List.getElem?_eq_some_iff.1 hj).1
   rw [List.length_map, hl] at this
   exact this
  obtain ⟨b', off', e, hcell'⟩ := ru_at (ru_below hv HW.out.2) (by omega)
  cases e
  rw [show off + i * 8 + j = off + (8 * i + j) by omega, hcell' (8 * i + j) (by omega), <- lnO_getD i hj8, <- hj]
  simp [uv, hl, hj8]
 have hst := HW.out.1.store hl
 obtain ⟨V, hV⟩ : ∃ V, W.setRow w.heap.size (lc (lnO X i)) = V := ⟨_, rfl⟩
 rw [hV] at hst
 have HV : Hid (Ln V w.heap.size (lnO X i) /\ Below w.heap.size w V) := jz (by
  rw [<- hV]
  exact ⟨HW.out.1.put hl, below_row HW.out.2 (Nat.le_refl _)⟩)
 have j1 : IntKind.i64.wrap ((i : Int) * 8) = ((i * 8 : Nat) : Int) := by rw [show (i : Int) * 8 = ((i * 8 : Nat) : Int) by omega]; exact i64_nat _ (by omega)
 have j2 : IntKind.i64.wrap ((i : Int) + 1) = ((i + 1 : Nat) : Int) := by rw [show (i : Int) + 1 = ((i + 1 : Nat) : Int) by omega]; exact i64_nat _ (by omega)
 have j3 : IntKind.i64.wrap (((i + 1 : Nat) : Int) * 8) = (((i + 1) * 8 : Nat) : Int) := by rw [show ((i + 1 : Nat) : Int) * 8 = (((i + 1) * 8 : Nat) : Int) by omega]; exact i64_nat _ (by omega)
 have hs := fun w => sliceAt_words b off X.length c (i * 8) ((i + 1) * 8) 8 (c - i * 8) (by omega) (by omega) (by omega) rfl w
 have HL := jz hl
 generalize (i + 1) * 8 = i9 at *
 generalize i * 8 = i8 at *
 generalize i + 1 = i1 at *
 generalize c - i8 = c8 at *
 generalize lnO X i = Y at *
 generalize X.length = n at *
 clear hv hcell hX hN hi h1 h2 hl
 go_enter Tryz.func86, Tryz.ntmps86
 go_wp2
 exact bodyPost_ret (v := .agg (lc Y)) (results_cell_row rfl _ _ _ _ _ _ _ rfl HV.out.1.1 Tryz.underlying110 rfl (by rw [info_line, lc_size, HL.out])) rfl ⟨rfl, HV.out.2⟩
theorem appF_take {l : List Int} {es : List Ed} {k : Nat} (h : k < es.length) : appF l (es.take (k + 1)) = if 0 <= (es.getD k default).w /\ (es.getD k default).w < (appF l (es.take k)).length then (appF l (es.take k)).set (es.getD k default).w.toNat (es.getD k default).v else appF l (es.take k) := by
 rw [List.take_add_one, appF_app, List.getElem?_eq_getElem h, List.getD_eq_getElem?_getD, List.getElem?_eq_getElem h]
 rfl
theorem rapply_is (l : List Int) (es : List Ed) (v u : Value) (w : World) (hv : RU w v l) (hu : RA edE w u es) (h0 : 0 < l.length) (hl : l.length <= 1000) (hel : es.length <= 4000) :
 Calls Tryz.prog 26 #[v, u] w fun e w' => (∃ x, e = .returned x /\ OwnU w.heap.size w' x (appF l es)) /\ Below w.heap.size w w' := by
 obtain ⟨p, c, rfl, _, _⟩ := ra_shape hu
 obtain ⟨p2, c2, rfl, _, _, _⟩ := id hv
 have HE := jz (fun (w' : World) (hb : Below w.heap.size w w') => ra_below hu hb)
 have HV := jz hv
 have HL := jz (And.intro h0 (And.intro hl hel))
 clear hu hv h0 hl hel
 go_enter Tryz.func26, Tryz.ntmps26
 go_wp2_with (at_builtin; refine list_app_u64 rfl _ _ rfl w.heap.size (.slice none 0 0) [] rfl (own_nil_u _ _) _ l rfl HV.out (by have := HL.out; simp; omega) (Nat.le_refl _) ?_)
 intro v' w1 ho hg _
 have hb1 := below_app_u (Below.refl _ _) (Nat.le_refl _) (own_nil_u w.heap.size w) hg
 obtain ⟨g, d, rfl, hgg, _, _⟩ := ho.block (HL.out.1)
 have HG := jz hgg
 have O1 := jz ho
 have D1 := jz hb1
 clear ho hg hb1 hgg
 go_wp2
 go_loopw [7, 12] (fun x i wr => ∃ k : Nat, k <= es.length /\ i = .int .i64 k /\ Hid (OwnU w.heap.size wr (.slice (some ⟨g, 0, none⟩) l.length d) (appF l (es.take k)) /\ Below w.heap.size w wr)) (fun _ i _ => es.length - (intOf i).toNat)
 case atStart => exact ⟨0, Nat.zero_le _, rfl, jz ⟨O1.out, D1.out⟩⟩
 case round =>
  obtain ⟨k, hk, rfl, H⟩ := hrel
  by_cases hlt : k < es.length
  . obtain ⟨b, off, rfl, hb, hx⟩ := ed_at (HE.out _ H.out.2) (by omega)
    obtain ⟨hld, _, _, hwf⟩ := hx k hlt
    have hF := appF_take (l := l) hlt
    rw [appF_length] at hF
    generalize es.getD k default = y at *
    obtain ⟨a, x⟩ := y
    simp only at hF
    obtain ⟨W, hW, HW⟩ := ed_boxed wr ⟨a, x⟩
    have c0 : W.cell? ⟨wr.heap.size, 0, none⟩ = some (.int .i64 a) := HW.out.1.c0
    have c1 : W.cell? ⟨wr.heap.size, 1, none⟩ = some (.int .u64 x) := HW.out.1.c1
    have hB := below_more H.out.2 HW.out.2
    have hO := H.out.1.below HW.out.2
    have i0 : (0 : Int) <= (k : Int) := by omega
    have i1 : (k : Int) < (es.length : Int) := by omega
    have i2 : ¬ (k : Int) < 0 := by omega
    have i3 : IntKind.i64.wrap ((k : Int) + 1) = ((k + 1 : Nat) : Int) := by rw [show (k : Int) + 1 = ((k + 1 : Nat) : Int) by omega]; exact i64_nat _ (by have := HL.out; omega)
    have HK := jz hlt
    by_cases h1 : 0 <= a
    . by_cases h2 : a < (l.length : Int)
      . rw [if_pos ⟨h1, h2⟩] at hF
        obtain ⟨z, rfl⟩ : ∃ z : Nat, a = z := ⟨a.toNat, by omega⟩
        rw [Int.toNat_natCast] at hF
        have i4 : (z : Int) >= 0 := by omega
        have i5 : ¬ (z : Int) < 0 := by omega
        have i6 : ¬ (l.length : Int) <= (z : Int) := by omega
        obtain ⟨_, z3⟩ := OwnU.cells hO (j := z) (by rw [appF_length]; omega)
        obtain ⟨c3, _⟩ := OwnU.cells hO (j := z) (by rw [appF_length]; omega)
        generalize (appF l (es.take k)).getD z 0 = y at c3
        have HN : Hid (OwnU w.heap.size (W.setCell ⟨g, z, none⟩ (.int .u64 x)) (.slice (some ⟨g, 0, none⟩) l.length d) (appF l (es.take (k + 1))) /\ Below w.heap.size w (W.setCell ⟨g, z, none⟩ (.int .u64 x))) := jz ⟨by rw [hF]; exact OwnU.stored hO z x, hB.setCell (p := ⟨g, z, none⟩) HG.out _⟩
        clear hx hF hB hO hb hk hlt h1 hwf
        go_wp2
        go_roundw
        case rel => exact ⟨k + 1, by have := HK.out; omega, by go_num, HN⟩
        case measure => have := HK.out; simp [intOf]; omega
      . rw [if_neg (by omega)] at hF
        have HN := jz (And.intro hO hB)
        rw [<- hF] at HN
        clear hx hF hB hO hb hk hlt hwf
        go_wp2
        go_roundw
        case rel => exact ⟨k + 1, by have := HK.out; omega, by go_num, HN⟩
        case measure => have := HK.out; simp [intOf]; omega
    . rw [if_neg (by omega)] at hF
      have HN := jz (And.intro hO hB)
      rw [<- hF] at HN
      clear hx hF hB hO hb hk hlt hwf
      go_wp2
      go_roundw
      case rel => exact ⟨k + 1, by have := HK.out; omega, by go_num, HN⟩
      case measure => have := HK.out; simp [intOf]; omega
  . obtain rfl : k = es.length := by omega
    have hF := H.out
    rw [List.take_length] at hF
    have HF := jz hF
    clear hF
    go_wp2
    go_ret
    exact ⟨⟨_, rfl, HF.out.1⟩, HF.out.2⟩
theorem made_words (n : Nat) : (madeCells #[.int .u64 0] n).toList = List.replicate n (.int .u64 0) := by rw [toList_madeCells_one]
theorem size_u64s : (Tryz.prog.info? 58).map (·.size) = some 1 := by kernel_rfl
theorem appF_nil : ∀ es : List Ed, appF [] es = []
 | [] => rfl
 | e :: r => by rw [appF, if_neg (by simp only [List.length_nil]; omega), appF_nil r]
theorem apply_is (l : List Int) (es : List Ed) (v u : Value) (w : World) (hv : RU w v l) (hu : RA edE w u es) (hl : l.length <= 1000) (hel : es.length <= 4000) :
 Calls Tryz.prog 163 #[v, u] w fun e w' => (∃ x, e = .returned x /\ OwnU w.heap.size w' x (appF l es)) /\ Below w.heap.size w w' := by
 obtain ⟨p, c, rfl, _, _⟩ := ra_shape hu
 obtain ⟨p2, c2, rfl, _, _, _⟩ := id hv
 have hmk := run_make_row' (P := Tryz.prog) 44 58 (.int .u64 0) 8 Tryz.underlying44 info_u64 rfl .i64 .i64 l.length (by omega) (by omega)
 obtain ⟨W, hW⟩ : ∃ W, w.alloc (.cells (madeCells #[.int .u64 0] l.length) 58) = W := ⟨_, rfl⟩
 have hB : Below w.heap.size w W := by rw [<- hW]; exact bal (Below.refl _ _)
 have hg : W.heap[w.heap.size]? = some (.cells (List.replicate l.length (.int .u64 0)).toArray 58 (0, 0)) := by
  rw [<- hW, <- made_words, Array.toArray_toList]; exact heap_alloc_new w _
 have HG := jz hg
 have HBW := jz hB
 have HE := jz (fun (w' : World) (hb : Below w.heap.size w w') => ra_below hu hb)
 have HV := jz (ru_below hv hB)
 have HL := jz (And.intro hl hel)
 have CS : Hid ((l.map uv).length = Nat.min l.length l.length) := jz (by simp)
 have CF : Hid (0 + (l.map uv).length <= (List.replicate l.length (Value.int .u64 0)).length) := jz (by simp)
 have CP : Hid (0 < (l.map uv).length -> some (⟨w.heap.size, 0, none⟩ : Addr) = some ⟨w.heap.size, 0, none⟩ /\ ∃ ad, p2 = some ad /\ ∀ j v, (l.map uv)[j]? = some v -> W.cell? (ad.add j) = some v) := jz fun h0 => by
  obtain ⟨b, off, rfl, _, hc⟩ := ru_some HV.out (by simpa using h0)
  refine ⟨rfl, _, rfl, fun j v hj => ?_⟩
  have hj' : j < l.length := by have := (List.getElem?_eq_some_iff.1 hj).1; simpa using this
  have e : (⟨b, off, none⟩ : Addr).add j = ⟨b, off + j, none⟩ := Go.WideShapes.add_plain ..
  rw [e, hc j hj']
  simp [hj', uv] at hj ⊢
  exact hj
 have FIN : Hid (∀ w', w'.heap[w.heap.size]? = some (.cells (splice (List.replicate l.length (Value.int .u64 0)) 0 (l.map uv)).toArray 58 (0, 0)) -> OwnU w.heap.size w' (.slice (some ⟨w.heap.size, 0, none⟩) l.length l.length) l) := jz fun w' h => by
  have es : splice (List.replicate l.length (Value.int .u64 0)) 0 (l.map uv) = l.map uv := by simp [splice]
  rw [es] at h
  refine ⟨by simp, .inr ⟨w.heap.size, l.length, _, rfl, Nat.le_refl _, h, Nat.le_refl _, by unfold maxLen; omega, by simp, by simp [List.take_of_length_le]⟩⟩
 clear hu hv hl hel hB hg
 obtain ⟨R0, hR0⟩ : ∃ R0, List.replicate l.length (Value.int .u64 0) = R0 := ⟨_, rfl⟩
 obtain ⟨C0, hC0⟩ : ∃ C0, l.map uv = C0 := ⟨_, rfl⟩
 rw [hR0] at HG CF FIN
 rw [hC0] at CS CF CP FIN
 have CO : Hid (∀ v ∈ C0, v.oneCell' = true) := jz (by rw [<- hC0]; exact uv_one l)
 clear hR0 hC0
 go_enter Tryz.func163, Tryz.ntmps163
 go_wp2_with (refine wpList_copy_splice (o := ⟨some 13, _, _, _, _, _⟩) rfl (.tmp 11) (.tmp 12) 44 44 rfl 58 Tryz.underlying44 size_u64s _ _ _ _ _ _ rfl rfl w.heap.size 0 R0 58 HG.out C0 CS.out CP.out CF.out CO.out w.heap.size w HBW.out (Nat.le_refl _) ?_)
 intro w1 hg1 hb1
 have O1 := jz (FIN.out _ hg1.out)
 have D1 := jz hb1
 clear hg1 hb1 FIN CP CF CO HG CS
 go_wp2
 go_loopw [7, 16] (fun x i wr => ∃ k : Nat, k <= es.length /\ i = .int .i64 k /\ Hid (OwnU w.heap.size wr (.slice (some ⟨w.heap.size, 0, none⟩) l.length l.length) (appF l (es.take k)) /\ Below w.heap.size w wr)) (fun _ i _ => es.length - (intOf i).toNat)
 case atStart => exact ⟨0, Nat.zero_le _, rfl, jz ⟨O1.out, D1.out⟩⟩
 case round =>
  obtain ⟨k, hk, rfl, H⟩ := hrel
  by_cases hlt : k < es.length
  . obtain ⟨b, off, rfl, hb, hx⟩ := ed_at (HE.out _ H.out.2) (by omega)
    obtain ⟨hld, _, _, hwf⟩ := hx k hlt
    have hF := appF_take (l := l) hlt
    rw [appF_length] at hF
    generalize es.getD k default = y at *
    obtain ⟨a, x⟩ := y
    simp only at hF
    obtain ⟨W, hW, HW⟩ := ed_boxed wr ⟨a, x⟩
    have c0 : W.cell? ⟨wr.heap.size, 0, none⟩ = some (.int .i64 a) := HW.out.1.c0
    have c1 : W.cell? ⟨wr.heap.size, 1, none⟩ = some (.int .u64 x) := HW.out.1.c1
    have hB := below_more H.out.2 HW.out.2
    have hO := H.out.1.below HW.out.2
    have i0 : (0 : Int) <= (k : Int) := by omega
    have i1 : (k : Int) < (es.length : Int) := by omega
    have i2 : ¬ (k : Int) < 0 := by omega
    have i3 : IntKind.i64.wrap ((k : Int) + 1) = ((k + 1 : Nat) : Int) := by rw [show (k : Int) + 1 = ((k + 1 : Nat) : Int) by omega]; exact i64_nat _ (by have := HL.out; omega)
    have HK := jz hlt
    by_cases h1 : 0 <= a
    . by_cases h2 : a < (l.length : Int)
      . rw [if_pos ⟨h1, h2⟩] at hF
        obtain ⟨z, rfl⟩ : ∃ z : Nat, a = z := ⟨a.toNat, by omega⟩
        rw [Int.toNat_natCast] at hF
        have i4 : (z : Int) >= 0 := by omega
        have i5 : ¬ (z : Int) < 0 := by omega
        have i6 : ¬ (l.length : Int) <= (z : Int) := by omega
        obtain ⟨_, z3⟩ := OwnU.cells hO (j := z) (by rw [appF_length]; omega)
        obtain ⟨c3, _⟩ := OwnU.cells hO (j := z) (by rw [appF_length]; omega)
        generalize (appF l (es.take k)).getD z 0 = y at c3
        have HN : Hid (OwnU w.heap.size (W.setCell ⟨w.heap.size, z, none⟩ (.int .u64 x)) (.slice (some ⟨w.heap.size, 0, none⟩) l.length l.length) (appF l (es.take (k + 1))) /\ Below w.heap.size w (W.setCell ⟨w.heap.size, z, none⟩ (.int .u64 x))) := jz ⟨by rw [hF]; exact OwnU.stored hO z x, hB.setCell (p := ⟨w.heap.size, z, none⟩) (Nat.le_refl _) _⟩
        clear hx hF hB hO hb hk hlt h1 hwf
        go_wp2
        go_roundw
        case rel => exact ⟨k + 1, by have := HK.out; omega, by go_num, HN⟩
        case measure => have := HK.out; simp [intOf]; omega
      . rw [if_neg (by omega)] at hF
        have HN := jz (And.intro hO hB)
        rw [<- hF] at HN
        clear hx hF hB hO hb hk hlt hwf
        go_wp2
        go_roundw
        case rel => exact ⟨k + 1, by have := HK.out; omega, by go_num, HN⟩
        case measure => have := HK.out; simp [intOf]; omega
    . rw [if_neg (by omega)] at hF
      have HN := jz (And.intro hO hB)
      rw [<- hF] at HN
      clear hx hF hB hO hb hk hlt hwf
      go_wp2
      go_roundw
      case rel => exact ⟨k + 1, by have := HK.out; omega, by go_num, HN⟩
      case measure => have := HK.out; simp [intOf]; omega
  . obtain rfl : k = es.length := by omega
    have hF := H.out
    rw [List.take_length] at hF
    have HF := jz hF
    clear hF
    go_wp2
    go_ret
    exact ⟨⟨_, rfl, HF.out.1⟩, HF.out.2⟩
theorem rapply_nil (es : List Ed) (v u : Value) (w : World) (hv : RU w v []) (hu : RA edE w u es) (hel : es.length <= 4000) :
 Calls Tryz.prog 26 #[v, u] w fun e w' => (∃ x, e = .returned x /\ OwnU w.heap.size w' x []) /\ Below w.heap.size w w' := by
 obtain ⟨p, c, rfl, _, _⟩ := ra_shape hu
 obtain ⟨p2, c2, rfl, _, _, _⟩ := id hv
 have HE := jz (fun (w' : World) (hb : Below w.heap.size w w') => ra_below hu hb)
 have HV := jz hv
 have HL := jz hel
 clear hu hv hel
 go_enter Tryz.func26, Tryz.ntmps26
 go_wp2_with (at_builtin; refine list_app_u64 rfl _ _ rfl w.heap.size (.slice none 0 0) [] rfl (own_nil_u _ _) _ [] rfl HV.out (by simp) (Nat.le_refl _) ?_)
 intro v' w1 ho hg _
 have hb1 := below_app_u (Below.refl _ _) (Nat.le_refl _) (own_nil_u w.heap.size w) hg
 have ho : OwnU w.heap.size w1 v' [] := ho
 obtain ⟨q, d, e⟩ := ho.shape
 subst e
 have O1 := jz ho
 have D1 := jz hb1
 clear ho hg hb1
 go_wp2
 go_loopw [7, 12] (fun x i wr => ∃ k : Nat, k <= es.length /\ i = .int .i64 k /\ Hid (OwnU w.heap.size wr (.slice q 0 d) [] /\ Below w.heap.size w wr)) (fun _ i _ => es.length - (intOf i).toNat)
 case atStart => exact ⟨0, Nat.zero_le _, rfl, jz ⟨O1.out, D1.out⟩⟩
 case round =>
  obtain ⟨k, hk, rfl, H⟩ := hrel
  by_cases hlt : k < es.length
  . obtain ⟨b, off, rfl, hb, hx⟩ := ed_at (HE.out _ H.out.2) (by omega)
    obtain ⟨hld, _, _, _⟩ := hx k hlt
    generalize es.getD k default = y at *
    obtain ⟨a, x⟩ := y
    obtain ⟨W, hW, HW⟩ := ed_boxed wr ⟨a, x⟩
    have c0 : W.cell? ⟨wr.heap.size, 0, none⟩ = some (.int .i64 a) := HW.out.1.c0
    have HN := jz (And.intro (H.out.1.below HW.out.2) (below_more H.out.2 HW.out.2))
    have i0 : (0 : Int) <= (k : Int) := by omega
    have i1 : (k : Int) < (es.length : Int) := by omega
    have i2 : ¬ (k : Int) < 0 := by omega
    have i3 : IntKind.i64.wrap ((k : Int) + 1) = ((k + 1 : Nat) : Int) := by rw [show (k : Int) + 1 = ((k + 1 : Nat) : Int) by omega]; exact i64_nat _ (by have := HL.out; omega)
    have HK := jz hlt
    clear hx hb hk hlt
    by_cases h1 : 0 <= a
    . have h2 : ¬ a < 0 := by omega
      go_wp2
      go_roundw
      case rel => exact ⟨k + 1, by have := HK.out; omega, by go_num, HN⟩
      case measure => have := HK.out; simp [intOf]; omega
    . go_wp2
      go_roundw
      case rel => exact ⟨k + 1, by have := HK.out; omega, by go_num, HN⟩
      case measure => have := HK.out; simp [intOf]; omega
  . obtain rfl : k = es.length := by omega
    go_wp2
    go_ret
    exact ⟨⟨_, rfl, H.out.1⟩, H.out.2⟩
theorem rapply_any (l : List Int) (es : List Ed) (v u : Value) (w : World) (hv : RU w v l) (hu : RA edE w u es) (hl : l.length <= 1000) (hel : es.length <= 4000) :
 Calls Tryz.prog 26 #[v, u] w fun e w' => (∃ x, e = .returned x /\ OwnU w.heap.size w' x (appF l es)) /\ Below w.heap.size w w' := by
 by_cases h0 : 0 < l.length
 . exact rapply_is l es v u w hv hu h0 hl hel
 . obtain rfl : l = [] := List.eq_nil_of_length_eq_zero (by omega)
   rw [appF_nil]
   exact rapply_nil es v u w hv hu hel
structure HNum (a : Ha) : Prop where
 N : 1 <= a.N /\ a.N <= 64
 P : a.P <= 16
 per : 1 <= a.per /\ a.per <= 1000
 b : 1 <= a.b /\ a.b <= 100
theorem HNum.may {a : Ha} (h : HNum a) : MayN a.N a.P a.per a.b := ⟨h.N, h.P, h.per, h.b⟩
theorem line_ru {w : World} {g : Nat} {Y : List Int} (h : Ln w g Y) : RU w (.slice (some ⟨g, 0, none⟩) 8 8) Y :=
 ⟨some ⟨g, 0, none⟩, 8, by rw [h.2], by rw [h.2]; decide, by unfold maxLen; omega, .inr ⟨g, 0, rfl, fun i hi => by rw [Nat.zero_add]; exact (h.cell (by rw [<- h.2]; exact hi)).1⟩⟩
theorem hwords_is {w : World} {a : Ha} {kv : Value} {wf : Bool} {s : Nv} {p : Nat} {X : List Int} (h : Hb w a kv wf s p) (hn : HNum a) (L : LgOk s (16 + a.N) a.P) (hd : s.dark = false) (H : Has s a.N a.P X) :
 Calls Tryz.prog 64 #[.pointer (some ⟨a.z, 0, none⟩)] w fun e w' => (∃ v, e = .returned v /\ OwnU w.heap.size w' v X) /\ Below w.heap.size w w' := by
 have c1 := h.c1
 have HM := jz hn.may
 have HNn : Hid (1 <= a.N /\ a.N <= 64) := jz hn.N
 have GC := jz (fun (i : Nat) (hi : i < a.N) (w' : World) (hb : Below w.heap.size w w') => (show Calls Tryz.prog 104 #[.pointer (some ⟨a.x, 0, none⟩), .int .i64 ((16 + i : Nat) : Int)] w' fun e w2 => e = .returned (.tuple #[.agg (lc (lnO X i)), .int .i64 0]) /\ Below w'.heap.size w' w2 from by
  have hN := hn.N
  have := gt_live (h.below hb).lg L hd (by omega) (a := 16 + i) (by omega) (by omega)
  rw [H.at_ i hi] at this
  exact this))
 have CC := jz (fun w => hchk_ok 0 (by decide) w)
 have HT := jz (fun (i : Nat) => lnO_take X i)
 have HT8 := jz (fun (i : Nat) (hi : i < a.N) => lnO_length H.len hi)
 have HTA : Hid (X.take (8 * a.N) = X) := jz (List.take_of_length_le (by rw [H.len]; exact Nat.le_refl _))
 have HTL : Hid (∀ k, (X.take k).length <= 512) := jz fun k => by have := H.len; have := hn.N; rw [List.length_take]; omega
 have CX := jz (fun (w' : World) (hb : Below w.heap.size w w') => (h.below hb).c6)
 have CP := jz (fun (w' : World) (hb : Below w.heap.size w w') => (h.below hb).plan)
 clear h L hd H hn
 generalize a.z = z at *
 generalize a.x = x at *
 generalize a.N = N at *
 generalize a.P = P at *
 generalize a.per = per at *
 generalize a.b = b at *
 go_enter Tryz.func64, Tryz.ntmps64
 go_wp2
 go_loopw [12, 3] (fun i v wr => ∃ k : Nat, k <= N /\ i = .int .i64 k /\ Hid (OwnU w.heap.size wr v (X.take (8 * k)) /\ Below w.heap.size w wr)) (fun i _ _ => N - (intOf i).toNat)
 case atStart => exact ⟨0, Nat.zero_le _, rfl, jz ⟨own_nil_u _ _, Below.refl _ _⟩⟩
 case round =>
  obtain ⟨k, hk, rfl, H⟩ := hrel
  by_cases hlt : k < N
  . have cx : ∀ w' : World, Kept (Below wr.heap.size wr w') -> w'.cell? ⟨z, 6, none⟩ = some (.pointer (some ⟨x, 0, none⟩)) := fun w' hb => CX.out w' (below_more H.out.2 hb.out)
    have cp : ∀ w' : World, Kept (Below wr.heap.size wr w') -> (planLoad (.pointer (some ⟨z, 1, none⟩))).run Tryz.prog w' = .ok (Value.agg #[Value.int IntKind.i64 (N : Int), Value.int IntKind.i64 (P : Int), Value.int IntKind.i64 (per : Int), Value.int IntKind.i64 (b : Int)]) w' := fun w' hb => CP.out w' (below_more H.out.2 hb.out)
    have GC1 := jz (fun (w' : World) (hb : Kept (Below wr.heap.size wr w')) => GC.out k hlt w' (below_more H.out.2 hb.out))
    have HC := jz (fun w => home_yes HM.out hlt rfl w)
    have h8 := HT8.out k hlt
    have HTk := jz (HT.out k)
    have j0 : IntKind.i64.wrap ((k : Int) + 1) = ((k + 1 : Nat) : Int) := by rw [show (k : Int) + 1 = ((k + 1 : Nat) : Int) by omega]; exact i64_nat _ (by have := HNn.out; omega)
    have HK := jz hlt
    have i1 : (k : Int) < (N : Int) := by omega
    generalize lnO X k = Y at *
    generalize 16 + k = kk at *
    clear hk
    go_upto_region 5 with fail
    go_cut [5, 6, 12] from 12 to 34 (fun v5 v6 v12 wx => ∃ g' : Nat, v5 = .pointer (some ⟨g', 0, none⟩) /\ v6 = .int .i64 0 /\ v12 = .int .i64 (k : Int) /\ Hid (Ln wx g' Y /\ Below wr.heap.size wr wx))
    case first =>
     go_region_held3 (fun w' => Kept (Below wr.heap.size wr w'))
      (((refine ⟨?_⟩); (repeat' (with_reducible (first | exact Below.refl _ _ | refine Below.drew ?_ | refine below_more ?_ (by assumption) | refine bal ?_ | refine below_row ?_ ?_ | (simp only [Hid, size_alloc, size_drew] at *; omega))))))
      (first
        | (go_at_call 85; refine (HC.out _).mono ?_; rintro e wq ⟨rfl, hbq⟩; have zq := jz hbq.size)
        | (go_at_call 104; refine (GC1.out _ (by first | assumption | ((refine ⟨?_⟩); (repeat' (with_reducible (first | exact Below.refl _ _ | refine Below.drew ?_ | refine below_more ?_ (by assumption) | refine bal ?_)))))).mono ?_; rintro e wq ⟨rfl, hbq⟩; have zq := jz hbq.size)
        | (rw [run_store_is (by (repeat' (first
            | ((with_reducible refine IsLn.fresh _ _ ?_ ?_); (focus (with_reducible rfl)); (focus (first | assumption | rfl)))
            | (with_reducible refine IsLn.up ?_ _) | (with_reducible refine IsLn.drew ?_) | (with_reducible refine IsLn.row ?_ (by assumption)) | (with_reducible refine IsLn.call (by assumption) ?_)))) (by assumption)]))
     all_goals (go_wp2_with fail; go_meet)
     all_goals
      refine ⟨_, rfl, rfl, rfl, jz ⟨?_, Kept.out ‹Kept (Below wr.heap.size wr _)›⟩⟩ <;>
      (repeat' (first
        | ((with_reducible refine Ln.fresh _ _ ?_ ?_); (focus (with_reducible rfl)); (focus (first | assumption | rfl)))
        | ((with_reducible refine put_at ?_ ?_ ?_); (focus (with_reducible rfl)))
        | ((with_reducible refine Ln.past ?_ ?_); rotate_left; (focus (simp only [Hid, size_alloc, size_drew] at *; omega)))
        | (with_reducible refine Ln.alloc ?_ _) | (with_reducible refine Ln.drew ?_)
        | ((with_reducible refine IsLn.fresh _ _ ?_ ?_); (focus (with_reducible rfl)); (focus (first | assumption | rfl)))
        | (with_reducible refine IsLn.up ?_ _) | (with_reducible refine IsLn.drew ?_) | (with_reducible refine IsLn.row ?_ (by assumption)) | (with_reducible refine IsLn.call (by assumption) ?_) | assumption))
    case rest =>
     obtain ⟨g', rfl, rfl, rfl, HC2⟩ := hcut
     have O1 := jz (H.out.1.below HC2.out.2)
     have BW := jz (below_more H.out.2 HC2.out.2)
     have HR := jz (line_ru HC2.out.1)
     obtain ⟨q, c, rfl⟩ := H.out.1.shape
     have HL8 : Hid ((X.take (8 * k)).length + Y.length <= 1000000) := jz (by have := HTL.out (8 * k); omega)
     have HTk' := jz HTk.out
     clear HC2 cx cp GC1 HC HTk H
     generalize X.take (8 * k) = T at *
     generalize hTn : T.length = tn at *
     go_wp2_with fail
     refine (CC.out _).mono ?_; rintro e w1 ⟨rfl, rfl⟩
     go_wp2_with (at_builtin; refine list_app_u64 rfl _ _ rfl w.heap.size _ T rfl O1.out _ Y rfl HR.out (by rw [hTn]; exact HL8.out) BW.out.size ?_)
     intro v' w2 o2 g2 _
     have BW2 := jz (below_app_u BW.out BW.out.size O1.out g2)
     rw [<- HTk'.out] at o2
     have O2 := jz o2
     clear g2 o2
     go_wp2
     exact ⟨⟨k + 1, by have := HK.out; omega, by go_num, jz ⟨O2.out, BW2.out⟩⟩, by have := HK.out; simp [intOf]; omega⟩
  . obtain rfl : k = N := by omega
    have O := jz H.out.1
    rw [HTA.out] at O
    go_wp2
    go_ret
    exact ⟨⟨_, rfl, O.out⟩, H.out.2⟩
theorem eight {l : List Int} (h : l.length = 8) : ∃ a b c d e f g i, l = [a, b, c, d, e, f, g, i] := by
 match l, h with
 | [a, b, c, d, e, f, g, i], _ => exact ⟨a, b, c, d, e, f, g, i, rfl⟩
theorem built_home2 (i a b c d e f g k : Int) : Tryz.prog.built 174 [(0, .int .i64 i), (1, .agg #[.int .u64 a, .int .u64 b, .int .u64 c, .int .u64 d, .int .u64 e, .int .u64 f, .int .u64 g, .int .u64 k])] = some (hmc ⟨i, [a, b, c, d, e, f, g, k]⟩) := by kernel_rfl
theorem built_home1 (i : Int) : Tryz.prog.built 174 [(0, .int .i64 i)] = some (hmc ⟨i, zeros⟩) := by kernel_rfl
def homeBuild (ps : Array (Nat × Value)) : Sem Value := Instr.build 174 ps
@[go_sem ↓] theorem build_home (ps : Array (Nat × Value)) : Instr.build 174 ps = homeBuild ps := rfl
@[go_sem] theorem run_homeBuild2 (w : World) (i a b c d e f g k : Int) : (homeBuild #[(0, .int .i64 i), (1, .agg #[.int .u64 a, .int .u64 b, .int .u64 c, .int .u64 d, .int .u64 e, .int .u64 f, .int .u64 g, .int .u64 k])]).run Tryz.prog w = .ok (.agg (hmc ⟨i, [a, b, c, d, e, f, g, k]⟩)) w := run_build w _ _ _ (built_home2 i a b c d e f g k)
@[go_sem] theorem run_homeBuild1 (w : World) (i : Int) : (homeBuild #[(0, .int .i64 i)]).run Tryz.prog w = .ok (.agg (hmc ⟨i, zeros⟩)) w := run_build w _ _ _ (built_home1 i)
@[go_sem] theorem run_homeBuildL (w : World) (i : Int) (l : List Int) (h : l.length = 8) : (homeBuild #[(0, .int .i64 i), (1, .agg (lc l))]).run Tryz.prog w = .ok (.agg (hmc ⟨i, l⟩)) w := by
  obtain ⟨a, b, c, d, e, f, g, k, rfl⟩ := eight h
  exact run_homeBuild2 w i a b c d e f g k
theorem built_slice1 (w : World) (i a b c d e f g k : Int) : (Instr.buildSlice 160 1 #[(0, .agg #[.int .i64 i, .int .u64 a, .int .u64 b, .int .u64 c, .int .u64 d, .int .u64 e, .int .u64 f, .int .u64 g, .int .u64 k])]).run Tryz.prog w =
 .ok (.slice (some ⟨w.heap.size, 0, none⟩) 1 1) (w.alloc (.cells #[.int .i64 i, .int .u64 a, .int .u64 b, .int .u64 c, .int .u64 d, .int .u64 e, .int .u64 f, .int .u64 g, .int .u64 k] 174)) := by
 simp [Instr.buildSlice, run_underlying Tryz.underlying160, Instr.fill, go_sem]
theorem built_slice2 (w : World) (i a b c d e f g k i' a' b' c' d' e' f' g' k' : Int) :
 (Instr.buildSlice 160 2 #[(0, .agg #[.int .i64 i, .int .u64 a, .int .u64 b, .int .u64 c, .int .u64 d, .int .u64 e, .int .u64 f, .int .u64 g, .int .u64 k]), (1, .agg #[.int .i64 i', .int .u64 a', .int .u64 b', .int .u64 c', .int .u64 d', .int .u64 e', .int .u64 f', .int .u64 g', .int .u64 k'])]).run Tryz.prog w =
 .ok (.slice (some ⟨w.heap.size, 0, none⟩) 2 2) (w.alloc (.cells #[.int .i64 i, .int .u64 a, .int .u64 b, .int .u64 c, .int .u64 d, .int .u64 e, .int .u64 f, .int .u64 g, .int .u64 k, .int .i64 i', .int .u64 a', .int .u64 b', .int .u64 c', .int .u64 d', .int .u64 e', .int .u64 f', .int .u64 g', .int .u64 k'] 174)) := by
 simp [Instr.buildSlice, run_underlying Tryz.underlying160, Instr.fill, go_sem]
theorem built_slice0 (w : World) : (Instr.buildSlice 160 0 #[]).run Tryz.prog w = .ok (.slice (some ⟨w.heap.size, 0, none⟩) 0 0) (w.alloc (.cells #[] 174)) := by
 simp [Instr.buildSlice, run_underlying Tryz.underlying160, Instr.fill, go_sem]
def homeSlice (n : Nat) (ps : Array (Nat × Value)) : Sem Value := Instr.buildSlice 160 n ps
@[go_sem ↓] theorem slice_home (n : Nat) (ps : Array (Nat × Value)) : Instr.buildSlice 160 n ps = homeSlice n ps := rfl
@[go_sem] theorem run_homeSlice0 (w : World) : (homeSlice 0 #[]).run Tryz.prog w = .ok (.slice (some ⟨w.heap.size, 0, none⟩) 0 0) (w.alloc (.cells #[] 174)) := built_slice0 w
@[go_sem] theorem run_homeSlice1 (w : World) (c : Hm) (h : c.l.length = 8) : (homeSlice 1 #[(0, .agg (hmc c))]).run Tryz.prog w = .ok (.slice (some ⟨w.heap.size, 0, none⟩) 1 1) (w.alloc (.cells (hmc c) 174)) := by
  obtain ⟨i, l⟩ := c
  obtain ⟨a, b, c, d, e, f, g, k, rfl⟩ := eight h
  exact built_slice1 w i a b c d e f g k
@[go_sem] theorem run_homeSlice2 (w : World) (c c' : Hm) (h : c.l.length = 8) (h' : c'.l.length = 8) : (homeSlice 2 #[(0, .agg (hmc c)), (1, .agg (hmc c'))]).run Tryz.prog w = .ok (.slice (some ⟨w.heap.size, 0, none⟩) 2 2) (w.alloc (.cells (c.cells ++ c'.cells).toArray 174)) := by
  obtain ⟨i, l⟩ := c
  obtain ⟨i', l'⟩ := c'
  obtain ⟨a, b, c, d, e, f, g, k, rfl⟩ := eight h
  obtain ⟨a', b', c', d', e', f', g', k', rfl⟩ := eight h'
  exact built_slice2 w i a b c d e f g k i' a' b' c' d' e' f' g' k'
theorem set_done_h {s : Nv} {i v : Int} (h : s.setE i = 0) : (s.set i v).rg = upd s.rg i.toNat v := by
 unfold Nv.setE at h
 unfold Nv.set
 by_cases hr : s.rdy (hasR i) = 0
 . rw [if_pos hr] at h ⊢
   unfold Nv.told at h
   unfold Nv.by_
   by_cases hg : s.goes = true
   . rw [if_pos hg] at h; cases h
   . rw [if_neg hg]; rfl
 . rw [if_neg hr] at h; exact absurd h hr
theorem setE_three {s : Nv} {i : Int} : s.setE i ≠ 3 := by
 unfold Nv.setE Nv.told Nv.rdy
 intro h
 repeat' split at h
 all_goals first | cases h | omega
theorem tb_far {s : Nv} {i v : Int} {P : Nat} (hi : i < 3 \/ 19 <= i) (hP : P <= 16) : (s.set i v).tb P = s.tb P := by
 refine list_ext (by simp [Nv.tb]) fun k hk => ?_
 rw [Nv.tb_length] at hk
 rw [Nv.tb_getD _ hk, Nv.tb_getD _ hk, s.set_rg _ v (by omega)]
theorem left_pos {t : List Int} (h : zeroT t < t.length) : leftT t ≠ 0 := by
 have := leftT_set h (zeroT_at h) (x := 1) (by decide)
 omega
theorem left_no {t : List Int} (h : ¬ zeroT t < t.length) : leftT t = 0 := leftT_zero fun j hj => zeroT_before (by omega)
theorem repl_left {S P : Nat} {a : Int} {d : List Int} : ∀ (n : Nat) (t : List Int) (s : Nv), t = s.tb P -> leftT t < n -> (repl S a d n t s).1 = 3 -> leftT ((repl S a d n t s).2.tb P) = 0
 | 0, _, _, _, h, _ => absurd h (Nat.not_lt_zero _)
 | n + 1, t, s, ht, hl, h3 => by
   rw [repl] at h3 ⊢
   by_cases hz : zeroT t < t.length
   . rw [if_pos hz] at h3 ⊢
     have htl : t.length = P := by rw [ht, Nv.tb_length]
     by_cases h0 : s.putE ((S : Int) + (zeroT t : Int)) = 0
     . rw [if_pos h0] at h3
       exact absurd h3 setE_three
     . rw [if_neg h0] at h3 ⊢
       by_cases h4 : s.putE ((S : Int) + (zeroT t : Int)) = 3
       . rw [if_pos h4] at h3 ⊢
         by_cases hs : (s.put ((S : Int) + (zeroT t : Int)) d).setE (3 + (zeroT t : Int)) = 0
         . rw [if_pos hs] at h3 ⊢
           refine repl_left n _ _ ?_ ?_ h3
           . rw [Nv.tb_set (s := s) (k := zeroT t) (x := (S : Int) + 1) (by omega) (by rw [set_done_h hs, Nv.put_rg, show (3 + (zeroT t : Int)).toNat = 3 + zeroT t by omega]), <- ht]
           . have := leftT_set hz (zeroT_at hz) (x := (S : Int) + 1) (by omega)
             omega
         . rw [if_neg hs] at h3
           exact absurd h3 setE_three
       . rw [if_neg h4] at h3
         exact absurd h3 h4
   . rw [if_neg hz]
     show leftT (s.tb P) = 0
     rw [<- ht]
     exact left_no hz
theorem repl_stay {S : Nat} {a : Int} {d : List Int} (n : Nat) (t : List Int) (s : Nv) (ht : leftT t = 0) : (repl S a d n t s).2 = s := by
 cases n with
 | zero => rfl
 | succ n =>
   rw [repl, if_neg fun h => left_pos h ht]
theorem lput_left {S P : Nat} {a : Int} {d : List Int} {s : Nv} (h : (lput S P a d s).1 = 3) : leftT ((lput S P a d s).2.tb P) = 0 := by
 unfold lput at h ⊢
 split at h
 . rename_i ha
   rw [if_pos ha]
   split at h
   . cases h
   . rename_i hd
     rw [if_neg hd]
     split at h
     . rename_i h3
       rw [if_pos h3]
       have := leftT_le (s.tb P)
       rw [Nv.tb_length] at this
       exact repl_left _ _ _ (Nv.tb_congr (Nv.put_rg ..) P).symm (by omega) h
     . rename_i h3
       exact absurd h h3
 . cases h
theorem lput_stay {S P : Nat} {a : Int} {d : List Int} {s : Nv} (h : leftT (s.tb P) = 0) : leftT ((lput S P a d s).2.tb P) = 0 := by
 unfold lput
 split
 . split
   . exact h
   . split
     . rw [repl_stay _ _ _ h, Nv.tb_congr (Nv.put_rg ..) P]; exact h
     . dsimp only
       rw [Nv.tb_congr (Nv.put_rg ..) P]; exact h
 . exact h
theorem tmove_left {n P M : Nat} {s : Nv} (h : (tmove n P M s).1 = 3) : leftT ((tmove n P M s).2.tb P) = 0 := by
 unfold tmove at h ⊢
 split at h
 . exact absurd h setE_three
 . rename_i h0
   rw [if_neg h0]
   exact lput_left h
theorem tmove_stay {n P M : Nat} {s : Nv} (hP : P <= 16) (h : leftT (s.tb P) = 0) : leftT ((tmove n P M s).2.tb P) = 0 := by
 unfold tmove
 split
 . dsimp only
   rw [tb_far (.inl (by decide)) hP]; exact lput_stay h
 . exact lput_stay h
theorem tput_left {n P per p M a : Nat} {d : List Int} {s : Nv} (h : (tput n P per p M a d s).1 = 3) : leftT ((tput n P per p M a d s).2.tb P) = 0 := by
 unfold tput at h ⊢
 split at h
 . rename_i hp
   rw [if_pos hp]
   split at h
   . rename_i h0
     rw [if_pos h0]
     exact lput_left h
   . rename_i h0
     rw [if_neg h0]
     exact tmove_left h
 . rename_i hp
   rw [if_neg hp]
   exact lput_left h
theorem tput_stay {n P per p M a : Nat} {d : List Int} {s : Nv} (hP : P <= 16) (h : leftT (s.tb P) = 0) : leftT ((tput n P per p M a d s).2.tb P) = 0 := by
 unfold tput
 split
 . split
   . exact lput_stay (tmove_stay hP h)
   . exact tmove_stay hP h
 . exact lput_stay h
theorem tputs_left {n P per : Nat} : ∀ (l : List (Nat × List Int)) (p : Nat) (s : Nv), (tputs n P per p l s).1 = 3 -> leftT ((tputs n P per p l s).2.2.tb P) = 0
 | [], _, _, h => by cases h
 | x :: l, p, s, h => by
   rw [tputs] at h ⊢
   split at h
   . rename_i h0
     rw [if_pos h0]
     exact tputs_left l _ _ h
   . rename_i h0
     rw [if_neg h0]
     exact tput_left h
theorem tputs_stay {n P per : Nat} (hP : P <= 16) : ∀ (l : List (Nat × List Int)) (p : Nat) (s : Nv), leftT (s.tb P) = 0 -> leftT ((tputs n P per p l s).2.2.tb P) = 0
 | [], _, _, h => h
 | x :: l, p, s, h => by
   rw [tputs]
   split
   . exact tputs_stay hP l _ _ (tput_stay hP h)
   . exact tput_stay hP h
theorem lfin_left {n P per p : Nat} {C : List Hm} {s : Nv} (h : (lfin n P per p C s).1 = 0) (hk : lk (lfin n P per p C s).2.2 ≠ 0) : leftT ((lfin n P per p C s).2.2.tb P) = 0 := by
 unfold lfin at h hk ⊢
 by_cases h0 : (tputs n P per p (hmP C) s).1 = 0
 . rw [if_pos h0] at h hk
   refine absurd ?_ hk
   unfold lk
   dsimp only
   rw [set_done_h h]
   rfl
 . rw [if_neg h0] at h hk ⊢
   by_cases h3 : (tputs n P per p (hmP C) s).1 = 3
   . rw [if_pos h3]
     exact tputs_left _ _ _ h3
   . rw [if_neg h3] at h
     exact absurd h h0
theorem lfin_three {n P per p : Nat} {C : List Hm} {s : Nv} : (lfin n P per p C s).1 ≠ 3 := by
 unfold lfin
 split
 . exact setE_three
 . split
   . exact fun h => by cases h
   . assumption
theorem lfin_stay {n P per p : Nat} {C : List Hm} {s : Nv} (hP : P <= 16) (h : leftT (s.tb P) = 0) : leftT ((lfin n P per p C s).2.2.tb P) = 0 := by
 have := tputs_stay (n := n) (per := per) hP (hmP C) p s h
 unfold lfin
 split
 . dsimp only
   rw [tb_far (.inl (by decide)) hP]; exact this
 . split <;> exact this
theorem lcom_left {n P per p : Nat} {h : List Hm} {s : Nv} (h0 : (lcom n P per p h s).1 = 0 \/ (lcom n P per p h s).1 = 3) (hk : (lcom n P per p h s).1 = 3 \/ lk (lcom n P per p h s).2.2 ≠ 0) : leftT ((lcom n P per p h s).2.2.tb P) = 0 := by
 unfold lcom at h0 hk ⊢
 by_cases c : (tputs n P per p (lgP h) s).1 = 0
 . rw [if_pos c] at h0 hk ⊢
   by_cases e : (tputs n P per p (lgP h) s).2.2.setE ((1 : Nat) : Int) = 0
   . rw [if_pos e] at h0 hk ⊢
     have h1 := h0.resolve_right lfin_three
     exact lfin_left h1 (hk.resolve_left lfin_three)
   . rw [if_neg e] at h0
     rcases h0 with q | q
     . exact absurd q e
     . exact absurd q setE_three
 . rw [if_neg c] at h0 hk ⊢
   exact tputs_left _ _ _ (h0.resolve_left c)
theorem lcom_stay {n P per p : Nat} {h : List Hm} {s : Nv} (hP : P <= 16) (hl : leftT (s.tb P) = 0) : leftT ((lcom n P per p h s).2.2.tb P) = 0 := by
 have := tputs_stay (n := n) (per := per) hP (lgP h) p s hl
 unfold lcom
 split
 . split
   . exact lfin_stay hP (by rw [tb_far (.inl (by decide)) hP]; exact this)
   . dsimp only
     rw [tb_far (.inl (by decide)) hP]; exact this
 . exact this
theorem lrec_left {n P per p : Nat} {s : Nv} (h0 : (lrec n P per p s).1 = 0) (hk : lk (lrec n P per p s).2.2 ≠ 0) : leftT ((lrec n P per p s).2.2.tb P) = 0 := by
 unfold lrec at h0 hk ⊢
 by_cases c : lk s = 0
 . rw [if_pos c] at hk
   exact absurd c hk
 . rw [if_neg c] at h0 hk ⊢
   exact lfin_left h0 hk
structure Px where
 d : Int
 o : Int
 nn : Int
 msk : Int
 v : Value
 bl : List Int
instance : Inhabited Px := ⟨⟨0, 0, 0, 0, .slice none 0 0, []⟩⟩
def Px.cells (x : Px) : List Value := [.int .i64 x.d, .int .i64 x.o, .int .i64 x.nn, .int .i64 x.msk, x.v]
def pxc (x : Px) : Array Value := x.cells.toArray
structure Px.Wf (W : World) (x : Px) : Prop where
 wd : (Lit.int .i64 x.d).wf = true
 wo : (Lit.int .i64 x.o).wf = true
 wn : (Lit.int .i64 x.nn).wf = true
 wm : (Lit.int .i64 x.msk).wf = true
 one : x.v.oneCell' = true
 rv : RA byE W x.v x.bl
theorem cells_hop : Tryz.prog.cellsOf 37 = 5 := by kernel_rfl
theorem cells_int_h : Tryz.prog.cellsOf 3 = 1 := by kernel_rfl
theorem cells_bs_h : Tryz.prog.cellsOf 35 = 1 := by kernel_rfl
theorem info_hop : (Tryz.prog.info? 37).map (·.size) = some 5 := by kernel_rfl
theorem trod_five {H : Type} {enc : TypeId × Value -> H} {P : Program} {w : World} {base : Nat} {spare : Nat -> Bool} {held : Bool} {t : TypeId} {f0 f1 f2 f3 f4 : Field} {fuel : Nat} {cs : List Value} {x : DataW H × List MemPlace}
 (ht : P.underlying t = some (.struct #[f0, f1, f2, f3, f4])) (h : DataW.trod enc P w base spare held fuel t cs = some x) :
 ∃ y0 y1 y2 y3 y4 n, cs.length = P.cellsOf t /\ DataW.trod enc P w base spare held n f0.type ((cs.drop f0.offset).take (P.cellsOf f0.type)) = some y0 ∧
  DataW.trod enc P w base spare held n f1.type ((cs.drop f1.offset).take (P.cellsOf f1.type)) = some y1 /\ DataW.trod enc P w base spare held n f2.type ((cs.drop f2.offset).take (P.cellsOf f2.type)) = some y2 ∧
  DataW.trod enc P w base spare held n f3.type ((cs.drop f3.offset).take (P.cellsOf f3.type)) = some y3 /\ DataW.trod enc P w base spare held n f4.type ((cs.drop f4.offset).take (P.cellsOf f4.type)) = some y4 := by
 obtain ⟨xs, n, _, rfl, hl, hlen, hf⟩ := DataW.trod_struct ht h
 match xs, hlen with
 | [y0, y1, y2, y3, y4], _ => exact ⟨y0, y1, y2, y3, y4, n, hl, by simpa using hf 0 f0 rfl, by simpa using hf 1 f1 rfl, by simpa using hf 2 f2 rfl, by simpa using hf 3 f3 rfl, by simpa using hf 4 f4 rfl⟩
theorem byte_elh {H : Type} {enc : TypeId × Value -> H} {W : World} {base n : Nat} {sp : Nat -> Bool} {held : Bool} {c : List Value} {y : DataW H × List MemPlace} (hy : DataW.trod enc Tryz.prog W base sp held n 5 c = some y) : ∃ a, c = byE.enc a /\ byE.ok a := by
 obtain ⟨i, e0, _, w0⟩ := DataW.trod_int Tryz.underlying5 hy
 refine ⟨i, e0, ?_⟩
 have : 0 <= i /\ i <= 255 := by simpa [Lit.wf, IntKind.min, IntKind.max, IntKind.signed, IntKind.bits] using w0
 show By i
 unfold By; omega
theorem hop_cells {H : Type} {enc : TypeId × Value -> H} {W : World} {n : Nat} {sp : Nat -> Bool} {held : Bool} {cs : List Value} {y : DataW H × List MemPlace}
 (h : DataW.trod enc Tryz.prog W 0 sp held n 37 cs = some y) : ∃ c : Px, cs = c.cells /\ c.Wf W := by
 obtain ⟨y0, y1, y2, y3, y4, k, hl, g0, g1, g2, g3, g4⟩ := trod_five Tryz.underlying37 h
 rw [cells_hop] at hl
 dsimp only at g0 g1 g2 g3 g4
 rw [cells_int_h] at g0 g1 g2 g3
 rw [cells_bs_h] at g4
 obtain ⟨d, e0, _, w0⟩ := DataW.trod_int Tryz.underlying3 g0
 obtain ⟨o, e1, _, w1⟩ := DataW.trod_int Tryz.underlying3 g1
 obtain ⟨i, e2, _, w2⟩ := DataW.trod_int Tryz.underlying3 g2
 obtain ⟨m, e3, _, w3⟩ := DataW.trod_int Tryz.underlying3 g3
 obtain ⟨u, l, e4, hr⟩ := elems_in byE g4 (fun _ _ _ hy _ => byte_elh hy)
 obtain ⟨q, c, eu, _⟩ := ra_shape hr
 refine ⟨⟨d, o, i, m, u, l⟩, ?_, ⟨w0, w1, w2, w3, by rw [eu]; rfl, hr⟩⟩
 match cs, hl with
 | [c0, c1, c2, c3, c4], _ =>
   simp at e0 e1 e2 e3 e4
   simp [Px.cells, e0, e1, e2, e3, e4]
theorem hop_in {H : Type} {enc : TypeId × Value -> H} {W : World} {base : Nat} {v : Value} {d : DataW H} {p : List MemPlace}
 (hval : Value.okWide Tryz.prog W .any base 37 v) (h : DataW.Trod enc Tryz.prog W 0 (fun _ => true) true 37 v d p) : ∃ c : Px, v = .agg (pxc c) /\ c.Wf W := by
 obtain ⟨cs, rfl, hsz, _⟩ : ∃ cs, v = .agg cs /\ cs.size = Tryz.prog.cellsOf 37 /\ Row.okWide Tryz.prog W .any base 37 cs := by
  simpa [Value.okWide, Tryz.underlying37] using hval
 obtain ⟨fuel, hf⟩ := h
 obtain ⟨c, hc, hw⟩ := hop_cells hf
 refine ⟨c, ?_, hw⟩
 have : cs.toList = c.cells := by simpa [Value.cells] using hc
 rw [pxc, <- this]
def opE (W : World) : Elm Tryz.prog Px where
 t := 25
 e := 37
 size := 5
 bytes := 56
 z := .agg #[.int .i64 0, .int .i64 0, .int .i64 0, .int .i64 0, .slice none 0 0]
 enc := Px.cells
 ok := Px.Wf W
 ht := Tryz.underlying25
 hi := by kernel_rfl
 hzs := rfl
 pos := by decide
 bpos := by decide
 len := fun _ _ => rfl
 one := fun a ha u hu => by
  simp only [Px.cells, List.mem_cons, List.not_mem_nil, or_false] at hu
  rcases hu with rfl | rfl | rfl | rfl | rfl
  . rfl
  . rfl
  . rfl
  . rfl
  . exact ha.one
theorem hops_in {H : Type} {enc : TypeId × Value -> H} {W : World} {base : Nat} {v : Value} {d : DataW H} {p : List MemPlace}
 (hval : Value.okWide Tryz.prog W .any base 25 v) (h : DataW.Trod enc Tryz.prog W 0 (fun _ => true) true 25 v d p) : ∃ l : List Px, RA (opE W) W v l := by
 obtain ⟨va, vl, vc, rfl⟩ := okWide_slice Tryz.underlying25 hval
 obtain ⟨fuel, hf⟩ := h
 obtain ⟨u, l, e, hr⟩ := elems_in (opE W) hf (fun _ _ _ hy _ => hop_cells hy)
 have e' : Value.slice va vl vc = u := by simpa [Value.cells] using e
 exact ⟨l, by rw [e']; exact hr⟩
theorem bytes_hop : Tryz.prog.bytesOf 37 = 56 := by kernel_rfl
theorem hops_in_sized {H : Type} {enc : TypeId × Value -> H} {W : World} {base : Nat} {v : Value} {d : DataW H} {p : List MemPlace}
 (hval : Value.okWide Tryz.prog W .any base 25 v) (h : DataW.Trod enc Tryz.prog W 0 (fun _ => true) true 25 v d p) {ts : List TypeId} {ds : List (DataW H)} {j : Nat}
 (htj : ts[j]? = some 25) (hd : ds[j]? = some d) (hsz : (DataW.weightsEach Tryz.prog ts ds).all (· <= reachBytes) = true) : ∃ l : List Px, RA (opE W) W v l /\ l.length * 56 <= 140737488351232 := by
 obtain ⟨l, hl⟩ := hops_in hval h
 obtain ⟨q, c, rfl, _⟩ := ra_shape hl
 have := slice_sized Tryz.underlying25 h htj hd hsz
 rw [bytes_hop] at this
 exact ⟨l, hl, Nat.le_trans this (by decide)⟩
@[go_sem] theorem pxc_ne (x : Px) : (pxc x = #[]) = False := by simp [pxc, Px.cells]
theorem pxc_size (x : Px) : (pxc x).size = 5 := rfl
def Pxv (w : World) (g : Nat) (x : Px) : Prop := Whole w g 37 (pxc x)
section
variable {w w' : World} {g : Nat} {x : Px}
theorem Pxv.lt (h : Pxv w g x) : g < w.heap.size := Whole.lt h
theorem Pxv.below (h : Pxv w g x) (hb : Below w.heap.size w w') : Pxv w' g x := (hb.block g (Whole.lt h)).trans h
theorem Pxv.chg {D : List Nat} (h : Pxv w g x) (hb : Chg D w w') (hg : g ∉ D) : Pxv w' g x := hb.whole h hg
theorem Pxv.new (w : World) (x : Px) : Pxv (w.alloc (.cells (pxc x) 37)) w.heap.size x := heap_alloc_new w _
theorem Pxv.c0 (h : Pxv w g x) : w.cell? ⟨g, 0, none⟩ = some (.int .i64 x.d) := Whole.at_ h 0
theorem Pxv.c1 (h : Pxv w g x) : w.cell? ⟨g, 1, none⟩ = some (.int .i64 x.o) := Whole.at_ h 1
theorem Pxv.c2 (h : Pxv w g x) : w.cell? ⟨g, 2, none⟩ = some (.int .i64 x.nn) := Whole.at_ h 2
theorem Pxv.c4 (h : Pxv w g x) : w.cell? ⟨g, 4, none⟩ = some x.v := Whole.at_ h 4
end
def pxLoad (p : Value) : Sem Value := Instr.loadAt 37 p
def pxStore (p v : Value) : Sem Unit := Instr.storeAt 37 p v
@[go_sem ↓] theorem loadAt_px (p : Value) : Instr.loadAt 37 p = pxLoad p := rfl
@[go_sem ↓] theorem storeAt_px (p v : Value) : Instr.storeAt 37 p v = pxStore p v := rfl
theorem run_pxLoad {w : World} {b o : Nat} {c : Px} (h : w.rangeAt b o c.cells) : (pxLoad (.pointer (some ⟨b, o, none⟩))).run Tryz.prog w = .ok (.agg (pxc c)) w :=
 run_loadAt_mid (P := Tryz.prog) w b o 37 c.cells _ h Tryz.underlying37 rfl info_hop
theorem run_pxStore (w : World) {z : Array Value} (hz : z.size = 5) (c : Px) (h1 : c.v.oneCell' = true) :
 (pxStore (.pointer (some ⟨w.heap.size, 0, none⟩)) (.agg (pxc c))).run Tryz.prog (w.alloc (.cells z 37)) = .ok () (w.alloc (.cells (pxc c) 37)) := by
 unfold pxStore
 simp only [Instr.storeAt, Instr.sureAddr, Sem.run_bind, Sem.run_pure, Result.andThen]
 rw [run_storeVar_row _ _ 37 37 z (pxc c) (heap_alloc_new w _) (by rw [info_hop, pxc_size]) (by rw [hz, pxc_size]) (by simpa [pxc, Px.cells, Value.oneCell'] using h1), World.setRow_alloc_new]
theorem px_at {W w : World} {p : Option Addr} {n cap : Nat} {l : List Px} (h : RA (opE W) w (.slice p n cap) l) (h0 : 0 < l.length) :
 ∃ b off, p = some ⟨b, off, none⟩ /\ b < w.heap.size /\ ∀ k, k < l.length -> (pxLoad (.pointer (some ⟨b, off + k * 5, none⟩))).run Tryz.prog w = .ok (.agg (pxc (l.getD k default))) w /\ (l.getD k default).Wf W := by
 obtain ⟨b, off, e, hb, hr⟩ := ra_at h h0
 refine ⟨b, off, e, hb, fun k hk => ?_⟩
 have hk2 := hr k hk
 exact ⟨run_pxLoad hk2, (ra_ok h).at_ hk⟩
theorem px_boxed (w : World) (c : Px) (h1 : c.v.oneCell' = true) : ∃ W, w.alloc (.cells (pxc c) 37) = W /\ (pxStore (.pointer (some ⟨w.heap.size, 0, none⟩)) (.agg (pxc c))).run Tryz.prog (w.alloc (.cells #[.int .i64 0, .int .i64 0, .int .i64 0, .int .i64 0, .slice none 0 0] 37)) = .ok () W /\ Hid (Pxv W w.heap.size c /\ Below w.heap.size w W) :=
 ⟨_, rfl, run_pxStore w rfl c h1, jz ⟨Pxv.new w c, bal (Below.refl _ _)⟩⟩
structure Ex where
 b : Bk
 v : Value
 ws : List Int
instance : Inhabited Ex := ⟨⟨default, .slice none 0 0, []⟩⟩
def Ex.cells (x : Ex) : List Value := [.int .i64 x.b.a, .int .i64 x.b.s, .bool x.b.u, x.v]
def xc (x : Ex) : Array Value := x.cells.toArray
structure Ex.Wf (x : Ex) : Prop where
 wb : x.b.Wf
 one : x.v.oneCell' = true
@[go_sem] theorem xc_ne (x : Ex) : (xc x = #[]) = False := by simp [xc, Ex.cells]
section
variable {w w' : World} {g : Nat} {x : Ex}
end
theorem ra_one {P : Program} {α : Type} [Inhabited α] {E : Elm P α} {w : World} {u : Value} {l : List α} (h : RA E w u l) : u.oneCell' = true := by
 obtain ⟨_, _, rfl, _⟩ := ra_shape h
 rfl
def Far (w : World) (D : List Nat) (v : Value) : Prop := ∀ k, v.ownBlock = some k -> k < w.heap.size /\ k ∉ D
theorem Far.grow {w w' : World} {D : List Nat} {v : Value} (h : Far w D v) (hs : w.heap.size <= w'.heap.size) : Far w' D v := fun k hk => ⟨Nat.lt_of_lt_of_le (h k hk).1 hs, (h k hk).2⟩
theorem Far.more {w w' : World} {D : List Nat} {v : Value} (h : Far w D v) (hs : w.heap.size <= w'.heap.size) {g : Nat} (hg : w.heap.size <= g) : Far w' (g :: D) v := fun k hk => ⟨Nat.lt_of_lt_of_le (h k hk).1 hs, fun q => by
 rcases List.mem_cons.1 q with rfl | q
 . have := (h k hk).1; omega
 . exact (h k hk).2 q⟩
theorem Far.less {w : World} {D D' : List Nat} {v : Value} (h : Far w D v) (hD : ∀ k ∈ D', k ∈ D) : Far w D' v := fun k hk => ⟨(h k hk).1, fun q => (h k hk).2 (hD k q)⟩
theorem far_own {P : Program} {α : Type} [Inhabited α] {E : Elm P α} {B : Nat} {w : World} {D : List Nat} {v : Value} {l : List α} (h : OwnA E B w v l) (hD : ∀ k ∈ D, k < B) : Far w D v := fun k hk => ⟨(h.lt k hk).2, fun q => by
 have := (h.lt k hk).1
 have := hD k q
 omega⟩
theorem far_own_u {B : Nat} {w : World} {D : List Nat} {v : Value} {l : List Int} (h : OwnU B w v l) (hD : ∀ k ∈ D, k < B) : Far w D v := fun k hk => ⟨(World.ownsRow.lt h k hk).2, fun q => by
 have := (World.ownsRow.lt h k hk).1
 have := hD k q
 omega⟩
theorem ru_chg {D : List Nat} {w w' : World} {v : Value} {l : List Int} (h : RU w v l) (hc : Chg D w w') (hD : ∀ g, v.ownBlock = some g -> g ∉ D) : RU w' v l := by
 obtain ⟨p, cap, rfl, h1, h2, h | ⟨b, off, rfl, hr⟩⟩ := h
 . exact ⟨p, cap, rfl, h1, h2, .inl h⟩
 . refine ⟨_, cap, rfl, h1, h2, .inr ⟨b, off, rfl, fun i hi => ?_⟩⟩
   have hlt := World.block_lt_of_cell? w _ (hr i hi)
   have e := hc.block b hlt (hD b rfl)
   rw [<- hr i hi]
   simp only [World.cell?, e]
def Pl (v : Value) : Prop := v = .slice none 0 0 \/ ∃ b n c, v = .slice (some ⟨b, 0, none⟩) n c
structure Rm (w : World) (D : List Nat) (g : Nat) (wl : List Int) (l : List Bk) (r : Int) : Prop where
 hB : blkF wl = some l
 ok : WordsOk wl
 gD : g ∈ D
 dlt : ∀ k ∈ D, k < w.heap.size
 rows : ∃ v, Whole w g 54 #[v, .int .i64 r] /\ RU w v wl /\ Far w D v
section
variable {w w' : World} {D E : List Nat} {g : Nat} {wl : List Int} {l : List Bk} {r : Int}
theorem Rm.len (h : Rm w D g wl l r) : l.length <= 256 /\ wl.length <= 512 /\ mayL wl.length l = true := ⟨(blkF_len h.hB).1, (blkF_len h.hB).2, blkF_some h.hB⟩
theorem Rm.chg (h : Rm w D g wl l r) (hc : Chg E w w') (hE : ∀ k ∈ E, k ∈ D) (hg : g ∉ E) : Rm w' D g wl l r := by
 obtain ⟨v, h1, h2, h3⟩ := h.rows
 exact ⟨h.hB, h.ok, h.gD, fun k hk => Nat.lt_of_lt_of_le (h.dlt k hk) hc.size, v, hc.whole h1 hg, ru_chg h2 hc (fun k hk q => (h3 k hk).2 (hE k q)), h3.grow hc.size⟩
theorem Rm.below (h : Rm w D g wl l r) (hb : Below w.heap.size w w') : Rm w' D g wl l r := h.chg (Chg.of_below hb []) (fun _ h => by cases h) (fun h => by cases h)
theorem Rm.more (h : Rm w D g wl l r) (hb : Below w.heap.size w w') {x : Nat} (hx : w.heap.size <= x) (hx2 : x < w'.heap.size) : Rm w' (x :: D) g wl l r := by
 have h' := h.below hb
 obtain ⟨v, h1, h2, h3⟩ := h.rows
 refine ⟨h.hB, h.ok, List.mem_cons_of_mem _ h.gD, fun k hk => ?_, v, hb.block g h1.lt |>.trans h1, ru_below h2 hb, h3.more hb.size hx⟩
 rcases List.mem_cons.1 hk with rfl | hk
 . exact hx2
 . exact h'.dlt k hk
end

section
variable {ops : Array Oper} {rest : List Oper} {o : Oper} {a : Act} {w : World} {Q : Exit -> Act -> World -> Prop} {K : Act -> World -> Prop}
end

theorem rneed_is (n : Int) (w : World) : Calls Tryz.prog 65 #[.int .i64 n] w fun e w' => e = .returned (.int .i64 (needN n)) /\ w = w' := by
 by_cases h1 : n < 1
 . rw [needN, if_neg (by omega)]
   go_enter Tryz.func65, Tryz.ntmps65
   go_wp2_with fail
   go_ret
   exact ⟨rfl, rfl⟩
 . by_cases h2 : n > 448
   . rw [needN, if_neg (by omega)]
     go_enter Tryz.func65, Tryz.ntmps65
     go_wp2_with fail
     go_ret
     exact ⟨rfl, rfl⟩
   . rw [needN, if_pos (by omega)]
     obtain ⟨k, rfl⟩ : ∃ k : Nat, n = k := ⟨n.toNat, by omega⟩
     obtain ⟨q, hq⟩ : ∃ q, (k + 7) / 8 = q := ⟨_, rfl⟩
     obtain ⟨b, hb⟩ : ∃ a, k + 7 = a := ⟨_, rfl⟩
     obtain ⟨c, hc⟩ : ∃ a, q + 1 = a := ⟨_, rfl⟩
     have j2 : IntKind.i64.wrap ((k : Int) + 7) = (b : Int) := by rw [show (k : Int) + 7 = (b : Int) by omega]; exact i64_nat _ (by omega)
     have j3 : (b : Int).tdiv 8 = (q : Int) := by rw [<- hq, <- hb]; exact tdiv_nat (k + 7) 8
     have j4 : IntKind.i64.wrap (q : Int) = (q : Int) := i64_nat _ (by omega)
     have j5 : IntKind.i64.wrap (1 + (q : Int)) = (c : Int) := by rw [show 1 + (q : Int) = (c : Int) by omega]; exact i64_nat _ (by omega)
     have e : ((k : Int) + 7) / 8 + 1 = (c : Int) := by omega
     rw [e]
     clear hb hc hq e
     go_enter Tryz.func65, Tryz.ntmps65
     go_wp2_with fail
     go_ret
     exact ⟨rfl, rfl⟩
theorem rcnt_at (a : Int) (cs : List Int) (v : Value) (x : Int) (w : World) (hv : RI w v cs) (ha : (Lit.int .i64 a).wf = true) (hx : wrN cs a = x) : Calls Tryz.prog 108 #[.int .i64 a, v] w fun e w' => e = .returned (.int .i64 x) /\ w = w' := by
 obtain ⟨a1, a2⟩ := i64_wf ha
 subst hx
 have hv' := hv
 obtain ⟨p, c, rfl, _, hc, _⟩ := hv'
 unfold maxLen at hc
 by_cases h1 : a < 0
 . rw [wrN, if_pos h1]
   clear hv hc ha a1
   go_enter Tryz.func108, Tryz.ntmps108
   go_wp2_with fail
   go_ret
   exact ⟨rfl, rfl⟩
 . rw [wrN, if_neg h1]
   obtain ⟨k, rfl⟩ : ∃ k : Nat, a = k := ⟨a.toNat, by omega⟩
   obtain ⟨q, hq⟩ : ∃ q, k / 32 = q := ⟨_, rfl⟩
   have j3 : (k : Int).tdiv 32 = (q : Int) := by rw [<- hq]; exact tdiv_nat k 32
   have j4 : IntKind.i64.wrap (q : Int) = (q : Int) := i64_nat _ (by omega)
   have e : ((k : Int) / 32).toNat = q := by omega
   rw [e]
   by_cases h2 : q < cs.length
   . obtain ⟨b, off, rfl, _, hr⟩ := ri_some hv (by omega)
     have c1 := hr q h2
     have h3 : ¬ (q : Int) >= (cs.length : Int) := by omega
     have h4 : ¬ (cs.length : Int) <= (q : Int) := by omega
     have h5 : ¬ (q : Int) < 0 := by omega
     have h6 : (q : Int) < (cs.length : Int) := by omega
     generalize cs.getD q 0 = y at *
     generalize cs.length = L at *
     clear hv hc ha hr hq e a1 a2
     go_enter Tryz.func108, Tryz.ntmps108
     go_wp2_with fail
     go_ret
     exact ⟨rfl, rfl⟩
   . have h3 : (q : Int) >= (cs.length : Int) := by omega
     have e0 : cs.getD q 0 = 0 := by rw [List.getD_eq_getElem?_getD, List.getElem?_eq_none (by omega)]; rfl
     rw [e0]
     generalize cs.length = L at *
     clear hv hc ha hq e e0 a1 a2
     go_enter Tryz.func108, Tryz.ntmps108
     go_wp2_with fail
     go_ret
     exact ⟨rfl, rfl⟩
theorem rcnt_q {cs : List Int} {v : Value} {w : World} (hv : RI w v cs) : ∀ n a x, (Lit.int .i64 a).wf = true -> wrN cs a = x -> Calls Tryz.prog 108 #[.int .i64 a, v] (w.drewN n) fun e w' => e = .returned (.int .i64 x) /\ ∃ k, w' = (w.drewN n).drewN k :=
 fun n a x ha hx => (rcnt_at a cs v x _ (ri_below hv (below_drewN (Below.refl _ _) n)) ha hx).mono fun _ _ h => ⟨h.1, 0, h.2.symm⟩
theorem tgS_snoc (n : Int) (b : Bk) : ∀ (l : List Bk) (m : Int), tgS n m (l ++ [b]) = if fitB n b = true /\ (tgS n m l = 0 \/ b.s < tgS n m l) then b.s else tgS n m l
 | [], m => by rw [List.nil_append, tgS, tgS, tgS]
 | c :: r, m => by rw [List.cons_append, tgS, tgS_snoc n b r, tgS]
theorem plS_snoc (z : Int) (b : Bk) : ∀ (l : List Bk) (k : Nat), plS z k (l ++ [b]) = plS z k l ++ (if hasS z b = true then [k + l.length] else [])
 | [], k => by rw [List.nil_append, plS, plS, plS, List.nil_append]; rfl
 | c :: r, k => by
   rw [List.cons_append, plS, plS_snoc z b r, plS, List.length_cons, show k + 1 + r.length = k + (r.length + 1) by omega]
   split
   . rw [List.cons_append]
   . rfl
theorem plS_len (z : Int) : ∀ (l : List Bk) (k : Nat), (plS z k l).length <= l.length
 | [], k => by rw [plS]; exact Nat.le_refl _
 | b :: r, k => by
   have := plS_len z r (k + 1)
   rw [plS, List.length_cons]
   split
   . rw [List.length_cons]; omega
   . omega
theorem plS_nil {z : Int} {l : List Bk} (h : ∀ b ∈ l, hasS z b = false) : plS z 0 l = [] := by
 cases e : plS z 0 l with
 | nil => rfl
 | cons i r =>
   obtain ⟨_, h1, h2⟩ := plS_mem (l := l) (k := 0) (i := i) (by rw [e]; exact List.mem_cons_self ..)
   rw [h _ (getD_mem h1)] at h2
   cases h2
theorem fitN_ne {n : Int} {l : List Bk} (h : fitN n l ≠ []) : tgS n 0 l ≠ 0 /\ 0 < (fitN n l).length /\ (fitN n l).getD 0 0 < l.length /\ (l.getD ((fitN n l).getD 0 0) default).s = tgS n 0 l := by
 have h0 : tgS n 0 l ≠ 0 := fun e => h (by rw [fitN, if_pos e])
 have hl : 0 < (fitN n l).length := List.length_pos_iff.2 h
 obtain ⟨g1, _, _, g4⟩ := fitN_mem (n := n) (l := l) (getD_mem_n hl)
 exact ⟨h0, hl, g1, g4⟩
theorem fitN_snoc_no {n : Int} {l : List Bk} {b : Bk} (h : fitB n b = false) : fitN n (l ++ [b]) = fitN n l := by
 have e : tgS n 0 (l ++ [b]) = tgS n 0 l := by rw [tgS_snoc, if_neg (by rw [h]; simp)]
 rw [fitN, fitN, e]
 split
 . rfl
 . rename_i h0
   obtain ⟨g, _, _⟩ := tgS_spec n l 0 (Int.le_refl _)
   rw [plS_snoc, if_neg, List.append_nil]
   intro hs
   obtain ⟨hu, hz⟩ := hasS_iff.1 hs
   rcases g with g | ⟨c, _, hc, ec⟩
   . exact h0 g
   . obtain ⟨_, q1, q2⟩ := fitB_iff.1 hc
     rw [fitB_iff.2 ⟨hu, q1, by omega⟩] at h
     cases h
theorem fitN_snoc_first {n : Int} {l : List Bk} {b : Bk} (h : fitB n b = true) (hl : tgS n 0 l = 0 \/ b.s < tgS n 0 l) : fitN n (l ++ [b]) = [l.length] := by
 obtain ⟨hu, h1, h2⟩ := fitB_iff.1 h
 have e : tgS n 0 (l ++ [b]) = b.s := by rw [tgS_snoc, if_pos ⟨h, hl⟩]
 rw [fitN, e, if_neg (by omega), plS_snoc, if_pos (hasS_iff.2 ⟨hu, rfl⟩), plS_nil, List.nil_append, Nat.zero_add]
 intro c hc
 rw [Bool.eq_false_iff, Ne, hasS_iff]
 rintro ⟨cu, cs⟩
 obtain ⟨_, g, _⟩ := tgS_spec n l 0 (Int.le_refl _)
 have := g c hc (fitB_iff.2 ⟨cu, h1, by omega⟩)
 omega
theorem fitN_snoc_more {n : Int} {l : List Bk} {b : Bk} (h : fitB n b = true) (hl : tgS n 0 l ≠ 0) (hs : b.s = tgS n 0 l) : fitN n (l ++ [b]) = fitN n l ++ [l.length] := by
 obtain ⟨hu, h1, h2⟩ := fitB_iff.1 h
 have e : tgS n 0 (l ++ [b]) = tgS n 0 l := by rw [tgS_snoc, if_neg (by omega)]
 rw [fitN, fitN, e, if_neg hl, if_neg hl, plS_snoc, if_pos (hasS_iff.2 ⟨hu, hs⟩), Nat.zero_add]
theorem fitN_snoc_less {n : Int} {l : List Bk} {b : Bk} (hl : tgS n 0 l ≠ 0) (hs : tgS n 0 l < b.s) : fitN n (l ++ [b]) = fitN n l := by
 have e : tgS n 0 (l ++ [b]) = tgS n 0 l := by rw [tgS_snoc, if_neg (by omega)]
 rw [fitN, fitN, e, if_neg hl, if_neg hl, plS_snoc, if_neg, List.append_nil]
 rw [hasS_iff]
 omega
theorem take_snoc {l : List Bk} {k : Nat} (hk : k < l.length) : l.take (k + 1) = l.take k ++ [l.getD k default] := by
 rw [List.take_add_one, List.getElem?_eq_getElem hk, List.getD_eq_getElem?_getD, List.getElem?_eq_getElem hk]; rfl
structure Rg (n : Int) (l : List Bk) (w0 wr : World) (lv : Value) (k : Nat) : Prop where
 own : OwnI w0.heap.size wr lv (ins (fitN n (l.take k)))
 up : Below w0.heap.size w0 wr
theorem Rg.skip {n : Int} {l : List Bk} {w0 wr w' : World} {lv : Value} {k : Nat} (h : Rg n l w0 wr lv k) (hb : Below wr.heap.size wr w') (he : fitN n (l.take (k + 1)) = fitN n (l.take k)) : Rg n l w0 w' lv (k + 1) :=
 ⟨by rw [he]; exact own_below_i' h.own hb, below_more h.up hb⟩
theorem Rg.app {n : Int} {l : List Bk} {w0 W : World} {lv : Value} {k : Nat} {f : List Nat} (ho : OwnI w0.heap.size W lv (ins f)) (hf : f.length <= 1000) (hB : Below w0.heap.size w0 W) (he : fitN n (l.take (k + 1)) = f ++ [k]) :
 Hid ((ins f).length + 1 <= 1000000) /\ OwnI w0.heap.size (W.alloc (.cells #[.int .i64 (k : Int)] 3)) lv (ins f) /\ w0.heap.size <= (W.alloc (.cells #[.int .i64 (k : Int)] 3)).heap.size ∧
  ∀ v' w', OwnI w0.heap.size w' v' (ins f ++ [(k : Int)]) -> (W.alloc (.cells #[.int .i64 (k : Int)] 3)).grownBy w' lv.ownBlock -> Rg n l w0 w' v' (k + 1) :=
 ⟨jz (by rw [ins_length]; omega), World.ownsRow.alloc ho _, by rw [size_alloc]; exact Nat.le_succ_of_le hB.size, fun v' w' h1 h2 => ⟨by rw [he, ins_app]; exact h1, Below.grown (bal hB) h2 (by rw [size_alloc]; exact Nat.le_succ_of_le hB.size) (fun q hq => (World.ownsRow.lt ho q hq).1)⟩⟩
theorem rfits_is (n : Int) (l : List Bk) (v : Value) (w : World) (hv : RA blkE w v l) (hl : l.length <= 1000) :
 Calls Tryz.prog 95 #[v, .int .i64 n] w fun e w' => (∃ u, e = .returned u /\ OwnI w.heap.size w' u (ins (fitN n l))) /\ Below w.heap.size w w' := by
 obtain ⟨p, cap, rfl, hlc, hcm⟩ := ra_shape hv
 have HL := jz hl
 have HV := jz hv
 clear hcm hlc hv hl
 by_cases h2 : n < 2
 . have e0 : fitN n l = [] := fitN_none fun b _ => by rw [Bool.eq_false_iff, Ne, fitB_iff]; omega
   rw [e0]
   generalize l.length = L at *
   go_enter Tryz.func95, Tryz.ntmps95
   go_wp2_with fail
   go_ret
   exact ⟨⟨_, rfl, ownI_nil' _ _⟩, Below.refl _ _⟩
 . have HN2 : Hid (2 <= n) := jz (by omega)
   go_enter Tryz.func95, Tryz.ntmps95
   go_wp2
   go_loopw [5, 12] (fun y i wr => ∃ (k : Nat) (lv : Value), k <= l.length /\ i = .int .i64 k /\ y = lv /\ Hid (Rg n l w wr lv k)) (fun _ i _ => l.length - (intOf i).toNat)
   case atStart => exact ⟨0, _, Nat.zero_le _, rfl, rfl, jz ⟨by rw [List.take_zero, fitN_none (fun b hb => by cases hb)]; exact ownI_nil' _ _, Below.refl _ _⟩⟩
   case round =>
    obtain ⟨k, lv, hk, rfl, rfl, H⟩ := hrel
    by_cases hlt : k < l.length
    . obtain ⟨b, off, rfl, hb, hx⟩ := blk_at (ra_below HV.out H.out.up) (by omega)
      obtain ⟨hld, _, _, _, hwf⟩ := hx k hlt
      have i0 : (0 : Int) <= (k : Int) := by omega
      have i1 : (k : Int) < (l.length : Int) := by omega
      have i2 : ¬ (k : Int) < 0 := by omega
      have i3 : IntKind.i64.wrap ((k : Int) + 1) = ((k + 1 : Nat) : Int) := by rw [show (k : Int) + 1 = ((k + 1 : Nat) : Int) by omega]; exact i64_nat _ (by have := HL.out; omega)
      have HK := jz hlt
      have HT := jz (take_snoc hlt)
      have HTL : Hid ((l.take k).length = k) := jz (by rw [List.length_take]; omega)
      have HC : Hid (∀ w', Below w.heap.size w w' -> ∀ j, j < l.length -> w'.cell? ⟨b, off + j * 3 + 1, none⟩ = some (.int .i64 (l.getD j default).s)) := jz fun w' hb j hj => by
       obtain ⟨_, _, e, _, hx'⟩ := blk_at (ra_below HV.out hb) (by omega)
       cases e
       exact (hx' j hj).2.2.1
      have HFL : Hid ((fitN n (l.take k)).length <= 1000) := jz (by
       unfold fitN
       split
       . simp
       . exact Nat.le_trans (plS_len _ _ _) (by rw [List.length_take]; have := HL.out; omega))
      generalize l.getD k default = y at *
      obtain ⟨a, s, u⟩ := y
      obtain ⟨W, hW, HW⟩ := blk_boxed wr ⟨a, s, u⟩
      have c1 : W.cell? ⟨wr.heap.size, 1, none⟩ = some (.int .i64 s) := HW.out.1.c1
      have c2 : W.cell? ⟨wr.heap.size, 2, none⟩ = some (.bool u) := HW.out.1.c2
      have HB := jz HW.out.2
      clear hx hk hb hwf
      have SKIP := jz (fun (h : fitN n (l.take (k + 1)) = fitN n (l.take k)) (w' : World) (hb : Below W.heap.size W w') => H.out.skip (below_more HB.out hb) h)
      cases u
      . by_cases h3 : s < n
        . have HN := jz (SKIP.out (by rw [HT.out]; exact fitN_snoc_no (by rw [Bool.eq_false_iff, Ne, fitB_iff]; simp only; omega)) W (Below.refl _ _))
          clear SKIP
          go_wp2
          go_roundw
          case rel => exact ⟨k + 1, _, by have := HK.out; omega, by go_num, rfl, HN⟩
          case measure => have := HK.out; simp [intOf]; omega
        . have HF : Hid (fitB n ⟨a, s, false⟩ = true) := jz (fitB_iff.2 ⟨rfl, HN2.out, by simp only; omega⟩)
          have HO := jz (own_below_i' H.out.own HB.out)
          have HU := jz (below_more H.out.up HB.out)
          by_cases hf0 : fitN n (l.take k) = []
          . have ht0 : tgS n 0 (l.take k) = 0 := by
             by_cases q : tgS n 0 (l.take k) = 0
             . exact q
             . exfalso
               obtain ⟨g, _, _⟩ := tgS_spec n (l.take k) 0 (Int.le_refl _)
               rcases g with g | ⟨c, hc, hcf, _⟩
               . exact q g
               . exact fitN_some hc hcf hf0
            have hfin : fitN n (l.take (k + 1)) = [] ++ [k] := by rw [HT.out, fitN_snoc_first HF.out (.inl ht0), HTL.out, List.nil_append]
            obtain ⟨q, cq, rfl⟩ := HO.out.shape
            rw [hf0] at HO ⊢
            have HFIN := jz hfin
            clear hf0 ht0 hfin SKIP HFL
            simp only [ins, List.map_nil, List.length_nil] at HO ⊢
            go_wp2_with fail
            go_quiet (fail)
            have hV1 : Below W.heap.size W (W.drewN nq) := below_drewN (Below.refl _ _) _
            generalize W.drewN nq = V1 at *
            have HV1 := jz hV1
            clear hV1
            go_wp2_with fail
            go_quiet (fail)
            have hV2 : Below W.heap.size W (V1.drewN nq) := below_drewN HV1.out _
            generalize V1.drewN nq = V2 at *
            obtain ⟨hlen, o1, hB, hmore⟩ := Rg.app (f := []) (n := n) (l := l) (w0 := w) (W := V2) (k := k) (own_below_i' HO.out hV2) (by simp) (below_more HU.out hV2) HFIN.out
            have O1 := jz o1
            have HB1 := jz hB
            have HM := jz hmore
            clear o1 hB hmore hV2
            simp only [ins, List.map_nil] at O1 HM hlen
            go_wp2_with (at_builtin; refine list_app_int (o := ⟨some 58, _, _, _, _, _⟩) rfl (.tmp 55) (.tmp 57) rfl w.heap.size _ [] rfl O1.out _ [(k : Int)] rfl (ri_one _ _) hlen.out HB1.out ?_; intro v1 w2 hown hg _)
            have HN := jz (HM.out _ _ hown hg)
            clear hown hg
            go_wp2
            go_roundw
            case rel => exact ⟨k + 1, _, by have := HK.out; omega, by go_num, rfl, HN⟩
            case measure => have := HK.out; simp [intOf]; omega
          . obtain ⟨ht0, hl0, hfk, hfs⟩ := fitN_ne hf0
            rw [HTL.out] at hfk
            obtain ⟨q, cq, rfl⟩ := HO.out.shape
            have HR := jz HO.out.ri
            rw [ins_length] at HO HR ⊢
            obtain ⟨bq, oq, rfl, _, _⟩ := ri_some HR.out (by rw [ins_length]; omega)
            have hfl : (fitN n (l.take k)).getD 0 0 < l.length := by have := HK.out; omega
            have hfs2 : (l.getD ((fitN n (l.take k)).getD 0 0) default).s = tgS n 0 (l.take k) := by
             rw [<- hfs]
             rw [List.getD_eq_getElem?_getD, List.getD_eq_getElem?_getD (l := l.take k), List.getElem?_take_of_lt hfk]
            have HC2 : Hid (∀ w', Below W.heap.size W w' -> w'.cell? ⟨bq, oq, none⟩ = some (.int .i64 ((fitN n (l.take k)).getD 0 0 : Nat)) /\ w'.cell? ⟨b, off + (fitN n (l.take k)).getD 0 0 * 3 + 1, none⟩ = some (.int .i64 (tgS n 0 (l.take k))) /\ w'.cell? ⟨wr.heap.size, 1, none⟩ = some (.int .i64 s)) := jz fun w' hb => by
             obtain ⟨_, _, e, _, hfr⟩ := ri_some (ri_below HR.out hb) (by rw [ins_length]; omega)
             cases e
             have cf1 := hfr 0 (by rw [ins_length]; exact hl0)
             rw [ins_getD hl0, Nat.add_zero] at cf1
             have cf2 := HC.out w' (below_more HU.out hb) _ hfl
             rw [hfs2] at cf2
             exact ⟨cf1, cf2, (HW.out.1.below hb).c1⟩
            have FIRST := jz (fun (h : s < tgS n 0 (l.take k)) => show fitN n (l.take (k + 1)) = [] ++ [k] by rw [HT.out, fitN_snoc_first HF.out (.inr h), HTL.out, List.nil_append])
            have MORE := jz (fun (h : s = tgS n 0 (l.take k)) => show fitN n (l.take (k + 1)) = fitN n (l.take k) ++ [k] by rw [HT.out, fitN_snoc_more HF.out ht0 h, HTL.out])
            have LESS := jz (fun (h : tgS n 0 (l.take k) < s) => show fitN n (l.take (k + 1)) = fitN n (l.take k) by rw [HT.out, fitN_snoc_less ht0 h])
            have g1 : decide (((fitN n (l.take k)).length : Int) > 0) = true := decide_eq_true (by omega)
            have g2 : (((fitN n (l.take k)).length : Int) == 0) = false := beq_eq_false_iff_ne.2 (by omega)
            have q1 : (((fitN n (l.take k)).getD 0 0 : Nat) : Int) < (l.length : Int) := by omega
            have q2 : ¬ (((fitN n (l.take k)).getD 0 0 : Nat) : Int) < 0 := by omega
            have q3 : (0 : Int) <= (((fitN n (l.take k)).getD 0 0 : Nat) : Int) := by omega
            have q4 : 0 < (fitN n (l.take k)).length := hl0
            clear hfs hfs2 hfl hfk ht0 hl0 hf0
            generalize tgS n 0 (l.take k) = m at *
            generalize fitN n (l.take k) = f at *
            generalize f.getD 0 0 = I at *
            have HFF := jz (show f.length <= 1000 from HFL.out)
            obtain ⟨F, hF⟩ : ∃ F, f.length = F := ⟨_, rfl⟩
            rw [hF] at g1 g2 q4 HO ⊢
            obtain ⟨k1, k2, k3⟩ := HC2.out W (Below.refl _ _)
            by_cases c1' : m > s
            . have d1 : decide (m > s) = true := decide_eq_true c1'
              have HFIN := jz (FIRST.out c1')
              clear FIRST MORE LESS SKIP c1'
              go_wp2_with fail
              go_quiet (fail)
              have hV1 : Below W.heap.size W (W.drewN nq) := below_drewN (Below.refl _ _) _
              generalize W.drewN nq = V1 at *
              have HV1 := jz hV1
              clear hV1
              go_wp2_with fail
              go_quiet (fail)
              have hV2 : Below W.heap.size W (V1.drewN nq) := below_drewN HV1.out _
              generalize V1.drewN nq = V2 at *
              obtain ⟨hlen, o1, hB, hmore⟩ := Rg.app (f := []) (n := n) (l := l) (w0 := w) (W := V2) (k := k) (ownI_nil' _ _) (by simp) (below_more HU.out hV2) HFIN.out
              have O1 := jz o1
              have HB1 := jz hB
              have HM := jz hmore
              clear o1 hB hmore hV2
              simp only [ins, List.map_nil] at O1 HM hlen
              go_wp2_with (at_builtin; refine list_app_int (o := ⟨some 58, _, _, _, _, _⟩) rfl (.tmp 55) (.tmp 57) rfl w.heap.size _ [] rfl O1.out _ [(k : Int)] rfl (ri_one _ _) hlen.out HB1.out ?_; intro v1 w2 hown hg _)
              have HN := jz (HM.out _ _ hown hg)
              clear hown hg
              go_wp2
              go_roundw
              case rel => exact ⟨k + 1, _, by have := HK.out; omega, by go_num, rfl, HN⟩
              case measure => have := HK.out; simp [intOf]; omega
            . have d1 : decide (m > s) = false := decide_eq_false c1'
              have BV1 : Hid (∀ n, Below W.heap.size W (W.drewN n)) := jz fun n => below_drewN (Below.refl _ _) n
              by_cases c2' : m = s
              . have d2 : (m == s) = true := by rw [c2']; simp
                have HFIN := jz (MORE.out c2'.symm)
                clear FIRST MORE LESS SKIP c1' c2'
                go_wp2_with fail
                go_quiet (fail)
                have hV1 := BV1.out nq
                generalize W.drewN nq = V1 at *
                have HV1 := jz hV1
                obtain ⟨k4, k5, k6⟩ := HC2.out V1 HV1.out
                clear hV1 k1 k2 k3
                go_wp2_with fail
                go_quiet (fail)
                have hV2 : Below W.heap.size W (V1.drewN nq) := below_drewN HV1.out _
                generalize V1.drewN nq = V2 at *
                obtain ⟨hlen, o1, hB, hmore⟩ := Rg.app (f := f) (n := n) (l := l) (w0 := w) (W := V2) (k := k) (own_below_i' HO.out hV2) HFF.out (below_more HU.out hV2) HFIN.out
                have O1 := jz o1
                have HB1 := jz hB
                have HM := jz hmore
                clear o1 hB hmore hV2
                go_wp2_with (at_builtin; refine list_app_int (o := ⟨some 58, _, _, _, _, _⟩) rfl (.tmp 55) (.tmp 57) rfl w.heap.size _ (ins f) rfl O1.out _ [(k : Int)] rfl (ri_one _ _) hlen.out HB1.out ?_; intro v1 w2 hown hg _)
                have HN := jz (HM.out _ _ hown hg)
                clear hown hg
                go_wp2
                go_roundw
                case rel => exact ⟨k + 1, _, by have := HK.out; omega, by go_num, rfl, HN⟩
                case measure => have := HK.out; simp [intOf]; omega
              . have d2 : (m == s) = false := beq_eq_false_iff_ne.2 c2'
                have HFIN := jz (LESS.out (by omega))
                clear FIRST MORE LESS c1' c2'
                go_wp2_with fail
                go_quiet (fail)
                have hV1 := BV1.out nq
                generalize W.drewN nq = V1 at *
                have HV1 := jz hV1
                obtain ⟨k4, k5, k6⟩ := HC2.out V1 HV1.out
                clear hV1 k1 k2 k3
                go_wp2_with fail
                go_quiet (fail)
                have hV2 : Below W.heap.size W (V1.drewN nq) := below_drewN HV1.out _
                generalize V1.drewN nq = V2 at *
                have HN := jz (SKIP.out HFIN.out V2 hV2)
                rw [ins_length, hF] at HN
                clear hV2 SKIP
                go_wp2
                go_roundw
                case rel => exact ⟨k + 1, _, by have := HK.out; omega, by go_num, rfl, HN⟩
                case measure => have := HK.out; simp [intOf]; omega
      . have HN := jz (SKIP.out (by rw [HT.out]; exact fitN_snoc_no (by simp [fitB])) W (Below.refl _ _))
        clear SKIP
        go_wp2
        go_roundw
        case rel => exact ⟨k + 1, _, by have := HK.out; omega, by go_num, rfl, HN⟩
        case measure => have := HK.out; simp [intOf]; omega
    . obtain rfl : k = l.length := by omega
      have h1 := H.out.own
      rw [List.take_length] at h1
      have HO := jz h1
      have HB := jz H.out.up
      clear h1
      go_wp2
      go_ret
      exact ⟨⟨_, rfl, HO.out⟩, HB.out⟩
theorem rchoose_is (n : Int) (cs : List Int) (l : List Bk) (v u : Value) (R : Option Nat) (w : World) (hv : RA blkE w v l) (hu : RI w u cs) (hl : l.length <= 1000) (hR : chN n cs l = R) :
 Calls Tryz.prog 67 #[v, .int .i64 n, u] w fun e w' => e = .returned (.int .i64 (oi R)) /\ Below w.heap.size w w' := by
 have T := jz (rfits_is n l v w hv hl)
 have hm : ∀ i ∈ fitN n l, i < l.length := fun i hi => (fitN_mem hi).1
 rw [chN] at hR
 generalize fitN n l = F at *
 obtain ⟨p, cap, rfl, hlc, hcm⟩ := ra_shape hv
 obtain ⟨pu, cu, rfl, _, _, _⟩ := id hu
 have HL := jz hl
 have HV := jz hv
 have HU := jz hu
 have HR := jz hR
 have HM := jz hm
 clear hcm hlc hv hu hl hR hm
 go_enter Tryz.func67, Tryz.ntmps67
 go_wp2_with fail
 refine (T.out).mono ?_; rintro e w1 ⟨⟨v1, rfl, o1⟩, b1⟩
 have D1 := jz b1
 have HV1 := jz (ra_below HV.out b1)
 have HU1 := jz (ri_below HU.out b1)
 have HF1 := jz o1.ri
 have HFL : Hid (F.length <= 9223372036854775807) := jz (by
  obtain ⟨_, _, _, h1, h2, _⟩ := o1.ri
  rw [ins_length] at h1
  unfold maxLen at h2
  omega)
 obtain ⟨pf, cf, rfl⟩ := o1.shape
 clear b1 o1 T HV HU
 rw [ins_length] at HF1 ⊢
 go_wp2
 go_loopw [7, 14] (fun y i wr => ∃ (k : Nat) (o : Option Nat), k <= F.length /\ i = .int .i64 k /\ y = .int .i64 (oi o) /\ Hid (Chs cs l F R k o /\ Below w1.heap.size w1 wr)) (fun _ i _ => F.length - (intOf i).toNat)
 case atStart => exact ⟨0, none, Nat.zero_le _, rfl, rfl, jz ⟨⟨HR.out, fun _ e => by cases e⟩, Below.refl _ _⟩⟩
 case round =>
  obtain ⟨k, o, hk, rfl, rfl, H⟩ := hrel
  by_cases hlt : k < F.length
  . obtain ⟨bf, of, rfl, _, hfr⟩ := ri_some (ri_below HF1.out H.out.2) (by rw [ins_length]; omega)
    have cf1 := hfr k (by rw [ins_length]; exact hlt)
    rw [ins_getD hlt] at cf1
    have hi := HM.out _ (getD_mem_n hlt)
    have i0 : (0 : Int) <= (k : Int) := by omega
    have i1 : (k : Int) < (F.length : Int) := by omega
    have i2 : ¬ (k : Int) < 0 := by omega
    have i3 : IntKind.i64.wrap ((k : Int) + 1) = ((k + 1 : Nat) : Int) := by rw [show (k : Int) + 1 = ((k + 1 : Nat) : Int) by omega]; exact i64_nat _ (by have := HFL.out; omega)
    have HK := jz hlt
    cases o with
    | none =>
      have HN := jz (H.out.1.first hlt HM.out)
      have HB := jz H.out.2
      simp only [oi]
      obtain ⟨y, hy, hy2⟩ : ∃ y : Int, (-1 : Int) = y /\ decide (y < 0) = true := ⟨-1, rfl, rfl⟩
      rw [hy]
      generalize F.getD k 0 = I at *
      clear hfr hk hy
      go_wp2_with fail
      go_quiet (fail)
      go_wp2
      go_roundw
      case rel => exact ⟨k + 1, some I, by have := HK.out; omega, by go_num, rfl, jz ⟨HN.out, below_drewN HB.out _⟩⟩
      case measure => have := HK.out; simp [intOf]; omega
    | some c =>
      have hc := H.out.1.2 c rfl
      obtain ⟨r, hr⟩ : ∃ r, ahd cs (atL l (F.getD k 0)) (atL l c) = r := ⟨_, rfl⟩
      obtain ⟨b, off, rfl, _, hx⟩ := blk_at (ra_below HV1.out H.out.2) (by omega)
      obtain ⟨_, ci, _, _, wi⟩ := hx _ hi
      obtain ⟨_, cc, _, _, wc⟩ := hx _ hc
      have wi := wi.wa
      have wc := wc.wa
      have C := jz (rcnt_q (ri_below HU1.out H.out.2))
      have HN : Hid (Chs cs l F R (k + 1) (if r = true then some (F.getD k 0) else some c)) := jz (by
       cases r
       . exact H.out.1.stay hlt hr
       . exact H.out.1.turn hlt HM.out hr)
      have HB := jz H.out.2
      have q0 : (c : Int) < (l.length : Int) := by omega
      have q1 : ((F.getD k 0 : Nat) : Int) < (l.length : Int) := by omega
      have q2 : ¬ (c : Int) < 0 := by omega
      have q3 : ¬ ((F.getD k 0 : Nat) : Int) < 0 := by omega
      have q4 : (0 : Int) <= (c : Int) := by omega
      have q5 : (0 : Int) <= ((F.getD k 0 : Nat) : Int) := by omega
      have q6 : decide ((c : Int) < 0) = false := decide_eq_false q2
      simp only [oi, atL] at hr ⊢
      obtain ⟨x, hx1⟩ : ∃ x, wrN cs (l.getD (F.getD k 0) default).a = x := ⟨_, rfl⟩
      obtain ⟨y, hy1⟩ : ∃ y, wrN cs (l.getD c default).a = y := ⟨_, rfl⟩
      rw [ahd, hx1, hy1] at hr
      generalize F.getD k 0 = I at *
      generalize l.getD I default = X at *
      generalize l.getD c default = Y at *
      generalize l.length = L at *
      obtain ⟨a, s, u⟩ := X
      obtain ⟨a', s', u'⟩ := Y
      simp only at hr hx1 hy1 ci cc wi wc
      clear hfr hk hx H HV1 HU1 hi hc
      by_cases h1 : x < y
      . rw [if_neg (by omega), decide_eq_true h1] at hr
        subst hr
        have t1 : decide (x < y) = true := decide_eq_true h1
        clear h1
        go_wp2_with fail
        go_quiet (refine Calls.quiet_of (C.out _ _ _ (by assumption) (by assumption)))
        go_wp2
        go_roundw
        case rel => exact ⟨k + 1, some I, by have := HK.out; omega, by go_num, rfl, jz ⟨HN.out, below_drewN HB.out _⟩⟩
        case measure => have := HK.out; simp [intOf]; omega
      . have t1 : decide (x < y) = false := decide_eq_false h1
        by_cases h2 : x = y
        . rw [if_pos h2] at hr
          have t2 : (x == y) = true := by rw [h2]; simp
          clear h1 h2
          by_cases h3 : a < a'
          . have t3 : decide (a < a') = true := decide_eq_true h3
            rw [t3] at hr
            subst hr
            clear h3
            go_wp2_with fail
            go_quiet (refine Calls.quiet_of (C.out _ _ _ (by assumption) (by assumption)))
            go_wp2
            go_roundw
            case rel => exact ⟨k + 1, some I, by have := HK.out; omega, by go_num, rfl, jz ⟨HN.out, below_drewN HB.out _⟩⟩
            case measure => have := HK.out; simp [intOf]; omega
          . have t3 : decide (a < a') = false := decide_eq_false h3
            rw [t3] at hr
            subst hr
            clear h3
            go_wp2_with fail
            go_quiet (refine Calls.quiet_of (C.out _ _ _ (by assumption) (by assumption)))
            go_wp2
            go_roundw
            case rel => exact ⟨k + 1, some c, by have := HK.out; omega, by go_num, rfl, jz ⟨HN.out, below_drewN HB.out _⟩⟩
            case measure => have := HK.out; simp [intOf]; omega
        . rw [if_neg h2, t1] at hr
          subst hr
          have t2 : (x == y) = false := beq_eq_false_iff_ne.2 h2
          clear h1 h2
          go_wp2_with fail
          go_quiet (refine Calls.quiet_of (C.out _ _ _ (by assumption) (by assumption)))
          go_wp2
          go_roundw
          case rel => exact ⟨k + 1, some c, by have := HK.out; omega, by go_num, rfl, jz ⟨HN.out, below_drewN HB.out _⟩⟩
          case measure => have := HK.out; simp [intOf]; omega
  . obtain rfl : k = F.length := by omega
    obtain ⟨h1, _⟩ := H.out.1
    rw [List.drop_length, chO] at h1
    subst h1
    have HB := jz (below_more D1.out H.out.2)
    go_wp2
    go_ret
    exact ⟨rfl, HB.out⟩
def fbl (n : Int) (l : List Bk) : List Bk := (fitN n l).map fun i => l.getD i default
theorem fbl_len (n : Int) (l : List Bk) : (fbl n l).length <= l.length := by
 rw [fbl, List.length_map]
 unfold fitN
 split
 . simp
 . exact plS_len _ _ _

theorem fit_can {N : Int} {l : List Bk} {m : Int} (hm : mayL m l = true) {d : Nat} (hd : d ∈ fitN N l) : d < l.length /\ canC l d N = true /\ (l.getD d default).u = false /\ N <= (l.getD d default).s /\ 2 <= N := by
 obtain ⟨h1, h2, _⟩ := fitN_mem hd
 obtain ⟨hu, h3, h4⟩ := fitB_iff.1 h2
 refine ⟨h1, ?_, hu, h4, h3⟩
 rw [can_at hm h1 h3, hu, decide_eq_true h4]
 rfl
def alQ (N : Int) (l : List Bk) (o : Int) : Option Nat := (fitN N l).find? fun d => decide (offB (l.getD d default).a = o)
def alW (wl : List Int) (N : Int) (l : List Bk) (o : Int) : List Int := match alQ N l o with
 | none => wl
 | some d => appF wl (cedF l d N)
def alB (N : Int) (l : List Bk) (o : Int) : List Bk := match alQ N l o with
 | none => l
 | some d => crvF l d N
def srQ (l : List Bk) (o : Int) : Int := if o ≠ 0 /\ isN o l = none then 1 else 0
def feQ (l : List Bk) (o r : Int) : Int := match isN o l with
 | none => 1
 | some _ => if o = r then 5 else 0
def feW (wl : List Int) (l : List Bk) (o r : Int) : List Int := match isN o l with
 | none => wl
 | some k => if o = r then wl else appF wl [medF l k]
def feB (l : List Bk) (o r : Int) : List Bk := match isN o l with
 | none => l
 | some k => if o = r then l else mrgF l k


section
variable {ops : Array Oper} {o : Oper} {a : Act} {w : World} {Q : Exit -> Act -> World -> Prop} {K : Act -> World -> Prop}
theorem step_blk {F : Prop} (hgd : o.guard = none) (s x : Operand) (ho : o.op = .call { callee := .builtin .append, args := #[s, x], argTypes := #[86, 86] }) (B : Nat) (v : Value) (l : List Bk) (hs : a.eval s = v) (hown : OwnA blkE B w v l)
 (u : Value) (r : List Bk) (hx : a.eval x = u) (hr : RA blkE w u r) (hlen : Hid (l.length + r.length <= 2000)) (hB : B <= w.heap.size)
 (h : ∀ v' w', OwnA blkE B w' v' (l ++ r) -> w.grownBy w' v.ownBlock -> (v'.ownBlock = v.ownBlock \/ v'.ownBlock = some w.heap.size) -> K (a.put o.dst v') w') : if Region.wanted o (yielded ops a.tmps) = true then o.wp Tryz.prog a w K Q else F :=
 step_app blkE hgd s x ho B v l hs hown u r hx hr (by have := hlen.out; show _ * 24 <= _; omega) hB h
end
theorem rcarved_no (l : List Bk) (i n : Int) (v : Value) (w : World) (hv : RA blkE w v l) (hl : l.length <= 1000) (h : canC l i n = false) :
 Calls Tryz.prog 109 #[v, .int .i64 i, .int .i64 n] w fun e w' => e = .returned (.tuple #[.slice none 0 0, .bool false]) /\ Below w.heap.size w w' := by
 have C1 := jz (rsizes_is l v w hv hl)
 have C2 := jz (fun (w' : World) (hb : Below w.heap.size w w') => rmay_is (szR l) l v (mayS l) w' (ra_below hv hb) hl (may_szR l))
 have H0 := jz (fun (w' : World) (hb : Below w.heap.size w w') => ra_below hv hb)
 obtain ⟨p, cap, rfl, hlc, hcm⟩ := ra_shape hv
 generalize szR l = z at *
 cases hm : mayS l
 . rw [hm] at C2
   generalize l.length = L at *
   clear hv hl h hlc hcm
   go_enter Tryz.func109, Tryz.ntmps109
   go_wp2_with fail
   refine (C1.out).mono ?_; rintro e w1 ⟨rfl, b1⟩
   have D1 := jz b1
   go_wp2_with fail
   refine (C2.out w1 D1.out).mono ?_; rintro e w2 ⟨rfl, b2⟩
   have D2 := jz (below_more D1.out b2)
   clear b1 b2
   go_wp2_with fail
   go_ret2
   exact ⟨rfl, D2.out⟩
 rw [hm] at C2
 rcases canC_no h with h | h | h | ⟨h0, h1, h⟩
 . rw [h] at hm
   cases hm
 . generalize l.length = L at *
   clear hv hl hm hlc hcm
   go_enter Tryz.func109, Tryz.ntmps109
   go_wp2_with fail
   refine (C1.out).mono ?_; rintro e w1 ⟨rfl, b1⟩
   have D1 := jz b1
   go_wp2_with fail
   refine (C2.out w1 D1.out).mono ?_; rintro e w2 ⟨rfl, b2⟩
   have D2 := jz (below_more D1.out b2)
   clear b1 b2
   go_wp2_with fail
   go_ret2
   exact ⟨rfl, D2.out⟩
 . have h2 : ¬ i < 0 := by omega
   have h3 : i >= (l.length : Int) := h
   generalize l.length = L at *
   clear hv hl hm hlc hcm h
   go_enter Tryz.func109, Tryz.ntmps109
   go_wp2_with fail
   refine (C1.out).mono ?_; rintro e w1 ⟨rfl, b1⟩
   have D1 := jz b1
   go_wp2_with fail
   refine (C2.out w1 D1.out).mono ?_; rintro e w2 ⟨rfl, b2⟩
   have D2 := jz (below_more D1.out b2)
   clear b1 b2
   go_wp2_with fail
   go_ret2
   exact ⟨rfl, D2.out⟩
 . obtain ⟨k, rfl⟩ : ∃ k : Nat, i = k := ⟨i.toNat, by omega⟩
   have h2 : ¬ (k : Int) < 0 := by omega
   have h3 : ¬ (k : Int) >= (l.length : Int) := by omega
   have h4 : ¬ (l.length : Int) <= (k : Int) := by omega
   have hk : k < l.length := by omega
   have HX := jz (fun (w' : World) (hb : Below w.heap.size w w') => blk_at (H0.out w' hb) (Nat.lt_of_le_of_lt (Nat.zero_le _) hk))
   have hwf := (ra_ok hv).at_ hk
   have HK := jz hk
   have hB : bAt l (k : Int) = l.getD k default := by rw [bAt, Int.toNat_natCast]
   rw [hB] at h
   obtain ⟨⟨a, s, u⟩, hb⟩ : ∃ c, l.getD k default = c := ⟨_, rfl⟩
   rw [hb] at h hwf
   simp only at h
   have HB := jz hb
   have HW := jz hwf
   clear hv hl hm hlc hcm hk h0 hB hb hwf
   go_enter Tryz.func109, Tryz.ntmps109
   go_wp2_with fail
   refine (C1.out).mono ?_; rintro e w1 ⟨rfl, b1⟩
   have D1 := jz b1
   go_wp2_with fail
   refine (C2.out w1 D1.out).mono ?_; rintro e w2 ⟨rfl, b2⟩
   have D2 := jz (below_more D1.out b2)
   clear b1 b2
   obtain ⟨b, off, rfl, _, hx⟩ := HX.out w2 D2.out
   obtain ⟨hld, _, hs, hu, _⟩ := hx k HK.out
   rw [HB.out] at hld hu hs
   have hu : w2.cell? ⟨b, off + k * 3 + 2, none⟩ = some (.bool u) := hu
   have hs : w2.cell? ⟨b, off + k * 3 + 1, none⟩ = some (.int .i64 s) := hs
   clear hx
   cases u with
   | true =>
     clear h
     generalize l.length = L at *
     go_wp2_with fail
     go_ret2
     exact ⟨rfl, D2.out⟩
   | false =>
     have h : takN s n = 0 := by
      rcases h with h | h
      . cases h
      . exact h
     have C3 := jz (rtakes_is s n 0 HW.out.ws h w2)
     clear h
     generalize l.length = L at *
     go_wp2_with fail
     refine (C3.out).mono ?_; rintro e w' ⟨rfl, rfl⟩
     go_wp2_with fail
     go_ret2
     exact ⟨rfl, D2.out⟩
theorem rcarved_yes (l : List Bk) (i n : Int) (v : Value) (w : World) (hv : RA blkE w v l) (hl : l.length <= 1000) (h : canC l i n = true) :
 Calls Tryz.prog 109 #[v, .int .i64 i, .int .i64 n] w fun e w' => (∃ u, e = .returned (.tuple #[u, .bool true]) /\ OwnA blkE w.heap.size w' u (crvF l i n)) /\ Below w.heap.size w w' := by
 have C1 := jz (rsizes_is l v w hv hl)
 have C2 := jz (fun (w' : World) (hb : Below w.heap.size w w') => rmay_is (szR l) l v (mayS l) w' (ra_below hv hb) hl (may_szR l))
 have H0 := jz (fun (w' : World) (hb : Below w.heap.size w w') => ra_below hv hb)
 obtain ⟨p, cap, rfl, hlc, hcm⟩ := ra_shape hv
 obtain ⟨hm, h0, h1, hu, ht⟩ := canC_yes.1 h
 have hz := mayF_sizes (mayL_yes.1 hm).2 _ (bAt_mem h0 h1)
 have hz2 := (mayL_yes.1 hm).1
 rw [hm] at C2
 generalize szR l = z at *
 obtain ⟨k, rfl⟩ : ∃ k : Nat, i = k := ⟨i.toNat, by omega⟩
 have hc : crvF l k n = l.take k ++ (prtB (bAt l k) n ++ l.drop (k + 1)) := by rw [crvF, if_pos h, Int.toNat_natCast]
 rw [hc]
 have hk : k < l.length := by omega
 have hB : bAt l (k : Int) = l.getD k default := by rw [bAt, Int.toNat_natCast]
 have hwf := (ra_ok hv).at_ hk
 rw [hB] at hu ht hz ⊢
 obtain ⟨⟨a, s, u⟩, hb⟩ : ∃ c, l.getD k default = c := ⟨_, rfl⟩
 rw [hb] at hu ht hwf hz ⊢
 simp only at hu ht hz
 subst hu
 obtain ⟨b, off, rfl, _, _⟩ := blk_at hv (by omega)
 have HX : Hid (∀ w', Below w.heap.size w w' -> w'.cell? ⟨b, off + k * 3, none⟩ = some (.int .i64 a) /\ w'.cell? ⟨b, off + k * 3 + 1, none⟩ = some (.int .i64 s) /\ w'.cell? ⟨b, off + k * 3 + 2, none⟩ = some (.bool false)) := jz fun w' hb' => by
  obtain ⟨_, _, e, _, hx⟩ := blk_at (H0.out w' hb') (by omega)
  cases e
  obtain ⟨_, x1, x2, x3, _⟩ := hx k hk
  rw [hb] at x1 x2 x3
  exact ⟨x1, x2, x3⟩
 obtain ⟨⟨s1, s2⟩, a1, a2⟩ := hz
 obtain ⟨q1, q2, q3⟩ := hz2
 obtain ⟨t, hte⟩ : ∃ t, takN s n = t := ⟨_, rfl⟩
 obtain ⟨t1, t2, t3, t4⟩ := takN_some ht
 rw [hte] at ht t2 t3 t4
 have HS : Hid (2 <= s /\ s <= 512 /\ 0 <= a /\ a <= 512 /\ 2 <= t /\ t <= s) := jz ⟨s1, s2, a1, by omega, by omega, t3⟩
 have C3 := jz (fun w => rtakes_is s n t hwf.ws hte w)
 have n1 : (t == 0) = false := beq_eq_false_iff_ne.2 ht
 obtain ⟨K1, hK1⟩ : ∃ x, k + 1 = x := ⟨_, rfl⟩
 rw [hK1]
 have j1 : IntKind.i64.wrap ((k : Int) + 1) = (K1 : Int) := by rw [show (k : Int) + 1 = (K1 : Int) by omega]; exact i64_nat _ (by omega)
 have i1 : (K1 : Int) <= (l.length : Int) := by omega
 have i2 : (k : Int) <= (cap : Int) := by omega
 have i3 : (K1 : Int) <= (cap : Int) := by omega
 have i4 : ¬ cap = 0 := by omega
 have h2 : ¬ (k : Int) < 0 := by omega
 have h3 : ¬ (k : Int) >= (l.length : Int) := by omega
 have h4 : ¬ (l.length : Int) <= (k : Int) := by omega
 obtain ⟨q, hq⟩ : ∃ q : Addr, q = if cap = K1 then ⟨b, off, none⟩ else ⟨b, off + K1 * 3, none⟩ := ⟨_, rfl⟩
 have HP : Hid (∀ w', Below w.heap.size w w' -> RA blkE w' (.slice (some ⟨b, off, none⟩) k cap) (l.take k) /\ RA blkE w' (.slice (some q) (l.length - K1) (cap - K1)) (l.drop K1)) := jz fun w' hb => by
  unfold maxLen at hcm
  refine ⟨?_, ?_⟩
  . have := ra_take (H0.out w' hb) k
    rwa [Nat.min_eq_left (by omega)] at this
  . by_cases hlt : K1 < l.length
    . have := ra_drop (H0.out w' hb) hlt
      rw [if_neg (by omega)] at hq
      rw [hq]; exact this
    . rw [List.drop_eq_nil_of_le (by omega), show l.length - K1 = 0 by omega]
      exact ⟨_, _, rfl, Nat.zero_le _, by unfold maxLen; omega, (fun _ h => by cases h), .inl rfl⟩
 have N1 : Hid (([] : List Bk).length + (l.take k).length <= 2000) := jz (by rw [List.length_take]; simp; omega)
 have N2 : Hid (([] ++ l.take k).length + [(⟨a, t, true⟩ : Bk)].length <= 2000) := jz (by rw [List.nil_append, List.length_take]; simp; omega)
 have N3 : Hid ((([] ++ l.take k) ++ [(⟨a, t, true⟩ : Bk)]).length + [(⟨a + t, s - t, false⟩ : Bk)].length <= 2000) := jz (by rw [List.nil_append, List.length_append, List.length_take]; simp; omega)
 have N4 : Hid ((([] ++ l.take k) ++ [(⟨a, t, true⟩ : Bk)]).length + (l.drop K1).length <= 2000) := jz (by rw [List.nil_append, List.length_append, List.length_take, List.length_drop]; simp; omega)
 have N5 : Hid (((([] ++ l.take k) ++ [(⟨a, t, true⟩ : Bk)]) ++ [(⟨a + t, s - t, false⟩ : Bk)]).length + (l.drop K1).length <= 2000) := jz (by rw [List.nil_append, List.length_append, List.length_append, List.length_take, List.length_drop]; simp; omega)
 have R1 : Hid (∀ w1 : World, RA blkE (w1.alloc (.cells (bc ⟨a, t, true⟩) 92)) (.slice (some ⟨w1.heap.size, 0, none⟩) 1 1) [⟨a, t, true⟩]) := jz fun w1 => (blk_one w1 (c := ⟨a, t, true⟩) (Bk.wf_of (by have := HS.out; simp only; omega) (by have := HS.out; simp only; omega) (by have := HS.out; simp only; omega) (by have := HS.out; simp only; omega))).ra
 have R2 : Hid (∀ w1 : World, RA blkE (w1.alloc (.cells (bc ⟨a + t, s - t, false⟩) 92)) (.slice (some ⟨w1.heap.size, 0, none⟩) 1 1) [⟨a + t, s - t, false⟩]) := jz fun w1 => (blk_one w1 (c := ⟨a + t, s - t, false⟩) (Bk.wf_of (by have := HS.out; simp only; omega) (by have := HS.out; simp only; omega) (by have := HS.out; simp only; omega) (by have := HS.out; simp only; omega))).ra
 have HPR : Hid ((t < s -> prtB ⟨a, s, false⟩ n = [⟨a, t, true⟩, ⟨a + t, s - t, false⟩]) /\ (¬ t < s -> prtB ⟨a, s, false⟩ n = [⟨a, t, true⟩])) := jz ⟨fun e => by
  rw [prtB, if_neg (by rw [hte]; simp only; omega)]
  simp only [hte], fun e => by
  rw [prtB, if_pos (by rw [hte]; simp only; omega)]
  have : t = s := by omega
  rw [this]⟩
 have j2 : IntKind.i64.wrap (a + t) = a + t := IntWalk.i64_in _ (by omega)
 have j3 : IntKind.i64.wrap (s - t) = s - t := IntWalk.i64_in _ (by omega)
 obtain ⟨T, hT⟩ : ∃ T, l.take k = T := ⟨_, rfl⟩
 obtain ⟨U, hU⟩ : ∃ T, l.drop K1 = T := ⟨_, rfl⟩
 rw [hT] at HP N1 N2 N3 N4 N5 ⊢
 rw [hU] at HP N4 N5 ⊢
 clear hT hU hv hl h hc hlc hcm hk h0 hB hb hwf s1 s2 a1 a2 q1 q2 q3 hm h1 t1 t2 t3 t4 ht hte hK1 H0
 generalize l.length = L at *
 have SZ : Hid (∀ x : World, Below w.heap.size w x -> w.heap.size <= x.heap.size) := jz fun _ h => h.size
 have GR : Hid (∀ (x y : World) (r : Option Nat), Below w.heap.size w x -> x.grownBy y r -> r = none -> Below w.heap.size w y) := jz fun x y r h g e => by subst e; exact h.grown g h.size (fun k hk => by cases hk)
 go_enter Tryz.func109, Tryz.ntmps109
 go_wp2_with fail
 refine (C1.out).mono ?_; rintro e w1 ⟨rfl, b1⟩
 have D1 := jz b1
 go_wp2_with fail
 refine (C2.out w1 D1.out).mono ?_; rintro e w2 ⟨rfl, b2⟩
 have D2 := jz (below_more D1.out b2)
 clear b1 b2
 obtain ⟨x1, x2, x3⟩ := HX.out w2 D2.out
 go_wp2_with fail
 refine (C3.out w2).mono ?_; rintro e w' ⟨rfl, rfl⟩
 go_wp2_with fail
 refine (C3.out w2).mono ?_; rintro e w' ⟨rfl, rfl⟩
 go_wp2_with fail
 go_region_law (first
  | (refine step_blk (o := ⟨some 52, _, _, _, _, _⟩) rfl (.const (.slice none 0 0)) (.tmp 51) rfl w.heap.size (.slice none 0 0) [] (by simp [Act.eval]) (own_nil_a _ _ _) (.slice (some ⟨b, off, none⟩) k cap) T (by simp [Act.eval, Act.put]) (HP.out _ (by repeat' (first | (with_reducible exact D2.out) | (with_reducible refine Below.drew ?_) | (with_reducible refine bal ?_)))).1 N1.out (SZ.out _ (by repeat' (first | (with_reducible exact D2.out) | (with_reducible refine Below.drew ?_) | (with_reducible refine bal ?_)))) ?_
     intro vb wb ob gb _
     have OB := jz ob
     have GB : Hid (Below w.heap.size w wb) := jz (GR.out _ _ _ (by repeat' (first | (with_reducible exact D2.out) | (with_reducible refine Below.drew ?_) | (with_reducible refine bal ?_))) gb rfl)
     have GX := jz ((Below.refl _ _).grown gb (Nat.le_refl _) (by intro k hk; cases hk))
     obtain ⟨y1, y2, y3⟩ := HX.out wb GB.out
     clear ob)
  | (refine step_blk (o := ⟨some 61, _, _, _, _, _⟩) rfl (.tmp 52) (.tmp 60) rfl w.heap.size vb ([] ++ T) (by simp [Act.eval]) (OB.out.alloc _) (.slice (some ⟨wb.heap.size, 0, none⟩) 1 1) [⟨a, t, true⟩] (by simp [Act.eval]) (R1.out wb) N2.out (SZ.out _ (bal GB.out)) ?_
     intro vc wc oc gc _
     have OC := jz oc
     have GC := jz (below_app (bal GB.out) (SZ.out _ (bal GB.out)) (OB.out.alloc _) gc)
     obtain ⟨z1, z2, z3⟩ := HX.out wc GC.out
     clear oc gc)
  | (refine step_blk (o := ⟨some 61, _, _, _, _, _⟩) rfl (.tmp 52) (.tmp 60) rfl w.heap.size vb ([] ++ T) (by simp [Act.eval]) OB.out (.slice (some ⟨w2.heap.size, 0, none⟩) 1 1) [⟨a, t, true⟩] (by simp [Act.eval]) (ra_below (ra_below (R1.out w2) ((Below.refl _ _).drew)) GX.out) N2.out (SZ.out _ GB.out) ?_
     intro vc wc oc gc _
     have OC := jz oc
     have GC := jz (below_app GB.out (SZ.out _ GB.out) OB.out gc)
     obtain ⟨z1, z2, z3⟩ := HX.out wc GC.out
     clear oc gc))
 all_goals
  clear C1 C2 C3 R1 x1 x2 x3 gb
  by_cases e : t < s
  . go_wp2_with fail
    go_region_law (first
     | (refine step_blk (o := ⟨some 86, _, _, _, _, _⟩) rfl (.tmp 69) (.tmp 85) rfl w.heap.size vc (([] ++ T) ++ [(⟨a, t, true⟩ : Bk)]) (by simp [Act.eval]) ((OC.out.alloc _).drew) (.slice (some ⟨wc.heap.size, 0, none⟩) 1 1) [⟨a + t, s - t, false⟩] (by simp [Act.eval]) (ra_below (R2.out wc) ((Below.refl _ _).drew)) N3.out (SZ.out _ ((bal GC.out).drew)) ?_
        intro vd wd od gd _
        have OD := jz od
        have GD := jz (below_app ((bal GC.out).drew) (SZ.out _ ((bal GC.out).drew)) ((OC.out.alloc _).drew) gd)
        clear od gd))
    all_goals
     by_cases e9 : cap = K1
     . rw [if_pos e9] at hq
       subst hq
       have e2 : K1 = cap := e9.symm
       subst e2
       rw [Nat.sub_self] at HP
       go_wp2_with (at_builtin; refine app_blk (o := ⟨some 92, _, _, _, _, _⟩) rfl (.tmp 87) (.tmp 91) rfl w.heap.size vd ((([] ++ T) ++ [(⟨a, t, true⟩ : Bk)]) ++ [(⟨a + t, s - t, false⟩ : Bk)]) rfl OD.out _ U rfl (HP.out _ GD.out).2 N5.out (SZ.out _ GD.out) ?_)
       intro ve we oe ge _
       have OE : Hid (OwnA blkE w.heap.size we ve (T ++ (prtB ⟨a, s, false⟩ n ++ U))) := jz (by rw [HPR.out.1 e]; simpa using oe)
       have GE := jz (below_app GD.out (SZ.out _ GD.out) OD.out ge)
       clear oe ge
       go_wp2
       go_ret2
       exact ⟨⟨_, rfl, OE.out⟩, GE.out⟩
     . rw [if_neg e9] at hq
       subst hq
       go_wp2_with (at_builtin; refine app_blk (o := ⟨some 92, _, _, _, _, _⟩) rfl (.tmp 87) (.tmp 91) rfl w.heap.size vd ((([] ++ T) ++ [(⟨a, t, true⟩ : Bk)]) ++ [(⟨a + t, s - t, false⟩ : Bk)]) rfl OD.out _ U rfl (HP.out _ GD.out).2 N5.out (SZ.out _ GD.out) ?_)
       intro ve we oe ge _
       have OE : Hid (OwnA blkE w.heap.size we ve (T ++ (prtB ⟨a, s, false⟩ n ++ U))) := jz (by rw [HPR.out.1 e]; simpa using oe)
       have GE := jz (below_app GD.out (SZ.out _ GD.out) OD.out ge)
       clear oe ge
       go_wp2
       go_ret2
       exact ⟨⟨_, rfl, OE.out⟩, GE.out⟩
  . clear N3 N5 R2
    have e0 : ¬ t < s := e
    by_cases e9 : cap = K1
    . rw [if_pos e9] at hq
      subst hq
      have e2 : K1 = cap := e9.symm
      subst e2
      rw [Nat.sub_self] at HP
      go_wp2_with (at_builtin; refine app_blk (o := ⟨some 92, _, _, _, _, _⟩) rfl (.tmp 87) (.tmp 91) rfl w.heap.size vc (([] ++ T) ++ [(⟨a, t, true⟩ : Bk)]) rfl OC.out _ U rfl (HP.out _ GC.out).2 N4.out (SZ.out _ GC.out) ?_)
      intro ve we oe ge _
      have OE : Hid (OwnA blkE w.heap.size we ve (T ++ (prtB ⟨a, s, false⟩ n ++ U))) := jz (by rw [HPR.out.2 e]; simpa using oe)
      have GE := jz (below_app GC.out (SZ.out _ GC.out) OC.out ge)
      clear oe ge
      go_wp2
      go_ret2
      exact ⟨⟨_, rfl, OE.out⟩, GE.out⟩
    . rw [if_neg e9] at hq
      subst hq
      go_wp2_with (at_builtin; refine app_blk (o := ⟨some 92, _, _, _, _, _⟩) rfl (.tmp 87) (.tmp 91) rfl w.heap.size vc (([] ++ T) ++ [(⟨a, t, true⟩ : Bk)]) rfl OC.out _ U rfl (HP.out _ GC.out).2 N4.out (SZ.out _ GC.out) ?_)
      intro ve we oe ge _
      have OE : Hid (OwnA blkE w.heap.size we ve (T ++ (prtB ⟨a, s, false⟩ n ++ U))) := jz (by rw [HPR.out.2 e]; simpa using oe)
      have GE := jz (below_app GC.out (SZ.out _ GC.out) OC.out ge)
      clear oe ge
      go_wp2
      go_ret2
      exact ⟨⟨_, rfl, OE.out⟩, GE.out⟩
theorem rcarved_is (l : List Bk) (i n : Int) (v : Value) (w : World) (hv : RA blkE w v l) (hl : l.length <= 1000) (r : Bool) (h : canC l i n = r) :
 Calls Tryz.prog 109 #[v, .int .i64 i, .int .i64 n] w fun e w' => (∃ u, e = .returned (.tuple #[u, .bool r]) /\ OwnA blkE w.heap.size w' u (crvF l i n)) /\ Below w.heap.size w w' := by
 cases r with
 | false => exact (rcarved_no l i n v w hv hl h).mono fun e w' ⟨h1, h2⟩ => ⟨⟨_, h1, by rw [crvF_no h]; exact own_nil_a _ _ _⟩, h2⟩
 | true => exact rcarved_yes l i n v w hv hl h
theorem rise_hd (a hd : Int) (k : Nat) : rise a (hd :: List.replicate (k + 1) 0) = rise a (hd :: List.replicate k 0) ++ [⟨a + ((k + 1 : Nat) : Int), 0⟩] := by
 rw [List.replicate_succ', <- List.cons_append, rise_app, List.length_cons, List.length_replicate]
 rfl
theorem rcedits_is (l : List Bk) (i n : Int) (v : Value) (w : World) (hv : RA blkE w v l) (hl : l.length <= 1000) :
 Calls Tryz.prog 68 #[v, .int .i64 i, .int .i64 n] w fun e w' => (∃ u, e = .returned u /\ OwnA edE w.heap.size w' u (cedF l i n)) /\ Below w.heap.size w w' := by
 cases h : canC l i n with
 | false =>
   have C1 := jz (rcarved_is l i n v w hv hl false h)
   rw [cedF_no h]
   obtain ⟨p, cap, rfl, _⟩ := ra_shape hv
   generalize l.length = L at *
   clear hv hl h
   go_enter Tryz.func68, Tryz.ntmps68
   go_wp2_with fail
   refine (C1.out).mono ?_; rintro e w1 ⟨⟨u1, rfl, _⟩, b1⟩
   have D1 := jz b1
   clear b1
   go_wp2_with fail
   go_ret
   exact ⟨⟨_, rfl, own_nil_a _ _ _⟩, D1.out⟩
 | true =>
   have C1 := jz (rcarved_is l i n v w hv hl true h)
   have hc : cedF l i n = edF (prtB (bAt l i) n) := by rw [cedF, if_pos h]
   have H0 := jz (fun (w' : World) (hb : Below w.heap.size w w') => ra_below hv hb)
   obtain ⟨p, cap, rfl, _⟩ := ra_shape hv
   obtain ⟨hm, h0, h1, hu, ht⟩ := canC_yes.1 h
   have hz := mayF_sizes (mayL_yes.1 hm).2 _ (bAt_mem h0 h1)
   have hz2 := (mayL_yes.1 hm).1
   obtain ⟨k0, rfl⟩ : ∃ k : Nat, i = k := ⟨i.toNat, by omega⟩
   rw [hc, edF_prt ht]
   have hk : k0 < l.length := by omega
   have hB : bAt l (k0 : Int) = l.getD k0 default := by rw [bAt, Int.toNat_natCast]
   have hwf := (ra_ok hv).at_ hk
   rw [hB] at hu ht hz ⊢
   obtain ⟨⟨a, s, u⟩, hb⟩ : ∃ c, l.getD k0 default = c := ⟨_, rfl⟩
   rw [hb] at hu ht hwf hz ⊢
   simp only at hu ht hz ⊢
   obtain ⟨b, off, rfl, _, _⟩ := blk_at hv (by omega)
   have HX : Hid (∀ w', Below w.heap.size w w' -> w'.cell? ⟨b, off + k0 * 3, none⟩ = some (.int .i64 a) /\ w'.cell? ⟨b, off + k0 * 3 + 1, none⟩ = some (.int .i64 s)) := jz fun w' hb' => by
    obtain ⟨_, _, e, _, hx⟩ := blk_at (H0.out w' hb') (by omega)
    cases e
    obtain ⟨_, x1, x2, _, _⟩ := hx k0 hk
    rw [hb] at x1 x2
    exact ⟨x1, x2⟩
   obtain ⟨⟨s1, s2⟩, a1, a2⟩ := hz
   obtain ⟨q1, q2, q3⟩ := hz2
   obtain ⟨t', hte⟩ : ∃ t, takN s n = t := ⟨_, rfl⟩
   obtain ⟨t1, t2, t3, t4⟩ := takN_some ht
   rw [hte] at ht t2 t3 t4
   obtain ⟨t, rfl⟩ : ∃ t : Nat, t' = t := ⟨t'.toNat, by omega⟩
   obtain ⟨z, rfl⟩ : ∃ z : Nat, a = z := ⟨a.toNat, by omega⟩
   obtain ⟨m, rfl⟩ : ∃ m : Nat, s = m := ⟨s.toNat, by omega⟩
   have HS : Hid (2 <= m /\ m <= 512 /\ z <= 512 /\ 2 <= t /\ t <= m) := jz (by omega)
   have C3 := jz (fun w => rtakes_is m n t hwf.ws hte w)
   have CW := jz (fun n u w => rwordb_is n u w)
   obtain ⟨hd, hhd⟩ : ∃ x, hdB t true = x := ⟨_, rfl⟩
   obtain ⟨he, hhe⟩ : ∃ x, hdB ((m : Int) - t) false = x := ⟨_, rfl⟩
   have hin := hdB_in t true
   have hin2 := hdB_in ((m : Int) - t) false
   rw [hhd] at hin
   rw [hhe] at hin2
   have CW1 : Hid (∀ w, Calls Tryz.prog 92 #[.int .i64 t, .bool true] w fun e w' => e = .returned (.int .u64 hd) /\ w = w') := jz fun w => by rw [<- hhd]; exact CW.out t true w
   obtain ⟨D, hD⟩ : ∃ D : Int, (m : Int) - t = D := ⟨_, rfl⟩
   have CW2 : Hid (∀ w, Calls Tryz.prog 92 #[.int .i64 D, .bool false] w fun e w' => e = .returned (.int .u64 he) /\ w = w') := jz fun w => by rw [<- hhe, <- hD]; exact CW.out _ false w
   have hTV : takV ⟨z, m, u⟩ n = (hd :: List.replicate (t - 1) 0) ++ (if t = m then [] else [he]) := by
    rw [takV]
    simp only [hte, hhd, hhe]
    have e1 : ((t : Int) - 1).toNat = t - 1 := by omega
    rw [e1]
    by_cases e : t = m
    . rw [if_pos e, if_pos (by omega)]; rfl
    . rw [if_neg e, if_neg (by omega)]; rfl
   have HT : Hid ((t = m -> rise (z : Int) (takV ⟨z, m, u⟩ n) = rise (z : Int) (hd :: List.replicate (t - 1) 0)) /\ (¬ t = m -> rise (z : Int) (takV ⟨z, m, u⟩ n) = rise (z : Int) (hd :: List.replicate (t - 1) 0) ++ [⟨((z + t : Nat) : Int), he⟩])) := jz ⟨fun e => by rw [hTV, if_pos e, List.append_nil], fun e => by
    rw [hTV, if_neg e, rise_app, List.length_cons, List.length_replicate]
    congr 2
    first | omega | (rw [show (z : Int) + ((t - 1 + 1 : Nat) : Int) = ((z + t : Nat) : Int) by omega]; rfl)⟩
   have j1 : IntKind.i64.wrap ((z : Int) + (t : Int)) = ((z + t : Nat) : Int) := by rw [show (z : Int) + (t : Int) = ((z + t : Nat) : Int) by omega]; exact i64_nat _ (by omega)
   have j2 : IntKind.i64.wrap ((m : Int) - (t : Int)) = D := by rw [hD]; exact IntWalk.i64_in _ (by omega)
   have h2 : ¬ (k0 : Int) < 0 := by omega
   have h3 : ¬ (k0 : Int) >= (l.length : Int) := by omega
   have h4 : ¬ (l.length : Int) <= (k0 : Int) := by omega
   obtain ⟨ZT, hZT⟩ : ∃ x, z + t = x := ⟨_, rfl⟩
   rw [hZT] at HT j1
   have O1 : Hid (∀ w1 : World, Below w.heap.size w w1 -> OwnA edE w.heap.size (w1.alloc (.cells (ec ⟨z, hd⟩) 105)).drew (.slice (some ⟨w1.heap.size, 0, none⟩) 1 1) (rise (z : Int) (hd :: List.replicate 0 0))) := jz fun w1 hb => ((ed_one w1 (c := ⟨z, hd⟩) (Ed.wf_of (by simp only; omega) (by simp only; omega) hin.1 hin.2)).mono hb.size).drew
   have R1 : Hid (∀ (x : Nat) (w1 : World), x <= 2000 -> RA edE (w1.alloc (.cells (ec ⟨x, 0⟩) 105)) (.slice (some ⟨w1.heap.size, 0, none⟩) 1 1) [⟨x, 0⟩]) := jz fun x w1 hx => (ed_one w1 (c := ⟨x, 0⟩) (Ed.wf_of (by simp only; omega) (by simp only; omega) (by simp only; omega) (by simp only; omega))).ra
   have R2 : Hid (∀ w1 : World, RA edE (w1.alloc (.cells (ec ⟨ZT, he⟩) 105)).drew (.slice (some ⟨w1.heap.size, 0, none⟩) 1 1) [⟨ZT, he⟩]) := jz fun w1 => ra_below (ed_one w1 (c := ⟨ZT, he⟩) (Ed.wf_of (by simp only; omega) (by simp only; omega) hin2.1 hin2.2)).ra ((Below.refl _ _).drew)
   generalize rise (z : Int) (takV ⟨z, m, u⟩ n) = RT at *
   have SZ : Hid (∀ x : World, Below w.heap.size w x -> w.heap.size <= x.heap.size) := jz fun _ h => h.size
   clear CW hTV hhd hhe hin hin2 hD hv hl h hc hk h0 hB hb hwf s1 s2 a1 a2 q1 q2 q3 hm h1 t1 t2 t3 t4 ht hte H0 hu hZT
   generalize l.length = L at *
   go_enter Tryz.func68, Tryz.ntmps68
   go_wp2_with fail
   refine (C1.out).mono ?_; rintro e w1 ⟨⟨u1, rfl, _⟩, b1⟩
   have D1 := jz b1
   obtain ⟨x1, x2⟩ := HX.out w1 D1.out
   clear b1
   go_wp2_with fail
   refine (C3.out w1).mono ?_; rintro e w' ⟨rfl, rfl⟩
   go_wp2_with fail
   go_region_law (first
    | (go_simp; go_at_call 92; refine (CW1.out _).mono ?_; rintro e wq ⟨rfl, rfl⟩))
   all_goals
    have OX := jz (O1.out w1 D1.out)
    have DX : Hid (Below w.heap.size w (w1.alloc (.cells (ec ⟨z, hd⟩) 105)).drew) := jz ((bal D1.out).drew)
    clear C1 C3 CW1 x1 x2
    go_wp2
    go_loopw [10, 11] (fun e i wr => ∃ k : Nat, k + 1 <= t /\ i = .int .i64 ((k + 1 : Nat) : Int) /\ Hid (OwnA edE w.heap.size wr e (rise (z : Int) (hd :: List.replicate k 0)) /\ Below w.heap.size w wr)) (fun _ i _ => t - (intOf i).toNat)
    case atStart => exact ⟨0, by have := HS.out; omega, by go_num, jz ⟨OX.out, DX.out⟩⟩
    case round =>
     obtain ⟨k, hk, rfl, H⟩ := hrel
     obtain ⟨x1, x2⟩ := HX.out wr H.out.2
     obtain ⟨K, hK⟩ : ∃ x, k + 1 = x := ⟨_, rfl⟩
     rw [hK]
     by_cases hlt : K < t
     . have i1 : (K : Int) < (t : Int) := by omega
       have i3 : IntKind.i64.wrap ((K : Int) + 1) = ((K + 1 : Nat) : Int) := by rw [show (K : Int) + 1 = ((K + 1 : Nat) : Int) by omega]; exact i64_nat _ (by have := HS.out; omega)
       have i4 : IntKind.i64.wrap ((z : Int) + (K : Int)) = ((z + K : Nat) : Int) := by rw [show (z : Int) + (K : Int) = ((z + K : Nat) : Int) by omega]; exact i64_nat _ (by have := HS.out; omega)
       have hR := rise_hd (z : Int) hd k
       rw [hK] at hR
       obtain ⟨x, hx⟩ : ∃ x, z + K = x := ⟨_, rfl⟩
       rw [hx] at i4
       rw [show (z : Int) + ((K : Nat) : Int) = (x : Int) by omega] at hR
       have HR := jz hR
       have RX := jz (R1.out x wr (by have := HS.out; omega))
       have DW : Hid (Below w.heap.size w (wr.alloc (.cells (ec ⟨x, 0⟩) 105))) := jz (bal H.out.2)
       have NL : Hid ((rise (z : Int) (hd :: List.replicate k 0)).length + [(⟨x, 0⟩ : Ed)].length <= 4000) := jz (by rw [rise_length, List.length_cons, List.length_replicate]; simp; have := HS.out; omega)
       have OW : Hid (OwnA edE w.heap.size (wr.alloc (.cells (ec ⟨x, 0⟩) 105)) _ (rise (z : Int) (hd :: List.replicate k 0))) := jz (H.out.1.alloc _)
       have HK := jz (And.intro hK hlt)
       clear hR hx hk hK hlt
       go_wp2_with (at_builtin; refine app_ed rfl _ _ rfl w.heap.size _ (rise (z : Int) (hd :: List.replicate k 0)) rfl OW.out _ [⟨x, 0⟩] rfl RX.out NL (SZ.out _ DW.out) ?_)
       intro v' w' ho hg _
       have HN : Hid (OwnA edE w.heap.size w' v' (rise (z : Int) (hd :: List.replicate K 0)) /\ Below w.heap.size w w') := jz ⟨by rw [HR.out]; exact ho, below_app DW.out (SZ.out _ DW.out) OW.out hg⟩
       clear ho hg
       go_wp2
       go_roundw
       case rel => exact ⟨K, by have := HK.out; omega, by go_num, HN⟩
       case measure => have := HK.out; simp [intOf]; omega
     . have i1 : ¬ (K : Int) < (t : Int) := by omega
       have ek : k = t - 1 := by omega
       have HO := H.out.1
       rw [ek] at HO
       have HO := jz HO
       have DR := jz H.out.2
       clear ek hK H hk hlt
       by_cases e : t = m
       . have i5 : ¬ (t : Int) < (m : Int) := by omega
         rw [<- HT.out.1 e] at HO
         go_wp2
         go_ret
         exact ⟨⟨_, rfl, HO.out⟩, DR.out⟩
       . have i5 : (t : Int) < (m : Int) := by have := HS.out; omega
         have DW : Hid (Below w.heap.size w (wr.alloc (.cells (ec ⟨ZT, he⟩) 105)).drew) := jz ((bal DR.out).drew)
         have NL : Hid ((rise (z : Int) (hd :: List.replicate (t - 1) 0)).length + [(⟨ZT, he⟩ : Ed)].length <= 4000) := jz (by rw [rise_length, List.length_cons, List.length_replicate]; simp; have := HS.out; omega)
         have OW := jz ((HO.out.alloc (.cells (ec ⟨ZT, he⟩) 105)).drew)
         go_wp2_with fail
         go_region_law (first
          | (go_simp; go_at_call 92; refine (CW2.out _).mono ?_; rintro e wq ⟨rfl, rfl⟩)
          | (refine step_ed (o := ⟨some 78, _, _, _, _, _⟩) rfl (.tmp 60) (.tmp 77) rfl w.heap.size _ (rise (z : Int) (hd :: List.replicate (t - 1) 0)) (by simp [Act.eval]) OW.out (.slice (some ⟨wr.heap.size, 0, none⟩) 1 1) [⟨ZT, he⟩] (by simp [Act.eval]) (R2.out wr) NL (SZ.out _ DW.out) ?_
             intro vb wb ob gb _
             have OB : Hid (OwnA edE w.heap.size wb vb RT) := jz (by rw [HT.out.2 e]; exact ob)
             have GB := jz (below_app DW.out (SZ.out _ DW.out) OW.out gb)
             clear ob gb))
         all_goals
          go_wp2
          go_ret
          exact ⟨⟨_, rfl, OB.out⟩, GB.out⟩
theorem rmerged_no (l : List Bk) (i : Int) (v : Value) (w : World) (hv : RA blkE w v l) (hl : l.length <= 1000) (h : canM l i = false) :
 Calls Tryz.prog 91 #[v, .int .i64 i] w fun e w' => e = .returned (.tuple #[.slice none 0 0, .int .i64 0, .bool false]) /\ Below w.heap.size w w' := by
 have C1 := jz (rsizes_is l v w hv hl)
 have C2 := jz (fun (w' : World) (hb : Below w.heap.size w w') => rmay_is (szR l) l v (mayS l) w' (ra_below hv hb) hl (may_szR l))
 have H0 := jz (fun (w' : World) (hb : Below w.heap.size w w') => ra_below hv hb)
 obtain ⟨p, cap, rfl, hlc, hcm⟩ := ra_shape hv
 generalize szR l = z at *
 cases hm : mayS l
 . rw [hm] at C2
   generalize l.length = L at *
   clear hv hl h hlc hcm
   go_enter Tryz.func91, Tryz.ntmps91
   go_wp2_with fail
   refine (C1.out).mono ?_; rintro e w' ⟨rfl, b1⟩
   have D1 := jz b1
   go_wp2_with fail
   refine (C2.out _ D1.out).mono ?_; rintro e w2 ⟨rfl, b2⟩
   have D2 := jz (below_more D1.out b2)
   clear b1 b2
   go_wp2_with fail
   go_ret3
   exact ⟨rfl, D2.out⟩
 rw [hm] at C2
 rcases canM_no h with h | h | h | ⟨h0, h1, h⟩
 . rw [h] at hm
   cases hm
 . generalize l.length = L at *
   clear hv hl hm hlc hcm
   go_enter Tryz.func91, Tryz.ntmps91
   go_wp2_with fail
   refine (C1.out).mono ?_; rintro e w' ⟨rfl, b1⟩
   have D1 := jz b1
   go_wp2_with fail
   refine (C2.out _ D1.out).mono ?_; rintro e w2 ⟨rfl, b2⟩
   have D2 := jz (below_more D1.out b2)
   clear b1 b2
   go_wp2_with fail
   go_ret3
   exact ⟨rfl, D2.out⟩
 . have h2 : ¬ i < 0 := by omega
   have h3 : i >= (l.length : Int) := h
   generalize l.length = L at *
   clear hv hl hm hlc hcm h
   go_enter Tryz.func91, Tryz.ntmps91
   go_wp2_with fail
   refine (C1.out).mono ?_; rintro e w' ⟨rfl, b1⟩
   have D1 := jz b1
   go_wp2_with fail
   refine (C2.out _ D1.out).mono ?_; rintro e w2 ⟨rfl, b2⟩
   have D2 := jz (below_more D1.out b2)
   clear b1 b2
   go_wp2_with fail
   go_ret3
   exact ⟨rfl, D2.out⟩
 . obtain ⟨k, rfl⟩ : ∃ k : Nat, i = k := ⟨i.toNat, by omega⟩
   have h2 : ¬ (k : Int) < 0 := by omega
   have h3 : ¬ (k : Int) >= (l.length : Int) := by omega
   have h4 : ¬ (l.length : Int) <= (k : Int) := by omega
   have hk : k < l.length := by omega
   have HX := jz (fun (w' : World) (hb : Below w.heap.size w w') => blk_at (H0.out w' hb) (Nat.lt_of_le_of_lt (Nat.zero_le _) hk))
   have HK := jz hk
   rw [bAt_nat] at h
   have HU := jz h
   clear hv hl hm hlc hcm hk h0 h
   go_enter Tryz.func91, Tryz.ntmps91
   go_wp2_with fail
   refine (C1.out).mono ?_; rintro e w' ⟨rfl, b1⟩
   have D1 := jz b1
   go_wp2_with fail
   refine (C2.out _ D1.out).mono ?_; rintro e w2 ⟨rfl, b2⟩
   have D2 := jz (below_more D1.out b2)
   clear b1 b2
   obtain ⟨b, off, rfl, _, hx⟩ := HX.out w2 D2.out
   obtain ⟨_, _, _, hu, _⟩ := hx k HK.out
   rw [HU.out] at hu
   clear hx
   generalize l.length = L at *
   go_wp2_with fail
   go_ret3
   exact ⟨rfl, D2.out⟩
theorem ahead_b (l : List Bk) (k : Nat) (hk : k < l.length) (hl : l.length <= 1000) : ∃ (K0 F : Nat) (f : Bool), frm l k = F /\ (f = true -> IntKind.i64.wrap ((k : Int) - 1) = (F : Int)) /\ (f = false -> k = F) ∧
 ((¬ (k : Int) > 0 /\ f = false) \/ ((k : Int) > 0 /\ IntKind.i64.wrap ((k : Int) - 1) = (K0 : Int) /\ K0 < l.length /\ (l.getD K0 default).u = !f)) := by
 obtain ⟨K0, F, h, h1 | ⟨h1, h2, h3, h4 | h4⟩⟩ := ahead_of l k hk hl
 . exact ⟨K0, F, false, h, (fun e => by cases e), (fun _ => h1.2.symm), .inl ⟨h1.1, rfl⟩⟩
 . exact ⟨K0, F, false, h, (fun e => by cases e), (fun _ => h4.2.symm), .inr ⟨h1, h2, h3, h4.1⟩⟩
 . exact ⟨K0, F, true, h, (fun _ => by rw [h2, h4.2]), (fun e => by cases e), .inr ⟨h1, h2, h3, h4.1⟩⟩
theorem behind_b (l : List Bk) (k : Nat) (hk : k < l.length) (hl : l.length <= 1000) : ∃ (K1 T : Nat) (f : Bool), too l k = T /\ IntKind.i64.wrap ((k : Int) + 1) = (K1 : Int) /\ (f = true -> IntKind.i64.wrap ((K1 : Int) + 1) = (T : Int)) /\ (f = false -> K1 = T) ∧
 ((¬ (K1 : Int) < (l.length : Int) /\ f = false) \/ ((K1 : Int) < (l.length : Int) /\ K1 < l.length /\ (l.getD K1 default).u = !f)) := by
 obtain ⟨K1, K2, T, h, _, j1, j2, h1 | ⟨h1, h3, h4 | h4⟩⟩ := behind_of l k hk hl
 . exact ⟨K1, T, false, h, j1, (fun e => by cases e), (fun _ => h1.2.symm), .inl ⟨h1.1, rfl⟩⟩
 . exact ⟨K1, T, false, h, j1, (fun e => by cases e), (fun _ => h4.2.symm), .inr ⟨h1, h3, h4.1⟩⟩
 . exact ⟨K1, T, true, h, j1, (fun _ => by rw [j2, h4.2]), (fun e => by cases e), .inr ⟨h1, h3, h4.1⟩⟩
theorem szs_drop {m : List Bk} {j : Nat} (h : j < m.length) : szs (m.drop j) = (m.getD j default).s + szs (m.drop (j + 1)) := by rw [getD_cut h, szs]
theorem rmerged_yes (l : List Bk) (k : Nat) (v : Value) (w : World) (hv : RA blkE w v l) (hl : l.length <= 1000) (h : canM l k = true) :
 Calls Tryz.prog 91 #[v, .int .i64 k] w fun e w' => (∃ u, e = .returned (.tuple #[u, .int .i64 (frm l k : Nat), .bool true]) /\ OwnA blkE w.heap.size w' u (mrgF l k)) /\ Below w.heap.size w w' := by
 have C1 := jz (rsizes_is l v w hv hl)
 have C2 := jz (fun (w' : World) (hb : Below w.heap.size w w') => rmay_is (szR l) l v (mayS l) w' (ra_below hv hb) hl (may_szR l))
 have H0 := jz (fun (w' : World) (hb : Below w.heap.size w w') => ra_below hv hb)
 obtain ⟨p, cap, rfl, hlc, hcm⟩ := ra_shape hv
 obtain ⟨hm, hk, hu⟩ := canM_nat h
 have hz := (mayL_yes.1 hm).2
 rw [hm] at C2
 generalize szR l = z at *
 obtain ⟨b, off, rfl, _, _⟩ := blk_at hv (by omega)
 have HX : Hid (∀ w', Below w.heap.size w w' -> ∀ j, j < l.length -> w'.cell? ⟨b, off + j * 3, none⟩ = some (.int .i64 (l.getD j default).a) /\ w'.cell? ⟨b, off + j * 3 + 2, none⟩ = some (.bool (l.getD j default).u)) := jz fun w' hb' j hj => by
  obtain ⟨_, _, e, _, hx⟩ := blk_at (H0.out w' hb') (by omega)
  cases e
  exact ⟨(hx j hj).2.1, (hx j hj).2.2.2.1⟩
 obtain ⟨K0, F, f0, hF, hA1, hA2, hA⟩ := ahead_b l k hk hl
 obtain ⟨K1, T, f1, hT, j1, hB1, hB2, hB⟩ := behind_b l k hk hl
 have h2 : ¬ (k : Int) < 0 := by omega
 have h3 : ¬ (k : Int) >= (l.length : Int) := by omega
 have h4 : ¬ (l.length : Int) <= (k : Int) := by omega
 have HU := jz (And.intro hk hu)
 rw [mrgF_yes h, hF, hT]
 have hft := frm_too hk
 have HM := jz (fun (w' : World) (hb : Below w.heap.size w w') => ra_mid hk (H0.out w' hb))
 have hml := mid_length hk
 rw [hF, hT] at hft HM hml
 have HS : Hid (∀ j, j < (midB l k).length -> ∃ n : Nat, ((midB l k).getD j default).s = n /\ n <= 512) := jz fun j hj => by
  have hmem : (midB l k).getD j default ∈ l := mid_in hk _ (by rw [List.getD_eq_getElem?_getD, List.getElem?_eq_getElem hj]; exact List.getElem_mem _)
  obtain ⟨g1, g2⟩ := (mayF_sizes hz _ hmem).1
  exact ⟨((midB l k).getD j default).s.toNat, by omega, by omega⟩
 obtain ⟨howf, hos, hoa, hoa2⟩ := one_wf h
 have hz0 : szs ((midB l k).drop 0) = (oneB l k).s := rfl
 have hla : (l.getD F default).a = (oneB l k).a := by rw [<- hF]; rfl
 have eo : oneB l k = ⟨(oneB l k).a, (oneB l k).s, false⟩ := rfl
 obtain ⟨a, ha⟩ : ∃ a, (oneB l k).a = a := ⟨_, rfl⟩
 obtain ⟨s, hs⟩ : ∃ a, (oneB l k).s = a := ⟨_, rfl⟩
 rw [ha, hs] at eo
 rw [eo] at howf ⊢
 rw [hs] at hz0
 rw [ha] at hla
 have HZ := jz hz0
 have HLA := jz hla
 obtain ⟨q, hq⟩ : ∃ q : Addr, q = if cap = T then ⟨b, off, none⟩ else ⟨b, off + T * 3, none⟩ := ⟨_, rfl⟩
 have HP : Hid (∀ w', Below w.heap.size w w' -> RA blkE w' (.slice (some ⟨b, off, none⟩) F cap) (l.take F) /\ RA blkE w' (.slice (some q) (l.length - T) (cap - T)) (l.drop T)) := jz fun w' hb => by
  unfold maxLen at hcm
  refine ⟨?_, ?_⟩
  . have := ra_take (H0.out w' hb) F
    rwa [Nat.min_eq_left (by omega)] at this
  . by_cases hlt : T < l.length
    . have := ra_drop (H0.out w' hb) hlt
      rw [if_neg (by omega)] at hq
      rw [hq]; exact this
    . rw [List.drop_eq_nil_of_le (by omega), show l.length - T = 0 by omega]
      exact ⟨_, _, rfl, Nat.zero_le _, by unfold maxLen; omega, (fun _ h => by cases h), .inl rfl⟩
 have N1 : Hid (([] : List Bk).length + (l.take F).length <= 2000) := jz (by rw [List.length_take]; simp; omega)
 have N2 : Hid (([] ++ l.take F).length + [(⟨a, s, false⟩ : Bk)].length <= 2000) := jz (by rw [List.nil_append, List.length_take]; simp; omega)
 have N4 : Hid ((([] ++ l.take F) ++ [(⟨a, s, false⟩ : Bk)]).length + (l.drop T).length <= 2000) := jz (by rw [List.nil_append, List.length_append, List.length_take, List.length_drop]; simp; omega)
 have R1 : Hid (∀ w1 : World, RA blkE (w1.alloc (.cells (bc ⟨a, s, false⟩) 92)) (.slice (some ⟨w1.heap.size, 0, none⟩) 1 1) [⟨a, s, false⟩]) := jz fun w1 => (blk_one w1 howf).ra
 obtain ⟨U0, hU0⟩ : ∃ T, l.take F = T := ⟨_, rfl⟩
 obtain ⟨U1, hU1⟩ : ∃ x, l.drop T = x := ⟨_, rfl⟩
 rw [hU0] at HP N1 N2 N4 ⊢
 rw [hU1] at HP N4 ⊢
 have i1 : (F : Int) <= (T : Int) := by omega
 have i2 : (T : Int) <= (l.length : Int) := by omega
 have i3 : (F : Int) <= (cap : Int) := by omega
 have i4 : (T : Int) <= (cap : Int) := by omega
 have i5 : ¬ cap = 0 := by omega
 have i6 : ¬ cap = F := by omega
 have i7 : ¬ (F : Int) < 0 := by omega
 have i8 : ¬ (l.length : Int) <= (F : Int) := by omega
 have HF : Hid (F < l.length /\ T - F <= 3) := jz (by omega)
 rw [hml] at HS
 have HML := jz hml
 clear hv h hlc hcm hm hk hu hF hT H0 hz hz0 hla eo ha hs howf hos hoa hoa2 hft hl hU0 hU1 hml
 generalize midB l k = M at *
 have SZ : Hid (∀ x : World, Below w.heap.size w x -> w.heap.size <= x.heap.size) := jz fun _ h => h.size
 have GR : Hid (∀ (x y : World) (r : Option Nat), Below w.heap.size w x -> x.grownBy y r -> r = none -> Below w.heap.size w y) := jz fun x y r h g e => by subst e; exact h.grown g h.size (fun k hk => by cases hk)
 go_enter Tryz.func91, Tryz.ntmps91
 go_wp2_with fail
 refine (C1.out).mono ?_; rintro e w' ⟨rfl, b1⟩
 have D1 := jz b1
 go_wp2_with fail
 refine (C2.out _ D1.out).mono ?_; rintro e w2 ⟨rfl, b2⟩
 have D2 := jz (below_more D1.out b2)
 clear b1 b2 C1 C2 D1
 have x1 := (HX.out w2 D2.out k HU.out.1).2
 rw [HU.out.2] at x1
 have HA1 := jz hA1
 have HA2 := jz hA2
 have HB1 := jz hB1
 have HB2 := jz hB2
 clear hA1 hA2 hB1 hB2
 go_upto_region 4 with fail
 go_cut [49] (fun v49 wx => v49 = .bool f0 /\ wx = w2)
 case first =>
  rcases hA with ⟨a1, rfl⟩ | ⟨a1, a2, a3, a4⟩
  . go_wp2_with fail
    go_meet
    exact ⟨rfl, rfl⟩
  . have z1 := (HX.out w2 D2.out K0 a3).2
    have a5 : (K0 : Int) < (l.length : Int) := by omega
    have a6 : ¬ (l.length : Int) <= (K0 : Int) := by omega
    rw [a4] at z1
    cases f0 <;> (go_wp2_with fail; go_meet; exact ⟨rfl, rfl⟩)
 case rest =>
  obtain ⟨rfl, rfl⟩ := hcut
  clear hA
  go_upto_if 49 with fail
  go_cut [7] (fun v7 wx => v7 = .int .i64 (F : Int) /\ wx = wc)
  case first =>
   cases f0
   . have e := HA2.out rfl
     subst e
     go_wp2_with fail
     go_meet
     exact ⟨rfl, rfl⟩
   . have e := HA1.out rfl
     go_wp2_with fail
     go_meet
     exact ⟨rfl, rfl⟩
  case rest =>
   obtain ⟨rfl, rfl⟩ := hcut
   clear HA1 HA2
   go_upto_region 6 with fail
   go_cut [63] (fun v63 wx => v63 = .bool f1 /\ wx = wc)
   case first =>
    rcases hB with ⟨a1, rfl⟩ | ⟨a1, a3, a4⟩
    . go_wp2_with fail
      go_meet
      exact ⟨rfl, rfl⟩
    . have z1 := (HX.out _ D2.out K1 a3).2
      have a6 : ¬ (l.length : Int) <= (K1 : Int) := by omega
      rw [a4] at z1
      cases f1 <;> (go_wp2_with fail; go_meet; exact ⟨rfl, rfl⟩)
   case rest =>
    obtain ⟨rfl, rfl⟩ := hcut
    clear hB
    go_upto_if 63 with fail
    go_cut [8] (fun v8 wx => v8 = .int .i64 (T : Int) /\ wx = wc)
    case first =>
     cases f1
     . have e := HB2.out rfl
       subst e
       go_wp2_with fail
       go_meet
       exact ⟨rfl, rfl⟩
     . have e := HB1.out rfl
       go_wp2_with fail
       go_meet
       exact ⟨rfl, rfl⟩
    case rest =>
     obtain ⟨rfl, rfl⟩ := hcut
     clear HB1 HB2
     clear x1 HU j1
     go_wp2
     go_loopw [9, 11, 71] (fun z x i wr => ∃ j z' : Nat, j <= T - F /\ i = .int .i64 j /\ z = .int .i64 z' /\ z' <= 512 * j /\ Hid ((z' : Int) + szs (M.drop j) = s /\ Below w.heap.size w wr)) (fun _ _ i _ => (T - F) - (intOf i).toNat)
     case atStart => exact ⟨0, 0, Nat.zero_le _, rfl, rfl, Nat.zero_le _, jz ⟨by have := HZ.out; simpa using this, D2.out⟩⟩
     case round =>
      obtain ⟨j, z', hj, rfl, rfl, hz', H⟩ := hrel
      by_cases hlt : j < T - F
      . have hjm : j < M.length := by rw [HML.out]; exact hlt
        obtain ⟨_, _, e, _, hx⟩ := blk_at (HM.out wr H.out.2) (by omega)
        cases e
        obtain ⟨hld, _, _, _, _⟩ := hx j hjm
        obtain ⟨n, hn, hn2⟩ := HS.out j hlt
        have hF := H.out.1
        rw [szs_drop hjm, hn] at hF
        obtain ⟨⟨ya, ys, yu⟩, hy⟩ : ∃ y, M.getD j default = y := ⟨_, rfl⟩
        rw [hy] at hld hn
        simp only at hn
        subst hn
        obtain ⟨W, hW, HW⟩ := blk_boxed wr ⟨ya, n, yu⟩
        have c1 : W.cell? ⟨wr.heap.size, 1, none⟩ = some (.int .i64 n) := HW.out.1.c1
        have HB := jz (below_more H.out.2 HW.out.2)
        have k0 : (0 : Int) <= (j : Int) := by omega
        have k1 : (j : Int) < ((T - F : Nat) : Int) := by omega
        have k2 : ¬ (j : Int) < 0 := by omega
        have k3 : IntKind.i64.wrap ((j : Int) + 1) = ((j + 1 : Nat) : Int) := by rw [show (j : Int) + 1 = ((j + 1 : Nat) : Int) by omega]; exact i64_nat _ (by have := HF.out; omega)
        have k4 : IntKind.i64.wrap ((z' : Int) + (n : Int)) = ((z' + n : Nat) : Int) := by rw [show (z' : Int) + (n : Int) = ((z' + n : Nat) : Int) by omega]; exact i64_nat _ (by have := HF.out; omega)
        have k5 : ¬ ((T - F : Nat) : Int) <= (j : Int) := by omega
        have k6 : ¬ T - F <= j := by omega
        have HK := jz (And.intro hlt (And.intro hz' hn2))
        have HN : Hid (((z' + n : Nat) : Int) + szs (M.drop (j + 1)) = s /\ Below w.heap.size w W) := jz ⟨by rw [<- hF]; push_cast; rw [Int.add_assoc], HB.out⟩
        clear hx hF hz' hn2 hjm hj hy
        go_wp2
        go_roundw
        case rel => exact ⟨j + 1, z' + n, by have := HK.out; omega, by go_num, rfl, by have := HK.out; omega, HN⟩
        case measure => have := HK.out; simp [intOf]; omega
      . obtain rfl : j = T - F := by omega
        have hF := H.out.1
        rw [<- HML.out, List.drop_length, szs, Int.add_zero] at hF
        have DR := jz H.out.2
        have HFS := jz hF
        subst hF
        have x := (HX.out wr DR.out F HF.out.1).1
        rw [HLA.out] at x
        have HXF : Hid (∀ w', Below w.heap.size w w' -> w'.cell? ⟨b, off + F * 3, none⟩ = some (.int .i64 a)) := jz fun w' hb => by
         have := (HX.out w' hb F HF.out.1).1
         rw [HLA.out] at this
         exact this
        clear H hj hlt hz' HM HS HML HZ HX HLA
        generalize l.length = L at *
        go_wp2_with fail
        go_region_law (first
         | (refine step_blk (o := ⟨some 83, _, _, _, _, _⟩) rfl (.const (.slice none 0 0)) (.tmp 82) rfl w.heap.size (.slice none 0 0) [] (by simp [Act.eval]) (own_nil_a _ _ _) (.slice (some ⟨b, off, none⟩) F cap) U0 (by simp [Act.eval, Act.put]) (HP.out _ (by repeat' (first | (with_reducible exact DR.out) | (with_reducible refine Below.drew ?_) | (with_reducible refine bal ?_)))).1 N1.out (SZ.out _ (by repeat' (first | (with_reducible exact DR.out) | (with_reducible refine Below.drew ?_) | (with_reducible refine bal ?_)))) ?_
            intro vb wb ob gb _
            have OB := jz ob
            have GB : Hid (Below w.heap.size w wb) := jz (GR.out _ _ _ (by repeat' (first | (with_reducible exact DR.out) | (with_reducible refine Below.drew ?_) | (with_reducible refine bal ?_))) gb rfl)
            have GX := jz ((Below.refl _ _).grown gb (Nat.le_refl _) (by intro k hk; cases hk))
            have y1 := HXF.out wb GB.out
            clear ob)
         | (refine step_blk (o := ⟨some 92, _, _, _, _, _⟩) rfl (.tmp 83) (.tmp 91) rfl w.heap.size vb ([] ++ U0) (by simp [Act.eval]) (OB.out.alloc _) (.slice (some ⟨wb.heap.size, 0, none⟩) 1 1) [⟨a, z', false⟩] (by simp [Act.eval]) (R1.out wb) N2.out (SZ.out _ (bal GB.out)) ?_
            intro vc wc oc gc _
            have OC := jz oc
            have GC := jz (below_app (bal GB.out) (SZ.out _ (bal GB.out)) (OB.out.alloc _) gc)
            clear oc gc)
         | (refine step_blk (o := ⟨some 92, _, _, _, _, _⟩) rfl (.tmp 83) (.tmp 91) rfl w.heap.size vb ([] ++ U0) (by simp [Act.eval]) OB.out (.slice (some ⟨wr.heap.size, 0, none⟩) 1 1) [⟨a, z', false⟩] (by simp [Act.eval]) (ra_below (ra_below (R1.out wr) ((Below.refl _ _).drew)) GX.out) N2.out (SZ.out _ GB.out) ?_
            intro vc wc oc gc _
            have OC := jz oc
            have GC := jz (below_app GB.out (SZ.out _ GB.out) OB.out gc)
            clear oc gc))
        all_goals
         clear R1 gb
         by_cases e9 : cap = T
         . rw [if_pos e9] at hq
           subst hq
           have e2 : T = cap := e9.symm
           subst e2
           rw [Nat.sub_self] at HP
           go_wp2_with (at_builtin; refine app_blk (o := ⟨some 97, _, _, _, _, _⟩) rfl (.tmp 93) (.tmp 96) rfl w.heap.size vc (([] ++ U0) ++ [(⟨a, z', false⟩ : Bk)]) rfl OC.out _ U1 rfl (HP.out _ GC.out).2 N4.out (SZ.out _ GC.out) ?_)
           intro ve we oe ge _
           have OE : Hid (OwnA blkE w.heap.size we ve (U0 ++ (⟨a, z', false⟩ :: U1))) := jz (by simpa using oe)
           have GE := jz (below_app GC.out (SZ.out _ GC.out) OC.out ge)
           clear oe ge
           go_wp2
           go_ret3
           exact ⟨⟨_, rfl, OE.out⟩, GE.out⟩
         . rw [if_neg e9] at hq
           subst hq
           go_wp2_with (at_builtin; refine app_blk (o := ⟨some 97, _, _, _, _, _⟩) rfl (.tmp 93) (.tmp 96) rfl w.heap.size vc (([] ++ U0) ++ [(⟨a, z', false⟩ : Bk)]) rfl OC.out _ U1 rfl (HP.out _ GC.out).2 N4.out (SZ.out _ GC.out) ?_)
           intro ve we oe ge _
           have OE : Hid (OwnA blkE w.heap.size we ve (U0 ++ (⟨a, z', false⟩ :: U1))) := jz (by simpa using oe)
           have GE := jz (below_app GC.out (SZ.out _ GC.out) OC.out ge)
           clear oe ge
           go_wp2
           go_ret3
           exact ⟨⟨_, rfl, OE.out⟩, GE.out⟩
theorem rmerged_is (l : List Bk) (i : Int) (v : Value) (w : World) (hv : RA blkE w v l) (hl : l.length <= 1000) (r : Bool) (h : canM l i = r) :
 Calls Tryz.prog 91 #[v, .int .i64 i] w fun e w' => (∃ u, e = .returned (.tuple #[u, .int .i64 (if r = true then frm l i.toNat else 0 : Nat), .bool r]) /\ OwnA blkE w.heap.size w' u (mrgF l i)) /\ Below w.heap.size w w' := by
 cases r with
 | false =>
   refine (rmerged_no l i v w hv hl h).mono ?_
   rintro e w' ⟨rfl, hb⟩
   rw [mrgF_no h]
   exact ⟨⟨_, rfl, own_nil_a _ _ _⟩, hb⟩
 | true =>
   obtain ⟨k, rfl⟩ : ∃ k : Nat, i = k := ⟨i.toNat, by have := (canM_yes.1 h).2.1; omega⟩
   rw [if_pos rfl, Int.toNat_natCast]
   exact rmerged_yes l k v w hv hl h
theorem ral_is (wl : List Int) (n : Int) (cs : List Int) (v u : Value) (w : World) (hv : RU w v wl) (hl : wl.length <= 1000) (hw : WordsOk wl) (hu : RI w u cs) :
 Calls Tryz.prog 25 #[v, .int .i64 n, u] w fun e w' => (∃ x, e = .returned (.tuple #[x, .int .i64 (alR wl n cs).2.1, .int .i64 (alR wl n cs).2.2]) /\ OwnA edE w.heap.size w' x (alR wl n cs).1) /\ Below w.heap.size w w' := by
 have C0 := jz (fun w => rneed_is n w)
 unfold alR
 obtain ⟨N, hN⟩ : ∃ N, needN n = N := ⟨_, rfl⟩
 rw [hN] at C0 ⊢
 by_cases h0 : N = 0
 . rw [if_pos h0]
   have e0 : (N == 0) = true := by rw [h0]; rfl
   clear h0 hv hl hw hu hN
   go_enter Tryz.func25, Tryz.ntmps25
   go_wp2_with fail
   refine (C0.out _).mono ?_; rintro e w1 ⟨rfl, rfl⟩
   go_wp2
   go_ret3
   exact ⟨⟨_, rfl, own_nil_e _ _⟩, Below.refl _ _⟩
 . rw [if_neg h0]
   have e0 : (N == 0) = false := beq_eq_false_iff_ne.2 h0
   have hN2 : 2 <= N := by
    unfold needN at hN
    split at hN <;> omega
   cases hB : blkF wl with
   | none =>
     have T := jz (rblocks_main wl v none w hv hl hw hB)
     clear h0 hv hl hw hu hN hB hN2
     simp only [Option.isSome_none, Option.getD_none] at T ⊢
     go_enter Tryz.func25, Tryz.ntmps25
     go_wp2_with fail
     refine (C0.out _).mono ?_; rintro e w1 ⟨rfl, rfl⟩
     go_wp2_with fail
     refine (T.out).mono ?_; rintro e w1 ⟨⟨v1, rfl, _⟩, b1⟩
     go_wp2
     go_ret3
     exact ⟨⟨_, rfl, own_nil_e _ _⟩, b1⟩
   | some l =>
     have T := jz (rblocks_main wl v (some l) w hv hl hw hB)
     obtain ⟨hlen, _⟩ := blkF_len hB
     have hm := blkF_some hB
     have HU := jz (fun (w' : World) (hb : Below w.heap.size w w') => ri_below hu hb)
     simp only [Option.isSome_some, Option.getD_some] at T ⊢
     cases hR : chN N cs l with
     | none =>
       have CC := jz (fun (v1 : Value) (w' : World) (h : RA blkE w' v1 l) (hb : Below w.heap.size w w') => rchoose_is N cs l v1 u none w' h (HU.out w' hb) (by omega) hR)
       simp only [oi] at CC ⊢
       obtain ⟨y, hy, e1⟩ : ∃ y : Int, (-1 : Int) = y /\ y < 0 := ⟨_, rfl, by decide⟩
       rw [hy] at CC
       clear h0 hv hl hw hu hN hB hN2 hlen hm hR hy
       go_enter Tryz.func25, Tryz.ntmps25
       go_wp2_with fail
       refine (C0.out _).mono ?_; rintro e w1 ⟨rfl, rfl⟩
       go_wp2_with fail
       refine (T.out).mono ?_; rintro e w1 ⟨⟨v1, rfl, o1⟩, b1⟩
       have D1 := jz b1
       have O1 := jz o1.ra
       clear o1 b1 T
       go_wp2_with fail
       refine (C0.out _).mono ?_; rintro e w1 ⟨rfl, rfl⟩
       go_wp2_with fail
       refine (CC.out _ _ O1.out D1.out).mono ?_; rintro e w2 ⟨rfl, b2⟩
       have D2 := jz (below_more D1.out b2)
       clear b2 CC
       go_wp2
       go_ret3
       exact ⟨⟨_, rfl, own_nil_e _ _⟩, D2.out⟩
     | some d =>
       have CC := jz (fun (v1 : Value) (w' : World) (h : RA blkE w' v1 l) (hb : Below w.heap.size w w') => rchoose_is N cs l v1 u (some d) w' h (HU.out w' hb) (by omega) hR)
       obtain ⟨hd, hcan, _, _, _⟩ := chN_can hm hR hN2
       have CE := jz (fun (v1 : Value) (w' : World) (h : RA blkE w' v1 l) => rcedits_is l d N v1 w' h (by omega))
       have LD := jz (fun (v1 : Value) (w' : World) (h : RA blkE w' v1 l) => blk_ld h hd)
       simp only [oi] at CC ⊢
       have CO := jz (fun w' => roff_is (l.getD d default) (offB (atL l d)) rfl w')
       have i3 : ¬ (d : Int) < 0 := by omega
       have i0 : (d : Int) < (l.length : Int) := by omega
       have i2 : (0 : Int) <= (d : Int) := by omega
       generalize offB (atL l d) = x at *
       generalize cedF l d N = E at *
       clear h0 hv hl hw hu hN hB hN2 hlen hm hR hd hcan
       go_enter Tryz.func25, Tryz.ntmps25
       go_wp2_with fail
       refine (C0.out _).mono ?_; rintro e w1 ⟨rfl, rfl⟩
       go_wp2_with fail
       refine (T.out).mono ?_; rintro e w1 ⟨⟨v1, rfl, o1⟩, b1⟩
       have D1 := jz b1
       have O1 := jz o1.ra
       clear o1 b1 T
       go_wp2_with fail
       refine (C0.out _).mono ?_; rintro e w1 ⟨rfl, rfl⟩
       go_wp2_with fail
       refine (CC.out _ _ O1.out D1.out).mono ?_; rintro e w2 ⟨rfl, b2⟩
       have D2 := jz (below_more D1.out b2)
       have O2 := jz (ra_below O1.out b2)
       obtain ⟨b, off, c1, rfl, _, _⟩ := LD.out _ _ O2.out
       have ld : ∀ w', Below w2.heap.size w2 w' -> (blkLoad (.pointer (some ⟨b, off + d * 3, none⟩))).run Tryz.prog w' = .ok (.agg (bc (l.getD d default))) w' := fun w' hb => by
        obtain ⟨_, _, _, e, hx, _⟩ := LD.out _ _ (ra_below O2.out hb)
        cases e
        exact hx
       have HO2 := jz (fun w' (hb : Below w2.heap.size w2 w') => ra_below O2.out hb)
       clear b2 CC LD O1 O2
       generalize l.getD d default = X at *
       generalize l.length = L at *
       go_wp2_with fail
       go_region_held3 (fun w' => Below w2.heap.size w2 w')
        (first | assumption | exact (Below.refl _ _).drew | exact below_more ‹Below w2.heap.size w2 _› hby | exact below_more ‹Below w2.heap.size w2 _› hbq)
        (first
          | (go_at_call 65; refine (C0.out _).mono ?_; rintro e wz ⟨rfl, rfl⟩)
          | (go_at_call 68; refine (CE.out _ _ (HO2.out _ (by assumption))).mono ?_; rintro e wy ⟨⟨ue, rfl, oe⟩, hby⟩
             have OE := jz oe
             clear oe)
          | (go_at_call 55; refine (CO.out _).mono ?_; rintro e wq ⟨rfl, hbq⟩))
       go_wp2
       go_ret3
       exact ⟨⟨_, rfl, (OE.out.below hbq).mono (show w.heap.size <= w2.heap.size from D2.out.size)⟩, below_more D2.out (by assumption)⟩
theorem rfr_is (wl : List Int) (o : Int) (v : Value) (w : World) (hv : RU w v wl) (hl : wl.length <= 1000) (hw : WordsOk wl) :
 Calls Tryz.prog 45 #[v, .int .i64 o] w fun e w' => (∃ x, e = .returned (.tuple #[x, .int .i64 (frR wl o).2]) /\ OwnA edE w.heap.size w' x (frR wl o).1) /\ Below w.heap.size w w' := by
 unfold frR
 cases hB : blkF wl with
 | none =>
   have T := jz (rblocks_main wl v none w hv hl hw hB)
   clear hv hl hw hB
   simp only [Option.isSome_none, Option.getD_none] at T ⊢
   go_enter Tryz.func45, Tryz.ntmps45
   go_wp2_with fail
   refine (T.out).mono ?_; rintro e w1 ⟨⟨v1, rfl, _⟩, b1⟩
   go_wp2
   go_ret2
   exact ⟨⟨_, rfl, own_nil_e _ _⟩, b1⟩
 | some l =>
   have T := jz (rblocks_main wl v (some l) w hv hl hw hB)
   obtain ⟨hlen, _⟩ := blkF_len hB
   simp only [Option.isSome_some, Option.getD_some] at T ⊢
   cases hR : isN o l with
   | none =>
     have CU := jz (fun (v1 : Value) (w' : World) (h : RA blkE w' v1 l) => ris_is o l v1 none w' h hR)
     have CM := jz (fun (v1 : Value) (w' : World) (h : RA blkE w' v1 l) => rmerged_is l (-1) v1 w' h (by omega) false (canM_neg l))
     rw [mrgF_no (canM_neg l), if_neg Bool.false_ne_true] at CM
     simp only [oi] at CU ⊢
     obtain ⟨y, hy⟩ : ∃ y : Int, (-1 : Int) = y := ⟨_, rfl⟩
     rw [hy] at CU CM
     clear hv hl hw hB hlen hR hy
     go_enter Tryz.func45, Tryz.ntmps45
     go_wp2_with fail
     refine (T.out).mono ?_; rintro e w1 ⟨⟨v1, rfl, o1⟩, b1⟩
     have D1 := jz b1
     have O1 := jz o1.ra
     clear o1 b1 T
     go_wp2_with fail
     refine (CU.out _ _ O1.out).mono ?_; rintro e w2 ⟨rfl, b2⟩
     have D2 := jz (below_more D1.out b2)
     have O2 := jz (ra_below O1.out b2)
     clear b2 CU
     go_wp2_with fail
     refine (CM.out _ _ O2.out).mono ?_; rintro e w3 ⟨⟨v3, rfl, _⟩, b3⟩
     have D3 := jz (below_more D2.out b3)
     clear b3 CM
     go_wp2
     go_ret2
     exact ⟨⟨_, rfl, own_nil_e _ _⟩, D3.out⟩
   | some k =>
     have CU := jz (fun (v1 : Value) (w' : World) (h : RA blkE w' v1 l) => ris_is o l v1 (some k) w' h hR)
     have hcan := isN_can hB hR
     obtain ⟨q1, q2, _⟩ := mrg_length hcan
     have hml : frm l k < (mrgF l k).length := q1
     have CM := jz (fun (v1 : Value) (w' : World) (h : RA blkE w' v1 l) => rmerged_is l k v1 w' h (by omega) true hcan)
     rw [if_pos rfl, Int.toNat_natCast] at CM
     have LD := jz (fun (v1 : Value) (w' : World) (h : RA blkE w' v1 (mrgF l k)) => blk_ld h hml)
     rw [mrg_at hcan] at LD
     obtain ⟨⟨a, s, u⟩, hone⟩ : ∃ b, oneB l k = b := ⟨_, rfl⟩
     have hmed : medF l k = ⟨a, hdB s false⟩ := by rw [medF_yes hcan, hone]
     have CW := jz (fun w' => rwordb_is s false w')
     have hwf : Hid (medF l k).Wf := jz (by
      rw [medF_yes hcan]
      obtain ⟨g1, g2, g3⟩ := one_in (blkF_some hB) hcan
      obtain ⟨_, h5, _⟩ := (mayL_yes.1 (blkF_some hB)).1
      have := hdB_in (oneB l k).s false
      obtain ⟨g4, _⟩ := g1
      exact Ed.wf_of (by simp only; omega) (by simp only; omega) this.1 this.2)
     simp only [oi] at CU ⊢
     rw [hmed] at hwf ⊢
     rw [hone] at LD
     simp only at LD
     generalize hdB s false = x at *
     have i0 : (frm l k : Int) < ((mrgF l k).length : Int) := by omega
     have i1 : ¬ (frm l k : Int) < 0 := by omega
     have i2 : (0 : Int) <= (frm l k : Int) := by omega
     generalize frm l k = F at *
     generalize mrgF l k = M at *
     clear hv hl hw hB hlen hR hcan hmed hone hml q1 q2
     go_enter Tryz.func45, Tryz.ntmps45
     go_wp2_with fail
     refine (T.out).mono ?_; rintro e w1 ⟨⟨v1, rfl, o1⟩, b1⟩
     have D1 := jz b1
     have O1 := jz o1.ra
     clear o1 b1 T
     go_wp2_with fail
     refine (CU.out _ _ O1.out).mono ?_; rintro e w2 ⟨rfl, b2⟩
     have D2 := jz (below_more D1.out b2)
     have O2 := jz (ra_below O1.out b2)
     clear b2 CU
     go_wp2_with fail
     refine (CM.out _ _ O2.out).mono ?_; rintro e w3 ⟨⟨v3, rfl, o3⟩, b3⟩
     have D3 := jz (below_more D2.out b3)
     have O3 := jz o3.ra
     obtain ⟨b, off, c3, rfl, _, _, _⟩ := LD.out _ _ O3.out
     have cc : ∀ w', Below w3.heap.size w3 w' -> w'.cell? ⟨b, off + F * 3, none⟩ = some (.int .i64 a) /\ w'.cell? ⟨b, off + F * 3 + 1, none⟩ = some (.int .i64 s) := fun w' hb => by
      obtain ⟨_, _, _, e, _, h1, h2⟩ := LD.out _ _ (ra_below O3.out hb)
      cases e
      exact ⟨h1, h2⟩
     have c0 : ∀ w', Below w3.heap.size w3 w' -> w'.cell? ⟨b, off + F * 3, none⟩ = some (.int .i64 a) := fun w' hb => (cc w' hb).1
     have c1 : ∀ w', Below w3.heap.size w3 w' -> w'.cell? ⟨b, off + F * 3 + 1, none⟩ = some (.int .i64 s) := fun w' hb => (cc w' hb).2
     have HE := jz (fun w' => ed_one w' hwf.out)
     clear b3 CM cc o3 LD O1 O2 O3
     generalize M.length = L at *
     go_wp2_with fail
     go_region_held3 (fun w' => Below w3.heap.size w3 w')
      (first | assumption | exact (Below.refl _ _).drew | exact bal (by assumption))
      (first
        | (go_at_call 92; refine (CW.out _).mono ?_; rintro e wz ⟨rfl, rfl⟩))
     go_wp2
     go_ret2
     exact ⟨⟨_, rfl, ((HE.out w3).drew).mono D3.out.size⟩, below_more D3.out (by assumption)⟩
theorem rrd_is (wl : List Int) (o n : Int) (v : Value) (w : World) (hv : RU w v wl) (hl : wl.length <= 1000) (hw : WordsOk wl) (ho : -9223372036854775808 <= o /\ o <= 9223372036854775807) (hn : -9223372036854775808 <= n /\ n <= 9223372036854775807) :
 Calls Tryz.prog 96 #[v, .int .i64 o, .int .i64 n] w fun e w' => (∃ x, e = .returned (.tuple #[x, .int .i64 (refF wl o n)]) /\ OwnA byE w.heap.size w' x (rdR wl o n)) /\ Below w.heap.size w w' := by
 have CR := jz (fun (w' : World) (hb : Below w.heap.size w w') => rread_is wl v o n w' (ru_below hv hb) (wd_ok hw) ho hn hl)
 cases hB : blkF wl with
 | none =>
   have T := jz (rblocks_main wl v none w hv hl hw hB)
   have e0 : refF wl o n = 6 := by unfold refF; rw [hB]
   have e1 : rdR wl o n = [] := by rw [rdR, e0]; rfl
   rw [e0, e1]
   clear hv hl hw hB ho hn e0 e1
   simp only [Option.isSome_none, Option.getD_none] at T ⊢
   go_enter Tryz.func96, Tryz.ntmps96
   go_wp2_with fail
   refine (T.out).mono ?_; rintro e w1 ⟨⟨v1, rfl, _⟩, b1⟩
   go_wp2
   go_ret2
   exact ⟨⟨_, rfl, own_nil_by _ _⟩, b1⟩
 | some l =>
   have T := jz (rblocks_main wl v (some l) w hv hl hw hB)
   obtain ⟨hlen, _⟩ := blkF_len hB
   have CI := jz (fun (v1 : Value) (w' : World) (h : RA blkE w' v1 l) => rwi_is l o n v1 w' h (by omega) (sm_of hB))
   simp only [Option.isSome_some, Option.getD_some] at T ⊢
   obtain ⟨r, hr⟩ : ∃ r, inL o n l = r := ⟨_, rfl⟩
   have e0 : refF wl o n = if r = true then 0 else 1 := by unfold refF; rw [hB]; simp only [hr]
   have e1 : rdR wl o n = if r = true then rdL wl o n else [] := by
    rw [rdR, e0]
    cases r <;> rfl
   rw [hr] at CI
   rw [e0, e1]
   clear hv hl hw hB hlen hr ho hn e0 e1
   generalize rdL wl o n = B at *
   cases r
   . rw [if_neg Bool.false_ne_true, if_neg Bool.false_ne_true]
     go_enter Tryz.func96, Tryz.ntmps96
     go_wp2_with fail
     refine (T.out).mono ?_; rintro e w1 ⟨⟨v1, rfl, o1⟩, b1⟩
     have D1 := jz b1
     have O1 := jz o1.ra
     clear o1 b1 T
     go_wp2_with fail
     refine (CI.out _ _ O1.out).mono ?_; rintro e w2 ⟨rfl, b2⟩
     have D2 := jz (below_more D1.out b2)
     clear b2 CI
     go_wp2
     go_ret2
     exact ⟨⟨_, rfl, own_nil_by _ _⟩, D2.out⟩
   . rw [if_pos rfl, if_pos rfl]
     go_enter Tryz.func96, Tryz.ntmps96
     go_wp2_with fail
     refine (T.out).mono ?_; rintro e w1 ⟨⟨v1, rfl, o1⟩, b1⟩
     have D1 := jz b1
     have O1 := jz o1.ra
     clear o1 b1 T
     go_wp2_with fail
     refine (CI.out _ _ O1.out).mono ?_; rintro e w2 ⟨rfl, b2⟩
     have D2 := jz (below_more D1.out b2)
     clear b2 CI
     go_wp2_with fail
     refine (CR.out _ D2.out).mono ?_; rintro e w3 ⟨⟨x, rfl, ox⟩, b3⟩
     have D3 := jz (below_more D2.out b3)
     have OX := jz (ox.mono D2.out.size)
     clear b3 CR ox
     go_wp2
     go_ret2
     exact ⟨⟨_, rfl, OX.out⟩, D3.out⟩
theorem rwr_is (wl bl : List Int) (o : Int) (v u : Value) (w : World) (hv : RU w v wl) (hu : RA byE w u bl) (hl : wl.length <= 1000) (hbl : bl.length <= 100000) (hw : WordsOk wl) (ho : -9223372036854775808 <= o /\ o <= 9223372036854775807) :
 Calls Tryz.prog 46 #[v, .int .i64 o, u] w fun e w' => (∃ x L, e = .returned (.tuple #[x, .int .i64 (refF wl o bl.length)]) /\ OwnA edE w.heap.size w' x L /\ WrT wl bl o L) /\ Below w.heap.size w w' := by
 have CR := jz (fun (w' : World) (hb : Below w.heap.size w w') => redits_is wl bl v u o w' (ru_below hv hb) (ra_below hu hb) (wd_ok hw) ho hl hbl)
 have HT : Hid ((∀ X, refF wl o bl.length = 0 -> Tells wl bl o X -> WrT wl bl o X) /\ (refF wl o bl.length ≠ 0 -> WrT wl bl o [])) := jz ⟨fun X h0 h => by unfold WrT; rw [if_pos h0]; exact h, fun h0 => by unfold WrT; rw [if_neg h0]⟩
 obtain ⟨p, c, rfl, _, _⟩ := ra_shape hu
 cases hB : blkF wl with
 | none =>
   have T := jz (rblocks_main wl v none w hv hl hw hB)
   have e0 : refF wl o bl.length = 6 := by unfold refF; rw [hB]
   have HT1 := jz (HT.out.2 (by rw [e0]; decide))
   rw [e0]
   clear hv hl hw hB ho hu hbl HT e0
   simp only [Option.isSome_none, Option.getD_none] at T ⊢
   generalize bl.length = L at *
   go_enter Tryz.func46, Tryz.ntmps46
   go_wp2_with fail
   refine (T.out).mono ?_; rintro e w1 ⟨⟨v1, rfl, _⟩, b1⟩
   go_wp2
   go_ret2
   exact ⟨⟨_, [], rfl, own_nil_e _ _, HT1.out⟩, b1⟩
 | some l =>
   have T := jz (rblocks_main wl v (some l) w hv hl hw hB)
   obtain ⟨hlen, _⟩ := blkF_len hB
   have CI := jz (fun (v1 : Value) (w' : World) (h : RA blkE w' v1 l) => rwi_is l o bl.length v1 w' h (by omega) (sm_of hB))
   simp only [Option.isSome_some, Option.getD_some] at T ⊢
   obtain ⟨r, hr⟩ : ∃ r, inL o bl.length l = r := ⟨_, rfl⟩
   have e0 : refF wl o bl.length = if r = true then 0 else 1 := by unfold refF; rw [hB]; simp only [hr]
   rw [hr] at CI
   rw [e0]
   cases r
   . have HT1 := jz (HT.out.2 (by rw [e0]; decide))
     rw [if_neg Bool.false_ne_true]
     clear hv hl hw hB ho hu hbl HT e0 hlen hr CR
     generalize bl.length = L at *
     go_enter Tryz.func46, Tryz.ntmps46
     go_wp2_with fail
     refine (T.out).mono ?_; rintro e w1 ⟨⟨v1, rfl, o1⟩, b1⟩
     have D1 := jz b1
     have O1 := jz o1.ra
     clear o1 b1 T
     go_wp2_with fail
     refine (CI.out _ _ O1.out).mono ?_; rintro e w2 ⟨rfl, b2⟩
     have D2 := jz (below_more D1.out b2)
     clear b2 CI
     go_wp2
     go_ret2
     exact ⟨⟨_, [], rfl, own_nil_e _ _, HT1.out⟩, D2.out⟩
   . have HT1 := jz (fun X => HT.out.1 X (by rw [e0]; rfl))
     rw [if_pos rfl]
     clear hv hl hw hB ho hu hbl HT e0 hlen hr
     generalize bl.length = L at *
     go_enter Tryz.func46, Tryz.ntmps46
     go_wp2_with fail
     refine (T.out).mono ?_; rintro e w1 ⟨⟨v1, rfl, o1⟩, b1⟩
     have D1 := jz b1
     have O1 := jz o1.ra
     clear o1 b1 T
     go_wp2_with fail
     refine (CI.out _ _ O1.out).mono ?_; rintro e w2 ⟨rfl, b2⟩
     have D2 := jz (below_more D1.out b2)
     clear b2 CI
     go_wp2_with fail
     refine (CR.out _ D2.out).mono ?_; rintro e w3 ⟨⟨x, X, rfl, ox, tx⟩, b3⟩
     have D3 := jz (below_more D2.out b3)
     have OX := jz (And.intro (ox.mono D2.out.size) tx)
     clear b3 CR ox tx
     go_wp2
     go_ret2
     exact ⟨⟨_, X, rfl, OX.out.1, HT1.out X OX.out.2⟩, D3.out⟩
def rmBuild (ps : Array (Nat × Value)) : Sem Value := Instr.build 54 ps
@[go_sem ↓] theorem build_rm (ps : Array (Nat × Value)) : Instr.build 54 ps = rmBuild ps := rfl
theorem built_rm1 (p : Option Addr) (n c : Nat) : Tryz.prog.built 54 [(0, .slice p n c)] = some #[.slice p n c, .int .i64 0] := by kernel_rfl
theorem built_rm2 (p : Option Addr) (n c : Nat) (r : Int) : Tryz.prog.built 54 [(0, .slice p n c), (1, .int .i64 r)] = some #[.slice p n c, .int .i64 r] := by kernel_rfl
@[go_sem] theorem run_rmBuild1 (w : World) (p : Option Addr) (n c : Nat) : (rmBuild #[(0, .slice p n c)]).run Tryz.prog w = .ok (.agg #[.slice p n c, .int .i64 0]) w := run_build w _ _ _ (built_rm1 p n c)
@[go_sem] theorem run_rmBuild2 (w : World) (p : Option Addr) (n c : Nat) (r : Int) : (rmBuild #[(0, .slice p n c), (1, .int .i64 r)]).run Tryz.prog w = .ok (.agg #[.slice p n c, .int .i64 r]) w := run_build w _ _ _ (built_rm2 p n c r)
theorem Rm.put {D : List Nat} {g B : Nat} {wl wl' : List Int} {l l' : List Bk} {r : Int} {w wq : World} {u : Value} (h : Rm w D g wl l r) (hb : Below w.heap.size w wq) (ho : OwnU B wq u wl') (hB : w.heap.size <= B) (hB' : blkF wl' = some l') (hok : WordsOk wl') : Rm (wq.setCell ⟨g, 0, none⟩ u) D g wl' l' r /\ Chg [g] w (wq.setCell ⟨g, 0, none⟩ u) := by
 obtain ⟨v, h1, _⟩ := h.rows
 have hc : Chg [g] wq (wq.setCell ⟨g, 0, none⟩ u) := (Chg.refl [g] wq).setCell (p := ⟨g, 0, none⟩) (.inl (List.mem_singleton.2 rfl)) u
 have hDB : ∀ k ∈ D, k < B := fun k hk => Nat.lt_of_lt_of_le (h.dlt k hk) hB
 have hgD : ∀ k ∈ [g], k ∈ D := fun k hk => by rw [List.mem_singleton.1 hk]; exact h.gD
 have hF := far_own_u ho hDB
 have hWq : Whole wq g 54 #[v, .int .i64 r] := (hb.block g h1.lt).trans h1
 exact ⟨⟨hB', hok, h.gD, fun k hk => Nat.lt_of_lt_of_le (h.dlt k hk) (Nat.le_trans hb.size hc.size), u, hWq.set_ 0 u, ru_chg ho.ru hc (fun k hk q => (hF k hk).2 (hgD k q)), hF.grow hc.size⟩, (Chg.of_below hb [g]).trans hc⟩
theorem Rm.root {D : List Nat} {g : Nat} {wl : List Int} {l : List Bk} {r : Int} {w w' : World} (h : Rm w D g wl l r) (hb : Below w.heap.size w w') (o : Int) : Rm (w'.setCell ⟨g, 1, none⟩ (.int .i64 o)) D g wl l o /\ Chg [g] w (w'.setCell ⟨g, 1, none⟩ (.int .i64 o)) := by
 obtain ⟨v, h1, h2, h3⟩ := (h.below hb).rows
 have hc : Chg [g] w' (w'.setCell ⟨g, 1, none⟩ (.int .i64 o)) := (Chg.refl [g] w').setCell (p := ⟨g, 1, none⟩) (.inl (List.mem_singleton.2 rfl)) _
 have hgD : ∀ k ∈ [g], k ∈ D := fun k hk => by rw [List.mem_singleton.1 hk]; exact h.gD
 exact ⟨⟨h.hB, h.ok, h.gD, fun k hk => Nat.lt_of_lt_of_le ((h.below hb).dlt k hk) hc.size, v, h1.set_ 1 _, ru_chg h2 hc (fun k hk q => (h3 k hk).2 (hgD k q)), h3.grow hc.size⟩, (Chg.of_below hb [g]).trans hc⟩
theorem rnew_yes (n : Nat) (h : Mw n) (w : World) : Calls Tryz.prog 16 #[.int .i64 n] w fun e w' => (∃ g, e = .returned (.pointer (some ⟨g, 0, none⟩)) /\ w.heap.size <= g /\ g < w'.heap.size /\ ∀ D : List Nat, (∀ k ∈ D, k < w.heap.size) -> Rm w' (g :: D) g (firstL n) [⟨0, n, false⟩] 0) /\ Below w.heap.size w w' := by
 have C0 := jz (rmayw_is n w)
 rw [decide_eq_true h] at C0
 have C := jz (rfirst_is n w)
 have HF := jz (first_blk h)
 clear h
 go_enter Tryz.func16, Tryz.ntmps16
 go_wp2_with fail
 refine (C0.out).mono ?_; rintro e w1 ⟨rfl, rfl⟩
 go_wp2_with fail
 refine (C.out).mono ?_; rintro e w1 ⟨⟨v, rfl, o⟩, b1⟩
 have O1 := jz o
 obtain ⟨p, c, rfl⟩ := o.shape
 have D1 := jz b1
 clear b1 o C C0
 have HM : Hid (∀ D : List Nat, (∀ k ∈ D, k < w.heap.size) -> Rm (w1.alloc (.cells #[.slice p (firstL n).length c, .int .i64 0] 54)) (w1.heap.size :: D) w1.heap.size (firstL n) [⟨0, n, false⟩] 0) := jz fun D hD => by
  obtain ⟨q1, q2, q3⟩ := HF.out
  refine ⟨q1, q3, List.mem_cons_self .., fun k hk => ?_, _, heap_alloc_new _ _, ru_below O1.out.ru (bal (Below.refl _ _)), ?_⟩
  . rw [size_alloc]
    rcases List.mem_cons.1 hk with rfl | hk
    . omega
    . have := hD k hk
      have := D1.out.size
      omega
  . exact Far.more (D := D) (far_own_u O1.out hD) (by rw [size_alloc]; omega) (Nat.le_refl _)
 generalize (firstL n).length = L at *
 go_wp2_with fail
 go_ret
 exact ⟨⟨_, rfl, D1.out.size, by rw [size_alloc]; omega, HM.out⟩, bal D1.out⟩
theorem rmblk_is {D : List Nat} {g : Nat} {wl : List Int} {l : List Bk} {r : Int} (w : World) (h : Rm w D g wl l r) : Calls Tryz.prog 54 #[.pointer (some ⟨g, 0, none⟩)] w fun e w' => (∃ v, e = .returned v /\ OwnA blkE w.heap.size w' v l) /\ Below w.heap.size w w' := by
 obtain ⟨_, hwl, _⟩ := h.len
 obtain ⟨v, hW, hv, _⟩ := h.rows
 have T := jz (rblocks_main wl v (some l) w hv (by omega) h.ok h.hB)
 have c0 : w.cell? ⟨g, 0, none⟩ = some v := by rw [Whole.at_ hW]; rfl
 simp only [Option.isSome_some, Option.getD_some] at T
 clear h hW hv hwl
 go_enter Tryz.func54, Tryz.ntmps54
 go_wp2_with fail
 refine (T.out).mono ?_; rintro e w1 ⟨⟨v1, rfl, o1⟩, b1⟩
 go_wp2
 go_ret
 exact ⟨⟨_, rfl, o1⟩, b1⟩
theorem rmread_is {D : List Nat} {g : Nat} {wl : List Int} {l : List Bk} {r : Int} (o n : Int) (w : World) (h : Rm w D g wl l r) (ho : -9223372036854775808 <= o /\ o <= 9223372036854775807) (hn : -9223372036854775808 <= n /\ n <= 9223372036854775807) : Calls Tryz.prog 51 #[.pointer (some ⟨g, 0, none⟩), .int .i64 o, .int .i64 n] w fun e w' =>
 (∃ x, e = .returned (.tuple #[x, .int .i64 (refF wl o n)]) /\ OwnA byE w.heap.size w' x (rdR wl o n)) /\ Below w.heap.size w w' := by
 obtain ⟨_, hwl, _⟩ := h.len
 obtain ⟨v, hW, hv, _⟩ := h.rows
 have T := jz (rrd_is wl o n v w hv (by omega) h.ok ho hn)
 have c0 : w.cell? ⟨g, 0, none⟩ = some v := by rw [Whole.at_ hW]; rfl
 clear h hW hv hwl ho hn
 generalize refF wl o n = R at *
 generalize rdR wl o n = B at *
 go_enter Tryz.func51, Tryz.ntmps51
 go_wp2_with fail
 refine (T.out).mono ?_; rintro e w1 ⟨⟨v1, rfl, o1⟩, b1⟩
 go_wp2
 go_ret2
 exact ⟨⟨_, rfl, o1⟩, b1⟩
theorem rmwrite_is {D : List Nat} {g : Nat} {wl : List Int} {l : List Bk} {r : Int} (o : Int) (bl : List Int) (u : Value) (w : World) (h : Rm w D g wl l r) (hu : RA byE w u bl) (hbl : bl.length <= 100000) (ho : -9223372036854775808 <= o /\ o <= 9223372036854775807) (wl' : List Int) (hwl' : ∀ M, WrT wl bl o M -> appF wl M = wl' /\ M.length <= 4000) (hB' : blkF wl' = some l) (hok' : WordsOk wl') : Calls Tryz.prog 28 #[.pointer (some ⟨g, 0, none⟩), .int .i64 o, u] w fun e w' =>
 e = .returned (.int .i64 (refF wl o bl.length)) /\ Rm w' D g wl' l r /\ Chg [g] w w' := by
 obtain ⟨_, hwl, _⟩ := h.len
 obtain ⟨v, hW, hv, _⟩ := h.rows
 have T := jz (rwr_is wl bl o v u w hv hu (by omega) hbl h.ok ho)
 have c0 : ∀ w', Below w.heap.size w w' -> w'.cell? ⟨g, 0, none⟩ = some v := fun w' hb => by rw [hb.cell (p := ⟨g, 0, none⟩) hW.lt, Whole.at_ hW]; rfl
 have f0 : ∀ w', Below w.heap.size w w' -> w'.frozen? ⟨g, 0, none⟩ = false := fun w' hb => Whole.free ((hb.block g hW.lt).trans hW) 0
 have CA := jz (fun (M : List Ed) (v' : Value) (w' : World) (hb : Below w.heap.size w w') (hv' : RA edE w' v' M) (hM : M.length <= 4000) => rapply_any wl M v v' w' (ru_below hv hb) hv' (by omega) hM)
 have d0 := c0 w (Below.refl _ _)
 have HA := jz hwl'
 have FIN := jz (fun wq uq (hb : Below w.heap.size w wq) (B : Nat) (ho : OwnU B wq uq wl') (hB : w.heap.size <= B) => h.put hb ho hB hB' hok')
 have STAY := jz (fun w' (hb : Below w.heap.size w w') => And.intro (h.below hb) (Chg.of_below hb [g]))
 have hs : Hid (∀ M, WrT wl bl o M -> refF wl o bl.length ≠ 0 -> wl' = wl) := jz fun M hM hr => by
  obtain ⟨e, _⟩ := hwl' M hM
  unfold WrT at hM
  rw [if_neg hr] at hM
  rw [<- e, hM]
  rfl
 obtain ⟨q, d, rfl, _, _⟩ := ra_shape hu
 clear hW hv hu hbl ho hwl' hB' hok' hwl h
 generalize refF wl o bl.length = R at *
 have HT := jz T
 generalize bl.length = Z at *
 by_cases h0 : R = 0
 . subst h0
   go_enter Tryz.func28, Tryz.ntmps28
   go_wp2_with fail
   refine (T.out).mono ?_; rintro e w1 ⟨⟨x, M, rfl, ox, tx⟩, b1⟩
   have D1 := jz b1
   have d1 := c0 w1 b1
   have C3 := jz (CA.out M x w1 b1 ox.ra (HA.out M tx).2)
   have hM := (HA.out M tx).1
   rw [hM] at C3
   clear b1 ox tx
   go_wp2_with fail
   refine (C3.out).mono ?_; rintro e w2 ⟨⟨y, rfl, oy⟩, b2⟩
   have B2 := jz (below_more D1.out b2)
   have FQ := jz (FIN.out w2 y B2.out _ oy D1.out.size)
   have f2 := f0 w2 B2.out
   have d2 := c0 w2 B2.out
   obtain ⟨pq, cq, rfl⟩ := oy.shape
   clear oy b2
   go_wp2_with fail
   go_ret
   exact ⟨rfl, FQ.out⟩
 . have e0 : (R == 0) = false := beq_eq_false_iff_ne.2 h0
   have HR := jz h0
   clear h0
   go_enter Tryz.func28, Tryz.ntmps28
   go_wp2_with fail
   refine (T.out).mono ?_; rintro e w1 ⟨⟨x, M, rfl, ox, tx⟩, b1⟩
   have FQ := jz (STAY.out w1 b1)
   rw [<- hs.out M tx HR.out] at FQ
   clear b1 ox tx
   go_wp2_with fail
   go_ret
   exact ⟨rfl, FQ.out⟩
theorem rmfree_is {D : List Nat} {g : Nat} {wl : List Int} {l : List Bk} {r : Int} (o : Int) (w : World) (h : Rm w D g wl l r) : Calls Tryz.prog 27 #[.pointer (some ⟨g, 0, none⟩), .int .i64 o] w fun e w' =>
 e = .returned (.int .i64 (feQ l o r)) /\ Rm w' D g (feW wl l o r) (feB l o r) r /\ Chg [g] w w' := by
 obtain ⟨_, hwl, _⟩ := h.len
 obtain ⟨v, hW, hv, _⟩ := h.rows
 have T := jz (rfr_is wl o v w hv (by omega) h.ok)
 have c0 : ∀ w', Below w.heap.size w w' -> w'.cell? ⟨g, 0, none⟩ = some v := fun w' hb => by rw [hb.cell (p := ⟨g, 0, none⟩) hW.lt, Whole.at_ hW]; rfl
 have c1 : ∀ w', Below w.heap.size w w' -> w'.cell? ⟨g, 1, none⟩ = some (.int .i64 r) := fun w' hb => by rw [hb.cell (p := ⟨g, 1, none⟩) hW.lt, Whole.at_ hW]; rfl
 have f0 : ∀ w', Below w.heap.size w w' -> w'.frozen? ⟨g, 0, none⟩ = false := fun w' hb => Whole.free ((hb.block g hW.lt).trans hW) 0
 have d0 := c0 w (Below.refl _ _)
 have STAY := jz (fun w' (hb : Below w.heap.size w w') => And.intro (h.below hb) (Chg.of_below hb [g]))
 cases e : isN o l with
 | none =>
   have e1 : feQ l o r = 1 := by rw [feQ, e]
   have e2 : feW wl l o r = wl := by rw [feW, e]
   have e3 : feB l o r = l := by rw [feB, e]
   rw [e1, e2, e3]
   rw [frR_none h.hB e] at T
   simp only at T
   clear hW hv h e e1 e2 e3 hwl
   go_enter Tryz.func27, Tryz.ntmps27
   go_wp2_with fail
   refine (T.out).mono ?_; rintro e w1 ⟨⟨x, rfl, ox⟩, b1⟩
   have F0 := jz (STAY.out w1 b1)
   clear b1 STAY ox
   go_wp2_with fail
   go_ret
   exact ⟨rfl, F0.out⟩
 | some k =>
   rw [frR_some h.hB e] at T
   simp only at T
   have hcm := isN_can h.hB e
   obtain ⟨g1, g2, g3, _⟩ := given h.hB h.ok hcm
   have CA := jz (fun (v' : Value) (w' : World) (hb : Below w.heap.size w w') (hv' : RA edE w' v' [medF l k]) => rapply_any wl [medF l k] v v' w' (ru_below hv hb) hv' (by omega) (by simp))
   have FIN := jz (fun wq uq (hb : Below w.heap.size w wq) (B : Nat) (ho : OwnU B wq uq (appF wl [medF l k])) (hB : w.heap.size <= B) => h.put hb ho hB g1 g3)
   by_cases hr : o = r
   . have e1 : feQ l o r = 5 := by rw [feQ, e]; exact if_pos hr
     have e2 : feW wl l o r = wl := by rw [feW, e]; exact if_pos hr
     have e3 : feB l o r = l := by rw [feB, e]; exact if_pos hr
     rw [e1, e2, e3]
     have n2 : (r == o) = true := by rw [hr]; simp
     clear hW hv h e e1 e2 e3 hwl hr g1 g2 g3 hcm FIN CA
     generalize medF l k = m at *
     go_enter Tryz.func27, Tryz.ntmps27
     go_wp2_with fail
     refine (T.out).mono ?_; rintro e w1 ⟨⟨x, rfl, ox⟩, b1⟩
     have F0 := jz (STAY.out w1 b1)
     have d1 := c1 w1 b1
     clear b1 STAY ox c0 c1
     go_wp2_with fail
     go_ret
     exact ⟨rfl, F0.out⟩
   . have e1 : feQ l o r = 0 := by rw [feQ, e]; exact if_neg hr
     have e2 : feW wl l o r = appF wl [medF l k] := by rw [feW, e]; exact if_neg hr
     have e3 : feB l o r = mrgF l k := by rw [feB, e]; exact if_neg hr
     rw [e1, e2, e3]
     have n2 : (r == o) = false := beq_eq_false_iff_ne.2 (fun q => hr q.symm)
     clear hW hv h e e1 e2 e3 hwl hr g1 g2 g3 hcm STAY
     generalize appF wl [medF l k] = wl' at *
     generalize medF l k = m at *
     generalize mrgF l k = l' at *
     go_enter Tryz.func27, Tryz.ntmps27
     go_wp2_with fail
     refine (T.out).mono ?_; rintro e w1 ⟨⟨x, rfl, ox⟩, b1⟩
     have D1 := jz b1
     have d1 := c1 w1 b1
     have d2 := c0 w1 b1
     have C3 := jz (CA.out x w1 b1 ox.ra)
     clear b1 ox
     go_wp2_with fail
     refine (C3.out).mono ?_; rintro e w2 ⟨⟨y, rfl, oy⟩, b2⟩
     have B2 := jz (below_more D1.out b2)
     have FQ := jz (FIN.out w2 y B2.out _ oy D1.out.size)
     have f2 := f0 w2 B2.out
     have d3 := c0 w2 B2.out
     obtain ⟨pq, cq, rfl⟩ := oy.shape
     clear oy b2
     go_wp2_with fail
     go_ret
     exact ⟨rfl, FQ.out⟩
theorem rmsetr_is {D : List Nat} {g : Nat} {wl : List Int} {l : List Bk} {r : Int} (o : Int) (w : World) (h : Rm w D g wl l r) : Calls Tryz.prog 29 #[.pointer (some ⟨g, 0, none⟩), .int .i64 o] w fun e w' =>
 e = .returned (.int .i64 (srQ l o)) /\ Rm w' D g wl l (if srQ l o = 0 then o else r) /\ Chg [g] w w' := by
 have C := jz (rmblk_is w h)
 have CI := jz (fun v w' (hv : RA blkE w' v l) => ris_is o l v (isN o l) w' hv rfl)
 have FIN := jz (fun w' (hb : Below w.heap.size w w') => h.root hb o)
 have HN := jz (fun w' (hb : Below w.heap.size w w') => And.intro (h.below hb) (Chg.of_below hb [g]))
 obtain ⟨v, hW, _⟩ := h.rows
 have c2 : ∀ w', Below w.heap.size w w' -> w'.cell? ⟨g, 1, none⟩ = some (.int .i64 r) := fun w' hb => by rw [hb.cell (p := ⟨g, 1, none⟩) hW.lt, Whole.at_ hW]; rfl
 have f2 : ∀ w', Below w.heap.size w w' -> w'.frozen? ⟨g, 1, none⟩ = false := fun w' hb => Whole.free ((hb.block g hW.lt).trans hW) 1
 clear h hW
 by_cases h0 : o = 0
 . subst h0
   have e0 : srQ l 0 = 0 := if_neg (fun q => q.1 rfl)
   rw [e0, if_pos rfl]
   have d2 := c2 w (Below.refl _ _)
   have g2 := f2 w (Below.refl _ _)
   have F0 := jz (FIN.out w (Below.refl _ _))
   clear c2 f2 C HN FIN e0
   go_enter Tryz.func29, Tryz.ntmps29
   go_wp2_with fail
   go_ret
   exact ⟨rfl, F0.out⟩
 . have n0 : (o != 0) = true := by simpa using h0
   cases e : isN o l with
   | none =>
     have e0 : srQ l o = 1 := if_pos ⟨h0, e⟩
     rw [e0, if_neg (by decide)]
     rw [e] at CI
     simp only [oi] at CI
     clear c2 f2 FIN e0 h0 e
     go_enter Tryz.func29, Tryz.ntmps29
     go_wp2_with fail
     refine (C.out).mono ?_; rintro e w1 ⟨⟨v1, rfl, o1⟩, b1⟩
     have D1 := jz b1
     have O1 := jz o1.ra
     clear b1 o1
     go_wp2_with fail
     refine (CI.out _ _ O1.out).mono ?_; rintro e w2 ⟨rfl, b2⟩
     have F0 := jz (HN.out w2 (below_more D1.out b2))
     clear b2 HN C
     go_wp2_with fail
     go_ret
     exact ⟨rfl, F0.out⟩
   | some k =>
     have e0 : srQ l o = 0 := if_neg (fun q => by rw [e] at q; cases q.2)
     rw [e0, if_pos rfl]
     rw [e] at CI
     simp only [oi] at CI
     have n1 : ¬ (k : Int) < 0 := by omega
     clear e0 h0 e HN
     go_enter Tryz.func29, Tryz.ntmps29
     go_wp2_with fail
     refine (C.out).mono ?_; rintro e w1 ⟨⟨v1, rfl, o1⟩, b1⟩
     have D1 := jz b1
     have O1 := jz o1.ra
     clear b1 o1
     go_wp2_with fail
     refine (CI.out _ _ O1.out).mono ?_; rintro e w2 ⟨rfl, b2⟩
     have B2 := jz (below_more D1.out b2)
     have F0 := jz (FIN.out w2 B2.out)
     have d2 := c2 w2 B2.out
     have g2 := f2 w2 B2.out
     clear b2 FIN C c2 f2
     go_wp2_with fail
     go_ret
     exact ⟨rfl, F0.out⟩
theorem rmalloc_is {D : List Nat} {g : Nat} {wl : List Int} {l : List Bk} {r : Int} (n o : Int) (w : World) (h : Rm w D g wl l r) :
 Calls Tryz.prog 50 #[.pointer (some ⟨g, 0, none⟩), .int .i64 n, .int .i64 o] w fun e w' => e = .returned (.bool (alQ (needN n) l o).isSome) /\ Rm w' D g (alW wl (needN n) l o) (alB (needN n) l o) r /\ Chg [g] w w' := by
 obtain ⟨hlen, hwl, hm⟩ := h.len
 have C0 := jz (fun w => rneed_is n w)
 have C1 := jz (rmblk_is w h)
 generalize needN n = N at *
 have C2 := jz (fun v w' (hv : RA blkE w' v l) => rfits_is N l v w' hv (by omega))
 have hfl : (fitN N l).length <= 256 := by
  have := fbl_len N l
  rw [fbl, List.length_map] at this
  omega
 obtain ⟨v, hW, hv, _⟩ := h.rows
 have c0 : ∀ w', Below w.heap.size w w' -> w'.cell? ⟨g, 0, none⟩ = some v := fun w' hb => by rw [hb.cell (p := ⟨g, 0, none⟩) hW.lt, Whole.at_ hW]; rfl
 have f0 : ∀ w', Below w.heap.size w w' -> w'.frozen? ⟨g, 0, none⟩ = false := fun w' hb => Whole.free ((hb.block g hW.lt).trans hW) 0
 obtain ⟨R, hR⟩ : ∃ R, alQ N l o = R := ⟨_, rfl⟩
 rw [hR]
 have NONE : Hid (R = none -> ∀ w', Below w.heap.size w w' -> Rm w' D g (alW wl N l o) (alB N l o) r /\ Chg [g] w w') := jz fun hn w' hb => by
  rw [hn] at hR
  unfold alW alB
  rw [hR]
  exact ⟨h.below hb, Chg.of_below hb _⟩
 have SOME : Hid (∀ d, R = some d -> (∀ (v' : Value) (w' : World), Below w.heap.size w w' -> RA edE w' v' (cedF l d N) -> Calls Tryz.prog 26 #[v, v'] w' fun e w'' => (∃ x, e = .returned x /\ OwnU w'.heap.size w'' x (alW wl N l o)) /\ Below w'.heap.size w' w'') ∧
  ∀ (wq : World) (uq : Value) (B : Nat), Below w.heap.size w wq -> OwnU B wq uq (alW wl N l o) -> w.heap.size <= B -> Rm (wq.setCell ⟨g, 0, none⟩ uq) D g (alW wl N l o) (alB N l o) r /\ Chg [g] w (wq.setCell ⟨g, 0, none⟩ uq)) := jz fun d hd => by
  rw [hd] at hR
  have hmem := List.mem_of_find?_eq_some hR
  obtain ⟨g1, g2, g3, g4, g5⟩ := fit_can hm hmem
  obtain ⟨k1, z, t, m, e1, e2, _, _, hT⟩ := taken h.hB h.ok g2
  have hE := ced_len hm g2
  unfold alW alB
  rw [hR]
  exact ⟨fun v' w' hb hv' => rapply_any wl _ v v' w' (ru_below hv hb) hv' (by omega) (by omega), fun wq uq B hb ho hB => h.put hb ho hB k1 hT.ok⟩
 have CE := jz (fun (d : Nat) (v' : Value) (w' : World) (hv' : RA blkE w' v' l) => rcedits_is l d N v' w' hv' (by omega))
 have hmm : ∀ i ∈ fitN N l, i < l.length := fun i hi => (fitN_mem hi).1
 unfold alQ at hR
 generalize fitN N l = F at *
 have HR := jz hR
 have HL := jz (And.intro hlen hfl)
 have HM := jz hmm
 obtain ⟨pv, cv, rfl, _, _, _⟩ := id hv
 clear hlen hfl h hR hm hwl hW hv hmm
 generalize wl.length = WL at *
 go_enter Tryz.func50, Tryz.ntmps50
 go_wp2_with fail
 refine (C1.out).mono ?_; rintro e w1 ⟨⟨v1, rfl, o1⟩, b1⟩
 have D1 := jz b1
 have O1 := jz o1.ra
 clear b1 o1 C1
 go_wp2_with fail
 refine (C0.out _).mono ?_; rintro e w1 ⟨rfl, rfl⟩
 go_wp2_with fail
 refine (C2.out _ _ O1.out).mono ?_; rintro e w2 ⟨⟨v2, rfl, o2⟩, b2⟩
 have D2 := jz (below_more D1.out b2)
 have HF := jz o2.ri
 have O2 := jz (ra_below O1.out b2)
 obtain ⟨pf, cf, rfl⟩ := o2.shape
 obtain ⟨pl, cl, rfl, _, _⟩ := ra_shape O1.out
 clear b2 o2 C2 O1
 rw [ins_length] at HF ⊢
 go_wp2
 go_loopw [17] (fun i wr => ∃ (k : Nat), k <= F.length /\ i = .int .i64 k /\ Hid ((F.drop k).find? (fun d => decide (offB (l.getD d default).a = o)) = R /\ Below w2.heap.size w2 wr)) (fun i _ => F.length - (intOf i).toNat)
 case atStart => exact ⟨0, Nat.zero_le _, rfl, jz ⟨by rw [List.drop_zero]; exact HR.out, Below.refl _ _⟩⟩
 case round =>
  obtain ⟨k, hk, rfl, H⟩ := hrel
  by_cases hlt : k < F.length
  . obtain ⟨bf, of, rfl, _, hfr⟩ := ri_some (ri_below HF.out H.out.2) (by rw [ins_length]; omega)
    have cf1 := hfr k (by rw [ins_length]; exact hlt)
    rw [ins_getD hlt] at cf1
    have hi := HM.out _ (getD_mem_n hlt)
    obtain ⟨b, off, rfl, _, hx⟩ := blk_at (ra_below O2.out H.out.2) (by omega)
    obtain ⟨hld, _, _, _, _⟩ := hx _ hi
    have hF := H.out.1
    rw [getD_cut_n hlt, List.find?_cons] at hF
    have i0 : (0 : Int) <= (k : Int) := by omega
    have i1 : (k : Int) < (F.length : Int) := by omega
    have i2 : ¬ (k : Int) < 0 := by omega
    have i3 : IntKind.i64.wrap ((k : Int) + 1) = ((k + 1 : Nat) : Int) := by rw [show (k : Int) + 1 = ((k + 1 : Nat) : Int) by omega]; exact i64_nat _ (by have := HL.out; omega)
    have q1 : ((F.getD k 0 : Nat) : Int) < (l.length : Int) := by omega
    have q3 : ¬ ((F.getD k 0 : Nat) : Int) < 0 := by omega
    have q5 : (0 : Int) <= ((F.getD k 0 : Nat) : Int) := by omega
    have HK := jz hlt
    have HO2 := jz (fun w' (hb : Below wr.heap.size wr w') => ra_below O2.out (below_more H.out.2 hb))
    clear hfr hk hx hi hlt
    generalize F.getD k 0 = I at *
    generalize l.getD I default = X at *
    obtain ⟨x, hx⟩ : ∃ x, offB X.a = x := ⟨_, rfl⟩
    have C := jz (roff_is X x hx wr)
    rw [hx] at hF
    clear hx
    by_cases hxo : x = o
    . rw [decide_eq_true hxo] at hF
      have e1 : (x == o) = true := by rw [hxo]; simp
      obtain ⟨ca, fin⟩ := SOME.out I hF.symm
      have CA := jz ca
      have FIN := jz fin
      subst hF
      have CEI := jz (CE.out I)
      clear hxo ca fin SOME NONE CE
      generalize cedF l I N = E at *
      go_wp2_with fail
      refine (C.out).mono ?_; rintro e w3 ⟨rfl, b3⟩
      have B3 := jz (below_more D2.out (below_more H.out.2 b3))
      have R3 := jz (HO2.out w3 b3)
      have d3 := c0 w3.drew B3.out.drew
      clear b3
      generalize l.length = L at *
      go_wp2_with fail
      go_region_law (first
       | (go_simp; go_at_call 65; refine (C0.out _).mono ?_; rintro e wz ⟨rfl, rfl⟩)
       | (go_simp; go_at_call 68; refine (CEI.out _ _ (ra_below R3.out ((Below.refl _ _).drew))).mono ?_; rintro e wy ⟨⟨ue, rfl, oe⟩, hby⟩
          have BY := jz (show Below w.heap.size w wy from below_more B3.out.drew hby)
          have OE := jz oe.ra
          have dy := c0 wy BY.out
          clear oe hby)
       | (go_simp; go_at_call 26; refine (CA.out _ _ BY.out OE.out).mono ?_; rintro e wq ⟨⟨uq, rfl, oq⟩, hbq⟩
          have BQ := jz (below_more BY.out hbq)
          have FQ := jz (FIN.out wq uq _ BQ.out oq BY.out.size)
          have dq := c0 wq BQ.out
          have fq := f0 wq BQ.out
          obtain ⟨pq, cq, rfl⟩ := oq.shape
          clear oq hbq))
      all_goals
       go_wp2
       all_goals
        go_ret
        exact ⟨rfl, FQ.out⟩
    . rw [decide_eq_false hxo] at hF
      have e1 : (x == o) = false := beq_eq_false_iff_ne.2 hxo
      have HF2 := jz hF
      clear hF hxo
      go_wp2_with fail
      refine (C.out).mono ?_; rintro e w3 ⟨rfl, b3⟩
      have B3 := jz (below_more H.out.2 b3)
      clear b3
      go_wp2
      go_roundw
      case rel => exact ⟨k + 1, by have := HK.out; omega, by go_num, jz ⟨HF2.out, B3.out⟩⟩
      case measure => have := HK.out; simp [intOf]; omega
  . obtain rfl : k = F.length := by omega
    have hF := H.out.1
    rw [List.drop_length, List.find?_nil] at hF
    subst hF
    have FN := jz (NONE.out rfl wr (below_more D2.out H.out.2))
    go_wp2
    go_ret
    exact ⟨rfl, FN.out⟩
theorem rclone_is {D : List Nat} {g : Nat} {wl : List Int} {l : List Bk} {r : Int} (w : World) (h : Rm w D g wl l r) : Calls Tryz.prog 24 #[.pointer (some ⟨g, 0, none⟩)] w fun e w' =>
 (∃ x, e = .returned (.pointer (some ⟨x, 0, none⟩)) /\ w.heap.size <= x /\ x < w'.heap.size /\ Rm w' (x :: D) x wl l r) /\ Below w.heap.size w w' := by
 obtain ⟨_, hwl, _⟩ := h.len
 obtain ⟨v, hW, hv, _⟩ := h.rows
 obtain ⟨p, c, rfl, _, _, _⟩ := id hv
 have c0 : ∀ w', Below w.heap.size w w' -> w'.cell? ⟨g, 0, none⟩ = some (.slice p wl.length c) := fun w' hb => by rw [hb.cell (p := ⟨g, 0, none⟩) hW.lt, Whole.at_ hW]; rfl
 have c1 : ∀ w', Below w.heap.size w w' -> w'.cell? ⟨g, 1, none⟩ = some (.int .i64 r) := fun w' hb => by rw [hb.cell (p := ⟨g, 1, none⟩) hW.lt, Whole.at_ hW]; rfl
 have HV := jz (fun w' (hb : Below w.heap.size w w') => ru_below hv hb)
 have HL : Hid (([] : List Int).length + wl.length <= 1000000) := jz (by simp; omega)
 have FIN : Hid (∀ (wq : World) (uq : Value), Below w.heap.size w wq -> OwnU w.heap.size wq uq wl -> Rm (wq.alloc (.cells #[uq, .int .i64 r] 54)) (wq.heap.size :: D) wq.heap.size wl l r) := jz fun wq uq hb ho => by
  refine ⟨h.hB, h.ok, List.mem_cons_self .., fun k hk => ?_, uq, heap_alloc_new _ _, ru_below ho.ru (bal (Below.refl _ _)), ?_⟩
  . rw [size_alloc]
    rcases List.mem_cons.1 hk with rfl | hk
    . omega
    . have := h.dlt k hk
      have := hb.size
      omega
  . exact Far.more (D := D) (far_own_u ho h.dlt) (by rw [size_alloc]; omega) (Nat.le_refl _)
 clear hW hv hwl h
 go_enter Tryz.func24, Tryz.ntmps24
 go_wp2_with fail
 go_region_held3 (fun w' => Below w.heap.size w w')
  (first | assumption | exact (Below.refl _ _).drew | exact GB.out | exact bal (by assumption))
  (first
    | (refine step_app_u64 (o := ⟨some 7, _, _, _, _, _⟩) rfl (.const (.slice none 0 0)) (.tmp 6) rfl w.heap.size _ [] (by simp [Act.eval]) (own_nil_u _ _) (.slice p wl.length c) wl (by simp [Act.eval]) (HV.out _ (by assumption)) HL.out (Below.size (w := w) (B := w.heap.size) (by assumption)) ?_
       intro vb wb ob gb _
       rw [List.nil_append] at ob
       have OB := jz ob
       have GB := jz (below_app_u (B := w.heap.size) (by assumption) (Below.size (w := w) (B := w.heap.size) (by assumption)) (own_nil_u _ _) gb)
       obtain ⟨pb, cb, rfl⟩ := ob.shape
       clear ob gb))
 have FQ := jz (FIN.out wb _ GB.out OB.out)
 have BQ := jz (show Below w.heap.size w (wb.alloc (.cells #[.slice pb wl.length cb, .int .i64 r] 54)) from bal GB.out)
 have hs : w.heap.size <= wb.heap.size /\ wb.heap.size < (wb.alloc (.cells #[.slice pb wl.length cb, .int .i64 r] 54)).heap.size := ⟨GB.out.size, by rw [size_alloc]; omega⟩
 have HS := jz hs
 clear hs
 go_wp2
 go_ret
 exact ⟨⟨_, rfl, HS.out.1, HS.out.2, FQ.out⟩, BQ.out⟩
end Go.Proofs.YtjkefcidbcifpaaGreat
