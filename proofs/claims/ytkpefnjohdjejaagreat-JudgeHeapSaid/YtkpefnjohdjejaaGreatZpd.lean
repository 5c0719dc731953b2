import Derived.Deep.Slices
import Derived.BigQuiet
import Derived.Deep.RegionHeld3
import Derived.Deep.DeepCutAuto
import Derived.Deep.RegionLaw
import Derived.Shelf.Abstract
import Derived.StillTailTactics
import Derived.Deep.WholeRow
import Derived.OrdersHeld
import Derived.Deep.Draws
import Derived.Laws.PanicsMore
import Derived.Lib.Tables
import Derived.SizedLaws
import Derived.Test.YtkpefnjohdjejaaGreatZpc
set_option maxRecDepth 100000
set_option maxHeartbeats 8000000
namespace Go.Proofs.YtkpefnjohdjejaaGreat
open Go.ChangeShapes Go.WideShapes Go.ChangeAt Go.RowKit
theorem repl_rgh (S : Nat) (a : Int) (d : List Int) {k : Nat} (hk : 19 <= k) : ∀ (n : Nat) (t : List Int) (s : Nv), t.length <= 16 -> (repl S a d n t s).2.rg k = s.rg k
 | 0, _, _, _ => rfl
 | n + 1, t, s, ht => by
   have p : ∀ (i : Int), (s.put i d).rg k = s.rg k := fun i => by rw [Nv.put_rg]
   rw [repl]
   split
   . rename_i hz
     have r : ∀ (z : Nv) (v : Int), (z.set (3 + (zeroT t : Int)) v).rg k = z.rg k := fun z v => z.set_rg _ v (by omega)
     split
     . dsimp only; rw [r, p]
     . split
       . split
         . rw [repl_rgh S a d hk n _ _ (by rw [List.length_set]; exact ht), r, p]
         . dsimp only; rw [r, p]
       . dsimp only; rw [p]
   . rfl
theorem lput_rgh (S P : Nat) (a : Int) (d : List Int) (s : Nv) {k : Nat} (hk : 19 <= k) (hP : P <= 16) : (lput S P a d s).2.rg k = s.rg k := by
 unfold lput
 split
 . split
   . rfl
   . split
     . rw [repl_rgh S a d hk _ _ _ (by rw [Nv.tb_length]; exact hP), Nv.put_rg]
     . dsimp only; rw [Nv.put_rg]
 . rfl
theorem tmove_rgh (n P M : Nat) (s : Nv) {k : Nat} (hk : 19 <= k) (hP : P <= 16) : (tmove n P M s).2.rg k = s.rg k := by
 unfold tmove
 split
 . dsimp only; rw [Nv.set_rg _ _ _ (by omega), lput_rgh _ _ _ _ _ hk hP]
 . exact lput_rgh _ _ _ _ _ hk hP
theorem tput_rgh (n P per p M a : Nat) (d : List Int) (s : Nv) {k : Nat} (hk : 19 <= k) (hP : P <= 16) : (tput n P per p M a d s).2.rg k = s.rg k := by
 unfold tput
 split
 . split
   . rw [lput_rgh _ _ _ _ _ hk hP, tmove_rgh _ _ _ _ hk hP]
   . exact tmove_rgh _ _ _ _ hk hP
 . exact lput_rgh _ _ _ _ _ hk hP
theorem tputs_rgh (n P per : Nat) {k : Nat} (hk : 19 <= k) (hP : P <= 16) : ∀ (l : List (Nat × List Int)) (p : Nat) (s : Nv), (tputs n P per p l s).2.2.rg k = s.rg k
 | [], _, _ => rfl
 | x :: l, p, s => by
   rw [tputs]
   split
   . rw [tputs_rgh n P per hk hP l, tput_rgh _ _ _ _ _ _ _ _ hk hP]
   . exact tput_rgh _ _ _ _ _ _ _ _ hk hP
theorem lfin_rgh (n P per p : Nat) (C : List Hm) (s : Nv) {k : Nat} (hk : 19 <= k) (hP : P <= 16) : (lfin n P per p C s).2.2.rg k = s.rg k := by
 unfold lfin
 split
 . dsimp only; rw [Nv.set_rg _ _ _ (by omega), tputs_rgh n P per hk hP]
 . split
   . exact tputs_rgh n P per hk hP _ _ _
   . exact tputs_rgh n P per hk hP _ _ _
theorem lcom_rgh (n P per p : Nat) (h : List Hm) (s : Nv) {k : Nat} (hk : 19 <= k) (hP : P <= 16) : (lcom n P per p h s).2.2.rg k = s.rg k := by
 unfold lcom
 split
 . split
   . rw [lfin_rgh _ _ _ _ _ _ hk hP, Nv.set_rg _ _ _ (by omega), tputs_rgh n P per hk hP]
   . dsimp only; rw [Nv.set_rg _ _ _ (by omega), tputs_rgh n P per hk hP]
 . exact tputs_rgh n P per hk hP _ _ _
theorem lrec_rgh (n P per p : Nat) (s : Nv) {k : Nat} (hk : 19 <= k) (hP : P <= 16) : (lrec n P per p s).2.2.rg k = s.rg k := by
 unfold lrec
 split
 . rfl
 . exact lfin_rgh _ _ _ _ _ _ hk hP
theorem setk_same {s s' : Nv} {n P k : Nat} {v : Int} (h : s'.rg = upd s.rg k v) (hh : s'.h = s.h) (hk : k = 2 \/ 19 <= k) (hP : P <= 16) : tm s' = tm s /\ lk s' = lk s /\ (∀ b, th s' n P b = th s n P b) /\ s'.tb P = s.tb P /\ s'.rg 0 = s.rg 0 /\ s'.rg 1 = s.rg 1 := by
 have e0 : s'.rg 0 = s.rg 0 := by rw [h, upd_other _ _ (by omega)]
 have e1 : s'.rg 1 = s.rg 1 := by rw [h, upd_other _ _ (by omega)]
 have et : tm s' = tm s := by unfold tm; rw [e0]
 have eb : s'.tb P = s.tb P := by
  refine list_ext (by simp [Nv.tb]) fun i hi => ?_
  rw [Nv.tb_length] at hi
  rw [Nv.tb_getD _ hi, Nv.tb_getD _ hi, h, upd_other _ _ (by omega)]
 exact ⟨et, by unfold lk; rw [e1], fun b => by unfold th thold; rw [et]; exact hold_same eb hh _, eb, e0, e1⟩
theorem LgOk.setk {s s' : Nv} {n P k : Nat} {v : Int} (L : LgOk s n P) (ok : s'.Ok) (hn : s'.n = s.n) (h : s'.rg = upd s.rg k v) (hh : s'.h = s.h) (hk : k = 2 \/ 19 <= k) : LgOk s' n P /\ lk s' = lk s /\ tm s' = tm s /\ ∀ b, view s' n P b = view s n P b := by
 obtain ⟨e1, e2, e3, e4, e5, e6⟩ := setk_same (n := n) h hh hk L.g.pp
 have ef : th s' n P = th s n P := funext e3
 have ec : com s' n P = com s n P := by unfold com; rw [e2, ef]
 exact ⟨⟨L.g.like ok hn e4 e5, L.n17, by rw [e6, e2]; exact L.r1, by rw [e2, ec]; exact L.fo⟩, e2, e1, fun b => by unfold view; rw [ec, ef]⟩
theorem LgOk.set {s : Nv} {n P k : Nat} (L : LgOk s n P) (hk : k = 2 \/ 19 <= k) (v : Int) : LgOk (s.set (k : Int) v) n P /\ lk (s.set (k : Int) v) = lk s /\ tm (s.set (k : Int) v) = tm s /\ (∀ b, view (s.set (k : Int) v) n P b = view s n P b) /\ ((s.set (k : Int) v).rg k = s.rg k \/ (s.set (k : Int) v).rg k = v) /\ ∀ j : Nat, j ≠ k -> (s.set (k : Int) v).rg j = s.rg j := by
 have ho := L.g.ok.set (k : Int) v
 have hr : (s.set (k : Int) v).rg = upd s.rg k v \/ (s.set (k : Int) v).rg = upd s.rg k (s.rg k) := by
  have e : upd s.rg k (s.rg k) = s.rg := funext fun j => by unfold upd; split <;> simp_all
  rw [e]
  unfold Nv.set
  split
  . split
    . exact .inl (by rw [Int.toNat_natCast]; rfl)
    . exact .inr rfl
  . exact .inr rfl
 rcases hr with h | h
 . obtain ⟨a, b, c, d⟩ := L.setk ho (s.set_n _ _) h (s.set_h _ _) hk
   exact ⟨a, b, c, d, .inr (by rw [h, upd_same]), fun j hj => by rw [h, upd_other _ _ hj]⟩
 . obtain ⟨a, b, c, d⟩ := L.setk ho (s.set_n _ _) h (s.set_h _ _) hk
   exact ⟨a, b, c, d, .inl (by rw [h, upd_same]), fun j hj => by rw [h, upd_other _ _ hj]⟩
theorem Nv.set_ok {s : Nv} {k : Nat} (hk : k < 35) (hd : s.dark = false) (v : Int) : (s.setE (k : Int) = 0 /\ (s.set (k : Int) v).rg k = v /\ (s.set (k : Int) v).dark = false) \/ (s.setE (k : Int) = 2 /\ s.comes = true) := by
 have hR : hasR (k : Int) = true := by simp [hasR]; omega
 have hr : s.rdy (hasR (k : Int)) = 0 := by simp [Nv.rdy, hR, hd]
 unfold Nv.setE Nv.set
 rw [if_pos hr, if_pos hr]
 cases hg : s.goes with
 | true =>
   refine .inr ⟨by simp [Nv.told, hg], ?_⟩
   unfold Nv.goes at hg
   rw [Bool.and_eq_true] at hg
   exact hg.1
 | false =>
   refine .inl ⟨by simp [Nv.told, hg], ?_, ?_⟩
   . rw [if_pos (by simp [Nv.by_, hg])]
     simp [Nv.reg, upd]
   . rw [if_pos (by simp [Nv.by_, hg])]
     simp [Nv.reg, Nv.tick, hd, hg]
def lnO (X : List Int) (i : Nat) : List Int := (X.drop (8 * i)).take 8
theorem lnO_length {X : List Int} {N i : Nat} (h : X.length = 8 * N) (hi : i < N) : (lnO X i).length = 8 := by
 unfold lnO
 rw [List.length_take, List.length_drop]
 omega
theorem lnO_take (X : List Int) (i : Nat) : X.take (8 * (i + 1)) = X.take (8 * i) ++ lnO X i := by
 unfold lnO
 rw [show 8 * (i + 1) = 8 * i + 8 by omega, List.take_add]
theorem lnO_getD {X : List Int} (i : Nat) {j : Nat} (hj : j < 8) : (lnO X i).getD j 0 = X.getD (8 * i + j) 0 := by
 unfold lnO
 simp only [List.getD_eq_getElem?_getD]
 rw [List.getElem?_take_of_lt hj, List.getElem?_drop]
theorem lnO_congr {X Y : List Int} {N i : Nat} (hX : X.length = 8 * N) (hY : Y.length = 8 * N) (hi : i < N) (h : ∀ j, j < 8 -> X.getD (8 * i + j) 0 = Y.getD (8 * i + j) 0) : lnO X i = lnO Y i := by
 refine list_ext (by rw [lnO_length hX hi, lnO_length hY hi]) fun j hj => ?_
 rw [lnO_length hX hi] at hj
 rw [lnO_getD i hj, lnO_getD i hj, h j hj]
structure Has (s : Nv) (N P : Nat) (X : List Int) : Prop where
 len : X.length = 8 * N
 at_ : ∀ i, i < N -> view s (16 + N) P (16 + i) = lnO X i
theorem Has.same {s s' : Nv} {N P : Nat} {X : List Int} (H : Has s N P X) (h : ∀ b, 16 <= b -> b < 16 + N -> view s' (16 + N) P b = view s (16 + N) P b) : Has s' N P X :=
 ⟨H.len, fun i hi => (h _ (by omega) (by omega)).trans (H.at_ i hi)⟩
def hms (X : List Int) (L : List Int) : List Hm := L.map fun i => ⟨16 + i, lnO X i.toNat⟩
theorem hms_length (X : List Int) (L : List Int) : (hms X L).length = L.length := by simp [hms]
structure LnOk (N : Nat) (L : List Int) : Prop where
 up : Up L
 lo : 1 <= L.length
 hi : L.length <= 14
 in_ : ∀ x ∈ L, 0 <= x /\ x < N
theorem LnOk.may {N : Nat} {L : List Int} (h : LnOk N L) (X : List Int) : MayH ((16 + N : Nat) : Int) (hms X L) := by
 refine ⟨by omega, by rw [hms_length]; exact h.lo, by rw [hms_length]; exact h.hi, fun x hx => ?_, ?_⟩
 . obtain ⟨i, hi, rfl⟩ := List.mem_map.1 hx
   have := h.in_ i hi
   dsimp only
   omega
 . have e : (hms X L).map (·.i) = L.map fun i => 16 + i := by simp [hms]
   rw [e]
   have hu : L.Pairwise (· < ·) := h.up
   unfold List.Nodup
   rw [List.pairwise_map]
   exact hu.imp fun {a b} hab => by omega
theorem LnOk.wide {N : Nat} {L X : List Int} (h : LnOk N L) (hX : X.length = 8 * N) : Wide (hms X L) := by
 intro x hx
 obtain ⟨i, hi, rfl⟩ := List.mem_map.1 hx
 have := h.in_ i hi
 exact lnO_length hX (by omega)
theorem has_com {s s' : Nv} {N P : Nat} {X X' L : List Int} (H : Has s N P X) (hX : X'.length = 8 * N) (hL : LnOk N L) (hsame : ∀ i, i < N -> (i : Int) ∉ L -> lnO X' i = lnO X i)
 (h : ∀ b, 16 <= b -> b < 16 + N -> view s' (16 + N) P b = hv (hms X' L) (view s (16 + N) P) b) : Has s' N P X' := by
 refine ⟨hX, fun i hi => ?_⟩
 rw [h _ (by omega) (by omega)]
 rcases hv_cases (hms X' L) (view s (16 + N) P) (16 + i) with ⟨x, hx, e, hv⟩ | ⟨hn, hv⟩
 . obtain ⟨k, hk, rfl⟩ := List.mem_map.1 hx
   have := hL.in_ k hk
   dsimp only at e
   rw [hv]
   dsimp only
   rw [show k.toNat = i by omega]
 . rw [hv, H.at_ i hi, hsame i hi fun q => hn ⟨16 + (i : Int), lnO X' (i : Int).toNat⟩ (List.mem_map.2 ⟨_, q, rfl⟩) (by dsimp only; omega)]
structure EdFit (N : Nat) (E : List Ed) : Prop where
 ne : E ≠ []
 win : ∃ a : Int, 0 <= a /\ ∀ e ∈ E, a <= e.w /\ e.w < a + 100 /\ e.w < 8 * N
theorem up_span : ∀ {L : List Int} {m : Int} {k : Nat}, Up L -> (∀ x ∈ L, m <= x /\ x < m + k) -> L.length <= k
 | [], _, _, _, _ => Nat.zero_le _
 | x :: L, m, 0, _, h => by have := h x (List.mem_cons_self ..); omega
 | x :: L, m, k + 1, hu, h => by
   unfold Up at hu
   rw [List.pairwise_cons] at hu
   have hx := h x (List.mem_cons_self ..)
   have := up_span (L := L) (m := m + 1) (k := k) hu.2 fun y hy => by
    have := hu.1 y hy
    have := h y (List.mem_cons_of_mem _ hy)
    omega
   rw [List.length_cons]
   omega
theorem EdFit.lines {N : Nat} {E : List Ed} {L : List Int} (h : EdFit N E) (hL : IsL E L) : LnOk N L := by
 obtain ⟨a, h0, hw⟩ := h.win
 have hin : ∀ x ∈ L, ∃ e ∈ E, 0 <= e.w /\ x = e.w / 8 := fun x hx => mem_lnR.1 ((hL.mem x).1 hx)
 refine ⟨hL.up, ?_, up_span (m := a / 8) (k := 14) hL.up fun x hx => ?_, fun x hx => ?_⟩
 . obtain ⟨e, E', rfl⟩ : ∃ e E', E = e :: E' := by
    cases hE : E with
    | nil => exact absurd hE h.ne
    | cons e E' => exact ⟨e, E', rfl⟩
   have := hw e (List.mem_cons_self ..)
   have hm : e.w / 8 ∈ L := (hL.mem _).2 (mem_lnR.2 ⟨e, List.mem_cons_self .., by omega, rfl⟩)
   exact List.length_pos_of_mem hm
 . obtain ⟨e, he, e0, rfl⟩ := hin x hx
   have := hw e he
   omega
 . obtain ⟨e, he, e0, rfl⟩ := hin x hx
   have := hw e he
   omega
theorem appF_other : ∀ (E : List Ed) (w : List Int) {j : Nat}, (∀ e ∈ E, e.w ≠ (j : Int)) -> (appF w E).getD j 0 = w.getD j 0
 | [], _, _, _ => rfl
 | e :: r, w, j, h => by
   rw [appF, appF_other r _ fun x hx => h x (List.mem_cons_of_mem _ hx)]
   have := h e (List.mem_cons_self ..)
   split
   . simp only [List.getD_eq_getElem?_getD]
     rw [List.getElem?_set_ne (by omega)]
   . rfl
theorem appF_line {X : List Int} {E : List Ed} {L : List Int} {N i : Nat} (hX : X.length = 8 * N) (hL : IsL E L) (hi : i < N) (hn : (i : Int) ∉ L) : lnO (appF X E) i = lnO X i := by
 refine lnO_congr ((appF_length ..).trans hX) hX hi fun j hj => appF_other E X fun e he q => hn ((hL.mem _).2 (mem_lnR.2 ⟨e, he, by omega, by omega⟩))
theorem rise_w : ∀ (vs : List Int) (a : Int), ∀ e ∈ rise a vs, a <= e.w /\ e.w < a + vs.length
 | [], _, _, h => by cases h
 | v :: r, a, e, h => by
   rw [rise] at h
   rw [List.length_cons]
   rcases List.mem_cons.1 h with rfl | h
   . dsimp only; omega
   . have := rise_w r (a + 1) e h
     omega
theorem ced_fit {l : List Bk} {d N : Nat} {n : Int} (hm : mayL ((8 * N : Nat) : Int) l = true) (hc : canC l d n = true) (hn : n <= 57) : EdFit N (cedF l d n) := by
 obtain ⟨_, h0, h1, _, hne⟩ := canC_yes.1 hc
 obtain ⟨hin, hin2, hin3⟩ := mayF_sizes (mayL_yes.1 hm).2 _ (bAt_mem h0 h1)
 rw [cedF, if_pos hc, edF_prt hne]
 have hl := takV_length hne
 obtain ⟨t1, t2, t3, t4⟩ := takN_some hne
 have ht58 : takN (bAt l d).s n <= 58 := by
  unfold takN
  split
  . split <;> omega
  . omega
 have hlen : (takV (bAt l d) n).length <= 60 /\ 1 <= (takV (bAt l d) n).length /\ (((takV (bAt l d) n).length : Nat) : Int) <= (bAt l d).s := by
  split at hl <;> rename_i q <;> omega
 refine ⟨fun q => ?_, _, hin2, fun e he => ?_⟩
 . have := congrArg List.length q
   rw [rise_length, List.length_nil] at this
   omega
 . have := rise_w _ _ e he
   omega
theorem med_fit {l : List Bk} {k N : Nat} (hm : mayL ((8 * N : Nat) : Int) l = true) (hc : canM l k = true) : EdFit N [medF l k] := by
 obtain ⟨h1, h2, h3⟩ := one_in hm hc
 have := h1.1
 refine ⟨by simp, (oneB l k).a, h2, fun e he => ?_⟩
 rw [List.mem_singleton.1 he, medF_yes hc]
 dsimp only
 omega
theorem isE_fit {w : List Int} {o n N : Nat} {c : Nat -> Int} {M : List Ed} (h : IsE w o n c M) (hn : 0 < n) (hn2 : n <= 448) (ho : o + n <= 8 * (8 * N)) : EdFit N M := by
 have hc : cnt o n = (o + n - 1) / 8 - o / 8 + 1 := by rw [cnt, if_neg (by omega)]
 have hl := h.len
 refine ⟨fun q => by rw [q] at hl; simp at hl; omega, (o / 8 : Nat), by omega, fun e he => ?_⟩
 obtain ⟨j, hj, rfl⟩ := List.getElem_of_mem he
 have := (h.at_ j hj).1
 rw [List.getD_eq_getElem?_getD, List.getElem?_eq_getElem hj] at this
 simp only [Option.getD_some] at this
 omega
def nts (ct : Ct) : List Nat -> Ct
 | [] => ct
 | q :: l => nts (ct.note q) l
def pgs (L : List Int) : List Nat := L.map fun i => i.toNat / 4
theorem pgs_length (L : List Int) : (pgs L).length = L.length := by simp [pgs]
theorem Ct.note_n (ct : Ct) (q : Nat) : (ct.note q).n = ct.n := by unfold Ct.note; split <;> rfl
theorem Ct.note_b (ct : Ct) (q : Nat) : (ct.note q).b = ct.b := by unfold Ct.note; split <;> rfl
theorem Ct.note_c (ct : Ct) (q : Nat) : (ct.note q).c = at1 ct.c q (ct.c q + 1) := by unfold Ct.note; split <;> rfl
theorem nts_n : ∀ (l : List Nat) (ct : Ct), (nts ct l).n = ct.n
 | [], _ => rfl
 | q :: l, ct => by rw [nts, nts_n l, Ct.note_n]
theorem nts_b : ∀ (l : List Nat) (ct : Ct), (nts ct l).b = ct.b
 | [], _ => rfl
 | q :: l, ct => by rw [nts, nts_b l, Ct.note_b]
theorem nts_app : ∀ (l m : List Nat) (ct : Ct), nts ct (l ++ m) = nts (nts ct l) m
 | [], _, _ => rfl
 | q :: l, m, ct => by rw [List.cons_append, nts, nts_app l m, nts]
theorem nts_ok : ∀ (l : List Nat) {ct : Ct}, ct.Ok -> (∀ q ∈ l, q < ct.n) -> (nts ct l).Ok
 | [], _, h, _ => h
 | q :: l, ct, h, hl => nts_ok l (h.note (hl q (List.mem_cons_self ..))) fun x hx => by rw [Ct.note_n]; exact hl x (List.mem_cons_of_mem _ hx)
theorem nts_c : ∀ (l : List Nat) (ct : Ct) (q : Nat), (nts ct l).c q = ct.c q + l.count q
 | [], _, _ => rfl
 | x :: l, ct, q => by
   rw [nts, nts_c l, Ct.note_c, List.count_cons]
   unfold at1
   by_cases e : q = x
   . subst e; simp; omega
   . rw [if_neg e, if_neg (by simpa using fun h => e h.symm)]; omega
theorem nts_le (l : List Nat) (ct : Ct) (q : Nat) : (nts ct l).c q <= ct.c q + l.length := by
 rw [nts_c]
 have := List.count_le_length (l := l) (a := q)
 omega
theorem pgs_lt {N : Nat} {L : List Int} (h : LnOk N L) : ∀ q ∈ pgs L, q < (N + 3) / 4 := by
 intro q hq
 obtain ⟨i, hi, rfl⟩ := List.mem_map.1 hq
 have := h.in_ i hi
 omega

def Hm.cells (c : Hm) : List Value := .int .i64 c.i :: c.l.map uv
def hmc (c : Hm) : Array Value := c.cells.toArray
structure Hm.Wf (c : Hm) : Prop where
 len : c.l.length = 8
 wi : (Lit.int .i64 c.i).wf = true
theorem info_home : (Tryz.prog.info? 148).map (·.size) = some 9 := by kernel_rfl
theorem Hm.cells_length {c : Hm} (h : c.l.length = 8) : c.cells.length = 9 := by simp [Hm.cells, h]
theorem hmc_one (c : Hm) : (hmc c).all (·.oneCell') = true := by
 simp [hmc, Hm.cells, uv, Value.oneCell']
def homeE : Elm Tryz.prog Hm where
 t := 100
 e := 148
 size := 9
 bytes := 72
 z := .agg #[.int .i64 0, .int .u64 0, .int .u64 0, .int .u64 0, .int .u64 0, .int .u64 0, .int .u64 0, .int .u64 0, .int .u64 0]
 enc := Hm.cells
 ok := Hm.Wf
 ht := Tryz.underlying100
 hi := by kernel_rfl
 hzs := rfl
 pos := by decide
 bpos := by decide
 len := fun _ h => Hm.cells_length h.len
 one := fun a _ u hu => by
  rcases List.mem_cons.1 hu with rfl | hu
  . rfl
  . obtain ⟨y, _, rfl⟩ := List.mem_map.1 hu; rfl
theorem Hm.cells_l {c : Hm} (h : c.l.length = 8) {j : Nat} (hj : j < 8) : c.cells[1 + j]? = some (.int .u64 (c.l.getD j 0)) := by
 rw [Nat.add_comm]
 simp [Hm.cells, uv, h, hj]
@[go_sem] theorem hmc_ne (c : Hm) : (hmc c = #[]) = False := by simp [hmc, Hm.cells]
theorem hmc_size {c : Hm} (h : c.l.length = 8) : (hmc c).size = 9 := by simp [hmc, Hm.cells_length h]
def Hv (w : World) (g : Nat) (c : Hm) : Prop := Whole w g 148 (hmc c) /\ c.l.length = 8
theorem Hv.chg {D : List Nat} {w w' : World} {g : Nat} {c : Hm} (h : Hv w g c) (hb : Chg D w w') (hg : g ∉ D) : Hv w' g c := ⟨hb.whole h.1 hg, h.2⟩
theorem Hv.new (w : World) {c : Hm} (h : c.l.length = 8) : Hv (w.alloc (.cells (hmc c) 148)) w.heap.size c := ⟨heap_alloc_last w _, h⟩
theorem Hv.at_ {w : World} {g : Nat} {c : Hm} (h : Hv w g c) (k : Nat) : w.cell? ⟨g, k, none⟩ = c.cells[k]? := by
 rw [h.1.at_]; simp [hmc]
theorem Hv.slot {w : World} {g : Nat} {c : Hm} (h : Hv w g c) : w.cell? ⟨g, 0, none⟩ = some (.int .i64 c.i) := by rw [h.at_]; rfl
theorem Hv.line {w : World} {g : Nat} {c : Hm} (h : Hv w g c) : (lineLoad (.pointer (some ⟨g, 1, none⟩))).run Tryz.prog w = .ok (.agg (lc c.l)) w := by
 unfold lineLoad
 exact run_loadAt_mid (P := Tryz.prog) w g 1 52 (c.l.map uv) _ (fun j v hv => by
  have hj : j < 8 := by
   have := (List.getElem?_eq_some_iff.1 hv).1
   simpa [h.2] using this
  rw [h.at_, Hm.cells_l h.2 hj, <- hv]
  simp [uv, h.2, hj]) Tryz.underlying52 rfl (by rw [info_line]; simp [h.2])
def homeLoad (p : Value) : Sem Value := Instr.loadAt 148 p
def homeStore (p v : Value) : Sem Unit := Instr.storeAt 148 p v
@[go_sem ↓] theorem loadAt_home (p : Value) : Instr.loadAt 148 p = homeLoad p := rfl
@[go_sem ↓] theorem storeAt_home (p v : Value) : Instr.storeAt 148 p v = homeStore p v := rfl
theorem run_homeLoad {w : World} {b o : Nat} {c : Hm} (h : w.rangeAt b o c.cells) (hl : c.l.length = 8) : (homeLoad (.pointer (some ⟨b, o, none⟩))).run Tryz.prog w = .ok (.agg (hmc c)) w :=
 run_loadAt_mid (P := Tryz.prog) w b o 148 c.cells _ h Tryz.underlying148 rfl (by rw [info_home, Hm.cells_length hl])
theorem run_homeStore (w : World) {z : Array Value} (hz : z.size = 9) {c : Hm} (hl : c.l.length = 8) :
 (homeStore (.pointer (some ⟨w.heap.size, 0, none⟩)) (.agg (hmc c))).run Tryz.prog (w.alloc (.cells z 148)) = .ok () (w.alloc (.cells (hmc c) 148)) := by
 unfold homeStore
 simp only [Instr.storeAt, Instr.sureAddr, Sem.run_bind, Sem.run_pure, Result.andThen]
 rw [run_storeVar_row _ _ 148 148 z (hmc c) (heap_alloc_last w _) (by rw [info_home, hmc_size hl]) (by rw [hz, hmc_size hl]) (hmc_one c), World.setRow_alloc_new]
@[go_sem] theorem home_store_new (w : World) (c : Hm) (hl : c.l.length = 8) :
   (homeStore (.pointer (some ⟨w.heap.size, 0, none⟩)) (.agg (hmc c))).run Tryz.prog (w.alloc (.cells #[.int .i64 0, .int .u64 0, .int .u64 0, .int .u64 0, .int .u64 0, .int .u64 0, .int .u64 0, .int .u64 0, .int .u64 0] 148)) = .ok () (w.alloc (.cells (hmc c) 148)) :=
  run_homeStore w rfl hl
theorem home_at {w : World} {p : Option Addr} {n cap : Nat} {l : List Hm} (h : RA homeE w (.slice p n cap) l) (h0 : 0 < l.length) :
 ∃ b off, p = some ⟨b, off, none⟩ /\ b < w.heap.size /\ ∀ k, k < l.length -> (homeLoad (.pointer (some ⟨b, off + k * 9, none⟩))).run Tryz.prog w = .ok (.agg (hmc (l.getD k default))) w /\ w.cell? ⟨b, off + k * 9, none⟩ = some (.int .i64 (l.getD k default).i) ∧
  (lineLoad (.pointer (some ⟨b, off + k * 9 + 1, none⟩))).run Tryz.prog w = .ok (.agg (lc (l.getD k default).l)) w /\ (l.getD k default).Wf := by
 obtain ⟨b, off, e, hb, hr⟩ := ra_at h h0
 refine ⟨b, off, e, hb, fun k hk => ?_⟩
 have hw : (l.getD k default).Wf := (ra_ok h).at_ hk
 have hk2 := hr k hk
 refine ⟨run_homeLoad hk2 hw.len, hk2 0 _ rfl, ?_, hw⟩
 unfold lineLoad
 exact run_loadAt_mid (P := Tryz.prog) w b (off + k * 9 + 1) 52 ((l.getD k default).l.map uv) _ (fun j v hv => by
  have := hk2 (1 + j) v (by rw [Nat.add_comm]; exact hv)
  rw [<- Nat.add_assoc] at this; exact this) Tryz.underlying52 rfl (by rw [info_line, List.length_map, hw.len])
def GoodH (n : Int) (l : List Hm) (k : Nat) : Prop := ∀ i, i < k -> (16 <= (l.getD i default).i /\ (l.getD i default).i < n) /\ ∀ j, j < i -> (l.getD i default).i ≠ (l.getD j default).i
theorem getD_memH {α : Type} [Inhabited α] {l : List α} {k : Nat} (hk : k < l.length) : l.getD k default ∈ l := by
 rw [List.getD_eq_getElem?_getD, List.getElem?_eq_getElem hk]; exact List.getElem_mem hk
theorem mem_getD {α : Type} [Inhabited α] {l : List α} {x : α} (hx : x ∈ l) : ∃ k, k < l.length /\ l.getD k default = x := by
 obtain ⟨k, hk, e⟩ := List.getElem_of_mem hx
 exact ⟨k, hk, by rw [List.getD_eq_getElem?_getD, List.getElem?_eq_getElem hk]; exact e⟩
theorem mayH_good {n : Int} {l : List Hm} : MayH n l ↔ 16 <= n /\ 1 <= l.length /\ l.length <= 14 /\ GoodH n l l.length := by
 constructor
 . intro h
   refine ⟨h.n16, h.lo, h.hi, fun i hi => ⟨h.at_ _ (getD_memH hi), fun j hj e => ?_⟩⟩
   have nd := h.nd
   rw [List.nodup_iff_pairwise_ne, List.pairwise_iff_getElem] at nd
   have := nd j i (by simp; omega) (by simpa using hi) hj
   simp only [List.getElem_map] at this
   rw [List.getD_eq_getElem?_getD, List.getElem?_eq_getElem hi, List.getD_eq_getElem?_getD, List.getElem?_eq_getElem (by omega)] at e
   exact this e.symm
 . rintro ⟨h1, h2, h3, h4⟩
   refine ⟨h1, h2, h3, fun x hx => ?_, ?_⟩
   . obtain ⟨k, hk, rfl⟩ := mem_getD hx
     exact (h4 k hk).1
   . rw [List.nodup_iff_pairwise_ne, List.pairwise_iff_getElem]
     intro i j hi hj hij e
     simp only [List.getElem_map] at e
     simp only [List.length_map] at hi hj
     refine (h4 j hj).2 i hij ?_
     have ei : l.getD i default = l[i] := by rw [List.getD_eq_getElem?_getD, List.getElem?_eq_getElem hi]; rfl
     have ej : l.getD j default = l[j] := by rw [List.getD_eq_getElem?_getD, List.getElem?_eq_getElem hj]; rfl
     rw [ei, ej]; exact e.symm
theorem home_boxed (w : World) {c : Hm} (h : c.l.length = 8) : ∃ W, w.alloc (.cells (hmc c) 148) = W /\ Hid (Hv W w.heap.size c /\ Below w.heap.size w W) :=
 ⟨_, rfl, jz ⟨Hv.new w h, bal (Below.refl _ _)⟩⟩
theorem may_yes (n m : Nat) (w : World) (h : 1 <= n) (h2 : n <= 100000) : Calls Tryz.prog 129 #[.int .i64 n, .int .i64 m] w fun e w' => e = .returned (.bool true) /\ w = w' := by
 have c1 : (1 : Int) <= (n : Int) := by omega
 have c2 : (n : Int) <= 100000 := by omega
 have c3 : (0 : Int) <= (m : Int) := by omega
 go_enter Tryz.func129, Tryz.ntmps129
 go_wp2_with fail
 go_ret
 exact ⟨rfl, rfl⟩
theorem may_no (n m : Int) (w : World) (h : n < 1 \/ 100000 < n \/ m < 0) : Calls Tryz.prog 129 #[.int .i64 n, .int .i64 m] w fun e w' => e = .returned (.bool false) /\ w = w' := by
 by_cases c1 : n < 1
 . have d1 : ¬ 1 <= n := by omega
   clear h
   go_enter Tryz.func129, Tryz.ntmps129
   go_wp2_with fail
   go_ret
   exact ⟨rfl, rfl⟩
 . have d1 : 1 <= n := by omega
   by_cases c2 : 100000 < n
   . have d2 : ¬ n <= 100000 := by omega
     clear h
     go_enter Tryz.func129, Tryz.ntmps129
     go_wp2_with fail
     go_ret
     exact ⟨rfl, rfl⟩
   . have d2 : n <= 100000 := by omega
     have d3 : ¬ 0 <= m := by omega
     clear h
     go_enter Tryz.func129, Tryz.ntmps129
     go_wp2_with fail
     go_ret
     exact ⟨rfl, rfl⟩
theorem gp_yes (n m : Nat) (w : World) (h : 1 <= n) (h2 : n <= 100000) : Calls Tryz.prog 131 #[.int .i64 n, .int .i64 m] w fun e w' => e = .returned (.int .i64 (gN n m)) /\ w = w' := by
 obtain ⟨N, hN⟩ : ∃ N, N = n + 1 := ⟨_, rfl⟩
 obtain ⟨r, hr⟩ : ∃ r, r = m % N := ⟨_, rfl⟩
 obtain ⟨g, hg⟩ : ∃ g, g = gN n m := ⟨_, rfl⟩
 have hg2 : g = n - r := by rw [hg, hr, hN]; rfl
 have hrN : r < N := by rw [hr]; exact Nat.mod_lt _ (by omega)
 have k1 : IntKind.i64.wrap ((n : Int) + 1) = (N : Int) := by rw [show (n : Int) + 1 = (N : Int) by omega]; exact i64_nat _ (by omega)
 have k2 : (m : Int).tmod (N : Int) = (r : Int) := by rw [hr]; exact tmod_nat m N
 have k3 : IntKind.i64.wrap (r : Int) = (r : Int) := i64_nat _ (by omega)
 have k4 : IntKind.i64.wrap ((n : Int) - (r : Int)) = (g : Int) := by rw [show (n : Int) - (r : Int) = (g : Int) by omega]; exact i64_nat _ (by omega)
 have k5 : ¬ N = 0 := by omega
 have k6 : ¬ (N : Int) = 0 := by omega
 rw [<- hg]
 clear hg hg2 hr hrN hN
 go_enter Tryz.func131, Tryz.ntmps131
 go_wp2_with fail
 go_ret
 exact ⟨rfl, rfl⟩
theorem shift_yes (n m : Nat) (w : World) (h : 1 <= n) (h2 : n <= 100000) (hm : m < 9223372036854775808) : Calls Tryz.prog 130 #[.int .i64 n, .int .i64 m] w fun e w' => e = .returned (.int .i64 (sN n m)) /\ w = w' := by
 obtain ⟨N, hN⟩ : ∃ N, N = n + 1 := ⟨_, rfl⟩
 obtain ⟨q, hq⟩ : ∃ q, q = m / N := ⟨_, rfl⟩
 obtain ⟨s, hs⟩ : ∃ s, s = sN n m := ⟨_, rfl⟩
 have hs2 : s = q % n := by rw [hs, hq, hN]; rfl
 have hqm : q <= m := by rw [hq]; exact Nat.div_le_self _ _
 have hsn : s < n := by rw [hs]; exact sN_lt (by omega) m
 have k1 : IntKind.i64.wrap ((n : Int) + 1) = (N : Int) := by rw [show (n : Int) + 1 = (N : Int) by omega]; exact i64_nat _ (by omega)
 have k2 : (m : Int).tdiv (N : Int) = (q : Int) := by rw [hq]; exact tdiv_nat m N
 have k3 : IntKind.i64.wrap (q : Int) = (q : Int) := i64_nat _ (by omega)
 have k4 : (q : Int).tmod (n : Int) = (s : Int) := by rw [hs2]; exact tmod_nat q n
 have k5 : IntKind.i64.wrap (s : Int) = (s : Int) := i64_nat _ (by omega)
 have k6 : ¬ N = 0 := by omega
 have k7 : ¬ (N : Int) = 0 := by omega
 have k8 : ¬ n = 0 := by omega
 have k9 : ¬ (n : Int) = 0 := by omega
 rw [<- hs]
 clear hs hs2 hq hqm hN
 go_enter Tryz.func130, Tryz.ntmps130
 go_wp2_with fail
 go_ret
 exact ⟨rfl, rfl⟩
theorem move_yes (n m : Nat) (w : World) (h : 1 <= n) (h2 : n <= 100000) : Calls Tryz.prog 132 #[.int .i64 n, .int .i64 m] w fun e w' => e = .returned (.tuple #[.int .i64 (frN n m), .int .i64 (gN n m)]) /\ w = w' := by
 have C1 := jz fun w => may_yes n m w h h2
 have C2 := jz fun w => gp_yes n m w h h2
 have hgn := gN_le n m
 by_cases h0 : gN n m = 0
 . have e : frN n m = n := if_pos h0
   rw [h0] at C2
   rw [e, h0]
   clear e hgn
   go_enter Tryz.func132, Tryz.ntmps132
   go_wp2_with fail
   refine (C1.out _).mono ?_; rintro e w' ⟨rfl, rfl⟩
   go_wp2_with fail
   refine (C2.out _).mono ?_; rintro e w' ⟨rfl, rfl⟩
   go_wp2_with fail
   go_ret2
   exact ⟨rfl, rfl⟩
 . obtain ⟨f, hf⟩ : ∃ f, frN n m = f := ⟨_, rfl⟩
   have e : f = gN n m - 1 := by rw [<- hf]; exact if_neg h0
   rw [hf]
   generalize gN n m = g at *
   have k1 : IntKind.i64.wrap ((g : Int) - 1) = (f : Int) := by rw [show (g : Int) - 1 = (f : Int) by omega]; exact i64_nat _ (by omega)
   clear e hf hgn
   go_enter Tryz.func132, Tryz.ntmps132
   go_wp2_with fail
   refine (C1.out _).mono ?_; rintro e w' ⟨rfl, rfl⟩
   go_wp2_with fail
   refine (C2.out _).mono ?_; rintro e w' ⟨rfl, rfl⟩
   go_wp2_with fail
   go_ret2
   exact ⟨rfl, rfl⟩
theorem slot_yes (n m l : Nat) (w : World) (h2 : n <= 100000) (hm : m < 9223372036854775808) (hl : l < n) : Calls Tryz.prog 89 #[.int .i64 n, .int .i64 m, .int .i64 l] w fun e w' => e = .returned (.int .i64 (slN n m l)) /\ w = w' := by
 have C1 := jz fun w => may_yes n m w (by omega) h2
 have C2 := jz fun w => shift_yes n m w (by omega) h2 hm
 have C3 := jz fun w => gp_yes n m w (by omega) h2
 have hs := sN_lt (n := n) (by omega) m
 obtain ⟨p, hp⟩ : ∃ p, p = (l + sN n m) % n := ⟨_, rfl⟩
 have hpn : p < n := by rw [hp]; exact Nat.mod_lt _ (by omega)
 have e : slN n m l = if p < gN n m then p else p + 1 := by rw [hp]; rfl
 obtain ⟨t, ht⟩ : ∃ t, t = l + sN n m := ⟨_, rfl⟩
 rw [<- ht] at hp
 generalize sN n m = s at *
 generalize gN n m = g at *
 obtain ⟨r, hr⟩ : ∃ r, slN n m l = r := ⟨_, rfl⟩
 rw [hr] at e
 rw [hr]
 clear hr
 have k0 : ¬ (l : Int) < 0 := by omega
 have k1 : ¬ (n : Int) <= (l : Int) := by omega
 have k2 : IntKind.i64.wrap ((l : Int) + (s : Int)) = (t : Int) := by rw [show (l : Int) + (s : Int) = (t : Int) by omega]; exact i64_nat _ (by omega)
 have k3 : (t : Int).tmod (n : Int) = (p : Int) := by rw [hp]; exact tmod_nat t n
 have k4 : IntKind.i64.wrap (p : Int) = (p : Int) := i64_nat _ (by omega)
 have k5 : ¬ n = 0 := by omega
 have k6 : ¬ (n : Int) = 0 := by omega
 by_cases c : p < g
 . rw [if_pos c] at e
   have k7 : (p : Int) < (g : Int) := by omega
   subst e
   clear hp ht hs
   go_enter Tryz.func89, Tryz.ntmps89
   go_wp2_with fail
   refine (C1.out _).mono ?_; rintro e w' ⟨rfl, rfl⟩
   go_wp2_with fail
   refine (C2.out _).mono ?_; rintro e w' ⟨rfl, rfl⟩
   go_wp2_with fail
   refine (C3.out _).mono ?_; rintro e w' ⟨rfl, rfl⟩
   go_wp2_with fail
   go_ret
   exact ⟨rfl, rfl⟩
 . rw [if_neg c] at e
   have k7 : ¬ (p : Int) < (g : Int) := by omega
   have k8 : IntKind.i64.wrap ((p : Int) + 1) = (r : Int) := by rw [show (p : Int) + 1 = (r : Int) by omega]; exact i64_nat _ (by omega)
   clear hp ht hs e
   go_enter Tryz.func89, Tryz.ntmps89
   go_wp2_with fail
   refine (C1.out _).mono ?_; rintro e w' ⟨rfl, rfl⟩
   go_wp2_with fail
   refine (C2.out _).mono ?_; rintro e w' ⟨rfl, rfl⟩
   go_wp2_with fail
   refine (C3.out _).mono ?_; rintro e w' ⟨rfl, rfl⟩
   go_wp2_with fail
   go_ret
   exact ⟨rfl, rfl⟩
def Tq (w : World) (x g q n per p : Nat) : Prop := Whole w x 141 #[.pointer (some ⟨g, 0, none⟩), .pointer (some ⟨q, 0, none⟩), .int .i64 (n : Int), .int .i64 (per : Int), .int .i64 (p : Int)]
theorem Tq.lt {w : World} {x g q n per p : Nat} (h : Tq w x g q n per p) : x < w.heap.size := Whole.lt h
theorem Tq.below {w w' : World} {x g q n per p : Nat} (h : Tq w x g q n per p) (hb : Below w.heap.size w w') : Tq w' x g q n per p := (hb.block x h.lt).trans h
theorem Tq.chg {D : List Nat} {w w' : World} {x g q n per p : Nat} (h : Tq w x g q n per p) (hc : Chg D w w') (hq : x ∉ D) : Tq w' x g q n per p := hc.whole h hq
theorem Tq.alloc {w : World} {x g q n per p : Nat} (h : Tq w x g q n per p) (o : Obj) : Tq (w.alloc o) x g q n per p := Whole.alloc h o
theorem Tq.c0 {w : World} {x g q n per p : Nat} (h : Tq w x g q n per p) : w.cell? ⟨x, 0, none⟩ = some (.pointer (some ⟨g, 0, none⟩)) := by rw [Whole.at_ h]; rfl
theorem Tq.c1 {w : World} {x g q n per p : Nat} (h : Tq w x g q n per p) : w.cell? ⟨x, 1, none⟩ = some (.pointer (some ⟨q, 0, none⟩)) := by rw [Whole.at_ h]; rfl
theorem Tq.c2 {w : World} {x g q n per p : Nat} (h : Tq w x g q n per p) : w.cell? ⟨x, 2, none⟩ = some (.int .i64 (n : Int)) := by rw [Whole.at_ h]; rfl
theorem Tq.c3 {w : World} {x g q n per p : Nat} (h : Tq w x g q n per p) : w.cell? ⟨x, 3, none⟩ = some (.int .i64 (per : Int)) := by rw [Whole.at_ h]; rfl
theorem Tq.c4 {w : World} {x g q n per p : Nat} (h : Tq w x g q n per p) : w.cell? ⟨x, 4, none⟩ = some (.int .i64 (p : Int)) := by rw [Whole.at_ h]; rfl
theorem Tq.free {w : World} {x g q n per p : Nat} (h : Tq w x g q n per p) (k : Nat) : w.frozen? ⟨x, k, none⟩ = false := Whole.free h k
theorem Tq.count {w : World} {x g q n per p : Nat} (h : Tq w x g q n per p) (p' : Nat) : Tq (w.setCell ⟨x, 4, none⟩ (.int .i64 (p' : Int))) x g q n per p' := Whole.set_ h 4 _
theorem tmoves_is {x g M : Nat} {s : Nv} {w : World} (h0 : w.cell? ⟨x, 0, none⟩ = some (.pointer (some ⟨g, 0, none⟩))) (hN : Nm w g s) (hd : s.dark = false) (hr : s.rg 0 = (M : Int)) (hm : M < 4611686018427387904) :
 Calls Tryz.prog 85 #[.pointer (some ⟨x, 0, none⟩)] w fun e w' => e = .returned (.tuple #[.int .i64 (M : Int), .int .i64 0]) /\ w = w' := by
 have C := jz (reg_yes g s 0 w hN (by simp [Nv.rdy, hasR, hd]))
 rw [hr] at C
 have k1 : IntKind.i64.wrap (M : Int) = (M : Int) := i64_nat _ (by omega)
 have k2 : min (M : Int) 9223372036854775807 = (M : Int) := by omega
 have k3 : (M : Int) < 9223372036854775807 := by omega
 have k4 : (M : Int) <= 9223372036854775807 := by omega
 clear hN hr hm
 go_enter Tryz.func85, Tryz.ntmps85
 go_wp2_with fail
 refine (C.out).mono ?_; rintro e w' ⟨rfl, rfl⟩
 go_wp2
 go_ret2
 exact ⟨rfl, rfl⟩
theorem tlines_is {x g q n per p : Nat} {w : World} (h : Tq w x g q n per p) : Calls Tryz.prog 55 #[.pointer (some ⟨x, 0, none⟩)] w fun e w' => e = .returned (.int .i64 (n : Int)) /\ w = w' := by
 have c := h.c2
 clear h
 go_enter Tryz.func55, Tryz.ntmps55
 go_wp2_with fail
 go_ret
 exact ⟨rfl, rfl⟩
theorem tready_is {x g q n P per p M a : Nat} {s : Nv} {w : World} (H : TOk s n P M) (h : Tq w x g q n per p) (hN : Nm w g s) (ha : a < n) :
 Calls Tryz.prog 87 #[.pointer (some ⟨x, 0, none⟩), .int .i64 (a : Int)] w fun e w' => e = .returned (.tuple #[.int .i64 (M : Int), .int .i64 0]) /\ w = w' := by
 have C := jz (tlines_is h)
 have D := jz (tmoves_is h.c0 hN H.l.live H.rg H.m)
 have i1 : ¬ (a : Int) < 0 := by omega
 have i2 : ¬ (a : Int) >= (n : Int) := by omega
 clear h hN H ha
 go_enter Tryz.func87, Tryz.ntmps87
 go_wp2_with fail
 refine (C.out).mono ?_; rintro e w' ⟨rfl, rfl⟩
 go_wp2_with fail
 refine (D.out).mono ?_; rintro e w' ⟨rfl, rfl⟩
 go_wp2
 go_ret2
 exact ⟨rfl, rfl⟩
theorem due_is {x g q n per p : Nat} {w : World} (h : Tq w x g q n per p) (hp : p < 4611686018427387904) :
 Calls Tryz.prog 90 #[.pointer (some ⟨x, 0, none⟩)] w fun e w' => e = .returned (.bool (decide (per <= p + 1))) /\ Tq w' x g q n per (tp per p) /\ Chg [x] w w' := by
 have c4 := h.c4
 have f4 := h.free 4
 have k1 : IntKind.i64.wrap ((p : Int) + 1) = ((p + 1 : Nat) : Int) := by rw [show (p : Int) + 1 = ((p + 1 : Nat) : Int) by omega]; exact i64_nat _ (by omega)
 have T1 := h.count (p + 1)
 have C1 := (Chg.refl [x] w).setCell (p := ⟨x, 4, none⟩) (.inl (by simp)) (.int .i64 ((p + 1 : Nat) : Int))
 generalize hP : p + 1 = P1 at *
 obtain ⟨W1, hW1⟩ : ∃ W1, w.setCell ⟨x, 4, none⟩ (.int .i64 (P1 : Int)) = W1 := ⟨_, rfl⟩
 rw [hW1] at T1 C1
 have d4 := T1.c4
 have d3 := T1.c3
 have g4 := T1.free 4
 by_cases hd : per <= P1
 . have ht : tp per p = 0 := if_pos (hP ▸ hd)
   have hdd : decide (per <= P1) = true := decide_eq_true hd
   have i1 : ¬ (P1 : Int) < (per : Int) := by omega
   rw [ht, hdd]
   have T2 := T1.count 0
   have TT := jz T2
   have CC := jz C1
   clear h T1 C1 T2 hd ht hdd hP hp
   go_enter Tryz.func90, Tryz.ntmps90
   go_wp2_with fail
   go_quiet (fail)
   go_wp2
   go_ret
   exact ⟨rfl, TT.out, (CC.out.drewN _).setCell (.inl (List.mem_singleton.2 rfl)) _⟩
 . have ht : tp per p = P1 := (if_neg (hP ▸ hd)).trans hP
   have hdd : decide (per <= P1) = false := decide_eq_false hd
   have i1 : (P1 : Int) < (per : Int) := by omega
   rw [ht, hdd]
   have TT := jz T1
   have CC := jz C1
   clear h T1 C1 hd ht hdd hP hp
   go_enter Tryz.func90, Tryz.ntmps90
   go_wp2_with fail
   go_quiet (fail)
   go_wp2
   go_ret
   exact ⟨rfl, TT.out, CC.out.drewN _⟩
theorem tget_is {x g q n P per p M a : Nat} {y : List Int} {s : Nv} {w : World} (hy : thold s n P M a = y) (H : TOk s n P M) (hn2 : n <= 1000) (ha : a < n) (h : Tq w x g q n per p) (hQ : Lq w q g (n + 1) P) (hN : Nm w g s) :
 Calls Tryz.prog 53 #[.pointer (some ⟨x, 0, none⟩), .int .i64 (a : Int)] w fun e w' => e = .returned (.tuple #[.agg (lc y), .int .i64 0]) /\ Below w.heap.size w w' := by
 have h8 : y.length = 8 := by rw [<- hy]; exact H.l.ok.line _
 have hs1 := slN_lt (n := n) (by omega) M a
 obtain ⟨W, hW, H0⟩ := boxed1 w (a := [0, 0, 0, 0, 0, 0, 0, 0]) rfl
 have T1 := jz (h.below (H0.out.2.mono (Nat.le_refl _)))
 have L1 := jz (hQ.below (H0.out.2.mono (Nat.le_refl _)))
 have N1 := jz (hN.below (H0.out.2.mono (Nat.le_refl _)))
 have C := jz (tready_is H T1.out N1.out ha)
 have GC := jz (fun (w' : World) (hq : Lq w' q g (n + 1) P) (hn : Nm w' g s) => lget_is (x := y) hy H.l hs1 hq hn)
 have SC := jz (slot_yes n M a W.drew (by omega) (by have := H.m; omega) ha)
 have x0 : Hid (x ≠ w.heap.size) := jz (Nat.ne_of_lt h.lt)
 have c1 : ∀ w', Chg [w.heap.size] W w' -> w'.cell? ⟨x, 1, none⟩ = some (.pointer (some ⟨q, 0, none⟩)) := fun w' hc => (T1.out.chg hc (by simpa using x0.out)).c1
 have c2 : ∀ w', Chg [w.heap.size] W w' -> w'.cell? ⟨x, 2, none⟩ = some (.int .i64 (n : Int)) := fun w' hc => (T1.out.chg hc (by simpa using x0.out)).c2
 generalize slN n M a = sl at *
 clear h hQ hN H hy hs1 ha
 go_enter Tryz.func53, Tryz.ntmps53
 go_wp2_with fail
 refine (C.out).mono ?_; rintro e w' ⟨rfl, rfl⟩
 have hbd : Below W.heap.size W W.drew := (Below.refl _ _).drew
 go_wp2
 go_region_held3 (fun w' => Chg [w.heap.size] W w')
  (first | assumption | exact (Chg.refl _ _).drew | exact Chg.setRow (by assumption) (.inl (by simp)) _)
  (first
    | (go_at_call 89; refine (SC.out).mono ?_; rintro e wz ⟨rfl, rfl⟩)
    | (go_at_call 88; refine (GC.out _ (L1.out.below hbd) (N1.out.below hbd)).mono ?_; rintro e wy ⟨rfl, hby⟩
       have GY := (H0.out.1.below (hbd.mono (Nat.le_refl _))).below hby
       have hst := GY.store h8
       have FY := jz (GY.put h8)
       have CY := jz ((Chg.of_below hbd [w.heap.size]).trans (Chg.of_below hby [w.heap.size]))
       clear hby GY))
 have BF := jz ((CY.out.setRow (g := w.heap.size) (.inl (by simp)) (lc y)).below H0.out.2 H0.out.2.size (fun k hk => by rw [List.mem_singleton.1 hk]; exact Nat.le_refl _))
 go_wp2
 exact bodyPost_ret (v := .tuple #[.agg (lc y), .int .i64 0]) (results_cell_tmp rfl _ _ _ _ _ _ _ _ rfl rfl FY.out.1 Tryz.underlying52 rfl (by rw [info_line, lc_size, h8])) rfl ⟨rfl, BF.out⟩
def mvV (M : Nat) (e : Int) : Int := if e = 0 then ((M + 1 : Nat) : Int) else 0
theorem u64_same {a : Int} (h0 : 0 <= a) (h1 : a < 18446744073709551616) : IntKind.u64.wrap a = a := by simp [IntKind.wrap, IntKind.signed, IntKind.bits]; omega
theorem tmove_is {x g q n P per p M : Nat} {R : Int × Nv} {s : Nv} {w : World} (hR : tmove n P M s = R) (H : TOk s n P M) (hn : 0 < n) (hn2 : n <= 1000) (hm : M + 1 < 4611686018427387904) (hqg : q ≠ g) (hxg : x ≠ g) (hc : s.c + 500 < 4611686018427387904)
 (h : Tq w x g q n per p) (hQ : Lq w q g (n + 1) P) (hN : Nm w g s) :
 Calls Tryz.prog 91 #[.pointer (some ⟨x, 0, none⟩), .int .i64 (M : Int)] w fun e w' => e = .returned (.tuple #[.int .i64 (mvV M R.1), .int .i64 R.1]) /\ Nm w' g R.2 /\ Chg [g] w w' := by
 unfold tmove at hR
 obtain ⟨y, hy⟩ : ∃ y, hold s (n + 1) P (frN n M) = y := ⟨_, rfl⟩
 have h8 : y.length = 8 := by rw [<- hy]; exact H.l.ok.line _
 have hfr : frN n M < n + 1 := Nat.lt_succ_of_le (frN_le n M)
 obtain ⟨o, oc⟩ := lput_out (a := gN n M) (d := y) H.l h8 (gN_lt M)
 have r0 := lput_rg (n + 1) P (gN n M : Nat) y s (k := 0) (by decide)
 rw [hy] at hR
 have MC := jz (move_yes n M w hn (by omega))
 have hgp := gN_lt (n := n) M
 have GC := jz (lget_is hy H.l hfr hQ hN)
 generalize frN n M = fr at *
 generalize gN n M = gp at *
 obtain ⟨Q, hQe⟩ : ∃ Q, lput (n + 1) P (gp : Int) y s = Q := ⟨_, rfl⟩
 rw [hQe] at hR o oc r0
 rcases Q with ⟨e1, s1⟩
 dsimp only at hR o oc r0
 have c0 := h.c0
 have c1 := h.c1
 have c2 := h.c2
 have KK : Hid (q ≠ g /\ x ≠ g) := jz ⟨hqg, hxg⟩
 have PC := jz (fun (w' : World) (hl : Lq w' q g (n + 1) P) (hn : Nm w' g s) => lput_is hQe H.l h8 hqg (by omega) hl hn)
 have N0 := jz hN
 have L0 := jz hQ
 have T0 := jz h
 have OO := jz o
 have RR := jz (r0.trans H.rg)
 have HC : Hid (s1.c < 4611686018427387904) := jz (by omega)
 have own := o.own
 clear h hN hQ hQe H hy hfr hgp o r0 oc hqg hxg hc
 go_enter Tryz.func91, Tryz.ntmps91
 go_wp2_with fail
 refine (MC.out).mono ?_; rintro e w' ⟨rfl, rfl⟩
 go_wp2_with fail
 refine (GC.out).mono ?_; rintro e w1 ⟨rfl, hb⟩
 obtain ⟨W, hW, H1⟩ := boxed1 w1 h8
 have HB := jz (below_more hb (H1.out.2.mono (Nat.le_refl _)))
 have N1 := jz (N0.out.below HB.out)
 have L1 := jz (L0.out.below HB.out)
 have T1 := jz (T0.out.below HB.out)
 have hbg : Hid (w1.heap.size ∉ [g]) := jz (by have := N0.out.lt; have := hb.size; simp; omega)
 have l0 : ∀ w', Chg [g] W w' -> (lineLoad (.pointer (some ⟨w1.heap.size, 0, none⟩))).run Tryz.prog w' = .ok (.agg (lc y)) w' := fun w' hc => (hc.ln H1.out.1 hbg.out).load
 have d1 : ∀ w', Chg [g] W w' -> w'.cell? ⟨x, 1, none⟩ = some (.pointer (some ⟨q, 0, none⟩)) := fun w' hc => (T1.out.chg hc (by simpa using KK.out.2)).c1
 have hbd : Below W.heap.size W W.drew := (Below.refl _ _).drew
 clear hb c0 c1 c2
 go_wp2
 go_region_held3 (fun w' => Chg [g] W w')
  (first | assumption | exact (Chg.refl _ _).drew)
  (first
    | (go_at_call 92; refine (PC.out _ (L1.out.below hbd) (N1.out.below hbd)).mono ?_; rintro e wy ⟨rfl, hNy, hCy⟩
       have NY := jz hNy
       have CY := jz ((Chg.of_below hbd [g]).trans hCy)
       clear hNy hCy))
 have CW := jz ((Chg.of_below HB.out [g]).trans CY.out)
 have c0 := (T1.out.chg CY.out (by simpa using KK.out.2)).c0
 have TY := jz (T1.out.chg CY.out (by simpa using KK.out.2))
 clear l0 d1 hbd
 rcases own with ⟨rfl, q1, _⟩ | ⟨rfl, _⟩ | ⟨rfl, _⟩
 . rw [if_pos rfl] at hR
   have k1 : IntKind.u64.wrap (M : Int) = (M : Int) := u64_same (by omega) (by omega)
   have k2 : IntKind.u64.wrap ((M : Int) + 1) = ((M + 1 : Nat) : Int) := by rw [show (M : Int) + 1 = ((M + 1 : Nat) : Int) by omega]; exact u64_same (by omega) (by omega)
   have hc2 := set_cases q1 (k := 0) (by decide) ((M + 1 : Nat) : Int)
   obtain ⟨se, hse⟩ : ∃ se, s1.setE ((0 : Nat) : Int) = se := ⟨_, rfl⟩
   obtain ⟨s2, hs2⟩ : ∃ s2, s1.set ((0 : Nat) : Int) ((M + 1 : Nat) : Int) = s2 := ⟨_, rfl⟩
   have SC := set_is hse hs2 NY.out OO.out.ok HC.out
   rw [show ((0 : Nat) : Int) = 0 from rfl] at SC
   have SC := jz SC
   rw [hse, hs2] at hR hc2
   have ER := jz hR
   have hms : Hid (M + 1 < 4611686018427387904) := jz hm
   clear hR hse hs2 q1 hm
   generalize hM1 : M + 1 = M1 at *
   have EM := jz hM1
   clear hM1
   go_wp2_with fail
   refine (SC.out).mono ?_; rintro e wf ⟨rfl, hNf, _, hCf⟩
   have NF := jz hNf
   have CF := jz (CW.out.trans hCf)
   have TF := jz (TY.out.chg hCf (by simpa using KK.out.2))
   clear hNf hCf c0
   rcases hc2 with ⟨rfl, v1, v2⟩ | ⟨rfl, _⟩
   . have MV := jz (tmoves_is (M := M1) TF.out.c0 NF.out v1 (by rw [v2]; exact upd_same _ _ _) hms.out)
     clear v1 v2
     go_wp2_with fail
     refine (MV.out).mono ?_; rintro e w' ⟨rfl, rfl⟩
     go_wp2
     go_ret2
     exact ⟨by rw [<- ER.out]; dsimp only; rw [mvV, if_pos rfl, EM.out]; rfl, by rw [<- ER.out]; exact NF.out, CF.out⟩
   . go_wp2
     go_ret2
     exact ⟨by rw [<- ER.out]; rfl, by rw [<- ER.out]; exact NF.out, CF.out⟩
 . rw [if_neg (by decide)] at hR
   have ER := jz hR
   clear hR
   go_wp2
   go_ret2
   exact ⟨by rw [<- ER.out]; rfl, by rw [<- ER.out]; exact NY.out, CW.out⟩
 . rw [if_neg (by decide)] at hR
   have ER := jz hR
   clear hR
   go_wp2
   go_ret2
   exact ⟨by rw [<- ER.out]; rfl, by rw [<- ER.out]; exact NY.out, CW.out⟩
theorem tput_is {x g q n P per p M a : Nat} {d : List Int} {R : Int × Nv} {s : Nv} {w : World} (hR : tput n P per p M a d s = R) (H : TOk s n P M) (hn2 : n <= 1000) (ha : a < n) (hd8 : d.length = 8) (hm : M + 1 < 4611686018427387904) (hp : p < 4611686018427387904)
 (hqg : q ≠ g) (hxg : x ≠ g) (hxq : x ≠ q) (hc : s.c + 500 < 4611686018427387904) (h : Tq w x g q n per p) (hQ : Lq w q g (n + 1) P) (hN : Nm w g s) :
 Calls Tryz.prog 54 #[.pointer (some ⟨x, 0, none⟩), .int .i64 (a : Int), .agg (lc d)] w fun e w' => e = .returned (.int .i64 R.1) /\ Nm w' g R.2 /\ Tq w' x g q n per (tp per p) /\ Lq w' q g (n + 1) P /\ Chg [g, x] w w' := by
 have hn : 0 < n := by omega
 obtain ⟨W, hW, H0⟩ := boxed1 w hd8
 have T0 := jz (h.below (H0.out.2.mono (Nat.le_refl _)))
 have L0 := jz (hQ.below (H0.out.2.mono (Nat.le_refl _)))
 have N0 := jz (hN.below (H0.out.2.mono (Nat.le_refl _)))
 have KK : Hid (q ≠ g /\ x ≠ g /\ q ≠ x /\ w.heap.size ≠ g /\ w.heap.size ≠ x) := jz ⟨hqg, hxg, fun e => hxq e.symm, by have := hN.lt; omega, by have := h.lt; omega⟩
 have C := jz (tready_is H T0.out N0.out ha)
 have DC := jz (due_is T0.out hp)
 have B0 := jz (Chg.of_below H0.out.2 [g, x])
 have HT := jz H
 have HK : Hid (a < n /\ n <= 1000 /\ M + 1 < 4611686018427387904 /\ s.c + 500 < 4611686018427387904) := jz ⟨ha, hn2, hm, hc⟩
 clear h hQ hN hp hqg hxg hxq
 unfold tput at hR
 by_cases hpp : per <= p + 1
 . rw [if_pos hpp] at hR
   rw [decide_eq_true hpp] at DC
   obtain ⟨Q, hQe⟩ : ∃ Q, tmove n P M s = Q := ⟨_, rfl⟩
   obtain ⟨M', o, oc⟩ := tmove_out H hn
   rw [hQe] at hR o oc
   rcases Q with ⟨e1, s1⟩
   dsimp only at hR o oc
   have QE := jz hQe
   have OO := jz o
   have OC : Hid (s1.c <= s.c + 41) := jz oc
   have HR := jz hR
   clear hpp hQe o oc hR H ha hn2 hm hc
   go_enter Tryz.func54, Tryz.ntmps54
   go_wp2_with fail
   refine (C.out).mono ?_; rintro e w' ⟨rfl, rfl⟩
   go_wp2_with fail
   refine (DC.out).mono ?_; rintro e w1 ⟨rfl, hT, hC⟩
   have N1 := jz (N0.out.chg hC (by simpa using fun e => KK.out.2.1 e.symm))
   have L1 := jz (L0.out.chg hC (by simpa using KK.out.2.2.1))
   have T1 := jz hT
   have C1 := jz (B0.out.trans (hC.mono (by simp)))
   have G1 := jz (hC.ln H0.out.1 (by simpa using KK.out.2.2.2.2))
   clear hT hC
   have MC := jz (tmove_is QE.out HT.out hn HK.out.2.1 HK.out.2.2.1 KK.out.1 KK.out.2.1 HK.out.2.2.2 T1.out L1.out N1.out)
   go_wp2_with fail
   refine (MC.out).mono ?_; rintro e w2 ⟨rfl, hNm, hC⟩
   have N2 := jz hNm
   have L2 := jz (L1.out.chg hC (by simpa using KK.out.1))
   have T2 := jz (T1.out.chg hC (by simpa using KK.out.2.1))
   have C2 := jz (C1.out.trans (hC.mono (by simp)))
   have G2 := jz (hC.ln G1.out (by simpa using KK.out.2.2.2.1))
   clear hNm hC
   by_cases he : e1 = 0
   . subst he
     have hR := HR.out
     rw [if_pos rfl] at hR
     have hmv : mvV M 0 = ((M + 1 : Nat) : Int) := by rw [mvV, if_pos rfl]
     dsimp only
     rw [hmv]
     obtain ⟨d1, hM⟩ : s1.dark = false /\ M' = M + 1 := by rcases OO.out.own with ⟨_, h1, h2⟩ | ⟨h, _⟩ | ⟨h, _⟩ <;> first | exact ⟨h1, h2⟩ | cases h
     subst hM
     have H1 := OO.out.tok HT.out d1 HK.out.2.2.1
     have hs1 := slN_lt (n := n) hn (M + 1) a
     have SC := jz (slot_yes n (M + 1) a w2.drew (by have := HK.out.2.1; omega) (by have := HK.out.2.2.1; omega) HK.out.1)
     have PC := jz (fun (w' : World) (hl : Lq w' q g (n + 1) P) (hn : Nm w' g s1) => lput_is hR H1.l hd8 KK.out.1 (by have := OC.out; have := HK.out.2.2.2; omega) hl hn)
     generalize slN n (M + 1) a = sl at *
     generalize M + 1 = M1 at *
     have l0 : ∀ w', Chg [g] w2 w' -> (lineLoad (.pointer (some ⟨w.heap.size, 0, none⟩))).run Tryz.prog w' = .ok (.agg (lc d)) w' := fun w' hc => (hc.ln G2.out (by simpa using KK.out.2.2.2.1)).load
     have d1 : ∀ w', Chg [g] w2 w' -> w'.cell? ⟨x, 1, none⟩ = some (.pointer (some ⟨q, 0, none⟩)) := fun w' hc => (T2.out.chg hc (by simpa using KK.out.2.1)).c1
     have d2 : ∀ w', Chg [g] w2 w' -> w'.cell? ⟨x, 2, none⟩ = some (.int .i64 (n : Int)) := fun w' hc => (T2.out.chg hc (by simpa using KK.out.2.1)).c2
     have hbd : Below w2.heap.size w2 w2.drew := (Below.refl _ _).drew
     clear hR hmv H1 hs1
     go_wp2
     go_region_held3 (fun w' => Chg [g] w2 w')
      (first | assumption | exact (Chg.refl _ _).drew)
      (first
        | (go_at_call 89; refine (SC.out).mono ?_; rintro e wz ⟨rfl, rfl⟩)
        | (go_at_call 92; refine (PC.out _ (L2.out.below hbd) (N2.out.below hbd)).mono ?_; rintro e wy ⟨rfl, hNy, hCy⟩
           have NY := jz hNy
           have CY := jz ((Chg.of_below hbd [g]).trans hCy)
           clear hNy hCy))
     have TY := jz (T2.out.chg CY.out (by simpa using KK.out.2.1))
     have LY := jz (L2.out.chg CY.out (by simpa using KK.out.1))
     have CW := jz (C2.out.trans (CY.out.mono (by simp)))
     clear l0 d1 d2
     go_wp2
     go_ret
     exact ⟨rfl, NY.out, TY.out, LY.out, CW.out⟩
   . have hR := HR.out
     rw [if_neg he] at hR
     have ER := jz hR
     have t0 : (e1 == 0) = false := by simpa using he
     clear hR he
     go_wp2
     go_ret
     exact ⟨by rw [<- ER.out]; rfl, by rw [<- ER.out]; exact N2.out, T2.out, L2.out, C2.out⟩
 . rw [if_neg hpp] at hR
   rw [decide_eq_false hpp] at DC
   have hs1 := slN_lt (n := n) hn M a
   have SC := jz (fun w' => slot_yes n M a w' (by have := HK.out.2.1; omega) (by have := HK.out.2.2.1; omega) HK.out.1)
   have PC := jz (fun (w' : World) (hl : Lq w' q g (n + 1) P) (hn : Nm w' g s) => lput_is hR H.l hd8 KK.out.1 (by have := HK.out.2.2.2; omega) hl hn)
   generalize slN n M a = sl at *
   clear hpp hR H ha hn2 hm hc hs1
   go_enter Tryz.func54, Tryz.ntmps54
   go_wp2_with fail
   refine (C.out).mono ?_; rintro e w' ⟨rfl, rfl⟩
   go_wp2_with fail
   refine (DC.out).mono ?_; rintro e w2 ⟨rfl, hT, hC⟩
   have N2 := jz (N0.out.chg hC (by simpa using fun e => KK.out.2.1 e.symm))
   have L2 := jz (L0.out.chg hC (by simpa using KK.out.2.2.1))
   have T2 := jz hT
   have C2 := jz (B0.out.trans (hC.mono (by simp)))
   have G2 := jz (hC.ln H0.out.1 (by simpa using KK.out.2.2.2.2))
   clear hT hC
   have l0 : ∀ w', Chg [g] w2 w' -> (lineLoad (.pointer (some ⟨w.heap.size, 0, none⟩))).run Tryz.prog w' = .ok (.agg (lc d)) w' := fun w' hc => (hc.ln G2.out (by simpa using KK.out.2.2.2.1)).load
   have d1 : ∀ w', Chg [g] w2 w' -> w'.cell? ⟨x, 1, none⟩ = some (.pointer (some ⟨q, 0, none⟩)) := fun w' hc => (T2.out.chg hc (by simpa using KK.out.2.1)).c1
   have d2 : ∀ w', Chg [g] w2 w' -> w'.cell? ⟨x, 2, none⟩ = some (.int .i64 (n : Int)) := fun w' hc => (T2.out.chg hc (by simpa using KK.out.2.1)).c2
   have hbd : Below w2.heap.size w2 w2.drew := (Below.refl _ _).drew
   go_wp2
   go_region_held3 (fun w' => Chg [g] w2 w')
    (first | assumption | exact (Chg.refl _ _).drew)
    (first
      | (go_at_call 89; refine (SC.out _).mono ?_; rintro e wz ⟨rfl, rfl⟩)
      | (go_at_call 92; refine (PC.out _ (L2.out.below hbd) (N2.out.below hbd)).mono ?_; rintro e wy ⟨rfl, hNy, hCy⟩
         have NY := jz hNy
         have CY := jz ((Chg.of_below hbd [g]).trans hCy)
         clear hNy hCy))
   have TY := jz (T2.out.chg CY.out (by simpa using KK.out.2.1))
   have LY := jz (L2.out.chg CY.out (by simpa using KK.out.1))
   have CW := jz (C2.out.trans (CY.out.mono (by simp)))
   clear l0 d1 d2
   go_wp2
   go_ret
   exact ⟨rfl, NY.out, TY.out, LY.out, CW.out⟩
theorem tnew_null (n : Nat) (P per : Int) (w : World) (h1 : 1 <= n) : Calls Tryz.prog 50 #[.pointer none, .int .i64 (n : Int), .int .i64 P, .int .i64 per] w fun e w' => e = .returned (.pointer none) /\ w = w' := by
 have i1 : ¬ (n : Int) < 1 := by omega
 have i2 : (n : Int) >= 0 := by omega
 clear h1
 go_enter Tryz.func50, Tryz.ntmps50
 go_wp2_with fail
 refine (lines_nil w).mono ?_; rintro e w' ⟨rfl, rfl⟩
 go_wp2_with fail
 go_ret
 exact ⟨rfl, rfl⟩
theorem Tq.new (w : World) (g q n per : Nat) : Tq (w.alloc (.cells #[.pointer (some ⟨g, 0, none⟩), .pointer (some ⟨q, 0, none⟩), .int .i64 (n : Int), .int .i64 (per : Int), .int .i64 0] 141)) w.heap.size g q n per 0 := heap_alloc_last w _
def Made (v : Value) (w w' : World) (g n P per M : Nat) : Prop :=
 if M <= 1099511627776 then ∃ x q, v = .pointer (some ⟨x, 0, none⟩) /\ w.heap.size <= x /\ w.heap.size <= q /\ x ≠ q /\ Lq w' q g (n + 1) P /\ Tq w' x g q n per 0 else v = .pointer none
theorem tnew_any {g n P per M : Nat} {s : Nv} {w : World} (H : TOk s n P M) (h1 : 1 <= n) (hn2 : n <= 1000) (hp1 : 1 <= per) (hp2 : per <= 1000) (hN : Nm w g s) :
 Calls Tryz.prog 50 #[.pointer (some ⟨g, 0, none⟩), .int .i64 (n : Int), .int .i64 (P : Int), .int .i64 (per : Int)] w fun e w' => (∃ v, e = .returned v /\ Made v w w' g n P per M) /\ Below w.heap.size w w' := by
 have C := jz (lines_any g s w hN)
 have LC := lnew_yes H.l hN
 have hnn := H.l.n
 have i1 : ¬ (n : Int) < 1 := by omega
 have i2 : ¬ (n : Int) >= (s.n : Int) := by omega
 have i3 : ¬ (per : Int) < 1 := by omega
 have i4 : ¬ (per : Int) > 1000 := by omega
 obtain ⟨n1, hn1⟩ : ∃ n1 : Nat, n1 = n + 1 := ⟨_, rfl⟩
 have k1 : IntKind.i64.wrap ((n : Int) + 1) = (n1 : Int) := by rw [show (n : Int) + 1 = (n1 : Int) by omega]; exact i64_nat _ (by omega)
 rw [<- hn1] at LC
 have LC := jz LC
 have HN := jz hN
 have HT := jz H
 have E1 := jz hn1
 clear hN H h1 hn2 hp1 hp2 hnn hn1
 generalize s.n = N at *
 go_enter Tryz.func50, Tryz.ntmps50
 go_wp2_with fail
 refine (C.out).mono ?_; rintro e w' ⟨rfl, rfl⟩
 go_wp2_with fail
 refine (LC.out).mono ?_; rintro e w2 ⟨q, rfl, hq, hQ, hb⟩
 have N2 := HN.out.below hb
 obtain ⟨W, hW⟩ : ∃ W, w2.alloc (.cells #[.pointer (some ⟨g, 0, none⟩), .pointer (some ⟨q, 0, none⟩), .int .i64 (n : Int), .int .i64 (per : Int), .int .i64 0] 141) = W := ⟨_, rfl⟩
 have T3 := Tq.new w2 g q n per
 have Q3 := hQ.alloc (.cells #[.pointer (some ⟨g, 0, none⟩), .pointer (some ⟨q, 0, none⟩), .int .i64 (n : Int), .int .i64 (per : Int), .int .i64 0] 141)
 have N3 := N2.alloc (.cells #[.pointer (some ⟨g, 0, none⟩), .pointer (some ⟨q, 0, none⟩), .int .i64 (n : Int), .int .i64 (per : Int), .int .i64 0] 141)
 have B3 := bal (o := .cells #[.pointer (some ⟨g, 0, none⟩), .pointer (some ⟨q, 0, none⟩), .int .i64 (n : Int), .int .i64 (per : Int), .int .i64 0] 141) hb
 rw [hW] at T3 Q3 N3 B3
 have KK : Hid (w.heap.size <= w2.heap.size /\ w.heap.size <= q /\ w2.heap.size ≠ q) := jz ⟨hb.size, hq, by have := hQ.lt; omega⟩
 have c1 := T3.c1
 have MC := jz (tmoves_is T3.c0 N3 HT.out.l.live HT.out.rg HT.out.m)
 have TT := jz T3
 have QQ := jz Q3
 have BB := jz B3
 clear hb hq hQ N2 T3 Q3 N3 B3
 go_wp2_with fail
 refine (MC.out).mono ?_; rintro e w' ⟨rfl, rfl⟩
 by_cases hM : M <= 1099511627776
 . have i5 : ¬ (M : Int) > 1099511627776 := by omega
   have HM : Hid (M <= 1099511627776) := jz hM
   clear hM
   go_wp2
   go_ret
   exact ⟨⟨_, rfl, by rw [Made, if_pos HM.out]; exact ⟨_, q, rfl, KK.out.1, KK.out.2.1, KK.out.2.2, by rw [<- E1.out]; exact QQ.out, TT.out⟩⟩, BB.out⟩
 . have i5 : (M : Int) > 1099511627776 := by omega
   have HM : Hid (¬ M <= 1099511627776) := jz hM
   clear hM
   go_wp2
   go_ret
   exact ⟨⟨_, rfl, by rw [Made, if_neg HM.out]; rfl⟩, BB.out⟩
theorem tnew_yes {g n P per M : Nat} {s : Nv} {w : World} (H : TOk s n P M) (h1 : 1 <= n) (hn2 : n <= 1000) (hp1 : 1 <= per) (hp2 : per <= 1000) (hM : M <= 1099511627776) (hN : Nm w g s) :
 Calls Tryz.prog 50 #[.pointer (some ⟨g, 0, none⟩), .int .i64 (n : Int), .int .i64 (P : Int), .int .i64 (per : Int)] w fun e w' =>
  ∃ x q, e = .returned (.pointer (some ⟨x, 0, none⟩)) /\ w.heap.size <= x /\ w.heap.size <= q /\ x ≠ q /\ Lq w' q g (n + 1) P /\ Tq w' x g q n per 0 /\ Below w.heap.size w w' := by
 refine (tnew_any H h1 hn2 hp1 hp2 hN).mono ?_
 rintro e w' ⟨⟨v, rfl, hv⟩, hb⟩
 rw [Made, if_pos hM] at hv
 obtain ⟨x, q, rfl, a1, a2, a3, a4, a5⟩ := hv
 exact ⟨x, q, rfl, a1, a2, a3, a4, a5, hb⟩
theorem info_line3 : (Tryz.prog.info? 52).map (fun i => (i.zero, i.size, i.bytes)) = some (some (.agg (lc zeros)), 8, 64) := by kernel_rfl
def wl (f : Nat -> List Int) (k : Nat) : Value := .int .u64 ((f (k / 8)).getD (k % 8) 0)
def Wt (w : World) (g n : Nat) (f : Nat -> List Int) : Prop := Whole w g 52 (tab (n * 8) (wl f)) /\ ∀ i, i < n -> (f i).length = 8
theorem run_make_want (n : Nat) (hn : n <= 200) (w : World) :
 (Instr.makeSlice 225 (.int .i64 (n : Int)) (.int .i64 (n : Int))).run Tryz.prog w = .ok (.slice (some ⟨w.heap.size, 0, none⟩) n n) (w.alloc (.cells (tab (n * 8) (wl fun _ => zeros)) 52)) := by
 obtain ⟨i, hi, hzz⟩ := Option.map_eq_some_iff.1 info_line3
 simp only [Prod.mk.injEq] at hzz
 obtain ⟨hz, hs, hb⟩ := hzz
 have := run_make (P := Tryz.prog) w 225 52 i _ Tryz.underlying225 hi hz .i64 .i64 n n (by omega) (by omega) (by rw [hb]; omega) (by omega)
 rw [Int.toNat_natCast, hs] at this
 rw [this, made_tab _ _ (wl fun _ => zeros)]
 intro j _
 have h8 : (Value.agg (lc zeros)).cells.size = 8 := rfl
 rw [h8]
 have hlt : j % 8 < 8 := Nat.mod_lt _ (by decide)
 have key : ∀ q : Fin 8, (Value.agg (lc zeros)).cells[q.val]! = .int .u64 (zeros.getD q.val 0) := by
  intro q
  rcases q with ⟨q, hq⟩
  rcases (by omega : q = 0 \/ q = 1 \/ q = 2 \/ q = 3 \/ q = 4 \/ q = 5 \/ q = 6 \/ q = 7) with h | h | h | h | h | h | h | h <;> subst h <;> rfl
 exact key ⟨j % 8, hlt⟩
theorem Wt.new (w : World) (n : Nat) : Wt (w.alloc (.cells (tab (n * 8) (wl fun _ => zeros)) 52)) w.heap.size n (fun _ => zeros) := ⟨heap_alloc_last w _, fun _ _ => rfl⟩
def lineE : Elm Tryz.prog (List Int) where
 t := 225
 e := 52
 size := 8
 bytes := 64
 z := .agg #[.int .u64 0, .int .u64 0, .int .u64 0, .int .u64 0, .int .u64 0, .int .u64 0, .int .u64 0, .int .u64 0]
 enc := fun l => l.map uv
 ok := fun l => l.length = 8
 ht := Tryz.underlying225
 hi := by kernel_rfl
 hzs := rfl
 pos := by decide
 bpos := by decide
 len := fun _ h => by simpa using h
 one := fun a _ u hu => by obtain ⟨y, _, rfl⟩ := List.mem_map.1 hu; rfl
theorem line_at {w : World} {p : Option Addr} {n cap : Nat} {l : List (List Int)} (h : RA lineE w (.slice p n cap) l) (h0 : 0 < l.length) :
 ∃ b off, p = some ⟨b, off, none⟩ /\ b < w.heap.size /\ ∀ k, k < l.length -> (lineLoad (.pointer (some ⟨b, off + k * 8, none⟩))).run Tryz.prog w = .ok (.agg (lc (l.getD k default))) w /\ (l.getD k default).length = 8 := by
 obtain ⟨b, off, e, hb, hr⟩ := ra_at h h0
 refine ⟨b, off, e, hb, fun k hk => ?_⟩
 have hw : (l.getD k default).length = 8 := (ra_ok h).at_ hk
 refine ⟨?_, hw⟩
 unfold lineLoad
 exact run_loadAt_mid (P := Tryz.prog) w b (off + k * 8) 52 ((l.getD k default).map uv) _ (hr k hk) Tryz.underlying52 rfl (by rw [info_line, List.length_map, hw])
theorem line_store {B g n c : Nat} {w : World} {l : List (List Int)} (h : OwnA lineE B w (.slice (some ⟨g, 0, none⟩) n c) l) {k : Nat} (hk : k < l.length) {x : List Int} (hx : x.length = 8) :
 (lineStore (.pointer (some ⟨g, k * 8, none⟩)) (.agg (lc x))).run Tryz.prog w = .ok () (w.setCells g (k * 8) (x.map uv)) /\ OwnA lineE B (w.setCells g (k * 8) (x.map uv)) (.slice (some ⟨g, 0, none⟩) n c) (l.set k x) := by
 refine ⟨?_, h.setElem hk hx⟩
 have hr := h.ra
 obtain ⟨b, off, e, _, hc⟩ := ra_at hr (by omega)
 cases e
 have hw : (l.getD k default).length = 8 := (ra_ok hr).at_ hk
 unfold lineStore
 rw [run_storeAt_mid (P := Tryz.prog) w g (k * 8) 52 (lc x) (fun j hj => ?_) (by rw [info_line, lc_size, hx]) (lc_one x)]
 . simp [lc]
 . rw [lc_size, hx] at hj
   refine ⟨?_, h.free _⟩
   have hck := hc k hk
   generalize l.getD k default = y at *
   have := hck j (uv (y.getD j 0)) (by simp [lineE, hw, hj])
   rw [show lineE.size = 8 from rfl, Nat.zero_add] at this
   rw [this]; rfl
def Ol (B : Nat) (w : World) (g n c : Nat) (f : Nat -> List Int) : Prop := OwnA lineE B w (.slice (some ⟨g, 0, none⟩) n c) ((List.range n).map f)
theorem ol_getD {n k : Nat} {f : Nat -> List Int} (hk : k < n) : ((List.range n).map f).getD k default = f k := by simp [hk]
theorem Ol.wide {B : Nat} {w : World} {g n c : Nat} {f : Nat -> List Int} (h : Ol B w g n c f) {k : Nat} (hk : k < n) : (f k).length = 8 := by
 have := h.2.at_ (k := k) (by simpa using hk)
 rw [ol_getD hk] at this; exact this
theorem Ol.load {B : Nat} {w : World} {g n c : Nat} {f : Nat -> List Int} (h : Ol B w g n c f) {k : Nat} (hk : k < n) : (lineLoad (.pointer (some ⟨g, k * 8, none⟩))).run Tryz.prog w = .ok (.agg (lc (f k))) w := by
 obtain ⟨b, off, e, _, hx⟩ := line_at h.ra (by simp; omega)
 cases e
 have := (hx k (by simpa using hk)).1
 rw [ol_getD hk, Nat.zero_add] at this; exact this
theorem Ol.as {B : Nat} {w : World} {g n c : Nat} {f f' : Nat -> List Int} (h : Ol B w g n c f) (he : ∀ i, i < n -> f' i = f i) : Ol B w g n c f' := by
 have e : (List.range n).map f' = (List.range n).map f := List.map_congr_left fun i hi => he i (List.mem_range.1 hi)
 unfold Ol; rw [e]; exact h
theorem Ol.store {B : Nat} {w : World} {g n c : Nat} {f : Nat -> List Int} (h : Ol B w g n c f) {k : Nat} (hk : k < n) {x : List Int} (hx : x.length = 8) :
 (lineStore (.pointer (some ⟨g, k * 8, none⟩)) (.agg (lc x))).run Tryz.prog w = .ok () (w.setCells g (k * 8) (x.map uv)) /\ Ol B (w.setCells g (k * 8) (x.map uv)) g n c (upd f k x) := by
 obtain ⟨a, b⟩ := line_store h (k := k) (by simpa using hk) hx
 refine ⟨a, ?_⟩
 have e : ((List.range n).map f).set k x = (List.range n).map (upd f k x) := by
  refine List.ext_getElem (by simp) fun i h1 h2 => ?_
  rw [List.getElem_set]
  simp only [List.getElem_map, List.getElem_range, upd]
  split
  . rename_i e; rw [if_pos e.symm]
  . rename_i e; rw [if_neg fun q => e q.symm]
 rw [e] at b; exact b
theorem Ol.below {B : Nat} {w w' : World} {g n c : Nat} {f : Nat -> List Int} (h : Ol B w g n c f) (hb : Below w.heap.size w w') : Ol B w' g n c f := OwnA.below h hb
theorem Ol.chg {B : Nat} {D : List Nat} {w w' : World} {g n c : Nat} {f : Nat -> List Int} (h : Ol B w g n c f) (hc : Chg D w w') (hD : g ∉ D) : Ol B w' g n c f := OwnA.chg h hc fun k hk => by cases hk; exact hD
theorem Ol.of_wt {B : Nat} {w : World} {g n : Nat} {f : Nat -> List Int} (h : Wt w g n f) (hB : B <= g) (hn : n <= maxLen) : Ol B w g n n f := by
 have hok : AllOk lineE ((List.range n).map f) := fun x hx => by
  obtain ⟨i, hi, rfl⟩ := List.mem_map.1 hx
  exact h.2 i (List.mem_range.1 hi)
 have hl := flat_length lineE _ hok
 refine ⟨⟨by simpa using hl, .inr ⟨g, n, tab (n * 8) (wl f), by simp, hB, h.1, by simp, hn, by simp [tab]; rfl, ?_⟩⟩, hok⟩
 refine flat_ext lineE hok (by simp [tab]; rfl) fun k j hk hj => ?_
 have hk' : k < n := by simpa using hk
 have hj' : j < 8 := hj
 rw [show lineE.size = 8 from rfl]
 have e1 : (k * 8 + j) / 8 = k := by omega
 have e2 : (k * 8 + j) % 8 = j := by omega
 have h8 := h.2 k hk'
 rw [ol_getD hk']
 have hlt : k * 8 + j < n * 8 := by omega
 simp [tab, wl, lineE, uv, hlt, e1, e2, h8, hj']
def Lgb (w : World) (x g y : Nat) : Prop := Whole w x 99 #[.pointer (some ⟨g, 0, none⟩), .pointer (some ⟨y, 0, none⟩)]
structure Lg (w : World) (x g y q n P per p : Nat) (s : Nv) : Prop where
 lb : Lgb w x g y
 tq : Tq w y g q n per p
 lq : Lq w q g (n + 1) P
 nm : Nm w g s
 qg : q ≠ g
 yg : y ≠ g
 yq : y ≠ q
 xg : x ≠ g
 xy : x ≠ y
theorem Lg.below {w w' : World} {x g y q n P per p : Nat} {s : Nv} (h : Lg w x g y q n P per p s) (hb : Below w.heap.size w w') : Lg w' x g y q n P per p s :=
 ⟨(hb.block x (Whole.lt h.lb)).trans h.lb, h.tq.below hb, h.lq.below hb, h.nm.below hb, h.qg, h.yg, h.yq, h.xg, h.xy⟩
theorem Lg.chg {D : List Nat} {w w' : World} {x g y q n P per p : Nat} {s : Nv} (h : Lg w x g y q n P per p s) (hc : Chg D w w') (hx : x ∉ D) (hg : g ∉ D) (hy : y ∉ D) (hq : q ∉ D) : Lg w' x g y q n P per p s :=
 ⟨hc.whole h.lb hx, h.tq.chg hc hy, h.lq.chg hc hq, hc.whole h.nm hg, h.qg, h.yg, h.yq, h.xg, h.xy⟩
theorem Lg.mem {w w' : World} {x g y q n P per p : Nat} {s s' : Nv} (h : Lg w x g y q n P per p s) (hc : Chg [g] w w') (hN : Nm w' g s') : Lg w' x g y q n P per p s' :=
 ⟨hc.whole h.lb (by simpa using h.xg), h.tq.chg hc (by simpa using h.yg), h.lq.chg hc (by simpa using h.qg), hN, h.qg, h.yg, h.yq, h.xg, h.xy⟩
theorem Lg.xlt {w : World} {x g y q n P per p : Nat} {s : Nv} (h : Lg w x g y q n P per p s) : x < w.heap.size := Whole.lt h.lb
structure Room (n P per p : Nat) (s : Nv) : Prop where
 n : n <= 1000
 p : p + 30 < 4611686018427387904
 m : tm s + 30 < 4611686018427387904
 c : s.c + 20000 < 4611686018427387904
 per : per <= 1000 /\ P <= 16
structure Ctr : Prop where
 new : ∀ (w : World) (g y q n P per p : Nat) (s : Nv), Tq w y g q n per p -> Lq w q g (n + 1) P -> Nm w g s -> q ≠ g -> y ≠ g -> y ≠ q -> 17 <= n →
  Calls Tryz.prog 27 #[.pointer (some ⟨g, 0, none⟩), .pointer (some ⟨y, 0, none⟩)] w fun e w' => ∃ x, e = .returned (.pointer (some ⟨x, 0, none⟩)) /\ w.heap.size <= x /\ Lg w' x g y q n P per p s /\ Below w.heap.size w w'
 may : ∀ (w : World) (n : Int) (v : Value) (h : List Hm) (r : Bool), RA homeE w v h -> (r = true ↔ MayH n h) →
  Calls Tryz.prog 95 #[.int .i64 n, v] w fun e w' => e = .returned (.bool r) /\ Below w.heap.size w w'
 newNil : ∀ (w : World) (g : Nat), Calls Tryz.prog 27 #[.pointer (some ⟨g, 0, none⟩), .pointer none] w fun e w' => e = .returned (.pointer none) /\ Below w.heap.size w w'
 newFew : ∀ (w : World) (g y q n P per p : Nat) (s : Nv), Tq w y g q n per p -> Lq w q g (n + 1) P -> Nm w g s -> n <= 16 →
  Calls Tryz.prog 27 #[.pointer (some ⟨g, 0, none⟩), .pointer (some ⟨y, 0, none⟩)] w fun e w' => e = .returned (.pointer none) /\ Below w.heap.size w w'
 pend : ∀ (w : World) (x g y q n P per p : Nat) (s : Nv), Lg w x g y q n P per p s -> LgOk s n P -> s.dark = false →
  Calls Tryz.prog 147 #[.pointer (some ⟨x, 0, none⟩)] w fun e w' => e = .returned (.bool (decide (lk s ≠ 0))) /\ Below w.heap.size w w'
 get : ∀ (w : World) (x g y q n P per p a : Nat) (s : Nv), Lg w x g y q n P per p s -> LgOk s n P -> s.dark = false -> Room n P per p s -> 16 <= a -> a < n →
  Calls Tryz.prog 99 #[.pointer (some ⟨x, 0, none⟩), .int .i64 (a : Int)] w fun e w' => e = .returned (.tuple #[.agg (lc (view s n P a)), .int .i64 0]) /\ Below w.heap.size w w'
 getOut : ∀ (w : World) (x g y q n P per p : Nat) (a : Int) (s : Nv), Lg w x g y q n P per p s -> ¬ (16 <= a /\ a < (n : Int)) →
  Calls Tryz.prog 99 #[.pointer (some ⟨x, 0, none⟩), .int .i64 a] w fun e w' => e = .returned (.tuple #[.agg (lc zeros), .int .i64 1]) /\ Below w.heap.size w w'
 com : ∀ (w : World) (x g y q n P per p : Nat) (s : Nv) (v : Value) (h : List Hm), Lg w x g y q n P per p s -> LgOk s n P -> s.dark = false -> Room n P per p s -> lk s = 0 -> (∀ w', Chg [g, y] w w' -> RA homeE w' v h) -> MayH n h →
  Calls Tryz.prog 152 #[.pointer (some ⟨x, 0, none⟩), v] w fun e w' => e = .returned (.int .i64 (lcom n P per p h s).1) /\ Lg w' x g y q n P per (lcom n P per p h s).2.1 (lcom n P per p h s).2.2 /\ Chg [g, y] w w'
 comArg : ∀ (w : World) (x g y q n P per p : Nat) (s : Nv) (v : Value) (h : List Hm), Lg w x g y q n P per p s -> n <= 1000 -> RA homeE w v h -> ¬ MayH n h →
  Calls Tryz.prog 152 #[.pointer (some ⟨x, 0, none⟩), v] w fun e w' => e = .returned (.int .i64 1) /\ Below w.heap.size w w'
 comState : ∀ (w : World) (x g y q n P per p : Nat) (s : Nv) (v : Value) (h : List Hm), Lg w x g y q n P per p s -> s.dark = false -> s.rg 1 = (lk s : Int) -> lk s ≠ 0 -> n <= 1000 -> RA homeE w v h -> MayH n h →
  Calls Tryz.prog 152 #[.pointer (some ⟨x, 0, none⟩), v] w fun e w' => e = .returned (.int .i64 5) /\ Below w.heap.size w w'
 recv : ∀ (w : World) (x g y q n P per p : Nat) (s : Nv), Lg w x g y q n P per p s -> LgOk s n P -> s.dark = false -> Room n P per p s →
  Calls Tryz.prog 28 #[.pointer (some ⟨x, 0, none⟩)] w fun e w' => e = .returned (.int .i64 (lrec n P per p s).1) /\ Lg w' x g y q n P per (lrec n P per p s).2.1 (lrec n P per p s).2.2 /\ Chg [g, y] w w'
section
variable {x g y q n P per p : Nat} {s : Nv} {w : World}
theorem Lg.c0 (h : Lg w x g y q n P per p s) : w.cell? ⟨x, 0, none⟩ = some (.pointer (some ⟨g, 0, none⟩)) := by rw [Whole.at_ h.lb]; rfl
theorem Lg.c1 (h : Lg w x g y q n P per p s) : w.cell? ⟨x, 1, none⟩ = some (.pointer (some ⟨y, 0, none⟩)) := by rw [Whole.at_ h.lb]; rfl
theorem llines_is (h : Lg w x g y q n P per p s) : Calls Tryz.prog 96 #[.pointer (some ⟨x, 0, none⟩)] w fun e w' => e = .returned (.int .i64 (n : Int)) /\ w = w' := by
 have c := h.c1
 have C := jz (tlines_is h.tq)
 clear h
 go_enter Tryz.func96, Tryz.ntmps96
 go_wp2_with fail
 refine (C.out).mono ?_; rintro e w' ⟨rfl, rfl⟩
 go_wp2_with fail
 go_ret
 exact ⟨rfl, rfl⟩
theorem lpend_live {v : Int} (h : Lg w x g y q n P per p s) (hd : s.dark = false) (hr : s.rg 1 = v) : Calls Tryz.prog 93 #[.pointer (some ⟨x, 0, none⟩)] w fun e w' => e = .returned (.tuple #[.int .u64 v, .int .i64 0]) /\ w = w' := by
 have C := jz (reg_yes g s 1 w h.nm (by simp [Nv.rdy, hasR, hd]))
 rw [hr] at C
 have c := h.c0
 clear h hd hr
 go_enter Tryz.func93, Tryz.ntmps93
 go_wp2_with fail
 refine (C.out).mono ?_; rintro e w' ⟨rfl, rfl⟩
 go_wp2_with fail
 go_ret2
 exact ⟨rfl, rfl⟩
theorem behind_any (a n : Int) (r : Bool) (hr : r = true ↔ 16 <= a /\ a < n) (w : World) : Calls Tryz.prog 136 #[.int .i64 a, .int .i64 n] w fun e w' => e = .returned (.bool r) /\ w = w' := by
 by_cases h1 : 16 <= a
 . have i1 : a >= 16 := h1
   by_cases h2 : a < n
   . obtain rfl : r = true := hr.2 ⟨h1, h2⟩
     clear hr
     go_enter Tryz.func136, Tryz.ntmps136
     go_wp2_with fail
     go_ret
     exact ⟨rfl, rfl⟩
   . obtain rfl : r = false := by cases r; rfl; exact absurd (hr.1 rfl).2 h2
     clear hr
     go_enter Tryz.func136, Tryz.ntmps136
     go_wp2_with fail
     go_ret
     exact ⟨rfl, rfl⟩
 . have i1 : ¬ a >= 16 := h1
   obtain rfl : r = false := by cases r; rfl; exact absurd (hr.1 rfl).1 h1
   clear hr
   go_enter Tryz.func136, Tryz.ntmps136
   go_wp2_with fail
   go_ret
   exact ⟨rfl, rfl⟩
theorem ixl_nat (k : Nat) (hk : k <= 1000) (w : World) : Calls Tryz.prog 138 #[.int .i64 (k : Int)] w fun e w' => e = .returned (.int .i64 (ixN k : Int)) /\ w = w' := by
 have k1 : IntKind.i64.wrap ((k : Int) + 8) = ((k + 8 : Nat) : Int) := by rw [show (k : Int) + 8 = ((k + 8 : Nat) : Int) by omega]; exact i64_nat _ (by omega)
 have k2 : IntKind.i64.wrap (((k + 8 : Nat) : Int) - 1) = ((k + 7 : Nat) : Int) := by rw [show ((k + 8 : Nat) : Int) - 1 = ((k + 7 : Nat) : Int) by omega]; exact i64_nat _ (by omega)
 have k3 : ((k + 7 : Nat) : Int).tdiv 8 = (ixN k : Int) := by unfold ixN; exact tdiv_nat _ _
 have k4 : IntKind.i64.wrap (ixN k : Int) = (ixN k : Int) := i64_nat _ (by unfold ixN; omega)
 generalize ixN k = j at *
 generalize k + 7 = z at *
 generalize k + 8 = z8 at *
 go_enter Tryz.func138, Tryz.ntmps138
 go_wp2_with fail
 go_ret
 exact ⟨rfl, rfl⟩
theorem lg_new (hT : Tq w y g q n per p) (hQ : Lq w q g (n + 1) P) (hN : Nm w g s) (h1 : q ≠ g) (h2 : y ≠ g) (h3 : y ≠ q) (hn : 17 <= n) :
 Calls Tryz.prog 27 #[.pointer (some ⟨g, 0, none⟩), .pointer (some ⟨y, 0, none⟩)] w fun e w' => ∃ x, e = .returned (.pointer (some ⟨x, 0, none⟩)) /\ w.heap.size <= x /\ Lg w' x g y q n P per p s /\ Below w.heap.size w w' := by
 have C := jz (tlines_is hT)
 have i1 : ¬ (n : Int) <= 16 := by omega
 obtain ⟨W, hW⟩ : ∃ W, w.alloc (.cells #[.pointer (some ⟨g, 0, none⟩), .pointer (some ⟨y, 0, none⟩)] 99) = W := ⟨_, rfl⟩
 have LW : Hid (Lg W w.heap.size g y q n P per p s /\ Below w.heap.size w W) := jz (by
  rw [<- hW]
  exact ⟨⟨heap_alloc_last w _, hT.alloc _, hQ.alloc _, hN.alloc _, h1, h2, h3, by have := hN.lt; omega, by have := hT.lt; omega⟩, bal (Below.refl _ _)⟩)
 clear hT hQ hN h1 h2 h3 hn
 go_enter Tryz.func27, Tryz.ntmps27
 go_wp2_with fail
 refine (C.out).mono ?_; rintro e w' ⟨rfl, rfl⟩
 go_wp2_with fail
 go_ret
 exact ⟨_, rfl, Nat.le_refl _, LW.out⟩
theorem pd_live {v : Int} (r : Bool) (h : Lg w x g y q n P per p s) (hd : s.dark = false) (hr : s.rg 1 = v) (hv : r = true ↔ v ≠ 0) : Calls Tryz.prog 147 #[.pointer (some ⟨x, 0, none⟩)] w fun e w' => e = .returned (.bool r) /\ w = w' := by
 have C := jz (lpend_live h hd hr)
 clear h hd hr
 by_cases h0 : v = 0
 . obtain rfl : r = false := by cases r; rfl; exact absurd h0 (hv.1 rfl)
   subst h0
   clear hv
   go_enter Tryz.func147, Tryz.ntmps147
   go_wp2_with fail
   refine (C.out).mono ?_; rintro e w' ⟨rfl, rfl⟩
   go_wp2_with fail
   go_ret
   exact ⟨rfl, rfl⟩
 . obtain rfl : r = true := hv.2 h0
   have b0 : (v != 0) = true := bne_iff_ne.2 h0
   clear hv
   go_enter Tryz.func147, Tryz.ntmps147
   go_wp2_with fail
   refine (C.out).mono ?_; rintro e w' ⟨rfl, rfl⟩
   go_wp2_with fail
   go_ret
   exact ⟨rfl, rfl⟩
end
theorem same_is {B : Nat} {ci : Int} {x : Hm} {W : World} (hc : W.cell? ⟨B, 0, none⟩ = some (.int .i64 ci)) (h8 : x.l.length = 8) (r : Bool) (hr : r = true ↔ x.i = ci) :
 Calls Tryz.prog 135 #[.agg (hmc x), .pointer (some ⟨B, 0, none⟩)] W fun e w' => e = .returned (.bool r) /\ Below W.heap.size W w' := by
 obtain ⟨W2, hW, H⟩ := home_boxed W h8
 have d0 := H.out.1.slot
 have hB := World.block_lt_of_cell? _ _ hc
 have c1 := (H.out.2.cell (p := ⟨B, 0, none⟩) hB).trans hc
 obtain ⟨xi, hx⟩ : ∃ xi, x.i = xi := ⟨_, rfl⟩
 rw [hx] at d0 hr
 clear hx hc
 by_cases h : xi = ci
 . obtain rfl : r = true := hr.2 h
   subst h
   clear hr
   go_enter Tryz.func135, Tryz.ntmps135
   go_wp2_with fail
   go_ret
   exact ⟨rfl, H.out.2⟩
 . obtain rfl : r = false := by cases r; rfl; exact absurd (hr.1 rfl) h
   have b0 : (xi == ci) = false := beq_eq_false_iff_ne.2 h
   clear hr
   go_enter Tryz.func135, Tryz.ntmps135
   go_wp2_with fail
   go_ret
   exact ⟨rfl, H.out.2⟩
theorem idxf_is {B n cap : Nat} {p : Option Addr} {ci : Int} {l : List Hm} {w : World} (hc : w.cell? ⟨B, 0, none⟩ = some (.int .i64 ci)) (hv : RA homeE w (.slice p n cap) l) :
 Calls Tryz.prog 166 #[.slice p n cap, .func (.func 135) #[] #[.pointer (some ⟨B, 0, none⟩)]] w fun e w' =>
  (∃ i : Int, e = .returned (.int .i64 i) /\ (0 <= i ↔ ∃ x ∈ l, x.i = ci)) /\ Below w.heap.size w w' := by
 obtain ⟨p', cap', e0, hlc, hcm⟩ := ra_shape hv
 cases e0
 unfold maxLen at hcm
 have eg : ∀ args w, (callFunc 135 args).run Tryz.prog w = .ok (.enter 135 args) w := Go.Proofs.enters_of Tryz.func135 (by kernel_rfl) rfl
 have HV := jz hv
 have HC := jz hc
 have HM := jz (And.intro hlc hcm)
 clear hv hc hlc hcm
 go_enter Tryz.func166, Tryz.ntmps166
 go_wp2
 go_loopw [8] (fun i wr => ∃ k : Nat, k <= l.length /\ i = .int .i64 k /\ Hid ((∀ x ∈ l.take k, x.i ≠ ci) /\ Below w.heap.size w wr)) (fun i _ => l.length - (intOf i).toNat)
 case atStart => exact ⟨0, Nat.zero_le _, rfl, jz ⟨fun x hx => by simp at hx, Below.refl _ _⟩⟩
 case round =>
  obtain ⟨k, hk, rfl, H⟩ := hrel
  by_cases hlt : k < l.length
  . obtain ⟨b, off, e, _, hx⟩ := home_at (ra_below HV.out H.out.2) (by omega)
    subst e
    obtain ⟨hl, _, _, hwf⟩ := hx k hlt
    obtain ⟨X, hX⟩ : ∃ X, l.getD k default = X := ⟨_, rfl⟩
    rw [hX] at hl hwf
    have hcw := (H.out.2.cell (p := ⟨B, 0, none⟩) (World.block_lt_of_cell? _ _ HC.out)).trans HC.out
    have i0 : (0 : Int) <= (k : Int) := by omega
    have i3 : (k : Int) < (l.length : Int) := by omega
    have i4 : ¬ (k : Int) < 0 := by omega
    have j0 : IntKind.i64.wrap ((k : Int) + 1) = ((k + 1 : Nat) : Int) := by rw [show (k : Int) + 1 = ((k + 1 : Nat) : Int) by omega]; exact i64_nat _ (by have := HM.out; omega)
    have HK := jz hlt
    have HX : Hid (X ∈ l /\ l.take (k + 1) = l.take k ++ [X]) := jz ⟨by rw [<- hX]; exact getD_memH hlt, by rw [List.take_add_one, <- hX, List.getD_eq_getElem?_getD, List.getElem?_eq_getElem hlt]; rfl⟩
    have h8 := hwf.len
    have KS := jz fun (r : Bool) (hr : r = true ↔ X.i = ci) => same_is hcw h8 r hr
    clear hx hX hwf hlt hk hcw
    by_cases hi : X.i = ci
    . have hcall := KS.out true ⟨fun _ => hi, fun _ => rfl⟩
      have HI := jz hi
      clear hi
      go_wp2_with fail
      refine hcall.mono ?_; rintro e w' ⟨rfl, hb'⟩
      go_wp2
      go_ret
      exact ⟨⟨_, rfl, fun _ => ⟨X, HX.out.1, HI.out⟩, fun _ => by omega⟩, below_more H.out.2 hb'⟩
    . have hcall := KS.out false ⟨fun h => (by cases h), fun h => absurd h hi⟩
      have HI := jz hi
      clear hi
      go_wp2_with fail
      refine hcall.mono ?_; rintro e w' ⟨rfl, hb'⟩
      go_wp2
      have HB := jz (below_more H.out.2 hb')
      clear hb'
      go_roundw
      case rel => exact ⟨k + 1, by have := HK.out; omega, by go_num, jz ⟨fun x hx => by
       rw [HX.out.2, List.mem_append] at hx
       rcases hx with hx | hx
       . exact H.out.1 x hx
       . rw [List.mem_singleton.1 hx]; exact HI.out, HB.out⟩⟩
      case measure => have := HK.out; simp [intOf]; omega
  . obtain rfl : k = l.length := by omega
    go_wp2
    go_ret
    exact ⟨⟨_, rfl, fun h => absurd h (by decide), fun ⟨x, hx, e⟩ => absurd e (H.out.1 x (by rw [List.take_length]; exact hx))⟩, H.out.2⟩
theorem cfn_is {B n cap : Nat} {p : Option Addr} {ci : Int} {l : List Hm} {w : World} (r : Bool) (hr : r = true ↔ ∃ x ∈ l, x.i = ci) (hc : w.cell? ⟨B, 0, none⟩ = some (.int .i64 ci)) (hv : RA homeE w (.slice p n cap) l) :
 Calls Tryz.prog 137 #[.slice p n cap, .func (.func 135) #[] #[.pointer (some ⟨B, 0, none⟩)]] w fun e w' => e = .returned (.bool r) /\ Below w.heap.size w w' := by
 have C := jz (idxf_is hc hv)
 have HR := jz hr
 clear hc hv hr
 go_enter Tryz.func137, Tryz.ntmps137
 go_wp2_with fail
 refine (C.out).mono ?_; rintro e w' ⟨⟨i, rfl, hi⟩, hb⟩
 by_cases h : 0 <= i
 . have i1 : i >= 0 := h
   obtain rfl : r = true := HR.out.2 (hi.1 h)
   clear hi
   go_wp2_with fail
   go_ret
   exact ⟨rfl, hb⟩
 . have i1 : ¬ i >= 0 := h
   have i2 : i < 0 := by omega
   have i3 : decide (0 <= i) = false := decide_eq_false h
   obtain rfl : r = false := by cases r; rfl; exact absurd (hi.2 (HR.out.1 rfl)) h
   clear hi
   go_wp2_with fail
   go_ret
   exact ⟨rfl, hb⟩
theorem lmay_is (n : Int) (v : Value) (l : List Hm) (r : Bool) (w : World) (hv : RA homeE w v l) (hr : r = true ↔ MayH n l) :
 Calls Tryz.prog 95 #[.int .i64 n, v] w fun e w' => e = .returned (.bool r) /\ Below w.heap.size w w' := by
 have hr := hr.trans mayH_good
 obtain ⟨p, cap, rfl, hlc, hcm⟩ := ra_shape hv
 unfold maxLen at hcm
 by_cases h2 : l.length < 1
 . obtain rfl : r = false := by cases r; rfl; have := (hr.1 rfl).2.1; omega
   clear hr
   have i1 : (l.length : Int) < 1 := by omega
   generalize l.length = L at *
   go_enter Tryz.func95, Tryz.ntmps95
   go_wp2_with fail
   go_ret
   exact ⟨rfl, Below.refl _ _⟩
 have i1 : ¬ (l.length : Int) < 1 := by omega
 by_cases h3 : 14 < l.length
 . obtain rfl : r = false := by cases r; rfl; have := (hr.1 rfl).2.2.1; omega
   have i2 : (l.length : Int) > 14 := by omega
   clear hr h2 h3
   generalize l.length = L at *
   go_enter Tryz.func95, Tryz.ntmps95
   go_wp2_with fail
   go_ret
   exact ⟨rfl, Below.refl _ _⟩
 have i2 : ¬ (l.length : Int) > 14 := by omega
 obtain ⟨b, off, rfl, hb, hx⟩ := home_at hv (by omega)
 have HR : Hid (r = true ↔ GoodH n l l.length) := jz ⟨fun h => (hr.1 h).2.2.2, fun h => hr.2 ⟨by have := (h 0 (by omega)).1; omega, by omega, by omega, h⟩⟩
 have HC := jz hlc
 have HL : Hid (l.length <= 14) := jz (by omega)
 have HM := jz hcm
 have HV := jz hv
 clear hr hx hlc hcm hb hv h2 h3
 go_enter Tryz.func95, Tryz.ntmps95
 go_wp2
 go_loopw [18] (fun i wr => ∃ k : Nat, k <= l.length /\ i = .int .i64 k /\ Hid (GoodH n l k /\ Below w.heap.size w wr)) (fun i _ => l.length - (intOf i).toNat)
 case atStart => exact ⟨0, Nat.zero_le _, rfl, jz ⟨fun i hi => by omega, Below.refl _ _⟩⟩
 case round =>
  obtain ⟨k, hk, rfl, H⟩ := hrel
  by_cases hlt : k < l.length
  . obtain ⟨b', off', e, _, hx⟩ := home_at (ra_below HV.out H.out.2) (by omega)
    cases e
    obtain ⟨hl, _, _, hwf⟩ := hx k hlt
    obtain ⟨x, hx0⟩ : ∃ x, l.getD k default = x := ⟨_, rfl⟩
    rw [hx0] at hl hwf
    obtain ⟨W, hW, HW⟩ := home_boxed wr hwf.len
    have c0 := HW.out.1.slot
    have hw8 := hwf.len
    have HBW := jz (below_more H.out.2 HW.out.2)
    have i0 : (0 : Int) <= (k : Int) := by omega
    have i3 : (k : Int) < (l.length : Int) := by omega
    have i4 : ¬ (k : Int) < 0 := by omega
    have j0 : IntKind.i64.wrap ((k : Int) + 1) = ((k + 1 : Nat) : Int) := by rw [show (k : Int) + 1 = ((k + 1 : Nat) : Int) by omega]; exact i64_nat _ (by have := HL.out; omega)
    have KF : Hid (∀ i, l.getD k default = i -> ((16 <= i.i /\ i.i < n) /\ ∀ j, j < k -> i.i ≠ (l.getD j default).i) -> GoodH n l (k + 1)) := jz (by
     rintro i rfl h j hj
     by_cases e : j = k
     . subst e; exact h
     . exact H.out.1 j (by omega))
    have KN : Hid (r = true -> (16 <= x.i /\ x.i < n) /\ ∀ j, j < k -> x.i ≠ (l.getD j default).i) := jz (by
     intro h; have := HR.out.1 h k hlt; rw [hx0] at this; exact this)
    have HX0 := jz hx0
    have HK := jz hlt
    have HT : Hid (RA homeE W (.slice (some ⟨b, off, none⟩) k cap) (l.take k)) := jz (by
     have := ra_take (ra_below HV.out HBW.out) k
     rw [show min k l.length = k by omega] at this; exact this)
    have HTE : Hid (∀ xi, (∃ y ∈ l.take k, y.i = xi) ↔ ∃ j, j < k /\ (l.getD j default).i = xi) := jz fun xi => by
     constructor
     . rintro ⟨y, hy, e⟩
       obtain ⟨j, hj, rfl⟩ := mem_getD hy
       rw [List.length_take] at hj
       refine ⟨j, by omega, ?_⟩
       rw [<- e, List.getD_eq_getElem?_getD, List.getD_eq_getElem?_getD, List.getElem?_take, if_pos (by omega)]
     . rintro ⟨j, hj, e⟩
       refine ⟨l.getD j default, ?_, e⟩
       have : (l.take k).getD j default = l.getD j default := by rw [List.getD_eq_getElem?_getD, List.getD_eq_getElem?_getD, List.getElem?_take, if_pos hj]
       rw [<- this]
       exact getD_memH (by rw [List.length_take]; omega)
    obtain ⟨xi, hxi⟩ : ∃ z, x.i = z := ⟨_, rfl⟩
    rw [hxi] at c0
    have HE := jz hxi
    have i5 : (k : Int) <= (cap : Int) := by have := HC.out; omega
    have i6 : ¬ (cap : Int) < (k : Int) := by omega
    clear hx hwf hx0 hk hxi
    by_cases hbh : 16 <= xi /\ xi < n
    . have BC := jz (behind_any xi n true ⟨fun _ => hbh, fun _ => rfl⟩ W)
      have HBH := jz hbh
      clear hbh
      obtain ⟨rr, hrr⟩ : ∃ rr : Bool, rr = true ↔ ∃ y ∈ l.take k, y.i = xi := by
       by_cases hm : ∃ y ∈ l.take k, y.i = xi
       . exact ⟨true, fun _ => hm, fun _ => rfl⟩
       . exact ⟨false, fun e => (by cases e), fun e => absurd e hm⟩
      have CC := jz (cfn_is rr hrr c0 HT.out)
      have HRR := jz hrr
      clear hrr hlt
      go_wp2_with fail
      refine (BC.out).mono ?_; rintro e w' ⟨rfl, rfl⟩
      go_wp2_with fail
      refine (CC.out).mono ?_; rintro e w2 ⟨rfl, hb2⟩
      have HB2 := jz (below_more HBW.out hb2)
      clear hb2
      cases rr
      . have GK : Hid (GoodH n l (k + 1)) := jz (KF.out x HX0.out ⟨by rw [HE.out]; exact HBH.out, fun j hj e => by
         have := HRR.out.2 ((HTE.out xi).2 ⟨j, hj, e.symm.trans HE.out⟩)
         cases this⟩)
        go_wp2
        go_roundw
        case rel => exact ⟨k + 1, by have := HK.out; omega, by go_num, jz ⟨GK.out, HB2.out⟩⟩
        case measure => have := HK.out; simp [intOf]; omega
      . obtain rfl : r = false := by
         cases r
         . rfl
         . obtain ⟨j, hj, e⟩ := (HTE.out xi).1 (HRR.out.1 rfl)
           exact absurd (HE.out.trans e.symm) ((KN.out rfl).2 j hj)
        go_wp2
        go_ret
        exact ⟨rfl, HB2.out⟩
    . obtain rfl : r = false := by cases r; rfl; exact absurd (by rw [<- HE.out]; exact (KN.out rfl).1) hbh
      have BC := jz (behind_any xi n false ⟨fun h => (by cases h), fun h => absurd h hbh⟩ W)
      clear hbh hlt
      go_wp2_with fail
      refine (BC.out).mono ?_; rintro e w' ⟨rfl, rfl⟩
      go_wp2
      go_ret
      exact ⟨rfl, HBW.out⟩
  . obtain rfl : k = l.length := by omega
    obtain rfl : r = true := HR.out.2 H.out.1
    go_wp2
    go_ret
    exact ⟨rfl, H.out.2⟩
section
variable {P : Program} {α : Type} [Inhabited α]
theorem OwnA.setPart {E : Elm P α} {B g n c : Nat} {w : World} {l : List α} (h : OwnA E B w (.slice (some ⟨g, 0, none⟩) n c) l) {k o : Nat} {x : α} {cs : List Value} (hk : k < l.length) (ho : o + cs.length <= E.size) (hx : E.ok x)
 (he : ∀ j, j < E.size -> (E.enc x)[j]? = if o <= j /\ j < o + cs.length then cs[j - o]? else (E.enc (l.getD k default))[j]?) :
 OwnA E B (w.setCells g (k * E.size + o) cs) (.slice (some ⟨g, 0, none⟩) n c) (l.set k x) := by
 have hok : AllOk E (l.set k x) := fun y hy => by
  rcases List.mem_or_eq_of_mem_set hy with hy | rfl
  . exact h.2 y hy
  . exact hx
 obtain ⟨⟨hl, h0 | ⟨g', cap, cur, e, hb, hg, hnc, hcm, hsz, htk⟩⟩, hal⟩ := h
 . cases h0.1
 cases e
 obtain ⟨cur', w1, w2, w3⟩ := Whole.setCells cs (k * E.size + o) w cur (show Whole w g E.e cur from hg)
 have hlt : (k + 1) * E.size <= l.length * E.size := Nat.mul_le_mul_right _ hk
 have hcap : l.length * E.size <= c * E.size := Nat.mul_le_mul_right _ hnc
 have hcur : cur'.toList.length = c * E.size := by rw [Array.length_toList, w2, hsz]
 rw [Nat.add_mul] at hlt
 refine ⟨⟨by rw [flat_length E _ hok], .inr ⟨g, c, cur', by rw [List.length_set], hb, w1, by rw [List.length_set]; exact hnc, hcm, by rw [w2]; exact hsz, ?_⟩⟩, hok⟩
 rw [List.length_set]
 refine flat_ext E hok (by rw [List.length_take, hcur, List.length_set]; omega) fun k' j' hk' hj' => ?_
 rw [List.length_set] at hk'
 have hlt' : (k' + 1) * E.size <= l.length * E.size := Nat.mul_le_mul_right _ hk'
 rw [Nat.add_mul] at hlt'
 rw [List.getElem?_take, if_pos (by omega), Array.getElem?_toList, w3]
 have old : cur[k' * E.size + j']? = (E.enc (l.getD k' default))[j']? := by rw [<- flat_get E l hal _ _ hk' hj', <- htk, List.getElem?_take, if_pos (by omega), Array.getElem?_toList]
 by_cases hkk : k = k'
 . subst hkk
   have eg : (l.set k x).getD k default = x := by simp [hk]
   rw [eg, he _ hj', old]
   by_cases hr : o <= j' /\ j' < o + cs.length
   . rw [if_pos hr, if_pos (by omega), show k * E.size + j' - (k * E.size + o) = j' - o by omega]
   . rw [if_neg hr, if_neg (by omega)]
 . have eg : (l.set k x).getD k' default = l.getD k' default := by simp [hkk]
   rw [eg, old, if_neg]
   intro q
   rcases Nat.lt_or_gt_of_ne hkk with h1 | h1
   . have : (k + 1) * E.size <= k' * E.size := Nat.mul_le_mul_right _ h1
     rw [Nat.add_mul] at this; omega
   . have : (k' + 1) * E.size <= k * E.size := Nat.mul_le_mul_right _ h1
     rw [Nat.add_mul] at this; omega
end
def Oh (B : Nat) (w : World) (b k c : Nat) (f : Nat -> Hm) : Prop := OwnA homeE B w (.slice (some ⟨b, 0, none⟩) k c) ((List.range k).map f)
theorem oh_getD {k j : Nat} {f : Nat -> Hm} (hj : j < k) : ((List.range k).map f).getD j default = f j := by simp [hj]
section
variable {B b k c : Nat} {w w' : World} {f f' : Nat -> Hm}
theorem Oh.wf (h : Oh B w b k c f) {j : Nat} (hj : j < k) : (f j).Wf := by
 have := h.2.at_ (k := j) (by simpa using hj)
 rw [oh_getD hj] at this; exact this
theorem Oh.as (h : Oh B w b k c f) (he : ∀ i, i < k -> f' i = f i) : Oh B w b k c f' := by
 have e : (List.range k).map f' = (List.range k).map f := List.map_congr_left fun i hi => he i (List.mem_range.1 hi)
 unfold Oh; rw [e]; exact h
theorem Oh.below (h : Oh B w b k c f) (hb : Below w.heap.size w w') : Oh B w' b k c f := OwnA.below h hb
theorem Oh.ra (h : Oh B w b k c f) : RA homeE w (.slice (some ⟨b, 0, none⟩) k c) ((List.range k).map f) := OwnA.ra h
theorem Oh.free (h : Oh B w b k c f) (j : Nat) : w.frozen? ⟨b, j, none⟩ = false := OwnA.free h j
theorem Oh.row (h : Oh B w b k c f) {j : Nat} (hj : j < k) : w.rangeAt b (j * 9) (f j).cells := by
 obtain ⟨b', off, e, _, hx⟩ := ra_at h.ra (by simp; omega)
 cases e
 have := hx j (by simpa using hj)
 rw [oh_getD hj, Nat.zero_add] at this
 exact this
theorem Oh.cell (h : Oh B w b k c f) {j : Nat} (hj : j < k) : w.cell? ⟨b, j * 9, none⟩ = some (.int .i64 (f j).i) := (h.row hj) 0 _ rfl
theorem oh_set {j : Nat} {x : Hm} : ((List.range k).map f).set j x = (List.range k).map (upd f j x) := by
 refine List.ext_getElem (by simp) fun i h1 h2 => ?_
 rw [List.getElem_set]
 simp only [List.getElem_map, List.getElem_range, upd]
 split
 . rename_i e; rw [if_pos e.symm]
 . rename_i e; rw [if_neg fun q => e q.symm]
theorem Oh.num (h : Oh B w b k c f) {j : Nat} (hj : j < k) {v : Int} (hv : (Lit.int .i64 v).wf = true) : Oh B (w.setCell ⟨b, j * 9, none⟩ (.int .i64 v)) b k c (upd f j ⟨v, (f j).l⟩) := by
 have hw := h.wf hj
 have := OwnA.setCell (k := j) (j := 0) (x := ⟨v, (f j).l⟩) (u := .int .i64 v) h (by simpa using hj) (by decide) ⟨hw.len, hv⟩ (by rw [oh_getD hj]; rfl)
 rw [oh_set] at this
 exact this
theorem Oh.line (h : Oh B w b k c f) {j : Nat} (hj : j < k) {l : List Int} (hl : l.length = 8) :
 (lineStore (.pointer (some ⟨b, j * 9 + 1, none⟩)) (.agg (lc l))).run Tryz.prog w = .ok () (w.setCells b (j * 9 + 1) (l.map uv)) /\ Oh B (w.setCells b (j * 9 + 1) (l.map uv)) b k c (upd f j ⟨(f j).i, l⟩) := by
 have hw := h.wf hj
 constructor
 . unfold lineStore
   rw [run_storeAt_mid (P := Tryz.prog) w b (j * 9 + 1) 52 (lc l) (fun i hi => ?_) (by rw [info_line, lc_size, hl]) (lc_one l)]
   . simp [lc]
   . rw [lc_size, hl] at hi
     refine ⟨?_, h.free _⟩
     have := (h.row hj) (1 + i) _ (Hm.cells_l hw.len hi)
     rw [<- Nat.add_assoc] at this
     rw [this]; rfl
 . have := OwnA.setPart (k := j) (o := 1) (x := ⟨(f j).i, l⟩) (cs := l.map uv) h (by simpa using hj) (by rw [List.length_map, hl]; decide) ⟨hl, hw.wi⟩ (fun i hi => by
    rw [oh_getD hj, List.length_map, hl]
    have hi : i < 9 := hi
    match i, hi with
    | 0, _ => rfl
    | i + 1, hi =>
      rw [if_pos (by omega)]
      show (Hm.cells ⟨(f j).i, l⟩)[i + 1]? = _
      simp [Hm.cells])
   rw [oh_set] at this
   exact this
end
theorem run_make_homes (n : Nat) (hn : n <= 200) (kd : IntKind) (w : World) :
 (Instr.makeSlice 100 (.int kd (n : Int)) (.int kd (n : Int))).run Tryz.prog w = .ok (.slice (some ⟨w.heap.size, 0, none⟩) n n) (w.alloc (.cells (madeCells homeE.z.cells (n * 9)) 148)) := by
 obtain ⟨i, hi, hzz⟩ := Option.map_eq_some_iff.1 homeE.hi
 simp only [Prod.mk.injEq] at hzz
 obtain ⟨hz, hs, hb⟩ := hzz
 have e72 : homeE.bytes = 72 := rfl
 have := run_make (P := Tryz.prog) w 100 148 i _ Tryz.underlying100 hi hz kd kd n n (by omega) (by omega) (by rw [hb, e72]; omega) (by omega)
 rw [Int.toNat_natCast, hs] at this
 exact this
theorem oh_made (w : World) (n : Nat) (hn : n <= 200) : Oh w.heap.size (w.alloc (.cells (madeCells homeE.z.cells (n * 9)) 148)) w.heap.size n n (fun _ => ⟨0, zeros⟩) := by
 have := own_made_a homeE w n (by unfold maxLen; omega) (x := ⟨0, zeros⟩) ⟨rfl, by decide⟩ rfl
 unfold Oh
 rw [show (List.range n).map (fun _ => (⟨0, zeros⟩ : Hm)) = List.replicate n ⟨0, zeros⟩ by rw [List.map_const', List.length_range]]
 exact this
def rdI (t : Nat -> List Int) (i j : Nat) : Hm := if j < i then ⟨ixW t j, zeros⟩ else ⟨0, zeros⟩
theorem rdI_step (t : Nat -> List Int) (i j : Nat) : rdI t (i + 1) j = upd (rdI t i) i ⟨ixW t i, zeros⟩ j := by
 unfold rdI upd
 by_cases e : j = i
 . subst e; rw [if_pos (by omega), if_pos rfl]
 . rw [if_neg e]; dsimp only
   by_cases h : j < i
   . rw [if_pos h, if_pos (by omega)]
   . rw [if_neg h, if_neg (by omega)]
theorem ridx_is {x g y q n P per p b k c B : Nat} {s : Nv} {w : World} {t : Nat -> List Int} (ht : th s n P = t) (h : Lg w x g y q n P per p s) (L : LgOk s n P) (hd : s.dark = false) (hn : n <= 1000) (hk14 : k <= 14)
 (hI : ∀ i, i < k -> 16 <= ixW t i /\ ixW t i < n) (ho : Oh B w b k c (fun _ => ⟨0, zeros⟩)) (hne : b ≠ x /\ b ≠ g /\ b ≠ y /\ b ≠ q) :
 Calls Tryz.prog 94 #[.pointer (some ⟨x, 0, none⟩), .slice (some ⟨b, 0, none⟩) k c] w fun e w' => e = .returned (.int .i64 0) /\ Oh B w' b k c (rdI t k) /\ Chg [b] w w' := by
 have n17 := L.n17
 have O0 : Hid (Oh B w b k c (rdI t 0)) := jz (ho.as fun i _ => by unfold rdI; rw [if_neg (by omega)])
 have HL := jz h
 have HT := jz (L.g.tok hd)
 have HE := jz ht
 have HI := jz hI
 have HN : Hid (17 <= n /\ n <= 1000 /\ k <= 14) := jz ⟨n17, hn, hk14⟩
 have NE := jz hne
 clear h L hd hI ho hne n17 ht hn hk14
 go_enter Tryz.func94, Tryz.ntmps94
 go_wp2
 go_loopw [10] (fun i wr => ∃ z : Nat, z <= k /\ i = .int .i64 z /\ Hid (Oh B wr b k c (rdI t z) /\ Chg [b] w wr)) (fun i _ => k - (intOf i).toNat)
 case atStart => exact ⟨0, Nat.zero_le _, rfl, jz ⟨O0.out, Chg.refl _ _⟩⟩
 case round =>
  obtain ⟨z, hz, rfl, H⟩ := hrel
  clear O0
  by_cases hlt : z < k
  . have L1 := jz (HL.out.chg H.out.2 (by simpa using NE.out.1.symm) (by simpa using NE.out.2.1.symm) (by simpa using NE.out.2.2.1.symm) (by simpa using NE.out.2.2.2.symm))
    have c1 := L1.out.c1
    obtain ⟨Y, hY⟩ : ∃ Y, t (z / 8) = Y := ⟨_, rfl⟩
    have h8 : Y.length = 8 := by rw [<- hY, <- HE.out]; exact th_wide HT.out.l.ok _ _ _
    have GC := jz (tget_is (a := z / 8) (y := Y) (by rw [<- hY, <- HE.out]; rfl) HT.out HN.out.2.1 (by have := HN.out; omega) L1.out.tq L1.out.lq L1.out.nm)
    obtain ⟨v, hv⟩ : ∃ v, Y.getD (z % 8) 0 = v := ⟨_, rfl⟩
    have hvi : ixW t z = v := by unfold ixW; rw [hY, hv]
    have hvb := HI.out z hlt
    rw [hvi] at hvb
    have i0 : (0 : Int) <= (z : Int) := by omega
    have i3 : (z : Int) < (k : Int) := by omega
    have i4 : ¬ (z : Int) < 0 := by omega
    have j0 : IntKind.i64.wrap ((z : Int) + 1) = ((z + 1 : Nat) : Int) := by rw [show (z : Int) + 1 = ((z + 1 : Nat) : Int) by omega]; exact i64_nat _ (by have := HN.out; omega)
    have j1 : (z : Int).tdiv 8 = ((z / 8 : Nat) : Int) := tdiv_nat _ _
    have j2 : IntKind.i64.wrap ((z / 8 : Nat) : Int) = ((z / 8 : Nat) : Int) := i64_nat _ (by have := HN.out; omega)
    have j3 : (z : Int).tmod 8 = ((z % 8 : Nat) : Int) := tmod_nat _ _
    have j4 : IntKind.i64.wrap ((z % 8 : Nat) : Int) = ((z % 8 : Nat) : Int) := i64_nat _ (by omega)
    have j5 : (0 : Int) <= ((z % 8 : Nat) : Int) := by omega
    have j6 : ((z % 8 : Nat) : Int) < 8 := by omega
    have j7 : ¬ ((z % 8 : Nat) : Int) < 0 := by omega
    have r8 : z % 8 < 8 := by omega
    have m0 : min v 9223372036854775807 = v := by have := HN.out; omega
    have m1 : v < 9223372036854775807 := by have := HN.out; omega
    have m2 : v <= 9223372036854775807 := by omega
    have m3 : IntKind.i64.wrap v = v := by
     have := HN.out
     rw [show v = ((v.toNat : Nat) : Int) by omega]; exact i64_nat _ (by omega)
    have m4 : (Lit.int .i64 v).wf = true := by
     have := HN.out
     simp [Lit.wf, IntKind.min, IntKind.max, IntKind.signed, IntKind.bits]; omega
    have HK := jz hlt
    have VI := jz hvi
    have ZI : Hid (rdI t z z = ⟨0, zeros⟩) := jz (by unfold rdI; rw [if_neg (by omega)])
    have M4 := jz m4
    clear hY hvi hvb hlt hz m4
    generalize z / 8 = za at *
    generalize hzr : z % 8 = zr at *
    clear hzr
    go_wp2_with fail
    refine (GC.out).mono ?_; rintro e w1 ⟨rfl, hb⟩
    obtain ⟨W, hW, H1⟩ := boxed1 w1 h8
    have OW := jz ((H.out.1.below hb).below H1.out.2)
    have CW := jz ((H.out.2.trans (Chg.of_below hb [b])).trans (Chg.of_below H1.out.2 [b]))
    obtain ⟨d0, _⟩ := H1.out.1.cell r8
    rw [hv] at d0
    have e0 := OW.out.cell HK.out
    rw [ZI.out] at e0
    have f0 := OW.out.free (z * 9)
    obtain ⟨V, hV⟩ : ∃ V, W.setCell ⟨b, z * 9, none⟩ (.int .i64 v) = V := ⟨_, rfl⟩
    have OV : Hid (Oh B V b k c (rdI t (z + 1)) /\ Chg [b] w V) := jz (by
     refine ⟨?_, ?_⟩
     . have := OW.out.num HK.out M4.out
       rw [hV, ZI.out] at this
       refine this.as fun i _ => ?_
       rw [rdI_step, VI.out]
     . rw [<- hV]
       exact CW.out.setCell (.inl (by simp)) _)
    clear hb c1 hv
    go_wp2
    exact ⟨⟨z + 1, by have := HK.out; omega, by go_num, OV⟩, by have := HK.out; simp [intOf]; omega⟩
  . obtain rfl : z = k := by omega
    go_wp2
    go_ret
    exact ⟨rfl, H.out⟩
structure Kept (p : Prop) : Prop where
 out : p
def IsLn (w : World) (g : Nat) : Prop := ∃ l, Ln w g l
theorem size_drew (w : World) : w.drew.heap.size = w.heap.size := rfl
theorem IsLn.new (w : World) {l : List Int} (h : l.length = 8) : IsLn (w.alloc (.cells (lc l) 52)) w.heap.size := ⟨l, Ln.new w h⟩
theorem IsLn.fresh (w : World) (g : Nat) {l : List Int} (e : g = w.heap.size) (h : l.length = 8) : IsLn (w.alloc (.cells (lc l) 52)) g := by subst e; exact IsLn.new w h
theorem IsLn.up {w : World} {g : Nat} (h : IsLn w g) (o : Obj) : IsLn (w.alloc o) g := h.elim fun l h => ⟨l, h.alloc o⟩
theorem IsLn.call {w w' : World} {g : Nat} (hb : Below w.heap.size w w') (h : IsLn w g) : IsLn w' g := h.elim fun l h => ⟨l, h.below hb⟩
theorem IsLn.drew {w : World} {g : Nat} (h : IsLn w g) : IsLn w.drew g := h
theorem IsLn.row {w : World} {g g' : Nat} {c : List Int} (h : IsLn w g) (hc : c.length = 8) : IsLn (w.setRow g' (lc c)) g := by
 obtain ⟨l, h⟩ := h
 by_cases e : g = g'
 . subst e; exact ⟨c, h.put hc⟩
 . exact ⟨l, h.past e⟩
theorem run_store_is {w : World} {g : Nat} {x : List Int} (h : IsLn w g) (hx : x.length = 8) : (lineStore (.pointer (some ⟨g, 0, none⟩)) (.agg (lc x))).run Tryz.prog w = .ok () (w.setRow g (lc x)) :=
 h.elim fun _ h => h.store hx
theorem put_ln {w : World} {g : Nat} {x : List Int} (h : IsLn w g) (hx : x.length = 8) : Ln (w.setRow g (lc x)) g x := h.elim fun _ h => h.put hx
theorem Ln.fresh (w : World) (g : Nat) {l : List Int} (e : g = w.heap.size) (h : l.length = 8) : Ln (w.alloc (.cells (lc l) 52)) g l := by subst e; exact Ln.new w h
theorem put_at {w : World} {g g' : Nat} {x : List Int} (e : g = g') (h : IsLn w g) (hx : x.length = 8) : Ln (w.setRow g' (lc x)) g x := by subst e; exact put_ln h hx
theorem Ln.drew {w : World} {g : Nat} {l : List Int} (h : Ln w g l) : Ln w.drew g l := h
def rdD (t : Nat -> List Int) (k i j : Nat) : Hm := ⟨ixW t j, if j < i then t (ixN k + j) else zeros⟩
theorem rdD_step (t : Nat -> List Int) (k i j : Nat) : rdD t k (i + 1) j = upd (rdD t k i) i ⟨ixW t i, t (ixN k + i)⟩ j := by
 unfold rdD upd
 by_cases e : j = i
 . subst e; rw [if_pos (by omega), if_pos rfl]
 . rw [if_neg e]; dsimp only
   by_cases h : j < i
   . rw [if_pos h, if_pos (by omega)]
   . rw [if_neg h, if_neg (by omega)]
theorem rdat_is {x g y q n P per p b k c B : Nat} {s : Nv} {w : World} {t : Nat -> List Int} (ht : th s n P = t) (h : Lg w x g y q n P per p s) (L : LgOk s n P) (hd : s.dark = false) (hn : n <= 1000) (hk14 : k <= 14)
 (ho : Oh B w b k c (rdI t k)) (hne : b ≠ x /\ b ≠ g /\ b ≠ y /\ b ≠ q) :
 Calls Tryz.prog 97 #[.pointer (some ⟨x, 0, none⟩), .slice (some ⟨b, 0, none⟩) k c] w fun e w' => e = .returned (.int .i64 0) /\ Oh B w' b k c (rdD t k k) /\ Chg [b] w w' := by
 have n17 := L.n17
 have O0 : Hid (Oh B w b k c (rdD t k 0)) := jz (ho.as fun i hi => by unfold rdD rdI; rw [if_neg (by omega), if_pos hi])
 have HL := jz h
 have HT := jz (L.g.tok hd)
 have HE := jz ht
 have HN : Hid (17 <= n /\ n <= 1000 /\ k <= 14) := jz ⟨n17, hn, hk14⟩
 have NE := jz hne
 have IC := jz (ixl_nat k (by omega))
 have XB : Hid (ixN k <= 2) := jz (by unfold ixN; omega)
 clear h L hd ho hne n17 ht hn hk14
 go_enter Tryz.func97, Tryz.ntmps97
 go_wp2
 go_loopw [10] (fun i wr => ∃ z : Nat, z <= k /\ i = .int .i64 z /\ Hid (Oh B wr b k c (rdD t k z) /\ Chg [b] w wr)) (fun i _ => k - (intOf i).toNat)
 case atStart => exact ⟨0, Nat.zero_le _, rfl, jz ⟨O0.out, Chg.refl _ _⟩⟩
 case round =>
  obtain ⟨z, hz, rfl, H⟩ := hrel
  clear O0
  by_cases hlt : z < k
  . have L1 := jz (HL.out.chg H.out.2 (by simpa using NE.out.1.symm) (by simpa using NE.out.2.1.symm) (by simpa using NE.out.2.2.1.symm) (by simpa using NE.out.2.2.2.symm))
    have c1 : ∀ w' : World, Kept (Below wr.heap.size wr w') -> w'.cell? ⟨x, 1, none⟩ = some (.pointer (some ⟨y, 0, none⟩)) := fun w' hb => (L1.out.below hb.out).c1
    obtain ⟨Y, hY⟩ : ∃ Y, t (ixN k + z) = Y := ⟨_, rfl⟩
    have h8 : Y.length = 8 := by rw [<- hY, <- HE.out]; exact th_wide HT.out.l.ok _ _ _
    have GC := jz fun (w' : World) (hb : Kept (Below wr.heap.size wr w')) => tget_is (a := ixN k + z) (y := Y) (by rw [<- hY, <- HE.out]; rfl) HT.out HN.out.2.1 (by have := HN.out; have := XB.out; omega) (L1.out.below hb.out).tq (L1.out.below hb.out).lq (L1.out.below hb.out).nm
    have i0 : (0 : Int) <= (z : Int) := by omega
    have i3 : (z : Int) < (k : Int) := by omega
    have i4 : ¬ (z : Int) < 0 := by omega
    have j0 : IntKind.i64.wrap ((z : Int) + 1) = ((z + 1 : Nat) : Int) := by rw [show (z : Int) + 1 = ((z + 1 : Nat) : Int) by omega]; exact i64_nat _ (by have := HN.out; omega)
    have j1 : IntKind.i64.wrap ((ixN k : Int) + (z : Int)) = ((ixN k + z : Nat) : Int) := by rw [show (ixN k : Int) + (z : Int) = ((ixN k + z : Nat) : Int) by omega]; exact i64_nat _ (by have := HN.out; have := XB.out; omega)
    have HK := jz hlt
    have YE : Hid (∀ i, rdD t k (z + 1) i = upd (rdD t k z) z ⟨ixW t z, Y⟩ i) := jz fun i => by rw [rdD_step, hY]
    have ZI : Hid ((rdD t k z z).i = ixW t z) := jz rfl
    clear hY hlt hz
    generalize ixN k + z = za at *
    generalize hxk : ixN k = xk at *
    go_upto_region 4 with fail
    go_cut [6, 7, 10] from 10 to 34 (fun v6 v7 v10 wx => ∃ g' : Nat, v6 = .pointer (some ⟨g', 0, none⟩) /\ v7 = .int .i64 0 /\ v10 = .int .i64 (z : Int) /\ Hid (Ln wx g' Y /\ Below wr.heap.size wr wx))
    case first =>
     go_region_held3 (fun w' => Kept (Below wr.heap.size wr w'))
      (((refine ⟨?_⟩); (repeat' (with_reducible (first | exact Below.refl _ _ | refine Below.drew ?_ | refine below_more ?_ (by assumption) | refine bal ?_ | refine below_row ?_ ?_ | (simp only [Hid, size_alloc, size_drew] at *; omega))))))
      (first
        | (go_at_call 138; refine (IC.out _).mono ?_; rintro e wq ⟨rfl, rfl⟩)
        | (go_at_call 53; refine (GC.out _ (by first | assumption | ((refine ⟨?_⟩); (repeat' (with_reducible (first | exact Below.refl _ _ | refine Below.drew ?_ | refine below_more ?_ (by assumption) | refine bal ?_)))))).mono ?_; rintro e wq ⟨rfl, hbq⟩; have zq := jz hbq.size)
        | (rw [run_store_is (by (repeat' (first
            | ((with_reducible refine IsLn.fresh _ _ ?_ ?_); (focus (with_reducible rfl)); (focus (first | assumption | rfl)))
            | (with_reducible refine IsLn.up ?_ _) | (with_reducible refine IsLn.drew ?_) | (with_reducible refine IsLn.row ?_ (by assumption)) | (with_reducible refine IsLn.call (by assumption) ?_)))) (by assumption)]))
     all_goals (go_wp2_with fail; go_meet)
     all_goals
      refine ⟨_, rfl, rfl, rfl, jz ⟨?_, Kept.out ‹Kept (Below wr.heap.size wr _)›⟩⟩ <;>
      (repeat' (first
        | ((with_reducible refine Ln.fresh _ _ ?_ ?_); (focus (with_reducible rfl)); (focus (first | assumption | rfl)))
        | ((with_reducible refine put_at ?_ ?_ ?_); (focus (with_reducible rfl)))
        | ((with_reducible refine Ln.past ?_ ?_); rotate_left; (focus (simp only [Hid, size_alloc, size_drew] at *; omega)))
        | (with_reducible refine Ln.alloc ?_ _) | (with_reducible refine Ln.drew ?_)
        | ((with_reducible refine IsLn.fresh _ _ ?_ ?_); (focus (with_reducible rfl)); (focus (first | assumption | rfl)))
        | (with_reducible refine IsLn.up ?_ _) | (with_reducible refine IsLn.drew ?_) | (with_reducible refine IsLn.row ?_ (by assumption)) | (with_reducible refine IsLn.call (by assumption) ?_) | assumption))
    case rest =>
     obtain ⟨g', rfl, rfl, rfl, HC⟩ := hcut
     have OW := jz (H.out.1.below HC.out.2)
     have CW := jz (H.out.2.trans (Chg.of_below HC.out.2 [b]))
     have l0 := HC.out.1.load
     obtain ⟨s0, o0⟩ := OW.out.line HK.out h8
     obtain ⟨V, hV⟩ : ∃ V, wc.setCells b (z * 9 + 1) (Y.map uv) = V := ⟨_, rfl⟩
     rw [hV] at s0 o0
     have OV : Hid (Oh B V b k c (rdD t k (z + 1)) /\ Chg [b] w V) := jz (by
      refine ⟨?_, ?_⟩
      . rw [ZI.out] at o0
        refine o0.as fun i _ => ?_
        exact YE.out i
      . rw [<- hV]
        exact Chg.setCells (.inl (by simp)) _ _ _ CW.out)
     clear o0
     go_wp2
     exact ⟨⟨z + 1, by have := HK.out; omega, by go_num, OV⟩, by have := HK.out; simp [intOf]; omega⟩
  . obtain rfl : z = k := by omega
    go_wp2
    go_ret
    exact ⟨rfl, H.out⟩
theorem mayH_congr {n : Int} {h h' : List Hm} (e : h'.map (·.i) = h.map (·.i)) (M : MayH n h) : MayH n h' := by
 have el : h'.length = h.length := by simpa using congrArg List.length e
 refine ⟨M.n16, by rw [el]; exact M.lo, by rw [el]; exact M.hi, fun x hx => ?_, by rw [e]; exact M.nd⟩
 have : x.i ∈ h'.map (·.i) := List.mem_map.2 ⟨x, hx, rfl⟩
 rw [e] at this
 obtain ⟨y, hy, ey⟩ := List.mem_map.1 this
 rw [<- ey]; exact M.at_ y hy
theorem rdI_i (t : Nat -> List Int) (k : Nat) : ((List.range k).map (rdI t k)).map (·.i) = (logD t k).map (·.i) := by
 unfold logD
 rw [List.map_map, List.map_map]
 refine List.map_congr_left fun i hi => ?_
 have hi := List.mem_range.1 hi
 simp [rdI, hi]
theorem rdD_all (t : Nat -> List Int) (k : Nat) : (List.range k).map (rdD t k k) = logD t k := by
 unfold logD
 refine List.map_congr_left fun i hi => ?_
 have hi := List.mem_range.1 hi
 simp [rdD, hi]
section
variable {x g y q n P per p : Nat} {s : Nv} {w : World}
theorem cm_zero (h : Lg w x g y q n P per p s) (hd : s.dark = false) (hr : s.rg 1 = 0) : Calls Tryz.prog 56 #[.pointer (some ⟨x, 0, none⟩)] w fun e w' => e = .returned (.tuple #[.slice none 0 0, .int .i64 0]) /\ w = w' := by
 have C := jz (lpend_live h hd hr)
 clear h hd hr
 go_enter Tryz.func56, Tryz.ntmps56
 go_wp2_with fail
 refine (C.out).mono ?_; rintro e w' ⟨rfl, rfl⟩
 go_wp2_with fail
 go_ret2
 exact ⟨rfl, rfl⟩
theorem cm_some (h : Lg w x g y q n P per p s) (L : LgOk s n P) (hd : s.dark = false) (hn : n <= 1000) (h0 : lk s ≠ 0) :
 Calls Tryz.prog 56 #[.pointer (some ⟨x, 0, none⟩)] w fun e w' => ∃ v, e = .returned (.tuple #[v, .int .i64 0]) /\ (∀ b, v.ownBlock = some b -> w.heap.size <= b) /\ RA homeE w' v (com s n P) /\ Below w.heap.size w w' := by
 have M := L.fo.resolve_left h0
 obtain ⟨k, hk⟩ : ∃ k, lk s = k := ⟨_, rfl⟩
 obtain ⟨t, ht⟩ : ∃ t, th s n P = t := ⟨_, rfl⟩
 have ec : com s n P = logD t k := by unfold com; rw [ht, hk]
 rw [ec] at M ⊢
 have hk14 : k <= 14 := by have := M.hi; rw [logD_length] at this; exact this
 have hr := L.r1
 rw [hk] at hr h0
 have C := jz (lpend_live h hd hr)
 have b0 : ((k : Int) == 0) = false := beq_eq_false_iff_ne.2 (by omega)
 have b1 : ¬ (k : Int) > 14 := by omega
 have hmk := run_make_homes k (by omega) .u64 w
 have o0 := oh_made w k (by omega)
 obtain ⟨W, hW⟩ : ∃ W, w.alloc (.cells (madeCells homeE.z.cells (k * 9)) 148) = W := ⟨_, rfl⟩
 have hb0 : Below w.heap.size w W := by rw [<- hW]; exact bal (Below.refl _ _)
 rw [hW] at hmk o0
 have LW := h.below hb0
 have NE : Hid (w.heap.size ≠ x /\ w.heap.size ≠ g /\ w.heap.size ≠ y /\ w.heap.size ≠ q) := jz ⟨by have := h.xlt; omega, by have := h.nm.lt; omega, by have := h.tq.lt; omega, by have := h.lq.lt; omega⟩
 have hI : ∀ i, i < k -> 16 <= ixW t i /\ ixW t i < n := fun i hi => M.at_ ⟨ixW t i, t (ixN k + i)⟩ (List.mem_map.2 ⟨i, List.mem_range.2 hi, rfl⟩)
 have RI_ := jz (ridx_is ht LW L hd hn hk14 hI o0 NE.out)
 have HB := jz hb0
 have HL := jz LW
 have HH := jz (And.intro L (And.intro hd (And.intro hn hk14)))
 have HM := jz (mayH_congr (rdI_i t k) M)
 have HT := jz ht
 clear h L hd hn M ht ec hk14 hr o0 hb0 LW hI hk h0
 go_enter Tryz.func56, Tryz.ntmps56
 go_wp2_with fail
 refine (C.out).mono ?_; rintro e w' ⟨rfl, rfl⟩
 go_wp2_with fail
 refine (RI_.out).mono ?_; rintro e w1 ⟨rfl, ho, hc⟩
 have O1 := jz ho
 have L1 := jz (HL.out.chg hc (by simpa using NE.out.1.symm) (by simpa using NE.out.2.1.symm) (by simpa using NE.out.2.2.1.symm) (by simpa using NE.out.2.2.2.symm))
 have B1 := jz (hc.below HB.out HB.out.size (fun j hj => by rw [List.mem_singleton.1 hj]; exact Nat.le_refl _))
 have LC := jz (llines_is L1.out)
 have MC := jz (lmay_is (n : Int) _ _ true w1 O1.out.ra ⟨fun _ => HM.out, fun _ => rfl⟩)
 clear ho hc hmk hW
 go_wp2_with fail
 refine (LC.out).mono ?_; rintro e w' ⟨rfl, rfl⟩
 go_wp2_with fail
 refine (MC.out).mono ?_; rintro e w2 ⟨rfl, hb⟩
 have B2 := jz (below_more B1.out hb)
 have RD := jz (rdat_is HT.out (L1.out.below hb) HH.out.1 HH.out.2.1 HH.out.2.2.1 HH.out.2.2.2 (O1.out.below hb) NE.out)
 clear hb
 go_wp2_with fail
 refine (RD.out).mono ?_; rintro e w3 ⟨rfl, ho, hc⟩
 have B3 := jz (hc.below B2.out B2.out.size (fun j hj => by rw [List.mem_singleton.1 hj]; exact Nat.le_refl _))
 have RR := jz ho.ra
 rw [rdD_all] at RR
 clear ho hc
 go_wp2_with fail
 go_ret2
 exact ⟨_, rfl, fun b hb => (by cases hb; exact Nat.le_refl _), RR.out, B3.out⟩
end
theorem get_from0 {x g y q n P per p a : Nat} {s : Nv} {w : World} {C : List Hm} {Z : List Int} (h : Lg w x g y q n P per p s) (L : GOk s n P) (hd : s.dark = false) (hn : n <= 1000) (ha : 16 <= a) (han : a < n) (nd : (C.map (·.i)).Nodup) (hC14 : C.length <= 14) (hZ : hv C (th s n P) a = Z)
 (CM : ∀ w', Below w.heap.size w w' -> Calls Tryz.prog 56 #[.pointer (some ⟨x, 0, none⟩)] w' fun e w2 => ∃ v, e = .returned (.tuple #[v, .int .i64 0]) /\ RA homeE w2 v C /\ Below w'.heap.size w' w2) :
 Calls Tryz.prog 99 #[.pointer (some ⟨x, 0, none⟩), .int .i64 (a : Int)] w fun e w' => e = .returned (.tuple #[.agg (lc Z), .int .i64 0]) /\ Below w.heap.size w w' := by
 obtain ⟨W, hW, H0⟩ := boxed1 w (a := [0, 0, 0, 0, 0, 0, 0, 0]) rfl
 have HL := jz (h.below H0.out.2)
 have LC := jz (llines_is HL.out)
 have BC := jz (behind_any (a : Int) (n : Int) true ⟨fun _ => ⟨by omega, by omega⟩, fun _ => rfl⟩ W)
 have CC := jz (CM W H0.out.2)
 have HT := jz (L.tok hd)
 have HN : Hid (16 <= a /\ a < n /\ n <= 1000 /\ C.length <= 14) := jz ⟨ha, han, hn, hC14⟩
 have ND := jz nd
 have HZ := jz hZ
 have HG := jz L
 clear h L hd hn ha han nd hZ CM hC14
 go_enter Tryz.func99, Tryz.ntmps99
 go_wp2_with fail
 refine (LC.out).mono ?_; rintro e w' ⟨rfl, rfl⟩
 go_wp2_with fail
 refine (BC.out).mono ?_; rintro e w' ⟨rfl, rfl⟩
 go_wp2_with fail
 refine (CC.out).mono ?_; rintro e w1 ⟨v, rfl, hr, hb⟩
 obtain ⟨pv, cap, rfl, hlc, hcm⟩ := ra_shape hr
 have HR := jz hr
 have L1 := jz (HL.out.below hb)
 have G1 := jz (H0.out.1.below hb)
 have B1 := jz (below_more H0.out.2 hb)
 clear hr hb hlc hcm
 go_wp2
 go_loopw [31] (fun i wr => ∃ z : Nat, z <= C.length /\ i = .int .i64 z /\ Hid ((∀ j, j < z -> (C.getD j default).i ≠ (a : Int)) /\ Below w1.heap.size w1 wr)) (fun i _ => C.length - (intOf i).toNat)
 case atStart => exact ⟨0, Nat.zero_le _, rfl, jz ⟨fun j hj => by omega, Below.refl _ _⟩⟩
 case round =>
  obtain ⟨z, hz, rfl, H⟩ := hrel
  by_cases hlt : z < C.length
  . obtain ⟨b, off, e, _, hx⟩ := home_at (ra_below HR.out H.out.2) (by omega)
    subst e
    obtain ⟨hl, _, _, hwf⟩ := hx z hlt
    obtain ⟨X, hX⟩ : ∃ X, C.getD z default = X := ⟨_, rfl⟩
    rw [hX] at hl hwf
    obtain ⟨V, hV, HV⟩ := home_boxed wr hwf.len
    have d0 := HV.out.1.slot
    have d1 := HV.out.1.line
    have h8 := hwf.len
    have hw8 := hwf.len
    have hXC : X ∈ C := by rw [<- hX]; exact getD_memH hlt
    have HXC := jz hXC
    have BV := jz (below_more H.out.2 HV.out.2)
    have GV := jz (G1.out.below BV.out)
    have i0 : (0 : Int) <= (z : Int) := by omega
    have i3 : (z : Int) < (C.length : Int) := by omega
    have i4 : ¬ (z : Int) < 0 := by omega
    have j0 : IntKind.i64.wrap ((z : Int) + 1) = ((z + 1 : Nat) : Int) := by rw [show (z : Int) + 1 = ((z + 1 : Nat) : Int) by omega]; exact i64_nat _ (by have := HN.out; omega)
    obtain ⟨xi, hxi⟩ : ∃ xi, X.i = xi := ⟨_, rfl⟩
    obtain ⟨xl, hxl⟩ : ∃ xl, X.l = xl := ⟨_, rfl⟩
    rw [hxi] at d0
    rw [hxl] at d1 h8
    have HK := jz hlt
    have XI := jz hxi
    have XL := jz hxl
    have XE := jz hX
    clear hx hwf hX hXC hlt hz hxi hxl
    by_cases he : xi = (a : Int)
    . have hst := GV.out.store h8
      have FY := jz (GV.out.put h8)
      have EZ : Hid (Z = xl) := jz (by rw [<- HZ.out, hv_mem ND.out HXC.out (XI.out.trans he)]; exact XL.out)
      subst he
      have BF := jz (((Chg.of_below (below_more B1.out BV.out) [w.heap.size]).setRow (g := w.heap.size) (.inl (by simp)) (lc xl)).below (Below.refl w.heap.size w) (Nat.le_refl _) (fun k hk => by rw [List.mem_singleton.1 hk]; exact Nat.le_refl _))
      go_wp2
      exact bodyPost_ret (v := .tuple #[.agg (lc xl), .int .i64 0]) (results_cell_tmp rfl _ _ _ _ _ _ _ _ rfl rfl FY.out.1 Tryz.underlying52 rfl (by rw [info_line, lc_size, h8])) rfl ⟨by rw [EZ.out], BF.out⟩
    . have he0 : (xi == (a : Int)) = false := beq_eq_false_iff_ne.2 he
      have NX : Hid (∀ j, j < z + 1 -> (C.getD j default).i ≠ (a : Int)) := jz (fun j hj => by
       by_cases e : j = z
       . subst e; rw [XE.out, XI.out]; exact he
       . exact H.out.1 j (by omega))
      go_wp2
      go_roundw
      case rel => exact ⟨z + 1, by have := HK.out; omega, by go_num, jz ⟨NX.out, BV.out⟩⟩
      case measure => have := HK.out; simp [intOf]; omega
  . obtain rfl : z = C.length := by omega
    have EZ : th s n P a = Z := by
     rw [<- HZ.out]
     refine (hv_not fun X hX => ?_).symm
     obtain ⟨j, hj, rfl⟩ := mem_getD hX
     exact H.out.1 j hj
    have h8 : Z.length = 8 := by rw [<- EZ]; exact th_wide HG.out.ok _ _ _
    have L2 := jz (L1.out.below H.out.2)
    have c1 := L2.out.c1
    have GC := jz (tget_is (a := a) (y := Z) EZ HT.out HN.out.2.2.1 HN.out.2.1 L2.out.tq L2.out.lq L2.out.nm)
    clear EZ
    go_wp2_with fail
    refine (GC.out).mono ?_; rintro e w3 ⟨rfl, hb⟩
    have GV := jz ((G1.out.below H.out.2).below hb)
    have hst := GV.out.store h8
    have FY := jz (GV.out.put h8)
    have BF := jz (((Chg.of_below (below_more (below_more B1.out H.out.2) hb) [w.heap.size]).setRow (g := w.heap.size) (.inl (by simp)) (lc Z)).below (Below.refl w.heap.size w) (Nat.le_refl _) (fun k hk => by rw [List.mem_singleton.1 hk]; exact Nat.le_refl _))
    clear hb
    go_wp2
    exact bodyPost_ret (v := .tuple #[.agg (lc Z), .int .i64 0]) (results_cell_tmp rfl _ _ _ _ _ _ _ _ rfl rfl FY.out.1 Tryz.underlying52 rfl (by rw [info_line, lc_size, h8])) rfl ⟨rfl, BF.out⟩
section
variable {x g y q n P per p a : Nat} {s : Nv} {w : World}
theorem gt_live (h : Lg w x g y q n P per p s) (L : LgOk s n P) (hd : s.dark = false) (hn : n <= 1000) (ha : 16 <= a) (han : a < n) :
 Calls Tryz.prog 99 #[.pointer (some ⟨x, 0, none⟩), .int .i64 (a : Int)] w fun e w' => e = .returned (.tuple #[.agg (lc (view s n P a)), .int .i64 0]) /\ Below w.heap.size w w' := by
 by_cases h0 : lk s = 0
 . have e0 : com s n P = [] := by unfold com; rw [h0]; rfl
   refine get_from0 (C := com s n P) h L.g hd hn ha han (by rw [e0]; exact List.nodup_nil) (by rw [e0]; decide) rfl fun w' hb => (cm_zero (h.below hb) hd (by rw [L.r1, h0]; rfl)).mono ?_
   rintro e w2 ⟨rfl, rfl⟩
   exact ⟨_, rfl, by rw [e0]; exact ra_nil _ _, Below.refl _ _⟩
 . have M := L.fo.resolve_left h0
   refine get_from0 h L.g hd hn ha han M.nd M.hi rfl fun w' hb => (cm_some (h.below hb) L hd hn h0).mono ?_
   rintro e w2 ⟨v, rfl, _, hr, hb2⟩
   exact ⟨v, rfl, hr, hb2⟩
end
def ldF (h : List Hm) (z j : Nat) : List Int :=
 if j < ixN h.length then (List.range 8).map fun i => if 8 * j + i < z then (h.getD (8 * j + i) default).i else 0
 else if j - ixN h.length < z then (h.getD (j - ixN h.length) default).l else zeros
theorem ldF_step {h : List Hm} {z : Nat} (hz : z < h.length) (j : Nat) : ldF h (z + 1) j = upd (upd (ldF h z) (z / 8) ((ldF h z (z / 8)).set (z % 8) (h.getD z default).i)) (ixN h.length + z) (h.getD z default).l j := by
 have hx : z / 8 < ixN h.length := by unfold ixN; omega
 unfold upd
 by_cases e1 : j = ixN h.length + z
 . subst e1
   rw [if_pos rfl]; unfold ldF
   rw [if_neg (by omega), if_pos (by omega), show ixN h.length + z - ixN h.length = z by omega]
 . rw [if_neg e1]
   by_cases e2 : j = z / 8
   . subst e2
     rw [if_pos rfl]
     unfold ldF
     rw [if_pos hx, if_pos hx]
     refine List.ext_getElem (by simp) fun i h1 h2 => ?_
     simp only [List.length_map, List.length_range] at h1
     rw [List.getElem_set]
     simp only [List.getElem_map, List.getElem_range]
     by_cases e3 : z % 8 = i
     . rw [if_pos e3, if_pos (by omega), show 8 * (z / 8) + i = z by omega]
     . rw [if_neg e3]
       by_cases h3 : 8 * (z / 8) + i < z
       . rw [if_pos h3, if_pos (by omega)]
       . rw [if_neg h3, if_neg (by omega)]
   . rw [if_neg e2]; unfold ldF
     by_cases h1 : j < ixN h.length
     . rw [if_pos h1, if_pos h1]
       refine List.map_congr_left fun i hi => ?_
       have := List.mem_range.1 hi
       by_cases h2 : 8 * j + i < z
       . rw [if_pos h2, if_pos (by omega)]
       . rw [if_neg h2, if_neg (by omega)]
     . rw [if_neg h1, if_neg h1]
       by_cases h2 : j - ixN h.length < z
       . rw [if_pos h2, if_pos (by omega)]
       . rw [if_neg h2, if_neg (by omega)]
theorem ldF_none (h : List Hm) (j : Nat) : ldF h 0 j = zeros := by
 unfold ldF
 by_cases h1 : j < ixN h.length
 . rw [if_pos h1]; simp only [Nat.not_lt_zero, if_false]; rfl
 . rw [if_neg h1, if_neg (by omega)]
theorem lgP_at {h : List Hm} {j : Nat} (hj : j < ixN h.length + h.length) : (lgP h)[j]? = some (j, ldF h h.length j) := by
 unfold lgP ldF
 by_cases h1 : j < ixN h.length
 . rw [if_pos h1, List.getElem?_append_left (by simpa [ixP] using h1)]
   have e : idxL h j = (List.range 8).map fun i => if 8 * j + i < h.length then (h.getD (8 * j + i) default).i else 0 := by
    unfold idxL
    refine List.map_congr_left fun i _ => ?_
    by_cases h2 : 8 * j + i < h.length
    . rw [if_pos h2]
    . rw [if_neg h2, List.getD_eq_getElem?_getD, List.getElem?_eq_none (by omega)]; rfl
   rw [<- e]
   simp [ixP, h1]
 . rw [if_neg h1, if_pos (by omega), List.getElem?_append_right (by simp [ixP]; omega)]
   have e : j - (ixP h).length = j - ixN h.length := by simp [ixP]
   have h2 : j - ixN h.length < h.length := by omega
   rw [e]
   simp [daP, h2]
   omega
theorem Ol.cell {B : Nat} {w : World} {g n c : Nat} {f : Nat -> List Int} (h : Ol B w g n c f) {k j : Nat} (hk : k < n) (hj : j < 8) : w.cell? ⟨g, k * 8 + j, none⟩ = some (.int .u64 ((f k).getD j 0)) := by
 obtain ⟨b, off, e, _, hx⟩ := ra_at (OwnA.ra h) (by simp; omega)
 cases e
 have hw := h.wide hk
 have := hx k (by simpa using hk)
 rw [ol_getD hk] at this
 have := this j (uv ((f k).getD j 0)) (by simp [lineE, hw, hj])
 rw [show lineE.size = 8 from rfl, Nat.zero_add] at this
 exact this
theorem Ol.word {B : Nat} {w : World} {g n c : Nat} {f : Nat -> List Int} (h : Ol B w g n c f) {k j : Nat} (hk : k < n) (hj : j < 8) (x : Int) : Ol B (w.setCell ⟨g, k * 8 + j, none⟩ (.int .u64 x)) g n c (upd f k ((f k).set j x)) := by
 have hw := h.wide hk
 have := OwnA.setCell (k := k) (j := j) (x := (f k).set j x) (u := .int .u64 x) h (by simpa using hk) hj (by show ((f k).set j x).length = 8; rw [List.length_set]; exact hw) (by
  rw [ol_getD hk]
  show ((f k).set j x).map uv = ((f k).map uv).set j (uv x)
  rw [List.map_set])
 have e : ((List.range n).map f).set k ((f k).set j x) = (List.range n).map (upd f k ((f k).set j x)) := by
  refine List.ext_getElem (by simp) fun i h1 h2 => ?_
  rw [List.getElem_set]
  simp only [List.getElem_map, List.getElem_range, upd]
  split
  . rename_i e; rw [if_pos e.symm]
  . rename_i e; rw [if_neg fun q => e q.symm]
 rw [e] at this
 exact this
theorem Ol.free {B : Nat} {w : World} {g n c : Nat} {f : Nat -> List Int} (h : Ol B w g n c f) (j : Nat) : w.frozen? ⟨g, j, none⟩ = false := OwnA.free h j
theorem laid_is {n : Nat} {v : Value} {h : List Hm} {w : World} (hv : RA homeE w v h) (M : MayH n h) (hn : n <= 1000) :
 Calls Tryz.prog 186 #[v] w fun e w' => ∃ gw, w.heap.size <= gw /\ e = .returned (.slice (some ⟨gw, 0, none⟩) (ixN h.length + h.length) (ixN h.length + h.length)) ∧
  Ol w.heap.size w' gw (ixN h.length + h.length) (ixN h.length + h.length) (ldF h h.length) /\ Below w.heap.size w w' := by
 obtain ⟨pv, cap, rfl, hlc, hcm⟩ := ra_shape hv
 have h14 := M.hi
 have hlo := M.lo
 have hx2 : ixN h.length <= 2 := by unfold ixN; omega
 have IC := jz (ixl_nat h.length (by omega) w)
 obtain ⟨m, hm⟩ : ∃ m, ixN h.length + h.length = m := ⟨_, rfl⟩
 have jm : IntKind.i64.wrap ((ixN h.length : Int) + (h.length : Int)) = (m : Int) := by rw [show (ixN h.length : Int) + (h.length : Int) = (m : Int) by omega]; exact i64_nat _ (by omega)
 have hmk := run_make_want m (by omega) w
 have W0 := Wt.new w m
 obtain ⟨W, hW⟩ : ∃ W, w.alloc (.cells (tab (m * 8) (wl fun _ => zeros)) 52) = W := ⟨_, rfl⟩
 have C0 : Chg [] w W := by rw [<- hW]; exact Chg.of_below (bal (Below.refl _ _)) _
 have O0 : Ol w.heap.size W w.heap.size m m (ldF h 0) := by
  rw [<- hW]
  exact (Ol.of_wt W0 (Nat.le_refl _) (by unfold maxLen; omega)).as fun i _ => ldF_none _ _
 rw [hW] at hmk
 have KP : Hid (Ol w.heap.size W w.heap.size m m (ldF h 0) /\ Chg [] w W) := jz ⟨O0, C0⟩
 have HV := jz hv
 have HM := jz (And.intro M (And.intro hn (And.intro hm (And.intro h14 hx2))))
 rw [hm]
 clear W0 C0 O0 hv M hn hlc hcm h14 hlo hx2
 generalize hxk : ixN h.length = xk at *
 go_enter Tryz.func186, Tryz.ntmps186
 go_wp2_with fail
 refine (IC.out).mono ?_; rintro e w' ⟨rfl, rfl⟩
 go_wp2
 go_loopw [17] (fun i wr => ∃ z : Nat, z <= h.length /\ i = .int .i64 z /\ Hid (Ol w.heap.size wr w.heap.size m m (ldF h z) /\ Chg [] w wr)) (fun i _ => h.length - (intOf i).toNat)
 case atStart => exact ⟨0, Nat.zero_le _, rfl, KP⟩
 case round =>
  obtain ⟨z, hz, rfl, H⟩ := hrel
  clear KP hmk
  by_cases hlt : z < h.length
  . obtain ⟨b, off, e, _, hx⟩ := home_at (ra_below HV.out (H.out.2.below (Below.refl w.heap.size w) (Nat.le_refl _) (fun k hk => by cases hk))) (by omega)
    subst e
    obtain ⟨hl, _, _, hwf⟩ := hx z hlt
    obtain ⟨X, hX⟩ : ∃ X, h.getD z default = X := ⟨_, rfl⟩
    have hat := HM.out.1.at_ _ (getD_memH hlt)
    rw [hX] at hl hwf hat
    obtain ⟨V, hV, HV2⟩ := home_boxed wr hwf.len
    have hw8 := hwf.len
    obtain ⟨xi, hxi⟩ : ∃ xi, X.i = xi := ⟨_, rfl⟩
    obtain ⟨xl, hxl⟩ : ∃ xl, X.l = xl := ⟨_, rfl⟩
    have h8 : xl.length = 8 := by rw [<- hxl]; exact hw8
    have d0 := HV2.out.1.slot
    rw [hxi] at d0 hat
    have OV : Ol w.heap.size V.drew w.heap.size m m (ldF h z) := H.out.1.below HV2.out.2.drew
    have CV : Chg [] w V.drew := H.out.2.trans (Chg.of_below HV2.out.2.drew [])
    have GE : w.heap.size ≠ wr.heap.size := by obtain ⟨_, _, e, hlt', _⟩ := ra_at (OwnA.ra H.out.1) (by simp; omega); cases e; omega
    have hx2 := HM.out.2.2.2.2
    have hmm := HM.out.2.2.1
    have h14 := HM.out.2.2.2.1
    have hn := HM.out.2.1
    have za : z / 8 < m := by omega
    have zr : z % 8 < 8 := by omega
    have e0 := OV.cell za zr
    have f0 := OV.free (z / 8 * 8 + z % 8)
    have OW := OV.word za zr xi
    have CW : Chg [w.heap.size] V.drew (V.drew.setCell ⟨w.heap.size, z / 8 * 8 + z % 8, none⟩ (.int .u64 xi)) := (Chg.refl _ _).setCell (.inl (by simp)) _
    have CU := CV.setCell (p := ⟨w.heap.size, z / 8 * 8 + z % 8, none⟩) (.inr (Nat.le_refl _)) (.int .u64 xi)
    obtain ⟨U, hU⟩ : ∃ U, V.drew.setCell ⟨w.heap.size, z / 8 * 8 + z % 8, none⟩ (.int .u64 xi) = U := ⟨_, rfl⟩
    rw [hU] at OW CW CU
    have HU := Hv.chg (show Hv V.drew wr.heap.size X from HV2.out.1) CW (by simpa using GE.symm)
    have d1 := HU.line
    rw [hxl] at d1
    obtain ⟨hst, OY⟩ := OW.store (k := xk + z) (by omega) h8
    obtain ⟨Y, hY⟩ : ∃ Y, U.setCells w.heap.size ((xk + z) * 8) (xl.map uv) = Y := ⟨_, rfl⟩
    have CY : Chg [] w (U.setCells w.heap.size ((xk + z) * 8) (xl.map uv)) := Chg.setCells (.inr (Nat.le_refl _)) _ _ _ CU
    rw [hY] at hst OY CY
    have KY : Hid (Ol w.heap.size Y w.heap.size m m (ldF h (z + 1)) /\ Chg [] w Y) := jz ⟨OY.as fun i _ => by rw [ldF_step hlt, hX, hxi, hxl, hxk], CY⟩
    have i0 : (0 : Int) <= (z : Int) := by omega
    have i3 : (z : Int) < (h.length : Int) := by omega
    have i4 : ¬ (z : Int) < 0 := by omega
    have j0 : IntKind.i64.wrap ((z : Int) + 1) = ((z + 1 : Nat) : Int) := by rw [show (z : Int) + 1 = ((z + 1 : Nat) : Int) by omega]; exact i64_nat _ (by omega)
    have j1 : (z : Int).tdiv 8 = ((z / 8 : Nat) : Int) := tdiv_nat _ _
    have j2 : IntKind.i64.wrap ((z / 8 : Nat) : Int) = ((z / 8 : Nat) : Int) := i64_nat _ (by omega)
    have j3 : (z : Int).tmod 8 = ((z % 8 : Nat) : Int) := tmod_nat _ _
    have j4 : IntKind.i64.wrap ((z % 8 : Nat) : Int) = ((z % 8 : Nat) : Int) := i64_nat _ (by omega)
    have j5 : (0 : Int) <= ((z % 8 : Nat) : Int) := by omega
    have j6 : ((z % 8 : Nat) : Int) < 8 := by omega
    have j7 : (0 : Int) <= ((z / 8 : Nat) : Int) := by omega
    have j8 : ((z / 8 : Nat) : Int) < (m : Int) := by omega
    have j9 : IntKind.u64.wrap xi = xi := u64_same (by omega) (by omega)
    have k1 : IntKind.i64.wrap ((xk : Int) + (z : Int)) = ((xk + z : Nat) : Int) := by rw [show (xk : Int) + (z : Int) = ((xk + z : Nat) : Int) by omega]; exact i64_nat _ (by omega)
    have k2 : (0 : Int) <= ((xk + z : Nat) : Int) := by omega
    have k3 : ((xk + z : Nat) : Int) < (m : Int) := by omega
    have HK := jz hlt
    clear hx hX hat hwf OV CV GE hx2 hmm h14 hn OW CW CU HU OY CY hlt hz hxi hxl za zr
    generalize z / 8 = za at *
    generalize z % 8 = zr at *
    generalize xk + z = zx at *
    go_wp2
    refine wp_region_still_tail 10 (by kernel_rfl) (by kernel_rfl) ?_
    simp only [List.take_succ_cons, List.take_zero, List.drop_succ_cons, List.drop_zero]
    change wpStill _ _ (World.drew _) _ _ _
    repeat still_step
    refine wpStill_nil ?_
    change wpList _ _ _ _ _ (World.drew _)
    go_wp2
    exact ⟨⟨z + 1, by have := HK.out; omega, by go_num, KY⟩, by have := HK.out; simp [intOf]; omega⟩
  . obtain rfl : z = h.length := by omega
    go_wp2
    go_ret
    exact ⟨_, Nat.le_refl _, rfl, H.out.1, H.out.2.below (Below.refl w.heap.size w) (Nat.le_refl _) (fun k hk => by cases hk)⟩
structure Stp (n P per p : Nat) (s : Nv) (L : List (Nat × List Int)) (R : Int × Nat × Nv) (j pj : Nat) (sj : Nv) : Prop where
 g : GOk sj n P
 live : sj.dark = false
 tm : tm sj <= tm s + j
 c : sj.c <= s.c + 81 * j
 p : pj <= p + j
 r : R = tputs n P per pj (L.drop j) sj
theorem Stp.start {n P per p : Nat} {s : Nv} {L : List (Nat × List Int)} (g : GOk s n P) (hd : s.dark = false) : Stp n P per p s L (tputs n P per p L s) 0 p s :=
 ⟨g, hd, Nat.le_refl _, by simp, Nat.le_refl _, rfl⟩
theorem Stp.next {n P per p j pj a : Nat} {s sj : Nv} {L : List (Nat × List Int)} {R : Int × Nat × Nv} {d : List Int} {Q : Int × Nv} (h : Stp n P per p s L R j pj sj) (hj : L[j]? = some (a, d)) (hn : 0 < n) (ha : a < n) (hd : d.length = 8) (hm : Go.Proofs.YtkpefnjohdjejaaGreat.tm s + j + 1 < 4611686018427387904)
 (hQ : tput n P per pj (Go.Proofs.YtkpefnjohdjejaaGreat.tm sj) a d sj = Q) : (Q.1 = 0 /\ Stp n P per p s L R (j + 1) (tp per pj) Q.2) \/ (Q.1 ≠ 0 /\ R = (Q.1, tp per pj, Q.2)) := by
 have htm := h.tm
 have u := tput_u per pj h.g h.live hn ha hd (by omega)
 have hlt : j < L.length := (List.getElem?_eq_some_iff.1 hj).1
 have el : L[j] = (a, d) := (List.getElem?_eq_some_iff.1 hj).2
 have ed : L.drop j = (a, d) :: L.drop (j + 1) := by rw [List.drop_eq_getElem_cons hlt, el]
 have er := h.r
 rw [ed, tputs] at er
 dsimp only at er
 rw [hQ] at er u
 have htp := tp_le per pj
 by_cases h0 : Q.1 = 0
 . rw [if_pos h0] at er
   refine .inl ⟨h0, u.g, ?_, by have := u.hi; omega, by have := u.c; have := h.c; push_cast; omega, by have := h.p; omega, er⟩
   rcases u.own with ⟨_, q, _⟩ | ⟨e, _⟩ | ⟨e, _⟩
   . exact q
   . rw [h0] at e; cases e
   . rw [h0] at e; cases e
 . rw [if_neg h0] at er
   exact .inr ⟨h0, er⟩
theorem Stp.done {n P per p pj : Nat} {s sj : Nv} {L : List (Nat × List Int)} {R : Int × Nat × Nv} (h : Stp n P per p s L R L.length pj sj) : R = (0, pj, sj) := by
 have := h.r
 rw [List.drop_length, tputs] at this
 exact this
section
variable {x g y q n P per p : Nat} {s : Nv} {w : World}
theorem lg_put {a : Nat} {d : List Int} {Q : Int × Nv} (hQ : tput n P per p (tm s) a d s = Q) (h : Lg w x g y q n P per p s) (G : GOk s n P) (hd : s.dark = false) (hn : n <= 1000) (ha : a < n) (hd8 : d.length = 8) (hm : tm s + 1 < 4611686018427387904) (hp : p < 4611686018427387904) (hc : s.c + 500 < 4611686018427387904) :
 Calls Tryz.prog 54 #[.pointer (some ⟨y, 0, none⟩), .int .i64 (a : Int), .agg (lc d)] w fun e w' => e = .returned (.int .i64 Q.1) /\ Lg w' x g y q n P per (tp per p) Q.2 /\ Chg [g, y] w w' := by
 refine (tput_is hQ (G.tok hd) hn ha hd8 hm hp h.qg h.yg h.yq hc h.tq h.lq h.nm).mono ?_
 rintro e w' ⟨rfl, h1, h2, h3, h4⟩
 exact ⟨rfl, ⟨h4.whole h.lb (by simpa using ⟨h.xg, h.xy⟩), h2, h3, h1, h.qg, h.yg, h.yq, h.xg, h.xy⟩, h4⟩
theorem lg_set {v : Int} (h : Lg w x g y q n P per p s) (ok : s.Ok) (hc : s.c < 4611686018427387904) :
 Calls Tryz.prog 98 #[.pointer (some ⟨g, 0, none⟩), .int .i64 1, .int .u64 v] w fun e w' => e = .returned (.int .i64 (s.setE ((1 : Nat) : Int))) /\ Lg w' x g y q n P per p (s.set ((1 : Nat) : Int) v) /\ Chg [g, y] w w' := by
 refine (set_is (i := 1) (v := v) rfl rfl h.nm ok hc).mono ?_
 rintro e w' ⟨rfl, h1, _, h3⟩
 exact ⟨rfl, ⟨h3.whole h.lb (by simpa using h.xg), h.tq.chg h3 (by simpa using h.yg), h.lq.chg h3 (by simpa using h.qg), h1, h.qg, h.yg, h.yq, h.xg, h.xy⟩, h3.mono (by simp)⟩
end
def lkeep (n P per p : Nat) (h : List Hm) (s : Nv) : Int × Nat × Nv :=
 if (tputs n P per p (lgP h) s).1 = 0 then ((tputs n P per p (lgP h) s).2.2.setE ((1 : Nat) : Int), (tputs n P per p (lgP h) s).2.1, (tputs n P per p (lgP h) s).2.2.set ((1 : Nat) : Int) (h.length : Int))
 else tputs n P per p (lgP h) s
theorem lcom_keep (n P per p : Nat) (h : List Hm) (s : Nv) : lcom n P per p h s = if (lkeep n P per p h s).1 = 0 then lfin n P per (lkeep n P per p h s).2.1 h (lkeep n P per p h s).2.2 else lkeep n P per p h s := by
 unfold lcom lkeep
 by_cases h0 : (tputs n P per p (lgP h) s).1 = 0
 . rw [if_pos h0, if_pos h0]
 . rw [if_neg h0, if_neg h0, if_neg h0]
theorem keep_is {x g y q n P per p : Nat} {s : Nv} {w : World} {v : Value} {h : List Hm} {R : Int × Nat × Nv} (hR : lkeep n P per p h s = R) (hv : ∀ w', Chg [g, y] w w' -> RA homeE w' v h) (H : Lg w x g y q n P per p s) (G : GOk s n P) (hd : s.dark = false) (rm : Room n P per p s) (M : MayH n h) :
 Calls Tryz.prog 176 #[.pointer (some ⟨x, 0, none⟩), v] w fun e w' => e = .returned (.int .i64 R.1) /\ Lg w' x g y q n P per R.2.1 R.2.2 /\ Chg [g, y] w w' := by
 have hv0 := hv w (Chg.refl _ _)
 obtain ⟨pv, cap, rfl, hlc, hcm⟩ := ra_shape hv0
 have n16 := M.n16
 have h14 := M.hi
 have hw : Wide h := fun x hx => (ra_ok hv0 x hx).len
 have hx2 : ixN h.length <= 2 := by unfold ixN; omega
 have LC := jz (laid_is hv0 M rm.n)
 obtain ⟨m, hm⟩ : ∃ m, ixN h.length + h.length = m := ⟨_, rfl⟩
 rw [hm] at LC
 have hLm : (lgP h).length = m := by rw [lgP_length, hm]
 have HA : Hid (∀ j, j < m -> (lgP h)[j]? = some (j, ldF h h.length j)) := jz fun j hj => lgP_at (by omega)
 have h8 : Hid (∀ j, j < m -> (ldF h h.length j).length = 8) := jz fun j hj => (lgP_pairs (n := n) (by omega) h14 hw).lt (j, ldF h h.length j) (List.mem_of_getElem? (HA.out j hj)) |>.2
 have KK : Hid (m <= 16 /\ 16 <= n /\ h.length <= 14 /\ Room n P per p s) := jz ⟨by omega, by omega, h14, rm⟩
 obtain ⟨T, hT⟩ : ∃ T, tputs n P per p (lgP h) s = T := ⟨_, rfl⟩
 have S0 : Hid (Stp n P per p s (lgP h) T 0 p s) := jz (by rw [<- hT]; exact Stp.start G hd)
 have HR : Hid ((if T.1 = 0 then (T.2.2.setE ((1 : Nat) : Int), T.2.1, T.2.2.set ((1 : Nat) : Int) (h.length : Int)) else T) = R) := jz (by rw [<- hR, lkeep, hT])
 have ju : IntKind.u64.wrap (h.length : Int) = (h.length : Int) := u64_same (by omega) (by omega)
 have HL := jz H
 have GL : Hid (g < w.heap.size /\ y < w.heap.size /\ x < w.heap.size) := jz ⟨H.nm.lt, H.tq.lt, H.xlt⟩
 have HM := jz hLm
 have NEx : Hid (x ≠ g /\ x ≠ y) := jz ⟨H.xg, H.xy⟩
 clear hv hv0 H G hd rm M hR hT hm hw hx2 n16 h14 hLm hlc hcm
 generalize hLL : lgP h = L at *
 generalize ldF h h.length = F at *
 generalize h.length = k at *
 go_enter Tryz.func176, Tryz.ntmps176
 go_wp2_with fail
 refine (LC.out).mono ?_; rintro e w1 ⟨gw, hgw, rfl, ho, hb⟩
 have O1 := jz ho
 have L1 := jz (HL.out.below hb)
 have B1 := jz hb
 have NG : Hid (gw ≠ g /\ gw ≠ y) := jz ⟨by have := GL.out; omega, by have := GL.out; omega⟩
 clear ho hb hgw
 go_wp2
 go_loopw [11] (fun i wr => ∃ j : Nat, j <= m /\ i = .int .i64 j /\ Hid (∃ pj sj, Stp n P per p s L T j pj sj /\ Lg wr x g y q n P per pj sj /\ Chg [g, y] w1 wr)) (fun i _ => m - (intOf i).toNat)
 case atStart => exact ⟨0, Nat.zero_le _, rfl, jz ⟨p, s, S0.out, L1.out, Chg.refl _ _⟩⟩
 case round =>
  obtain ⟨j, hj, rfl, H⟩ := hrel
  obtain ⟨pj, sj, hS, hL, hC⟩ := H.out
  have ST := jz hS
  have LJ := jz hL
  have CJ := jz hC
  clear H hS hL hC
  by_cases hlt : j < m
  . have OJ := O1.out.chg CJ.out (by simpa using NG.out)
    have ll := OJ.load hlt
    have hd8 := h8.out j hlt
    have hat := HA.out j hlt
    obtain ⟨d, hd⟩ : ∃ d, F j = d := ⟨_, rfl⟩
    rw [hd] at ll hd8 hat
    obtain ⟨W, hW, H1⟩ := boxed1 wr hd8
    have LW := jz (LJ.out.below H1.out.2)
    obtain ⟨Q, hQ⟩ : ∃ Q, tput n P per pj (tm sj) j d sj = Q := ⟨_, rfl⟩
    have hst := ST.out
    have kk := KK.out
    have rmm := kk.2.2.2
    have nx := ST.out.next hat (by omega) (by omega) hd8 (by have := rmm.m; omega) hQ
    have PC := jz fun (w' : World) (hb : Below W.heap.size W w') => lg_put hQ (LW.out.below hb) ST.out.g ST.out.live rmm.n (by omega) hd8 (by have := hst.tm; have := rmm.m; omega) (by have := hst.p; have := rmm.p; omega) (by have := hst.c; have := rmm.c; omega)
    have NX := jz nx
    have VN : Hid (wr.heap.size ∉ [g, y]) := jz (by have := LJ.out.nm.lt; have := LJ.out.tq.lt; simp; omega)
    have l0 : ∀ w', Chg [g, y] W w' -> (lineLoad (.pointer (some ⟨wr.heap.size, 0, none⟩))).run Tryz.prog w' = .ok (.agg (lc d)) w' := fun w' hc => (hc.ln H1.out.1 VN.out).load
    have d1 : ∀ w', Chg [g, y] W w' -> w'.cell? ⟨x, 1, none⟩ = some (.pointer (some ⟨y, 0, none⟩)) := fun w' hc => by
     rw [Whole.at_ (hc.whole LW.out.lb (by simpa using NEx.out))]; rfl
    have hbd : Below W.heap.size W W.drew := (Below.refl _ _).drew
    have i0 : (0 : Int) <= (j : Int) := by omega
    have i3 : (j : Int) < (m : Int) := by omega
    have i4 : ¬ (j : Int) < 0 := by omega
    have j0 : IntKind.i64.wrap ((j : Int) + 1) = ((j + 1 : Nat) : Int) := by rw [show (j : Int) + 1 = ((j + 1 : Nat) : Int) by omega]; exact i64_nat _ (by omega)
    have HK := jz hlt
    have CB := jz (Chg.of_below H1.out.2 [g, y])
    clear OJ hat hst rmm nx hlt hj hd hQ kk
    go_wp2
    go_region_held3 (fun w' => Chg [g, y] W w')
     (first | assumption | exact (Chg.refl _ _).drew)
     (first
       | (go_at_call 54; refine (PC.out _ hbd).mono ?_; rintro e wy ⟨rfl, hLy, hCy⟩
          have LY := jz hLy
          have CY := jz ((Chg.of_below hbd [g, y]).trans hCy)
          clear hLy hCy))
    have CZ := jz ((CJ.out.trans CB.out).trans CY.out)
    clear l0 d1 hbd ll
    obtain ⟨e1, s1⟩ := Q
    rcases NX.out with ⟨h0, S1⟩ | ⟨h0, hT⟩
    . dsimp only at h0
      subst h0
      have KN := jz S1
      clear S1
      go_wp2
      exact ⟨⟨j + 1, by have := HK.out; omega, by go_num, jz ⟨_, _, KN.out, LY.out, CZ.out⟩⟩, by have := HK.out; simp [intOf]; omega⟩
    . dsimp only at h0
      have b0 : (e1 != 0) = true := bne_iff_ne.2 h0
      have ER : Hid ((e1, tp per pj, s1) = R) := jz (by rw [<- HR.out, hT, if_neg h0])
      clear h0 hT
      go_wp2
      go_ret
      exact ⟨by rw [<- ER.out]; rfl, by rw [<- ER.out]; exact LY.out, (Chg.of_below B1.out [g, y]).trans CZ.out⟩
  . obtain rfl : j = m := by omega
    have hT := Stp.done (by have := ST.out; rw [<- HM.out] at this; exact this)
    have hst := ST.out
    have kk := KK.out
    have rmm := kk.2.2.2
    have SC := jz (lg_set (v := (k : Int)) LJ.out ST.out.g.ok (by have := hst.c; have := rmm.c; omega))
    have c0 := LJ.out.c0
    have ER : Hid ((sj.setE ((1 : Nat) : Int), pj, sj.set ((1 : Nat) : Int) (k : Int)) = R) := jz (by rw [<- HR.out, hT, if_pos rfl])
    clear hT hst kk rmm hj
    go_wp2_with fail
    refine (SC.out).mono ?_; rintro e w3 ⟨rfl, hL, hC⟩
    have L3 := jz hL
    have C3 := jz (((Chg.of_below B1.out [g, y]).trans CJ.out).trans hC)
    clear hL hC
    go_wp2
    go_ret
    exact ⟨by rw [<- ER.out]; rfl, by rw [<- ER.out]; exact L3.out, C3.out⟩
theorem do_is {x g y q n P per p : Nat} {s : Nv} {w : World} {v : Value} {C : List Hm} {R : Int × Nat × Nv} (hR : lfin n P per p C s = R) (hv : ∀ w', Chg [g, y] w w' -> RA homeE w' v C) (H : Lg w x g y q n P per p s) (G : GOk s n P) (hd : s.dark = false) (hn : n <= 1000) (hp : p + 14 < 4611686018427387904) (hm : tm s + 14 < 4611686018427387904) (hc : s.c + 10000 < 4611686018427387904) (M : MayH n C) :
 Calls Tryz.prog 57 #[.pointer (some ⟨x, 0, none⟩), v] w fun e w' => e = .returned (.int .i64 R.1) /\ Lg w' x g y q n P per R.2.1 R.2.2 /\ Chg [g, y] w w' := by
 have hv0 := hv w (Chg.refl _ _)
 obtain ⟨pv, cap, rfl, hlc, hcm⟩ := ra_shape hv0
 have n16 := M.n16
 have h14 := M.hi
 have KK : Hid (16 <= n /\ n <= 1000 /\ C.length <= 14 /\ p + 14 < 4611686018427387904 /\ tm s + 14 < 4611686018427387904 /\ s.c + 10000 < 4611686018427387904) := jz ⟨by omega, hn, h14, hp, hm, hc⟩
 obtain ⟨T, hT⟩ : ∃ T, tputs n P per p (hmP C) s = T := ⟨_, rfl⟩
 have S0 : Hid (Stp n P per p s (hmP C) T 0 p s) := jz (by rw [<- hT]; exact Stp.start G hd)
 have HR : Hid ((if T.1 = 0 then (T.2.2.setE ((1 : Nat) : Int), T.2.1, T.2.2.set ((1 : Nat) : Int) 0) else if T.1 = 3 then (0, T.2.1, T.2.2) else T) = R) := jz (by rw [<- hR, lfin, hT])
 have HL := jz H
 have HM : Hid (MayH n C /\ (hmP C).length = C.length) := jz ⟨M, hmP_length C⟩
 have HA : Hid (∀ j, j < C.length -> (hmP C)[j]? = some ((C.getD j default).i.toNat, (C.getD j default).l)) := jz fun j hj => by
  unfold hmP
  rw [List.getElem?_map, List.getElem?_eq_getElem hj, List.getD_eq_getElem?_getD, List.getElem?_eq_getElem hj]; rfl
 have NEx : Hid (x ≠ g /\ x ≠ y) := jz ⟨H.xg, H.xy⟩
 have HV := jz hv
 clear hv hv0 H G hd hn hp hm hc M hR hT n16 h14 hlc hcm
 generalize hLL : hmP C = L at *
 go_enter Tryz.func57, Tryz.ntmps57
 go_wp2
 go_loopw [10] (fun i wr => ∃ j : Nat, j <= C.length /\ i = .int .i64 j /\ Hid (∃ pj sj, Stp n P per p s L T j pj sj /\ Lg wr x g y q n P per pj sj /\ Chg [g, y] w wr)) (fun i _ => C.length - (intOf i).toNat)
 case atStart => exact ⟨0, Nat.zero_le _, rfl, jz ⟨p, s, S0.out, HL.out, Chg.refl _ _⟩⟩
 case round =>
  obtain ⟨j, hj, rfl, H⟩ := hrel
  obtain ⟨pj, sj, hS, hL, hC⟩ := H.out
  have ST := jz hS
  have LJ := jz hL
  have CJ := jz hC
  clear H hS hL hC S0 HL
  by_cases hlt : j < C.length
  . obtain ⟨b, off, e, _, hx⟩ := home_at (HV.out _ CJ.out) (by omega)
    subst e
    obtain ⟨hl, _, _, hwf⟩ := hx j hlt
    have hat := HA.out j hlt
    obtain ⟨X, hX⟩ : ∃ X, C.getD j default = X := ⟨_, rfl⟩
    have hbd := HM.out.1.at_ _ (getD_memH hlt)
    rw [hX] at hl hwf hat hbd
    obtain ⟨a, ha⟩ : ∃ a : Nat, X.i = (a : Int) := ⟨X.i.toNat, by omega⟩
    rw [show X.i.toNat = a by omega] at hat
    obtain ⟨d, hd⟩ : ∃ d, X.l = d := ⟨_, rfl⟩
    have hw8 := hwf.len
    have hd8 : d.length = 8 := by rw [<- hd]; exact hw8
    rw [hd] at hat
    obtain ⟨W, hW, H1⟩ := home_boxed wr hw8
    have LW := jz (LJ.out.below H1.out.2)
    obtain ⟨Q, hQ⟩ : ∃ Q, tput n P per pj (tm sj) a d sj = Q := ⟨_, rfl⟩
    have hst := ST.out
    have kk := KK.out
    have nx := ST.out.next hat (by omega) (by omega) hd8 (by omega) hQ
    have PC := jz fun (w' : World) (hb : Below W.heap.size W w') => lg_put hQ (LW.out.below hb) ST.out.g ST.out.live kk.2.1 (by omega) hd8 (by have := hst.tm; omega) (by have := hst.p; omega) (by have := hst.c; omega)
    have NX := jz nx
    have VN : Hid (wr.heap.size ∉ [g, y]) := jz (by have := LJ.out.nm.lt; have := LJ.out.tq.lt; simp; omega)
    have l0 : ∀ w', Chg [g, y] W w' -> w'.cell? ⟨wr.heap.size, 0, none⟩ = some (.int .i64 (a : Int)) := fun w' hc => by rw [(H1.out.1.chg hc VN.out).slot, ha]
    have l1 : ∀ w', Chg [g, y] W w' -> (lineLoad (.pointer (some ⟨wr.heap.size, 1, none⟩))).run Tryz.prog w' = .ok (.agg (lc d)) w' := fun w' hc => by rw [(H1.out.1.chg hc VN.out).line, hd]
    have d1 : ∀ w', Chg [g, y] W w' -> w'.cell? ⟨x, 1, none⟩ = some (.pointer (some ⟨y, 0, none⟩)) := fun w' hc => by
     rw [Whole.at_ (hc.whole LW.out.lb (by simpa using NEx.out))]; rfl
    have hbd : Below W.heap.size W W.drew := (Below.refl _ _).drew
    have i0 : (0 : Int) <= (j : Int) := by omega
    have i3 : (j : Int) < (C.length : Int) := by omega
    have i4 : ¬ (j : Int) < 0 := by omega
    have j0 : IntKind.i64.wrap ((j : Int) + 1) = ((j + 1 : Nat) : Int) := by rw [show (j : Int) + 1 = ((j + 1 : Nat) : Int) by omega]; exact i64_nat _ (by omega)
    have HK := jz hlt
    have CB := jz (Chg.of_below H1.out.2 [g, y])
    clear hx hX hwf hat hst nx hlt hj hd hQ kk ha
    go_wp2
    go_region_held3 (fun w' => Chg [g, y] W w')
     (first | assumption | exact (Chg.refl _ _).drew)
     (first
       | (go_at_call 54; refine (PC.out _ hbd).mono ?_; rintro e wy ⟨rfl, hLy, hCy⟩
          have LY := jz hLy
          have CY := jz ((Chg.of_below hbd [g, y]).trans hCy)
          clear hLy hCy))
    have CZ := jz ((CJ.out.trans CB.out).trans CY.out)
    clear l0 l1 d1 hbd hl
    obtain ⟨e1, s1⟩ := Q
    rcases NX.out with ⟨h0, S1⟩ | ⟨h0, hT⟩
    . dsimp only at h0
      subst h0
      have KN := jz S1
      clear S1
      go_wp2
      exact ⟨⟨j + 1, by have := HK.out; omega, by go_num, jz ⟨_, _, KN.out, LY.out, CZ.out⟩⟩, by have := HK.out; simp [intOf]; omega⟩
    . dsimp only at h0
      by_cases h3 : e1 = 3
      . subst h3
        have ER : Hid ((0, tp per pj, s1) = R) := jz (by rw [<- HR.out, hT, if_neg h0, if_pos rfl])
        clear h0 hT
        go_wp2
        go_ret
        exact ⟨by rw [<- ER.out]; rfl, by rw [<- ER.out]; exact LY.out, CZ.out⟩
      . have b0 : (e1 == 0) = false := beq_eq_false_iff_ne.2 h0
        have b3 : (e1 == 3) = false := beq_eq_false_iff_ne.2 h3
        have ER : Hid ((e1, tp per pj, s1) = R) := jz (by rw [<- HR.out, hT, if_neg h0, if_neg h3])
        clear h0 hT h3
        go_wp2
        go_ret
        exact ⟨by rw [<- ER.out]; rfl, by rw [<- ER.out]; exact LY.out, CZ.out⟩
  . obtain rfl : j = C.length := by omega
    have hT := Stp.done (by have := ST.out; rw [<- HM.out.2] at this; exact this)
    have hst := ST.out
    have kk := KK.out
    have SC := jz (lg_set (v := 0) LJ.out ST.out.g.ok (by have := hst.c; omega))
    have c0 := LJ.out.c0
    have ER : Hid ((sj.setE ((1 : Nat) : Int), pj, sj.set ((1 : Nat) : Int) 0) = R) := jz (by rw [<- HR.out, hT, if_pos rfl])
    clear hT hst kk hj
    go_wp2_with fail
    refine (SC.out).mono ?_; rintro e w3 ⟨rfl, hL, hC⟩
    have L3 := jz hL
    have C3 := jz (CJ.out.trans hC)
    clear hL hC
    go_wp2
    go_ret
    exact ⟨by rw [<- ER.out]; rfl, by rw [<- ER.out]; exact L3.out, C3.out⟩
theorem lkeep_ok {n P per p : Nat} {h : List Hm} {s : Nv} {R : Int × Nat × Nv} (hR : lkeep n P per p h s = R) (G : GOk s n P) (hd : s.dark = false) (M : MayH n h) (hw : Wide h) (hm : tm s + 30 < 4611686018427387904) (h0 : R.1 = 0) :
 GOk R.2.2 n P /\ R.2.2.dark = false /\ tm R.2.2 <= tm s + 16 /\ R.2.2.c <= s.c + 1300 /\ R.2.1 <= p + 16 := by
 have n16 := M.n16
 have h14 := M.hi
 obtain ⟨o, op⟩ := tputs_out (n := n) (P := P) (per := per) (by omega) (lgP h) p s (lgP_pairs (by omega) h14 hw) G hd (by rw [lgP_length]; unfold ixN; omega)
 have hl16 : (lgP h).length <= 16 := by rw [lgP_length]; unfold ixN; omega
 unfold lkeep at hR
 generalize tputs n P per p (lgP h) s = T at *
 have oh := o.hi
 have oc := o.c
 by_cases t0 : T.1 = 0
 . rw [if_pos t0] at hR
   subst hR
   have d1 : T.2.2.dark = false := by rcases o.own with ⟨_, q, _⟩ | ⟨e, _⟩ | ⟨e, _⟩; exact q; rw [t0] at e; cases e; rw [t0] at e; cases e
   obtain ⟨a1, _, _, a4, _, _, a7, a8⟩ := set1 o.g d1 (h.length : Int)
   dsimp only at h0
   refine ⟨a1, ?_, by dsimp only; omega, by dsimp only; omega, by dsimp only; omega⟩
   rcases a8 with ⟨_, q, _⟩ | ⟨e, _⟩
   . exact q
   . rw [h0] at e; cases e
 . rw [if_neg t0] at hR
   subst hR
   exact absurd h0 t0
section
variable {x g y q n P per p : Nat} {s : Nv} {w : World}
theorem cmt_is {v : Value} {h : List Hm} {R : Int × Nat × Nv} (hR : lcom n P per p h s = R) (H : Lg w x g y q n P per p s) (L : LgOk s n P) (hd : s.dark = false) (rm : Room n P per p s) (h0 : lk s = 0) (hv : ∀ w', Chg [g, y] w w' -> RA homeE w' v h) (M : MayH n h) :
 Calls Tryz.prog 152 #[.pointer (some ⟨x, 0, none⟩), v] w fun e w' => e = .returned (.int .i64 R.1) /\ Lg w' x g y q n P per R.2.1 R.2.2 /\ Chg [g, y] w w' := by
 have hv0 := hv w (Chg.refl _ _)
 have hw : Wide h := fun x hx => (ra_ok hv0 x hx).len
 have LC := jz (llines_is H)
 have MC := jz (lmay_is (n : Int) v h true w hv0 ⟨fun _ => M, fun _ => rfl⟩)
 have HL := jz H
 have HD := jz (And.intro hd (show s.rg 1 = 0 by rw [L.r1, h0]; rfl))
 rw [lcom_keep] at hR
 obtain ⟨K, hK⟩ : ∃ K, lkeep n P per p h s = K := ⟨_, rfl⟩
 have KO := lkeep_ok hK L.g hd M hw rm.m
 rw [hK] at hR
 have HR := jz hR
 have HK := jz hK
 have HO := jz KO
 have HA := jz (And.intro L.g (And.intro rm M))
 have HV := jz hv
 clear H hv hv0 M hd hR hK KO rm L h0 hw
 go_enter Tryz.func152, Tryz.ntmps152
 go_wp2_with fail
 refine (LC.out).mono ?_; rintro e w' ⟨rfl, rfl⟩
 go_wp2_with fail
 refine (MC.out).mono ?_; rintro e w1 ⟨rfl, hb⟩
 have L1 := jz (HL.out.below hb)
 have C1 := jz (Chg.of_below hb [g, y])
 have PC := jz (lpend_live L1.out HD.out.1 HD.out.2)
 have KC := jz (keep_is (v := v) HK.out (fun w' hc => HV.out w' (C1.out.trans hc)) L1.out HA.out.1 HD.out.1 HA.out.2.1 HA.out.2.2)
 clear hb
 go_wp2_with fail
 refine (PC.out).mono ?_; rintro e w' ⟨rfl, rfl⟩
 go_wp2_with fail
 refine (KC.out).mono ?_; rintro e w2 ⟨rfl, hL, hC⟩
 have L2 := jz hL
 have C2 := jz (C1.out.trans hC)
 clear hL hC
 obtain ⟨e1, p1, s1⟩ := K
 by_cases h0 : e1 = 0
 . subst h0
   obtain ⟨g1, g2, g3, g4, g5⟩ := HO.out rfl
   have hR := HR.out
   rw [if_pos rfl] at hR
   dsimp only at hR g1 g2 g3 g4 g5
   have rmm := HA.out.2.1
   have DC := jz (do_is (v := v) hR (fun w' hc => HV.out w' (C2.out.trans hc)) L2.out g1 g2 rmm.n (by have := rmm.p; omega) (by have := rmm.m; omega) (by have := rmm.c; omega) HA.out.2.2)
   clear g1 g2 g3 g4 g5 hR rmm
   go_wp2_with fail
   refine (DC.out).mono ?_; rintro e w3 ⟨rfl, hL, hC⟩
   have L3 := jz hL
   have C3 := jz (C2.out.trans hC)
   clear hL hC
   go_wp2
   go_ret
   exact ⟨rfl, L3.out, C3.out⟩
 . have b0 : (e1 != 0) = true := bne_iff_ne.2 h0
   have ER : Hid ((e1, p1, s1) = R) := jz (by rw [<- HR.out, if_neg h0])
   clear h0
   go_wp2
   go_ret
   exact ⟨by rw [<- ER.out]; rfl, by rw [<- ER.out]; exact L2.out, C2.out⟩
theorem rcv_zero (H : Lg w x g y q n P per p s) (hd : s.dark = false) (hr : s.rg 1 = 0) : Calls Tryz.prog 28 #[.pointer (some ⟨x, 0, none⟩)] w fun e w' => e = .returned (.int .i64 0) /\ w = w' := by
 have C := jz (cm_zero H hd hr)
 clear H hd hr
 go_enter Tryz.func28, Tryz.ntmps28
 go_wp2_with fail
 refine (C.out).mono ?_; rintro e w' ⟨rfl, rfl⟩
 go_wp2_with fail
 go_ret
 exact ⟨rfl, rfl⟩
theorem rcv_is {R : Int × Nat × Nv} (hR : lrec n P per p s = R) (H : Lg w x g y q n P per p s) (L : LgOk s n P) (hd : s.dark = false) (rm : Room n P per p s) :
 Calls Tryz.prog 28 #[.pointer (some ⟨x, 0, none⟩)] w fun e w' => e = .returned (.int .i64 R.1) /\ Lg w' x g y q n P per R.2.1 R.2.2 /\ Chg [g, y] w w' := by
 unfold lrec at hR
 by_cases h0 : lk s = 0
 . rw [if_pos h0] at hR
   subst hR
   refine (rcv_zero H hd (by rw [L.r1, h0]; rfl)).mono ?_
   rintro e w' ⟨rfl, rfl⟩
   exact ⟨rfl, H, Chg.refl _ _⟩
 . rw [if_neg h0] at hR
   have M := L.fo.resolve_left h0
   have C := jz (cm_some H L hd rm.n h0)
   have HD := jz (fun (v : Value) (w1 : World) (hv : ∀ w', Chg [g, y] w1 w' -> RA homeE w' v (com s n P)) (hL : Lg w1 x g y q n P per p s) => do_is hR hv hL L.g hd rm.n (by have := rm.p; omega) (by have := rm.m; omega) (by have := rm.c; omega) M)
   have HL := jz H
   have hlo := M.lo
   clear hR L hd rm h0 M H
   generalize com s n P = CC at *
   go_enter Tryz.func28, Tryz.ntmps28
   go_wp2_with fail
   refine (C.out).mono ?_; rintro e w1 ⟨v, rfl, ho, hr, hb⟩
   have L1 := jz (HL.out.below hb)
   have C1 := jz (Chg.of_below hb [g, y])
   have DC := jz (HD.out v w1 (fun w' hc => ra_chg hr hc fun b hb => by have := ho b hb; have := HL.out.nm.lt; have := HL.out.tq.lt; simp; omega) L1.out)
   obtain ⟨pv, cap, rfl, _, _⟩ := ra_shape hr
   have b0 : ((CC.length : Int) == 0) = false := beq_eq_false_iff_ne.2 (by omega)
   clear ho hr hb hlo
   generalize CC.length = k at *
   go_wp2_with fail
   refine (DC.out).mono ?_; rintro e w3 ⟨rfl, hL, hC⟩
   have L3 := jz hL
   have C3 := jz (C1.out.trans hC)
   clear hL hC
   go_wp2
   go_ret
   exact ⟨rfl, L3.out, C3.out⟩
end

theorem chas_yes {x g : Nat} {s : Ct} {p : Nat} {w : World} (h : Cq w x g s) (hp : p < s.n) : Calls Tryz.prog 187 #[.pointer (some ⟨x, 0, none⟩), .int .i64 (p : Int)] w fun e w' => e = .returned (.bool true) /\ w = w' := by
 have c1 := h.c1
 have i1 : (p : Int) >= 0 := by omega
 have i2 : (p : Int) < (s.n : Int) := by omega
 clear h hp
 generalize s.n = n at *
 go_enter Tryz.func187, Tryz.ntmps187
 go_wp2_with fail
 go_ret
 exact ⟨rfl, rfl⟩
theorem tlag_is (c k l : Int) (w : World) (hl : IntKind.i64.wrap (c - k) = l) : Calls Tryz.prog 188 #[.agg #[.int .i64 c, .int .i64 k]] w fun e w' => e = .returned (.int .i64 l) /\ Below w.heap.size w w' := by
 have B := jz (bal (o := .cells #[.int .i64 c, .int .i64 k] 113) (Below.refl w.heap.size w))
 go_enter Tryz.func188, Tryz.ntmps188
 go_wp2_with fail
 go_ret
 exact ⟨rfl, B.out⟩
theorem cnote_no {v : Value} {p : Int} {w : World} (h : Calls Tryz.prog 187 #[v, .int .i64 p] w fun e w' => e = .returned (.bool false) /\ w = w') : Calls Tryz.prog 177 #[v, .int .i64 p] w fun e w' => e = .returned (.tuple #[.int .i64 0, .bool false]) /\ w = w' := by
 have C := jz h
 clear h
 go_enter Tryz.func177, Tryz.ntmps177
 go_wp2_with fail
 refine (C.out).mono ?_; rintro e w' ⟨rfl, rfl⟩
 go_wp2_with fail
 go_ret2
 exact ⟨rfl, rfl⟩
theorem cnote_yes {x g : Nat} {s : Ct} {p : Nat} {w : World} (h : Cq w x g s) (hk : s.Ok) (hp : p < s.n) (hb : s.c p < 4611686018427387904) :
 Calls Tryz.prog 177 #[.pointer (some ⟨x, 0, none⟩), .int .i64 (p : Int)] w fun e w' => e = .returned (.tuple #[.int .i64 ((s.c p + 1 : Nat) : Int), .bool (s.due p)]) /\ Cq w' x g (s.note p) /\ Chg [g] w w' := by
 have C := jz (chas_yes h hp)
 have c1 := h.c1
 have p0 := h.p0 hp
 have f0 := h.free (p * 2)
 have i1 : (0 : Int) <= (p : Int) := by omega
 have i2 : (p : Int) < (s.n : Int) := by omega
 have i3 : ¬ (p : Int) < 0 := by omega
 have j0 : IntKind.i64.wrap ((s.c p : Int) + 1) = ((s.c p + 1 : Nat) : Int) := by rw [show (s.c p : Int) + 1 = ((s.c p + 1 : Nat) : Int) by omega]; exact i64_nat _ (by omega)
 obtain ⟨W, hW⟩ : ∃ W, w.setCell ⟨g, p * 2, none⟩ (.int .i64 ((s.c p + 1 : Nat) : Int)) = W := ⟨_, rfl⟩
 have H1 := h.up hp
 have CW : Chg [g] w W := by rw [<- hW]; exact (Chg.refl _ _).setCell (.inl (by simp)) _
 rw [hW] at H1
 have q0 := fun (w' : World) (hb : Below W.heap.size W w') => (H1.below hb).c0
 have r0 := fun (w' : World) (hb : Below W.heap.size W w') => (H1.below hb).p0 (p := p) hp
 have r1 := fun (w' : World) (hb : Below W.heap.size W w') => (H1.below hb).p1 (p := p) hp
 have eu : (s.up p).c p = s.c p + 1 := by simp [Ct.up, at1]
 rw [eu] at r0
 obtain ⟨d, hd⟩ : ∃ d, s.c p + 1 - s.k p = d := ⟨_, rfl⟩
 have T := jz (fun w => tlag_is ((s.c p + 1 : Nat) : Int) (s.k p : Int) (d : Int) w (by
  have := hk.le p hp; have := hk.lag p hp; have := hk.b2
  rw [show ((s.c p + 1 : Nat) : Int) - (s.k p : Int) = (d : Int) by omega]; exact i64_nat _ (by omega)))
 have ek : (s.up p).k p = s.k p := rfl
 have eb : (s.up p).b = s.b := rfl
 rw [ek] at r1
 rw [eb] at q0
 have HH := jz H1
 have HC := jz CW
 have HP := jz hp
 have hbd : Below W.heap.size W W.drew := (Below.refl _ _).drew
 obtain ⟨D, hD⟩ : ∃ D, s.due p = D := ⟨_, rfl⟩
 have HD := jz hD
 have hdue : D = decide (s.b <= d) := by rw [<- hD, <- hd]; rfl
 have KN := fun (w' : World) (hw : Below W.heap.size W w') => (H1.below hw).kept (p := p) hp
 rw [eu] at KN
 have HK := jz KN
 have fr := fun (w' : World) (hw : Below W.heap.size W w') => (H1.below hw).free (p * 2 + 1)
 clear h hk H1 CW hd eu ek eb KN hp hD
 rw [HD.out]
 have EN : Hid (s.note p = if D then (s.up p).kept p else s.up p) := jz (by unfold Ct.note; rw [HD.out])
 rw [EN.out]
 generalize s.c p + 1 = c1' at *
 generalize s.c p = cc at *
 generalize s.k p = kk at *
 generalize s.b = bb at *
 generalize s.n = n at *
 by_cases hl : (d : Int) < (bb : Int)
 . obtain rfl : D = false := by rw [hdue]; simp; omega
   clear hdue
   go_enter Tryz.func177, Tryz.ntmps177
   go_wp2_with fail
   refine (C.out).mono ?_; rintro e w' ⟨rfl, rfl⟩
   go_wp2
   go_region_held3 (fun w' => Below W.heap.size W w')
    (first | assumption | exact (Below.refl _ _).drew | exact below_more ‹Below W.heap.size W _› hbq)
    ((go_at_call 188; refine (T.out _).mono ?_; rintro e wq ⟨rfl, hbq⟩))
   have hbw := ‹Below W.heap.size W wq›
   have s0 := r0 wq hbw
   have HF := jz hbw
   go_wp2
   go_ret2
   exact ⟨rfl, HH.out.below HF.out, HC.out.trans (Chg.of_below HF.out _)⟩
 . obtain rfl : D = true := by rw [hdue]; simp; omega
   clear hdue
   go_enter Tryz.func177, Tryz.ntmps177
   go_wp2_with fail
   refine (C.out).mono ?_; rintro e w' ⟨rfl, rfl⟩
   go_wp2
   go_region_held3 (fun w' => Below W.heap.size W w')
    (first | assumption | exact (Below.refl _ _).drew | exact below_more ‹Below W.heap.size W _› hbq)
    ((go_at_call 188; refine (T.out _).mono ?_; rintro e wq ⟨rfl, hbq⟩))
   have hbw := ‹Below W.heap.size W wq›
   have s0 := r0 wq hbw
   have s1 := fr wq hbw
   have HF := jz hbw
   obtain ⟨V, hV⟩ : ∃ V, wq.setCell ⟨g, p * 2 + 1, none⟩ (.int .i64 (c1' : Int)) = V := ⟨_, rfl⟩
   have K2 := HK.out wq hbw
   rw [hV] at K2
   have KV := jz K2
   have s2 : V.cell? ⟨g, p * 2, none⟩ = some (.int .i64 (c1' : Int)) := by
    rw [<- hV]; exact (World.cell?_setCell_other _ _ _ _ (by simp)).trans s0
   have CV := jz (show Chg [g] W V by rw [<- hV]; exact (Chg.of_below hbw _).setCell (.inl (by simp)) _)
   clear K2
   go_wp2
   go_ret2
   exact ⟨rfl, KV.out, HC.out.trans CV.out⟩
theorem page_is (l : Nat) (hl : l < 9223372036854775808) (w : World) : Calls Tryz.prog 104 #[.int .i64 (l : Int)] w fun e w' => e = .returned (.int .i64 ((l / 4 : Nat) : Int)) /\ w = w' := by
 by_cases h : l = 0
 . subst h
   go_enter Tryz.func104, Tryz.ntmps104
   go_wp2_with fail
   go_ret
   exact ⟨rfl, rfl⟩
 . have t : (l : Int).tdiv 4 = ((l / 4 : Nat) : Int) := tdiv_nat l 4
   have k : IntKind.i64.wrap ((l / 4 : Nat) : Int) = ((l / 4 : Nat) : Int) := i64_nat _ (by omega)
   generalize l / 4 = m at *
   have i2 : (0 : Int) <= (l : Int) := by omega
   have i5 : (0 : Int) < (l : Int) := by omega
   have i6 : ¬ (l : Int) <= 0 := by omega
   have i7 : ¬ (l : Int) < 0 := by omega
   clear h hl
   go_enter Tryz.func104, Tryz.ntmps104
   go_wp2_with fail
   go_ret
   exact ⟨rfl, rfl⟩
def br (k : Int) : Nat := if k <= 0 then 0 else if 1099511627776 <= k then 1099511627776 else k.toNat
theorem bring_is (k : Int) (w : World) : Calls Tryz.prog 63 #[.int .i64 k] w fun e w' => e = .returned (.int .i64 (br k : Int)) /\ w = w' := by
 by_cases h1 : k <= 0
 . have e : (br k : Int) = 0 := by unfold br; rw [if_pos h1]; rfl
   rw [e]
   by_cases h0 : k < 0
   . have i1 : ¬ k >= 0 := by omega
     have i2 : ¬ 0 <= k := by omega
     go_enter Tryz.func63, Tryz.ntmps63
     go_wp2_with fail
     go_ret
     exact ⟨rfl, rfl⟩
   . obtain rfl : k = 0 := by omega
     go_enter Tryz.func63, Tryz.ntmps63
     go_wp2_with fail
     go_ret
     exact ⟨rfl, rfl⟩
 . by_cases h2 : 1099511627776 <= k
   . have e : (br k : Int) = 1099511627776 := by unfold br; rw [if_neg h1, if_pos h2]; rfl
     rw [e]
     have i2 : 0 <= k := by omega
     by_cases h3 : k = 1099511627776
     . subst h3
       clear h1 h2 e i2
       go_enter Tryz.func63, Tryz.ntmps63
       go_wp2_with fail
       go_ret
       exact ⟨rfl, rfl⟩
     . have i3 : 1099511627776 < k := by omega
       have i4 : ¬ k <= 1099511627776 := by omega
       have i5 : 0 < k := by omega
       clear h3
       go_enter Tryz.func63, Tryz.ntmps63
       go_wp2_with fail
       go_ret
       exact ⟨rfl, rfl⟩
   . have e : (br k : Int) = k := by unfold br; rw [if_neg h1, if_neg h2]; omega
     rw [e]
     have i2 : 0 <= k := by omega
     have i3 : k < 1099511627776 := by omega
     have i4 : k <= 1099511627776 := by omega
     have i5 : 0 < k := by omega
     go_enter Tryz.func63, Tryz.ntmps63
     go_wp2_with fail
     go_ret
     exact ⟨rfl, rfl⟩
theorem info_tally : (Tryz.prog.info? 113).map (fun i => (i.zero, i.size, i.bytes)) = some (some (.agg #[.int .i64 0, .int .i64 0]), 2, 16) := by kernel_rfl
def cnew (b n : Nat) (l : List Int) (k : Nat) : Ct := ⟨b, n, fun p => if p < k then br (l.getD p 0) else 0, fun p => if p < k then br (l.getD p 0) else 0⟩
theorem cnew_step (b n : Nat) (l : List Int) (k : Nat) : ({ ({ cnew b n l k with c := at1 (cnew b n l k).c k (br (l.getD k 0)) } : Ct) with k := at1 (cnew b n l k).k k (br (l.getD k 0)) } : Ct) = cnew b n l (k + 1) := by
 have e : at1 (cnew b n l k).c k (br (l.getD k 0)) = (cnew b n l (k + 1)).c := by
  funext p
  unfold at1 cnew
  by_cases h : p = k
  . subst h; rw [if_pos rfl]; dsimp only; rw [if_pos (by omega)]
  . rw [if_neg h]; dsimp only
    by_cases hp : p < k
    . rw [if_pos hp, if_pos (by omega)]
    . rw [if_neg hp, if_neg (by omega)]
 have e2 : at1 (cnew b n l k).k k (br (l.getD k 0)) = (cnew b n l (k + 1)).k := e
 rw [e2]; dsimp only; rw [e]; rfl
theorem cnew_ok {b : Nat} {l : List Int} (h1 : 1 <= b) (h2 : b <= 100) (h3 : l.length <= 16) (k : Nat) : (cnew b l.length l k).Ok :=
 ⟨h1, h2, h3, fun _ _ => Nat.le_refl _, fun _ _ => Nat.lt_add_of_pos_right h1⟩
theorem run_make_tally (b n : Nat) (l : List Int) (hn : n <= 16) (w : World) :
 (Instr.makeSlice 109 (.int .i64 (n : Int)) (.int .i64 (n : Int))).run Tryz.prog w = .ok (.slice (some ⟨w.heap.size, 0, none⟩) n n) (w.alloc (.cells (tab (n * 2) (cnew b n l 0).f) 113)) := by
 obtain ⟨i, hi, hzz⟩ := Option.map_eq_some_iff.1 info_tally
 simp only [Prod.mk.injEq] at hzz
 obtain ⟨hz, hs, hb⟩ := hzz
 have := run_make (P := Tryz.prog) w 109 113 i _ Tryz.underlying109 hi hz .i64 .i64 n n (by omega) (by omega) (by rw [hb]; omega) (by omega)
 rw [Int.toNat_natCast, hs] at this
 rw [this, made_tab _ _ (cnew b n l 0).f]
 intro j _
 have h2 : (Value.agg #[.int .i64 0, .int .i64 0]).cells.size = 2 := rfl
 rw [h2]
 have e : (cnew b n l 0).f j = .int .i64 0 := by
  simp [Ct.f, cnew]
 rw [e]
 rcases (by omega : j % 2 = 0 \/ j % 2 = 1) with h | h <;> rw [h] <;> rfl
theorem cnew_no (b : Int) (v : Value) (l : List Int) (w : World) (hr : RI w v l) (h : b < 1 \/ 100 < b \/ 16 < l.length) : Calls Tryz.prog 32 #[.int .i64 b, v] w fun e w' => e = .returned (.pointer none) /\ w = w' := by
 obtain ⟨p, c, rfl, _⟩ := hr
 by_cases h1 : b < 1
 . clear h
   go_enter Tryz.func32, Tryz.ntmps32
   go_wp2_with fail
   go_ret
   exact ⟨rfl, rfl⟩
 . by_cases h2 : b > 100
   . clear h
     go_enter Tryz.func32, Tryz.ntmps32
     go_wp2_with fail
     go_ret
     exact ⟨rfl, rfl⟩
   . have h3 : (l.length : Int) > 16 := by omega
     have h4 : l.length > 16 := by omega
     clear h
     generalize l.length = n at *
     go_enter Tryz.func32, Tryz.ntmps32
     go_wp2_with fail
     go_ret
     exact ⟨rfl, rfl⟩
theorem cnew_yes (b : Nat) (v : Value) (l : List Int) (w : World) (hr : RI w v l) (h1 : 1 <= b) (h2 : b <= 100) (h3 : l.length <= 16) :
 Calls Tryz.prog 32 #[.int .i64 (b : Int), v] w fun e w' => ∃ x g, e = .returned (.pointer (some ⟨x, 0, none⟩)) /\ w.heap.size <= x /\ w.heap.size <= g /\ Cq w' x g (cnew b l.length l l.length) /\ Below w.heap.size w w' := by
 have HR := jz hr
 obtain ⟨p, c, rfl, q1, q2, q3⟩ := hr
 obtain ⟨n, hn⟩ : ∃ n, l.length = n := ⟨_, rfl⟩
 rw [hn]
 rw [hn] at h3 HR
 have hmk := run_make_tally b n l h3
 obtain ⟨W, hW⟩ : ∃ W, (w.alloc (.cells (tab (n * 2) (cnew b n l 0).f) 113)).alloc (.cells #[.int .i64 (b : Int), .slice (some ⟨w.heap.size, 0, none⟩) n n] 111) = W := ⟨_, rfl⟩
 have hs1 : (w.alloc (.cells (tab (n * 2) (cnew b n l 0).f) 113)).heap.size = w.heap.size + 1 := size_alloc _ _
 have CQ : Cq W (w.heap.size + 1) w.heap.size (cnew b n l 0) := by
  refine ⟨by omega, ?_, ?_⟩
  . rw [<- hW]
    have := heap_alloc_new (w.alloc (.cells (tab (n * 2) (cnew b n l 0).f) 113)) (.cells #[.int .i64 (b : Int), .slice (some ⟨w.heap.size, 0, none⟩) n n] 111)
    rw [hs1] at this; exact this
  . rw [<- hW]
    exact Whole.alloc (heap_alloc_new w _) _
 have BW : Below w.heap.size w W := by rw [<- hW]; exact bal (bal (Below.refl _ _))
 have H0 := jz CQ
 have B0 := jz BW
 have HN := jz hn
 have H3 := jz h3
 have k1 : ¬ (b : Int) < 1 := by omega
 have k2 : ¬ (b : Int) > 100 := by omega
 have k3 : ¬ (n : Int) > 16 := by omega
 have k4 : ¬ n > 16 := by omega
 rw [hn] at q1
 clear CQ BW q1 q2 q3 h1 h2 h3 hn hs1
 go_enter Tryz.func32, Tryz.ntmps32
 go_wp2
 go_loopw [6, 7, 27] (fun _ _ i wr => ∃ k : Nat, k <= n /\ i = .int .i64 k /\ Hid (Cq wr (w.heap.size + 1) w.heap.size (cnew b n l k) /\ Below w.heap.size w wr)) (fun _ _ i _ => n - (intOf i).toNat)
 case atStart => exact ⟨0, Nat.zero_le _, rfl, jz ⟨H0.out, B0.out⟩⟩
 case round =>
  obtain ⟨k, hk, rfl, H⟩ := hrel
  clear hmk
  by_cases hlt : k < n
  . have j0 : IntKind.i64.wrap ((k : Int) + 1) = ((k + 1 : Nat) : Int) := by rw [show (k : Int) + 1 = ((k + 1 : Nat) : Int) by omega]; exact i64_nat _ (by have := H3.out; omega)
    obtain ⟨bb, off, rfl, hbb, hc⟩ := ri_some HR.out (by rw [HN.out]; omega)
    have c0 : wr.cell? ⟨bb, off + k, none⟩ = some (.int .i64 (l.getD k 0)) := (H.out.2.cell (p := ⟨bb, off + k, none⟩) hbb).trans (hc k (by rw [HN.out]; exact hlt))
    have c1 := H.out.1.c1
    have f0 := H.out.1.free (k * 2)
    have f1 := H.out.1.free (k * 2 + 1)
    have p0 := H.out.1.p0 (p := k) hlt
    have p1 := H.out.1.p1 (p := k) hlt
    have i0 : (0 : Int) <= (k : Int) := by omega
    have i1 : (k : Int) < (n : Int) := by omega
    have i2 : ¬ (k : Int) < 0 := by omega
    have s1 := H.out.1.setc (p := k) hlt (br (l.getD k 0))
    have s2 := s1.setk (p := k) hlt (br (l.getD k 0))
    have s3 := s2.as (cnew_step b n l k)
    have B1 := (H.out.2.setCell (p := ⟨w.heap.size, k * 2, none⟩) (Nat.le_refl _) (.int .i64 (br (l.getD k 0) : Int))).setCell (p := ⟨w.heap.size, k * 2 + 1, none⟩) (Nat.le_refl _) (.int .i64 (br (l.getD k 0) : Int))
    have HF := jz (And.intro s3 B1)
    have CB := jz (bring_is (l.getD k 0) wr)
    have en : (cnew b n l k).n = n := rfl
    rw [en] at c1
    clear s1 s2 s3 B1 hc H en
    generalize br (l.getD k 0) = y at *
    generalize (cnew b n l k).c k = oc at *
    generalize (cnew b n l k).k k = ok at *
    generalize l.getD k 0 = yy at *
    go_wp2_with fail
    refine (CB.out).mono ?_; rintro e w' ⟨rfl, rfl⟩
    go_wp2
    exact ⟨⟨k + 1, by omega, by go_num, HF⟩, by simp [intOf]; omega⟩
  . obtain rfl : k = n := by omega
    go_wp2
    go_ret
    exact ⟨_, _, rfl, Nat.le_succ _, Nat.le_refl _, H.out.1, H.out.2⟩
theorem call_any {x g : Nat} {s : Ct} {w : World} (h : Cq w x g s) (hn : s.n <= 16) :
 Calls Tryz.prog 150 #[.pointer (some ⟨x, 0, none⟩)] w fun e w' => e = .returned (.slice (some ⟨w.heap.size, 0, none⟩) s.n s.n) /\ OwnI w.heap.size w' (.slice (some ⟨w.heap.size, 0, none⟩) s.n s.n) (byF s.n fun p => (s.c p : Int)) /\ Below w.heap.size w w' := by
 have hmk := run_make_row' (P := Tryz.prog) 24 3 (.int .i64 0) 8 Tryz.underlying24 info_int rfl .i64 .i64 s.n (by omega) (by omega)
 have O0 := made_own_i w s.n (by unfold maxLen; omega)
 rw [byF_zero s.n (f := fun p => if p < 0 then (s.c p : Int) else 0) fun k => rfl] at O0
 obtain ⟨W, hW⟩ : ∃ W, w.alloc (.cells (madeCells #[.int .i64 0] s.n) 3) = W := ⟨_, rfl⟩
 have B0 := bal (o := .cells (madeCells #[.int .i64 0] s.n) 3) (Below.refl w.heap.size w)
 rw [hW] at O0 B0
 have c1 := h.c1
 have d1 : W.cell? ⟨x, 1, none⟩ = some (.slice (some ⟨g, 0, none⟩) s.n s.n) := by rw [<- hW]; exact cell_kept c1 _
 have OO := jz O0
 have BB := jz B0
 have HQ := jz h
 have HN := jz hn
 obtain ⟨n, hsn⟩ : ∃ n, s.n = n := ⟨_, rfl⟩
 rw [hsn] at hmk OO hW c1 d1 HN
 rw [hsn]
 have HS := jz hsn
 clear h hn O0 B0 hsn
 go_enter Tryz.func150, Tryz.ntmps150
 go_wp2
 go_loopw [4, 5, 19] (fun _ _ i wr => ∃ k : Nat, k <= n /\ i = .int .i64 k /\ Hid (OwnI w.heap.size wr (.slice (some ⟨w.heap.size, 0, none⟩) n n) (byF n fun p => if p < k then (s.c p : Int) else 0) /\ Below w.heap.size w wr)) (fun _ _ i _ => n - (intOf i).toNat)
 case atStart => exact ⟨0, Nat.zero_le _, rfl, jz ⟨OO.out, BB.out⟩⟩
 case round =>
  obtain ⟨k, hk, rfl, H⟩ := hrel
  clear hmk
  by_cases hlt : k < n
  . have j0 : IntKind.i64.wrap ((k : Int) + 1) = ((k + 1 : Nat) : Int) := by rw [show (k : Int) + 1 = ((k + 1 : Nat) : Int) by omega]; exact i64_nat _ (by have := HN.out; omega)
    have Q := HQ.out.below H.out.2
    have p0 := Q.p0 (p := k) (by rw [HS.out]; exact hlt)
    have p1 := Q.p1 (p := k) (by rw [HS.out]; exact hlt)
    have i0 : (0 : Int) <= (k : Int) := by omega
    have i1 : (k : Int) < (n : Int) := by omega
    have i2 : ¬ (k : Int) < 0 := by omega
    obtain ⟨V, hV⟩ : ∃ V, wr.alloc (.cells #[.int .i64 (s.c k : Int), .int .i64 (s.k k : Int)] 113) = V := ⟨_, rfl⟩
    have hlv : Below wr.heap.size wr V := by rw [<- hV]; exact bal (Below.refl _ _)
    have n0 : V.cell? ⟨wr.heap.size, 0, none⟩ = some (.int .i64 (s.c k : Int)) := by rw [<- hV]; exact (Whole.at_ (heap_alloc_new wr _) 0).trans rfl
    have OV := own_below_i H.out.1 hlv
    obtain ⟨o1, o2⟩ := own_cell_i OV (j := k) (by rw [byF_length]; exact hlt)
    have OS := own_stored_i OV k (s.c k : Int)
    rw [byF_set (f' := fun p => if p < k + 1 then (s.c p : Int) else 0) (by rw [if_pos (by omega)]) (fun q hq => by
     by_cases h : q < k
     . rw [if_pos h, if_pos (by omega)]
     . rw [if_neg h, if_neg (by omega)])] at OS
    have BS := (below_more H.out.2 hlv).setCell (p := ⟨w.heap.size, k, none⟩) (Nat.le_refl _) (.int .i64 (s.c k : Int))
    have HF := jz (And.intro OS BS)
    generalize (byF n fun p => if p < k then (s.c p : Int) else 0).getD k 0 = ov at o1
    clear Q OV OS BS hlv H
    go_wp2
    exact ⟨⟨k + 1, by omega, by go_num, HF⟩, by simp [intOf]; omega⟩
  . obtain rfl : k = n := by omega
    go_wp2
    go_ret
    refine ⟨rfl, ?_, H.out.2⟩
    have e : (byF k fun p => if p < k then (s.c p : Int) else 0) = byF k fun p => (s.c p : Int) := by
     unfold byF
     refine List.map_congr_left fun p hp => ?_
     rw [if_pos (List.mem_range.1 hp)]
    rw [<- e]; exact H.out.1

def May (l s p b : Int) : Prop := (1 <= l /\ l <= 64) /\ (0 <= s /\ s <= 16) /\ (1 <= p /\ p <= 1000) /\ 1 <= b /\ b <= 100
instance (l s p b : Int) : Decidable (May l s p b) := by unfold May; infer_instance
theorem within_yes {n a b : Int} (h1 : a <= n) (h2 : n <= b) (w : World) : Calls Tryz.prog 46 #[.int .i64 n, .int .i64 a, .int .i64 b] w fun e w' => e = .returned (.bool true) /\ w = w' := by
 have i1 : n >= a := h1
 go_enter Tryz.func46, Tryz.ntmps46
 go_wp2_with fail
 go_ret
 exact ⟨rfl, rfl⟩
theorem pmay_yes {l s p b : Int} (h : May l s p b) (w : World) : Calls Tryz.prog 18 #[(Value.agg #[Value.int IntKind.i64 l, Value.int IntKind.i64 s, Value.int IntKind.i64 p, Value.int IntKind.i64 b])] w fun e w' => e = .returned (.bool true) /\ Below w.heap.size w w' := by
 obtain ⟨⟨h1, h2⟩, ⟨h3, h4⟩, ⟨h5, h6⟩, h7, h8⟩ := h
 have HB := jz (bal (o := .cells #[.int .i64 l, .int .i64 s, .int .i64 p, .int .i64 b] 23) (Below.refl w.heap.size w))
 go_enter Tryz.func18, Tryz.ntmps18
 go_wp2_with fail
 refine (within_yes h1 h2 _).mono ?_; rintro e w' ⟨rfl, rfl⟩
 go_wp2_with fail
 refine (within_yes h3 h4 _).mono ?_; rintro e w' ⟨rfl, rfl⟩
 go_wp2_with fail
 refine (within_yes h5 h6 _).mono ?_; rintro e w' ⟨rfl, rfl⟩
 go_wp2_with fail
 refine (within_yes h7 h8 _).mono ?_; rintro e w' ⟨rfl, rfl⟩
 go_wp2_with fail
 go_ret
 exact ⟨rfl, HB.out⟩
theorem info_plan : (Tryz.prog.info? 23).map (·.size) = some 4 := by kernel_rfl
def planLoad (p : Value) : Sem Value := Instr.loadAt 23 p
@[go_sem ↓] theorem loadAt_plan (p : Value) : Instr.loadAt 23 p = planLoad p := rfl
def Pq (w : World) (g : Nat) (l s p b : Int) : Prop := Whole w g 23 #[Value.int IntKind.i64 l, Value.int IntKind.i64 s, Value.int IntKind.i64 p, Value.int IntKind.i64 b]
theorem Pq.c0 {w : World} {g : Nat} {l s p b : Int} (h : Pq w g l s p b) : w.cell? ⟨g, 0, none⟩ = some (.int .i64 l) := Whole.at_ h 0
theorem Pq.c1 {w : World} {g : Nat} {l s p b : Int} (h : Pq w g l s p b) : w.cell? ⟨g, 1, none⟩ = some (.int .i64 s) := Whole.at_ h 1
theorem Pq.load {w : World} {g : Nat} {l s p b : Int} (h : Pq w g l s p b) : (planLoad (.pointer (some ⟨g, 0, none⟩))).run Tryz.prog w = .ok (Value.agg #[Value.int IntKind.i64 l, Value.int IntKind.i64 s, Value.int IntKind.i64 p, Value.int IntKind.i64 b]) w :=
 run_loadAt_mid (P := Tryz.prog) w g 0 23 [.int .i64 l, .int .i64 s, .int .i64 p, .int .i64 b] _ (fun j v hv => by
  rw [Whole.at_ h, Nat.zero_add, <- hv]; simp) Tryz.underlying23 rfl (by rw [info_plan]; rfl)
theorem Pq.below {w w' : World} {g : Nat} {l s p b : Int} (h : Pq w g l s p b) (hb : Below w.heap.size w w') : Pq w' g l s p b := (hb.block g (Whole.lt h)).trans h
theorem plan_boxed (w : World) (l s p b : Int) : ∃ W, w.alloc (.cells #[Value.int IntKind.i64 l, Value.int IntKind.i64 s, Value.int IntKind.i64 p, Value.int IntKind.i64 b] 23) = W /\ Hid (Pq W w.heap.size l s p b /\ Below w.heap.size w W) :=
 ⟨_, rfl, jz ⟨heap_alloc_last w _, bal (Below.refl _ _)⟩⟩
def MayN (l s p b : Nat) : Prop := (1 <= l /\ l <= 64) /\ s <= 16 /\ (1 <= p /\ p <= 1000) /\ 1 <= b /\ b <= 100
theorem MayN.may {l s p b : Nat} (h : MayN l s p b) : May (l : Int) (s : Int) (p : Int) (b : Int) := by unfold MayN at h; unfold May; omega
theorem May.nat {l s p b : Int} (h : May l s p b) : ∃ L S P B : Nat, l = L /\ s = S /\ p = P /\ b = B /\ MayN L S P B := by
 unfold May at h
 exact ⟨l.toNat, s.toNat, p.toNat, b.toNat, by omega, by omega, by omega, by omega, by unfold MayN; omega⟩
theorem words_yes {l s p b v : Nat} (h : MayN l s p b) (hv : l * 8 = v) (w : World) : Calls Tryz.prog 12 #[(Value.agg #[Value.int IntKind.i64 (l : Int), Value.int IntKind.i64 (s : Int), Value.int IntKind.i64 (p : Int), Value.int IntKind.i64 (b : Int)])] w fun e w' => e = .returned (.int .i64 (v : Int)) /\ Below w.heap.size w w' := by
 obtain ⟨W, hW, H⟩ := plan_boxed w l s p b
 have l0 := H.out.1.load
 have C := jz (pmay_yes h.may W)
 obtain ⟨⟨h1, h2⟩, h4, _⟩ := h
 have k0 : IntKind.i64.wrap ((l : Int) * 8) = v := by rw [show (l : Int) * 8 = (v : Int) by omega]; exact i64_nat _ (by omega)
 clear h1 h2 h4 hv
 go_enter Tryz.func12, Tryz.ntmps12
 go_wp2_with fail
 refine (C.out).mono ?_; rintro e w' ⟨rfl, hb⟩
 have HB := jz (below_more H.out.2 hb)
 have c0 := (H.out.1.below hb).c0
 have c1 := (H.out.1.below hb).c1
 clear hb
 go_wp2_with fail
 go_ret
 exact ⟨rfl, HB.out⟩
theorem logical_yes {l s p b v : Nat} (h : MayN l s p b) (hv : 16 + l = v) (w : World) : Calls Tryz.prog 19 #[(Value.agg #[Value.int IntKind.i64 (l : Int), Value.int IntKind.i64 (s : Int), Value.int IntKind.i64 (p : Int), Value.int IntKind.i64 (b : Int)])] w fun e w' => e = .returned (.int .i64 (v : Int)) /\ Below w.heap.size w w' := by
 obtain ⟨W, hW, H⟩ := plan_boxed w l s p b
 have l0 := H.out.1.load
 have C := jz (pmay_yes h.may W)
 obtain ⟨⟨h1, h2⟩, h4, _⟩ := h
 have k0 : IntKind.i64.wrap (16 + (l : Int)) = v := by rw [show 16 + (l : Int) = (v : Int) by omega]; exact i64_nat _ (by omega)
 clear h1 h2 h4 hv
 go_enter Tryz.func19, Tryz.ntmps19
 go_wp2_with fail
 refine (C.out).mono ?_; rintro e w' ⟨rfl, hb⟩
 have HB := jz (below_more H.out.2 hb)
 have c0 := (H.out.1.below hb).c0
 have c1 := (H.out.1.below hb).c1
 clear hb
 go_wp2_with fail
 go_ret
 exact ⟨rfl, HB.out⟩
theorem pages_yes {l s p b v : Nat} (h : MayN l s p b) (hv : (l + 3) / 4 = v) (w : World) : Calls Tryz.prog 64 #[(Value.agg #[Value.int IntKind.i64 (l : Int), Value.int IntKind.i64 (s : Int), Value.int IntKind.i64 (p : Int), Value.int IntKind.i64 (b : Int)])] w fun e w' => e = .returned (.int .i64 (v : Int)) /\ Below w.heap.size w w' := by
 obtain ⟨W, hW, H⟩ := plan_boxed w l s p b
 have l0 := H.out.1.load
 have C := jz (pmay_yes h.may W)
 obtain ⟨⟨h1, h2⟩, h4, _⟩ := h
 obtain ⟨m, hm⟩ : ∃ m, l - 1 = m := ⟨_, rfl⟩
 have k0 : IntKind.i64.wrap ((l : Int) - 1) = m := by rw [show (l : Int) - 1 = (m : Int) by omega]; exact i64_nat _ (by omega)
 have k1 : IntKind.i64.wrap (((m / 4 : Nat) : Int) + 1) = v := by rw [show ((m / 4 : Nat) : Int) + 1 = (v : Int) by omega]; exact i64_nat _ (by omega)
 have P := jz (page_is m (by omega))
 generalize m / 4 = q at *
 clear hm
 clear h1 h2 h4 hv
 go_enter Tryz.func64, Tryz.ntmps64
 go_wp2_with fail
 refine (C.out).mono ?_; rintro e w' ⟨rfl, hb⟩
 have HB := jz (below_more H.out.2 hb)
 have c0 := (H.out.1.below hb).c0
 have c1 := (H.out.1.below hb).c1
 clear hb
 go_wp2_with fail
 refine (P.out _).mono ?_; rintro e w' ⟨rfl, rfl⟩
 go_wp2_with fail
 go_ret
 exact ⟨rfl, HB.out⟩
theorem device_yes {l s p b v : Nat} (h : MayN l s p b) (hv : 17 + l + s = v) (w : World) : Calls Tryz.prog 8 #[(Value.agg #[Value.int IntKind.i64 (l : Int), Value.int IntKind.i64 (s : Int), Value.int IntKind.i64 (p : Int), Value.int IntKind.i64 (b : Int)])] w fun e w' => e = .returned (.int .i64 (v : Int)) /\ Below w.heap.size w w' := by
 obtain ⟨W, hW, H⟩ := plan_boxed w l s p b
 have l0 := H.out.1.load
 have C := jz (pmay_yes h.may W)
 have LG := jz (logical_yes h rfl)
 obtain ⟨⟨h1, h2⟩, h4, _⟩ := h
 have k1 : IntKind.i64.wrap (((16 + l : Nat) : Int) + 1) = ((17 + l : Nat) : Int) := by rw [show ((16 + l : Nat) : Int) + 1 = ((17 + l : Nat) : Int) by omega]; exact i64_nat _ (by omega)
 have k2 : IntKind.i64.wrap (((17 + l : Nat) : Int) + (s : Int)) = v := by rw [show ((17 + l : Nat) : Int) + (s : Int) = (v : Int) by omega]; exact i64_nat _ (by omega)
 generalize 16 + l = x at *
 generalize 17 + l = y at *
 clear h1 h2 h4 hv
 go_enter Tryz.func8, Tryz.ntmps8
 go_wp2_with fail
 refine (C.out).mono ?_; rintro e w' ⟨rfl, hb⟩
 have B1 := jz (below_more H.out.2 hb)
 have r0 : ∀ w1 : World, Below w'.heap.size w' w1 -> (planLoad (.pointer (some ⟨w.heap.size, 0, none⟩))).run Tryz.prog w1 = .ok (Value.agg #[Value.int IntKind.i64 (l : Int), Value.int IntKind.i64 (s : Int), Value.int IntKind.i64 (p : Int), Value.int IntKind.i64 (b : Int)]) w1 := fun _ hc => ((H.out.1.below hb).below hc).load
 have r1 : ∀ w1 : World, Below w'.heap.size w' w1 -> w1.cell? ⟨w.heap.size, 1, none⟩ = some (.int .i64 (s : Int)) := fun _ hc => ((H.out.1.below hb).below hc).c1
 clear hb
 go_wp2_with fail
 go_region_held3 (fun w1 => Below w'.heap.size w' w1)
  (first | assumption | exact (Below.refl _ _).drew | exact below_more ‹Below w'.heap.size w' _› hbq)
  ((go_at_call 19; refine (LG.out _).mono ?_; rintro e wq ⟨rfl, hbq⟩))
 have HB := jz (below_more B1.out ‹Below w'.heap.size w' wq›)
 go_wp2
 go_ret
 exact ⟨rfl, HB.out⟩
theorem home_yes {l s p b i v : Nat} (h : MayN l s p b) (hi : i < l) (hv : 16 + i = v) (w : World) : Calls Tryz.prog 25 #[(Value.agg #[Value.int IntKind.i64 (l : Int), Value.int IntKind.i64 (s : Int), Value.int IntKind.i64 (p : Int), Value.int IntKind.i64 (b : Int)]), .int .i64 (i : Int)] w fun e w' => e = .returned (.int .i64 (v : Int)) /\ Below w.heap.size w w' := by
 obtain ⟨W, hW, H⟩ := plan_boxed w l s p b
 have l0 := H.out.1.load
 have C := jz (pmay_yes h.may W)
 obtain ⟨⟨h1, h2⟩, h4, _⟩ := h
 obtain ⟨m, hm⟩ : ∃ m, l - 1 = m := ⟨_, rfl⟩
 have k0 : IntKind.i64.wrap ((l : Int) - 1) = m := by rw [show (l : Int) - 1 = (m : Int) by omega]; exact i64_nat _ (by omega)
 have k1 : IntKind.i64.wrap (16 + (i : Int)) = v := by rw [show 16 + (i : Int) = (v : Int) by omega]; exact i64_nat _ (by omega)
 have D := jz (within_yes (n := (i : Int)) (a := 0) (b := (m : Int)) (by omega) (by omega))
 clear h1 h2 h4 hv hm hi
 go_enter Tryz.func25, Tryz.ntmps25
 go_wp2_with fail
 refine (C.out).mono ?_; rintro e w' ⟨rfl, hb⟩
 have HB := jz (below_more H.out.2 hb)
 have c0 := (H.out.1.below hb).c0
 clear hb
 go_wp2_with fail
 refine (D.out _).mono ?_; rintro e w' ⟨rfl, rfl⟩
 go_wp2_with fail
 go_ret
 exact ⟨rfl, HB.out⟩
def dvM (l s : Int) : Int := 17 + l + s
theorem device_any {l s p b v : Int} (h : May l s p b) (hv : dvM l s = v) (w : World) : Calls Tryz.prog 8 #[(Value.agg #[Value.int IntKind.i64 l, Value.int IntKind.i64 s, Value.int IntKind.i64 p, Value.int IntKind.i64 b])] w fun e w' => e = .returned (.int .i64 v) /\ Below w.heap.size w w' := by
 obtain ⟨L, S, P, B, rfl, rfl, rfl, rfl, hN⟩ := h.nat
 unfold dvM at hv
 obtain rfl : ((17 + L + S : Nat) : Int) = v := by omega
 exact device_yes hN rfl w
theorem trod_struct4 {H : Type} {enc : TypeId × Value -> H} {P : Program} {w : World} {base : Nat} {spare : Nat -> Bool} {held : Bool} {t : TypeId} {f0 f1 f2 f3 : Field} {fuel : Nat} {cs : List Value} {x : DataW H × List MemPlace}
 (ht : P.underlying t = some (.struct #[f0, f1, f2, f3])) (h : DataW.trod enc P w base spare held fuel t cs = some x) :
 ∃ y0 y1 y2 y3 n, cs.length = P.cellsOf t /\ DataW.trod enc P w base spare held n f0.type ((cs.drop f0.offset).take (P.cellsOf f0.type)) = some y0 ∧
  DataW.trod enc P w base spare held n f1.type ((cs.drop f1.offset).take (P.cellsOf f1.type)) = some y1 /\ DataW.trod enc P w base spare held n f2.type ((cs.drop f2.offset).take (P.cellsOf f2.type)) = some y2 ∧
  DataW.trod enc P w base spare held n f3.type ((cs.drop f3.offset).take (P.cellsOf f3.type)) = some y3 := by
 obtain ⟨xs, n, _, rfl, hl, hlen, hf⟩ := DataW.trod_struct ht h
 match xs, hlen with
 | [y0, y1, y2, y3], _ => exact ⟨y0, y1, y2, y3, n, hl, by simpa using hf 0 f0 rfl, by simpa using hf 1 f1 rfl, by simpa using hf 2 f2 rfl, by simpa using hf 3 f3 rfl⟩
theorem cells_plan : Tryz.prog.cellsOf 23 = 4 := by kernel_rfl
theorem cells_int1 : Tryz.prog.cellsOf 3 = 1 := by kernel_rfl
theorem plan_in {H : Type} {enc : TypeId × Value -> H} {W : World} {base : Nat} {v : Value} {d : DataW H} {q : List MemPlace}
 (hval : Value.okWide Tryz.prog W .any base 23 v) (h : DataW.Trod enc Tryz.prog W 0 (fun _ => true) true 23 v d q) :
 ∃ l s p b : Int, v = (Value.agg #[Value.int IntKind.i64 l, Value.int IntKind.i64 s, Value.int IntKind.i64 p, Value.int IntKind.i64 b]) /\ (Lit.int .i64 l).wf = true /\ (Lit.int .i64 s).wf = true /\ (Lit.int .i64 p).wf = true /\ (Lit.int .i64 b).wf = true := by
 obtain ⟨cs, rfl, hsz, _⟩ : ∃ cs, v = .agg cs /\ cs.size = Tryz.prog.cellsOf 23 /\ Row.okWide Tryz.prog W .any base 23 cs := by
  simpa [Value.okWide, Tryz.underlying23] using hval
 obtain ⟨fuel, hf⟩ := h
 obtain ⟨y0, y1, y2, y3, k, hl, g0, g1, g2, g3⟩ := trod_struct4 Tryz.underlying23 hf
 rw [cells_plan] at hl
 dsimp only at g0 g1 g2 g3
 rw [cells_int1] at g0 g1 g2 g3
 obtain ⟨l, e0, _, w0⟩ := DataW.trod_int Tryz.underlying3 g0
 obtain ⟨s, e1, _, w1⟩ := DataW.trod_int Tryz.underlying3 g1
 obtain ⟨p, e2, _, w2⟩ := DataW.trod_int Tryz.underlying3 g2
 obtain ⟨b, e3, _, w3⟩ := DataW.trod_int Tryz.underlying3 g3
 refine ⟨l, s, p, b, ?_, w0, w1, w2, w3⟩
 obtain ⟨cl⟩ := cs
 simp [Value.cells] at hl e0 e1 e2 e3
 match cl, hl with
 | [c0, c1, c2, c3], _ =>
   simp at e0 e1 e2 e3
   simp [e0, e1, e2, e3]
structure Ha where
 z : Nat
 g : Nat
 y : Nat
 q : Nat
 x : Nat
 k : Nat
 kg : Nat
 N : Nat
 P : Nat
 per : Nat
 b : Nat
def Ha.D (a : Ha) : List Nat := [a.z, a.g, a.y, a.kg]
structure Hs where
 s : Nv
 p : Nat
 ct : Ct
 wf : Bool
def htop (a : Ha) (kv : Value) (wf : Bool) : Array Value := #[.pointer (some ⟨a.g, 0, none⟩), .int .i64 (a.N : Int), .int .i64 (a.P : Int), .int .i64 (a.per : Int), .int .i64 (a.b : Int), .pointer (some ⟨a.y, 0, none⟩), .pointer (some ⟨a.x, 0, none⟩), kv, .bool wf]
structure Hb (w : World) (a : Ha) (kv : Value) (wf : Bool) (s : Nv) (p : Nat) : Prop where
 top : Whole w a.z 74 (htop a kv wf)
 lg : Lg w a.x a.g a.y a.q (16 + a.N) a.P a.per p s
 zz : a.z ≠ a.g /\ a.z ≠ a.y /\ a.z ≠ a.q /\ a.z ≠ a.x
structure Hp (w : World) (a : Ha) (S : Hs) : Prop where
 hb : Hb w a (.pointer (some ⟨a.k, 0, none⟩)) S.wf S.s S.p
 cq : Cq w a.k a.kg S.ct
 far : a.z ≠ a.k /\ a.z ≠ a.kg /\ a.k ≠ a.g /\ a.k ≠ a.y /\ a.kg ≠ a.g /\ a.kg ≠ a.y /\ a.kg ≠ a.q /\ a.kg ≠ a.x
section
variable {w w' : World} {a : Ha} {S : Hs} {kv : Value} {wf : Bool} {s : Nv} {p : Nat}
theorem Hb.below (h : Hb w a kv wf s p) (hb : Below w.heap.size w w') : Hb w' a kv wf s p := ⟨(hb.block a.z (Whole.lt h.top)).trans h.top, h.lg.below hb, h.zz⟩
theorem Hb.chg {D : List Nat} (h : Hb w a kv wf s p) (hc : Chg D w w') (h1 : a.z ∉ D) (h2 : a.g ∉ D) (h3 : a.y ∉ D) (h4 : a.q ∉ D) (h5 : a.x ∉ D) : Hb w' a kv wf s p := ⟨hc.whole h.top h1, h.lg.chg hc h5 h2 h3 h4, h.zz⟩
theorem Hb.c0 (h : Hb w a kv wf s p) : w.cell? ⟨a.z, 0, none⟩ = some (.pointer (some ⟨a.g, 0, none⟩)) := Whole.at_ h.top 0
theorem Hb.c1 (h : Hb w a kv wf s p) : w.cell? ⟨a.z, 1, none⟩ = some (.int .i64 (a.N : Int)) := Whole.at_ h.top 1
theorem Hb.c6 (h : Hb w a kv wf s p) : w.cell? ⟨a.z, 6, none⟩ = some (.pointer (some ⟨a.x, 0, none⟩)) := Whole.at_ h.top 6
theorem Hb.c7 (h : Hb w a kv wf s p) : w.cell? ⟨a.z, 7, none⟩ = some kv := Whole.at_ h.top 7
theorem Hb.c8 (h : Hb w a kv wf s p) : w.cell? ⟨a.z, 8, none⟩ = some (.bool wf) := Whole.at_ h.top 8
theorem Hb.free (h : Hb w a kv wf s p) (i : Nat) : w.frozen? ⟨a.z, i, none⟩ = false := Whole.free h.top i
theorem Hb.lt (h : Hb w a kv wf s p) : a.z < w.heap.size := Whole.lt h.top
theorem Hb.plan (h : Hb w a kv wf s p) : (planLoad (.pointer (some ⟨a.z, 1, none⟩))).run Tryz.prog w = .ok (Value.agg #[Value.int IntKind.i64 (a.N : Int), Value.int IntKind.i64 (a.P : Int), Value.int IntKind.i64 (a.per : Int), Value.int IntKind.i64 (a.b : Int)]) w :=
 run_loadAt_mid (P := Tryz.prog) w a.z 1 23 #[Value.int IntKind.i64 (a.N : Int), Value.int IntKind.i64 (a.P : Int), Value.int IntKind.i64 (a.per : Int), Value.int IntKind.i64 (a.b : Int)].toList _ (fun j u hj => by rw [Whole.at_ h.top]; match j, hj with | 0, hj => exact hj | 1, hj => exact hj | 2, hj => exact hj | 3, hj => exact hj | j + 4, hj => simp at hj) Tryz.underlying23 rfl info_plan
theorem Hp.below (h : Hp w a S) (hb : Below w.heap.size w w') : Hp w' a S := ⟨h.hb.below hb, h.cq.below hb, h.far⟩
theorem Hp.chg {D : List Nat} (h : Hp w a S) (hc : Chg D w w') (h1 : a.z ∉ D) (h2 : a.g ∉ D) (h3 : a.y ∉ D) (h4 : a.q ∉ D) (h5 : a.x ∉ D) (h6 : a.k ∉ D) (h7 : a.kg ∉ D) : Hp w' a S := ⟨h.hb.chg hc h1 h2 h3 h4 h5, h.cq.chg hc h6 h7, h.far⟩
end
section
variable {P : Program} {ops : Array Oper} {Q : Exit -> Act -> World -> Prop} {w : World}
def yields (P : Program) (ops : Array Oper) (w : World) (K : Act -> Prop) : List Oper -> Act -> Prop
 | [], a => K a
 | o :: l, a => Region.wanted o (yielded ops a.tmps) = true /\ ∃ v, (execOp a.eval o).run P w = .ok (.value v) w /\ yields P ops w K l (a.put o.dst v)
end
section
variable {w : World} {a : Ha} {S : Hs} {kv : Value} {wf : Bool} {s : Nv} {p : Nat}
theorem hopd_is (h : Hb w a kv wf s p) : Calls Tryz.prog 42 #[.pointer (some ⟨a.z, 0, none⟩)] w fun e w' => e = .returned (.bool true) /\ w = w' := by
 have c := h.c0
 generalize a.z = z at *
 generalize a.g = g at *
 clear h
 go_enter Tryz.func42, Tryz.ntmps42
 go_wp2_with fail
 go_ret
 exact ⟨rfl, rfl⟩
def Hs.worn (S : Hs) : Bool := S.wf || decide (lk S.s ≠ 0)
theorem hworn_is (h : Hp w a S) (hd : S.s.dark = false) (hr : S.s.rg 1 = (lk S.s : Int)) : Calls Tryz.prog 117 #[.pointer (some ⟨a.z, 0, none⟩)] w fun e w' => e = .returned (.bool S.worn) /\ w = w' := by
 have C := jz (hopd_is h.hb)
 have C2 := jz (pd_live (decide (lk S.s ≠ 0)) h.hb.lg hd hr (by simp))
 have c8 := h.hb.c8
 have c6 := h.hb.c6
 unfold Hs.worn
 generalize decide (lk S.s ≠ 0) = r at *
 generalize a.z = z at *
 generalize a.x = x at *
 clear h hd hr
 generalize S.wf = b at *
 cases b with
 | true =>
   go_enter Tryz.func117, Tryz.ntmps117
   go_wp2_with fail
   refine (C.out).mono ?_; rintro e w' ⟨rfl, rfl⟩
   go_wp2_with fail
   go_ret
   exact ⟨rfl, rfl⟩
 | false =>
   go_enter Tryz.func117, Tryz.ntmps117
   go_wp2_with fail
   refine (C.out).mono ?_; rintro e w' ⟨rfl, rfl⟩
   go_wp2_with fail
   refine (C2.out).mono ?_; rintro e w' ⟨rfl, rfl⟩
   go_wp2_with fail
   go_ret
   exact ⟨rfl, rfl⟩
def Ct.ints (s : Ct) : List Int := byF s.n fun p => (s.c p : Int)
theorem hcnt_is (h : Hp w a S) (hn : S.ct.n <= 16) : Calls Tryz.prog 119 #[.pointer (some ⟨a.z, 0, none⟩)] w fun e w' => (∃ v, e = .returned v /\ OwnI w.heap.size w' v S.ct.ints) /\ Below w.heap.size w w' := by
 have C := jz (hopd_is h.hb)
 have C2 := jz (call_any h.cq hn)
 have c7 := h.hb.c7
 unfold Ct.ints
 generalize a.z = z at *
 generalize a.k = k at *
 generalize byF S.ct.n (fun p => (S.ct.c p : Int)) = l at *
 generalize S.ct.n = n at *
 clear h hn
 go_enter Tryz.func119, Tryz.ntmps119
 go_wp2_with fail
 refine (C.out).mono ?_; rintro e w' ⟨rfl, rfl⟩
 go_wp2_with fail
 refine (C2.out).mono ?_; rintro e w1 ⟨rfl, o, b⟩
 have O := jz o
 have B := jz b
 clear o b
 go_wp2_with fail
 go_ret
 exact ⟨⟨_, rfl, O.out⟩, B.out⟩
theorem hchk_ok (e : Int) (h : e ≠ 2) (w : World) : Calls Tryz.prog 100 #[.int .i64 e] w fun e w' => e = .returned (.tuple #[]) /\ w = w' := by
 have i1 : (e == 2) = false := beq_eq_false_iff_ne.2 h
 go_enter Tryz.func100, Tryz.ntmps100
 go_wp2_with fail
 go_end0
 exact ⟨rfl, rfl⟩
def Dies (e : Ending) : Prop := ∃ u pv, e = .panicked [{ v := .iface u pv, recovered := false }]
theorem hchk_dies (w : World) : Calls Tryz.prog 100 #[.int .i64 2] w fun e w' => Dies e /\ w = w' := by
 go_enter Tryz.func100, Tryz.ntmps100
 go_wp2_with fail
 exact ⟨rfl, ⟨_, _, rfl⟩, rfl⟩
theorem hreg_is {k v : Nat} (h : Hb w a kv wf s p) (hd : s.dark = false) (hk : k < 35) (hv : s.rg k = (v : Int)) (hv2 : v < 4611686018427387904) : Calls Tryz.prog 62 #[.pointer (some ⟨a.z, 0, none⟩), .int .i64 (k : Int)] w fun e w' => e = .returned (.int .i64 (v : Int)) /\ w = w' := by
 have hR : hasR (k : Int) = true := by simp [hasR]; omega
 have C := jz (reg_yes a.g s k w h.lg.nm (by simp [Nv.rdy, hR, hd]))
 rw [hv] at C
 have C2 := jz (fun w => hchk_ok 0 (by decide) w)
 have c0 := h.c0
 have j1 : IntKind.i64.wrap (v : Int) = (v : Int) := i64_nat _ (by omega)
 have i1 : ¬ (9223372036854775807 : Int) < (v : Int) := by omega
 have i2 : (v : Int) < 9223372036854775807 := by omega
 have i3 : (v : Int) <= 9223372036854775807 := by omega
 generalize a.z = z at *
 generalize a.g = g at *
 clear h hd hk hv hv2 hR
 go_enter Tryz.func62, Tryz.ntmps62
 go_wp2_with fail
 refine (C.out).mono ?_; rintro e w' ⟨rfl, rfl⟩
 go_wp2_with fail
 refine (C2.out _).mono ?_; rintro e w1 ⟨rfl, rfl⟩
 go_wp2_with fail
 go_ret
 exact ⟨rfl, rfl⟩
end
@[go_sem] theorem run_arrayAt_line (w : World) (q : Option Addr) (c : Nat) : (Instr.arrayAt 52 (.slice q 8 c)).run Tryz.prog w = .ok (.pointer q) w := by
  simp [Instr.arrayAt, run_underlying Tryz.underlying52, go_sem]
theorem slice_words (b off n cap lo hi : Nat) (h1 : lo < hi) (h2 : hi <= cap) (w : World) :
 (Instr.slice 65 (.slice (some ⟨b, off, none⟩) n cap) (some (.int .i64 (lo : Int))) (some (.int .i64 (hi : Int))) none).run Tryz.prog w = .ok (.slice (some ⟨b, off + lo, none⟩) (hi - lo) (cap - lo)) w := by
 obtain ⟨i0, hinf, hz0, hz1, hz2⟩ := info_parts info_u64
 have e2 : ∀ w, (Instr.sliceBound (.int .i64 (hi : Int)) cap .sliceAcap).run Tryz.prog w = .ok hi w := fun w => by rw [run_sliceBound (P := Tryz.prog) (w := w) .i64 hi cap .sliceAcap (by omega) (by omega)]; simp
 have e3 : ∀ w, (Instr.sliceBound (.int .i64 (lo : Int)) hi .sliceB).run Tryz.prog w = .ok lo w := fun w => by rw [run_sliceBound (P := Tryz.prog) (w := w) .i64 lo hi .sliceB (by omega) (by omega)]; simp
 unfold Instr.slice
 simp only [Sem.run_bind, run_underlying Tryz.underlying65, Result.andThen_ok]
 unfold Instr.sliceBounds sizeOf typeInfo
 simp [hinf, hz1, e2, e3, Addr.add_mid]
 omega
theorem sliceAt_words (b off n cap lo hi k c : Nat) (h1 : lo < hi) (h2 : hi <= cap) (hk : hi - lo = k) (hc : cap - lo = c) (w : World) :
 (Instr.sliceAt 65 (.slice (some ⟨b, off, none⟩) n cap) (some (.int .i64 (lo : Int))) (some (.int .i64 (hi : Int))) none).run Tryz.prog w = .ok (.slice (some ⟨b, off + lo, none⟩) k c) w := by
 subst hk hc
 exact (run_sliceAt_slice (h := Tryz.underlying65) ..).trans (slice_words b off n cap lo hi h1 h2 w)
theorem hlnof_is {X : List Int} {N i : Nat} {v : Value} (w : World) (hv : RU w v X) (hX : X.length = 8 * N) (hN : N <= 100) (hi : i < N) : Calls Tryz.prog 26 #[v, .int .i64 (i : Int)] w fun e w' => e = .returned (.agg (lc (lnO X i))) /\ Below w.heap.size w w' := by
 obtain ⟨q, c, rfl, h1, h2, _⟩ := id hv
 obtain ⟨b, off, rfl, hcell⟩ := ru_at hv (by omega)
 have hl := lnO_length hX hi
 obtain ⟨W, hW⟩ : ∃ W, w.alloc (.cells (lc [0, 0, 0, 0, 0, 0, 0, 0]) 52) = W := ⟨_, rfl⟩
 have HW : Hid (Ln W w.heap.size [0, 0, 0, 0, 0, 0, 0, 0] /\ Below w.heap.size w W) := jz (by rw [<- hW]; exact ⟨Ln.new w rfl, bal (Below.refl _ _)⟩)
 have LD : (lineLoad (.pointer (some ⟨b, off + i * 8, none⟩))).run Tryz.prog W = .ok (.agg (lc (lnO X i))) W := by
  refine run_loadAt_mid (P := Tryz.prog) W b (off + i * 8) 52 ((lnO X i).map uv) _ (fun j u hj => ?_) Tryz.underlying52 rfl (by rw [info_line, List.length_map, hl])
  have hj8 : j < 8 := by
   have := (List.getElem?_eq_some_iff.1 hj).1
   rw [List.length_map, hl] at this
   exact this
  obtain ⟨b', off', e, hcell'⟩ := ru_at (ru_below hv HW.out.2) (by omega)
  cases e
  rw [show off + i * 8 + j = off + (8 * i + j) by omega, hcell' (8 * i + j) (by omega), <- lnO_getD i hj8, <- hj]
  simp [uv, hl, hj8]
 have hst := HW.out.1.store hl
 obtain ⟨V, hV⟩ : ∃ V, W.setRow w.heap.size (lc (lnO X i)) = V := ⟨_, rfl⟩
 rw [hV] at hst
 have HV : Hid (Ln V w.heap.size (lnO X i) /\ Below w.heap.size w V) := jz (by
  rw [<- hV]
  exact ⟨HW.out.1.put hl, below_row HW.out.2 (Nat.le_refl _)⟩)
 have j1 : IntKind.i64.wrap ((i : Int) * 8) = ((i * 8 : Nat) : Int) := by rw [show (i : Int) * 8 = ((i * 8 : Nat) : Int) by omega]; exact i64_nat _ (by omega)
 have j2 : IntKind.i64.wrap ((i : Int) + 1) = ((i + 1 : Nat) : Int) := by rw [show (i : Int) + 1 = ((i + 1 : Nat) : Int) by omega]; exact i64_nat _ (by omega)
 have j3 : IntKind.i64.wrap (((i + 1 : Nat) : Int) * 8) = (((i + 1) * 8 : Nat) : Int) := by rw [show ((i + 1 : Nat) : Int) * 8 = (((i + 1) * 8 : Nat) : Int) by omega]; exact i64_nat _ (by omega)
 have hs := fun w => sliceAt_words b off X.length c (i * 8) ((i + 1) * 8) 8 (c - i * 8) (by omega) (by omega) (by omega) rfl w
 have HL := jz hl
 generalize (i + 1) * 8 = i9 at *
 generalize i * 8 = i8 at *
 generalize i + 1 = i1 at *
 generalize c - i8 = c8 at *
 generalize lnO X i = Y at *
 generalize X.length = n at *
 clear hv hcell hX hN hi h1 h2 hl
 go_enter Tryz.func26, Tryz.ntmps26
 go_wp2
 exact bodyPost_ret (v := .agg (lc Y)) (results_cell_row rfl _ _ _ _ _ _ _ rfl HV.out.1.1 Tryz.underlying52 rfl (by rw [info_line, lc_size, HL.out])) rfl ⟨rfl, HV.out.2⟩
structure HNum (a : Ha) : Prop where
 N : 1 <= a.N /\ a.N <= 64
 P : a.P <= 16
 per : 1 <= a.per /\ a.per <= 1000
 b : 1 <= a.b /\ a.b <= 100
theorem HNum.may {a : Ha} (h : HNum a) : MayN a.N a.P a.per a.b := ⟨h.N, h.P, h.per, h.b⟩
theorem line_ru {w : World} {g : Nat} {Y : List Int} (h : Ln w g Y) : RU w (.slice (some ⟨g, 0, none⟩) 8 8) Y :=
 ⟨some ⟨g, 0, none⟩, 8, by rw [h.2], by rw [h.2]; decide, by unfold maxLen; omega, .inr ⟨g, 0, rfl, fun i hi => by rw [Nat.zero_add]; exact (h.cell (by rw [<- h.2]; exact hi)).1⟩⟩
theorem hwords_is {w : World} {a : Ha} {kv : Value} {wf : Bool} {s : Nv} {p : Nat} {X : List Int} (h : Hb w a kv wf s p) (hn : HNum a) (L : LgOk s (16 + a.N) a.P) (hd : s.dark = false) (H : Has s a.N a.P X) :
 Calls Tryz.prog 59 #[.pointer (some ⟨a.z, 0, none⟩)] w fun e w' => (∃ v, e = .returned v /\ OwnU w.heap.size w' v X) /\ Below w.heap.size w w' := by
 have c1 := h.c1
 have HM := jz hn.may
 have HNn : Hid (1 <= a.N /\ a.N <= 64) := jz hn.N
 have GC := jz (fun (i : Nat) (hi : i < a.N) (w' : World) (hb : Below w.heap.size w w') => (show Calls Tryz.prog 99 #[.pointer (some ⟨a.x, 0, none⟩), .int .i64 ((16 + i : Nat) : Int)] w' fun e w2 => e = .returned (.tuple #[.agg (lc (lnO X i)), .int .i64 0]) /\ Below w'.heap.size w' w2 from by
  have hN := hn.N
  have := gt_live (h.below hb).lg L hd (by omega) (a := 16 + i) (by omega) (by omega)
  rw [H.at_ i hi] at this
  exact this))
 have CC := jz (fun w => hchk_ok 0 (by decide) w)
 have HT := jz (fun (i : Nat) => lnO_take X i)
 have HT8 := jz (fun (i : Nat) (hi : i < a.N) => lnO_length H.len hi)
 have HTA : Hid (X.take (8 * a.N) = X) := jz (List.take_of_length_le (by rw [H.len]; exact Nat.le_refl _))
 have HTL : Hid (∀ k, (X.take k).length <= 512) := jz fun k => by have := H.len; have := hn.N; rw [List.length_take]; omega
 have CX := jz (fun (w' : World) (hb : Below w.heap.size w w') => (h.below hb).c6)
 have CP := jz (fun (w' : World) (hb : Below w.heap.size w w') => (h.below hb).plan)
 clear h L hd H hn
 generalize a.z = z at *
 generalize a.x = x at *
 generalize a.N = N at *
 generalize a.P = P at *
 generalize a.per = per at *
 generalize a.b = b at *
 go_enter Tryz.func59, Tryz.ntmps59
 go_wp2
 go_loopw [12, 3] (fun i v wr => ∃ k : Nat, k <= N /\ i = .int .i64 k /\ Hid (OwnU w.heap.size wr v (X.take (8 * k)) /\ Below w.heap.size w wr)) (fun i _ _ => N - (intOf i).toNat)
 case atStart => exact ⟨0, Nat.zero_le _, rfl, jz ⟨own_nil_u _ _, Below.refl _ _⟩⟩
 case round =>
  obtain ⟨k, hk, rfl, H⟩ := hrel
  by_cases hlt : k < N
  . have cx : ∀ w' : World, Kept (Below wr.heap.size wr w') -> w'.cell? ⟨z, 6, none⟩ = some (.pointer (some ⟨x, 0, none⟩)) := fun w' hb => CX.out w' (below_more H.out.2 hb.out)
    have cp : ∀ w' : World, Kept (Below wr.heap.size wr w') -> (planLoad (.pointer (some ⟨z, 1, none⟩))).run Tryz.prog w' = .ok (Value.agg #[Value.int IntKind.i64 (N : Int), Value.int IntKind.i64 (P : Int), Value.int IntKind.i64 (per : Int), Value.int IntKind.i64 (b : Int)]) w' := fun w' hb => CP.out w' (below_more H.out.2 hb.out)
    have GC1 := jz (fun (w' : World) (hb : Kept (Below wr.heap.size wr w')) => GC.out k hlt w' (below_more H.out.2 hb.out))
    have HC := jz (fun w => home_yes HM.out hlt rfl w)
    have h8 := HT8.out k hlt
    have HTk := jz (HT.out k)
    have j0 : IntKind.i64.wrap ((k : Int) + 1) = ((k + 1 : Nat) : Int) := by rw [show (k : Int) + 1 = ((k + 1 : Nat) : Int) by omega]; exact i64_nat _ (by have := HNn.out; omega)
    have HK := jz hlt
    have i1 : (k : Int) < (N : Int) := by omega
    generalize lnO X k = Y at *
    generalize 16 + k = kk at *
    clear hk
    go_upto_region 5 with fail
    go_cut [5, 6, 12] from 12 to 34 (fun v5 v6 v12 wx => ∃ g' : Nat, v5 = .pointer (some ⟨g', 0, none⟩) /\ v6 = .int .i64 0 /\ v12 = .int .i64 (k : Int) /\ Hid (Ln wx g' Y /\ Below wr.heap.size wr wx))
    case first =>
     go_region_held3 (fun w' => Kept (Below wr.heap.size wr w'))
      (((refine ⟨?_⟩); (repeat' (with_reducible (first | exact Below.refl _ _ | refine Below.drew ?_ | refine below_more ?_ (by assumption) | refine bal ?_ | refine below_row ?_ ?_ | (simp only [Hid, size_alloc, size_drew] at *; omega))))))
      (first
        | (go_at_call 25; refine (HC.out _).mono ?_; rintro e wq ⟨rfl, hbq⟩; have zq := jz hbq.size)
        | (go_at_call 99; refine (GC1.out _ (by first | assumption | ((refine ⟨?_⟩); (repeat' (with_reducible (first | exact Below.refl _ _ | refine Below.drew ?_ | refine below_more ?_ (by assumption) | refine bal ?_)))))).mono ?_; rintro e wq ⟨rfl, hbq⟩; have zq := jz hbq.size)
        | (rw [run_store_is (by (repeat' (first
            | ((with_reducible refine IsLn.fresh _ _ ?_ ?_); (focus (with_reducible rfl)); (focus (first | assumption | rfl)))
            | (with_reducible refine IsLn.up ?_ _) | (with_reducible refine IsLn.drew ?_) | (with_reducible refine IsLn.row ?_ (by assumption)) | (with_reducible refine IsLn.call (by assumption) ?_)))) (by assumption)]))
     all_goals (go_wp2_with fail; go_meet)
     all_goals
      refine ⟨_, rfl, rfl, rfl, jz ⟨?_, Kept.out ‹Kept (Below wr.heap.size wr _)›⟩⟩ <;>
      (repeat' (first
        | ((with_reducible refine Ln.fresh _ _ ?_ ?_); (focus (with_reducible rfl)); (focus (first | assumption | rfl)))
        | ((with_reducible refine put_at ?_ ?_ ?_); (focus (with_reducible rfl)))
        | ((with_reducible refine Ln.past ?_ ?_); rotate_left; (focus (simp only [Hid, size_alloc, size_drew] at *; omega)))
        | (with_reducible refine Ln.alloc ?_ _) | (with_reducible refine Ln.drew ?_)
        | ((with_reducible refine IsLn.fresh _ _ ?_ ?_); (focus (with_reducible rfl)); (focus (first | assumption | rfl)))
        | (with_reducible refine IsLn.up ?_ _) | (with_reducible refine IsLn.drew ?_) | (with_reducible refine IsLn.row ?_ (by assumption)) | (with_reducible refine IsLn.call (by assumption) ?_) | assumption))
    case rest =>
     obtain ⟨g', rfl, rfl, rfl, HC2⟩ := hcut
     have O1 := jz (H.out.1.below HC2.out.2)
     have BW := jz (below_more H.out.2 HC2.out.2)
     have HR := jz (line_ru HC2.out.1)
     obtain ⟨q, c, rfl⟩ := H.out.1.shape
     have HL8 : Hid ((X.take (8 * k)).length + Y.length <= 1000000) := jz (by have := HTL.out (8 * k); omega)
     have HTk' := jz HTk.out
     clear HC2 cx cp GC1 HC HTk H
     generalize X.take (8 * k) = T at *
     generalize hTn : T.length = tn at *
     go_wp2_with fail
     refine (CC.out _).mono ?_; rintro e w1 ⟨rfl, rfl⟩
     go_wp2_with (at_builtin; refine list_app_u64 rfl _ _ rfl w.heap.size _ T rfl O1.out _ Y rfl HR.out (by rw [hTn]; exact HL8.out) BW.out.size ?_)
     intro v' w2 o2 g2 _
     have BW2 := jz (below_app_u BW.out BW.out.size O1.out g2)
     rw [<- HTk'.out] at o2
     have O2 := jz o2
     clear g2 o2
     go_wp2
     exact ⟨⟨k + 1, by have := HK.out; omega, by go_num, jz ⟨O2.out, BW2.out⟩⟩, by have := HK.out; simp [intOf]; omega⟩
  . obtain rfl : k = N := by omega
    have O := jz H.out.1
    rw [HTA.out] at O
    go_wp2
    go_ret
    exact ⟨⟨_, rfl, O.out⟩, H.out.2⟩
theorem own_nil_i (B : Nat) (w : World) : OwnI B w (.slice none 0 0) [] := World.ownsRow_nil _ _ _ _
theorem own_up_i {B : Nat} {w w' : World} {v : Value} {l : List Int} (h : OwnI B w v l) (hb : Below w.heap.size w w') : OwnI B w' v l := by
 refine ⟨h.1, h.2.imp id ?_⟩
 rintro ⟨g, cap, cur, hv, h1, hg, r⟩
 exact ⟨g, cap, cur, hv, h1, (hb.block g (Array.getElem?_eq_some_iff.1 hg).1).trans hg, r⟩
theorem below_app_i {B : Nat} {w w1 w2 : World} {v : Value} {l : List Int} (h : Below B w w1) (hB : B <= w1.heap.size) (ho : OwnI B w1 v l) (hg : w1.grownBy w2 v.ownBlock) : Below B w w2 := h.grown hg hB (fun k hk => (World.ownsRow.lt ho k hk).1)
theorem eight {l : List Int} (h : l.length = 8) : ∃ a b c d e f g i, l = [a, b, c, d, e, f, g, i] := by
 match l, h with
 | [a, b, c, d, e, f, g, i], _ => exact ⟨a, b, c, d, e, f, g, i, rfl⟩
theorem built_home2 (i a b c d e f g k : Int) : Tryz.prog.built 148 [(0, .int .i64 i), (1, .agg #[.int .u64 a, .int .u64 b, .int .u64 c, .int .u64 d, .int .u64 e, .int .u64 f, .int .u64 g, .int .u64 k])] = some (hmc ⟨i, [a, b, c, d, e, f, g, k]⟩) := by kernel_rfl
theorem built_home1 (i : Int) : Tryz.prog.built 148 [(0, .int .i64 i)] = some (hmc ⟨i, zeros⟩) := by kernel_rfl
def homeBuild (ps : Array (Nat × Value)) : Sem Value := Instr.build 148 ps
@[go_sem ↓] theorem build_home (ps : Array (Nat × Value)) : Instr.build 148 ps = homeBuild ps := rfl
@[go_sem] theorem run_homeBuild2 (w : World) (i a b c d e f g k : Int) : (homeBuild #[(0, .int .i64 i), (1, .agg #[.int .u64 a, .int .u64 b, .int .u64 c, .int .u64 d, .int .u64 e, .int .u64 f, .int .u64 g, .int .u64 k])]).run Tryz.prog w = .ok (.agg (hmc ⟨i, [a, b, c, d, e, f, g, k]⟩)) w := run_build w _ _ _ (built_home2 i a b c d e f g k)
@[go_sem] theorem run_homeBuild1 (w : World) (i : Int) : (homeBuild #[(0, .int .i64 i)]).run Tryz.prog w = .ok (.agg (hmc ⟨i, zeros⟩)) w := run_build w _ _ _ (built_home1 i)
@[go_sem] theorem run_homeBuildL (w : World) (i : Int) (l : List Int) (h : l.length = 8) : (homeBuild #[(0, .int .i64 i), (1, .agg (lc l))]).run Tryz.prog w = .ok (.agg (hmc ⟨i, l⟩)) w := by
  obtain ⟨a, b, c, d, e, f, g, k, rfl⟩ := eight h
  exact run_homeBuild2 w i a b c d e f g k
theorem built_slice1 (w : World) (i a b c d e f g k : Int) : (Instr.buildSlice 100 1 #[(0, .agg #[.int .i64 i, .int .u64 a, .int .u64 b, .int .u64 c, .int .u64 d, .int .u64 e, .int .u64 f, .int .u64 g, .int .u64 k])]).run Tryz.prog w =
 .ok (.slice (some ⟨w.heap.size, 0, none⟩) 1 1) (w.alloc (.cells #[.int .i64 i, .int .u64 a, .int .u64 b, .int .u64 c, .int .u64 d, .int .u64 e, .int .u64 f, .int .u64 g, .int .u64 k] 148)) := by
 simp [Instr.buildSlice, run_underlying Tryz.underlying100, Instr.fill, go_sem]
theorem built_slice2 (w : World) (i a b c d e f g k i' a' b' c' d' e' f' g' k' : Int) :
 (Instr.buildSlice 100 2 #[(0, .agg #[.int .i64 i, .int .u64 a, .int .u64 b, .int .u64 c, .int .u64 d, .int .u64 e, .int .u64 f, .int .u64 g, .int .u64 k]), (1, .agg #[.int .i64 i', .int .u64 a', .int .u64 b', .int .u64 c', .int .u64 d', .int .u64 e', .int .u64 f', .int .u64 g', .int .u64 k'])]).run Tryz.prog w =
 .ok (.slice (some ⟨w.heap.size, 0, none⟩) 2 2) (w.alloc (.cells #[.int .i64 i, .int .u64 a, .int .u64 b, .int .u64 c, .int .u64 d, .int .u64 e, .int .u64 f, .int .u64 g, .int .u64 k, .int .i64 i', .int .u64 a', .int .u64 b', .int .u64 c', .int .u64 d', .int .u64 e', .int .u64 f', .int .u64 g', .int .u64 k'] 148)) := by
 simp [Instr.buildSlice, run_underlying Tryz.underlying100, Instr.fill, go_sem]
theorem built_slice0 (w : World) : (Instr.buildSlice 100 0 #[]).run Tryz.prog w = .ok (.slice (some ⟨w.heap.size, 0, none⟩) 0 0) (w.alloc (.cells #[] 148)) := by
 simp [Instr.buildSlice, run_underlying Tryz.underlying100, Instr.fill, go_sem]
def homeSlice (n : Nat) (ps : Array (Nat × Value)) : Sem Value := Instr.buildSlice 100 n ps
@[go_sem ↓] theorem slice_home (n : Nat) (ps : Array (Nat × Value)) : Instr.buildSlice 100 n ps = homeSlice n ps := rfl
@[go_sem] theorem run_homeSlice0 (w : World) : (homeSlice 0 #[]).run Tryz.prog w = .ok (.slice (some ⟨w.heap.size, 0, none⟩) 0 0) (w.alloc (.cells #[] 148)) := built_slice0 w
@[go_sem] theorem run_homeSlice1 (w : World) (c : Hm) (h : c.l.length = 8) : (homeSlice 1 #[(0, .agg (hmc c))]).run Tryz.prog w = .ok (.slice (some ⟨w.heap.size, 0, none⟩) 1 1) (w.alloc (.cells (hmc c) 148)) := by
  obtain ⟨i, l⟩ := c
  obtain ⟨a, b, c, d, e, f, g, k, rfl⟩ := eight h
  exact built_slice1 w i a b c d e f g k
@[go_sem] theorem run_homeSlice2 (w : World) (c c' : Hm) (h : c.l.length = 8) (h' : c'.l.length = 8) : (homeSlice 2 #[(0, .agg (hmc c)), (1, .agg (hmc c'))]).run Tryz.prog w = .ok (.slice (some ⟨w.heap.size, 0, none⟩) 2 2) (w.alloc (.cells (c.cells ++ c'.cells).toArray 148)) := by
  obtain ⟨i, l⟩ := c
  obtain ⟨i', l'⟩ := c'
  obtain ⟨a, b, c, d, e, f, g, k, rfl⟩ := eight h
  obtain ⟨a', b', c', d', e', f', g', k', rfl⟩ := eight h'
  exact built_slice2 w i a b c d e f g k i' a' b' c' d' e' f' g' k'
theorem set_done_h {s : Nv} {i v : Int} (h : s.setE i = 0) : (s.set i v).rg = upd s.rg i.toNat v := by
 unfold Nv.setE at h
 unfold Nv.set
 by_cases hr : s.rdy (hasR i) = 0
 . rw [if_pos hr] at h ⊢
   unfold Nv.told at h
   unfold Nv.by_
   by_cases hg : s.goes = true
   . rw [if_pos hg] at h; cases h
   . rw [if_neg hg]; rfl
 . rw [if_neg hr] at h; exact absurd h hr
theorem setE_three {s : Nv} {i : Int} : s.setE i ≠ 3 := by
 unfold Nv.setE Nv.told Nv.rdy
 intro h
 repeat' split at h
 all_goals first | cases h | omega
theorem tb_far {s : Nv} {i v : Int} {P : Nat} (hi : i < 3 \/ 19 <= i) (hP : P <= 16) : (s.set i v).tb P = s.tb P := by
 refine list_ext (by simp [Nv.tb]) fun k hk => ?_
 rw [Nv.tb_length] at hk
 rw [Nv.tb_getD _ hk, Nv.tb_getD _ hk, s.set_rg _ v (by omega)]
theorem left_pos {t : List Int} (h : zeroT t < t.length) : leftT t ≠ 0 := by
 have := leftT_set h (zeroT_at h) (x := 1) (by decide)
 omega
theorem left_no {t : List Int} (h : ¬ zeroT t < t.length) : leftT t = 0 := leftT_zero fun j hj => zeroT_before (by omega)
theorem repl_left {S P : Nat} {a : Int} {d : List Int} : ∀ (n : Nat) (t : List Int) (s : Nv), t = s.tb P -> leftT t < n -> (repl S a d n t s).1 = 3 -> leftT ((repl S a d n t s).2.tb P) = 0
 | 0, _, _, _, h, _ => absurd h (Nat.not_lt_zero _)
 | n + 1, t, s, ht, hl, h3 => by
   rw [repl] at h3 ⊢
   by_cases hz : zeroT t < t.length
   . rw [if_pos hz] at h3 ⊢
     have htl : t.length = P := by rw [ht, Nv.tb_length]
     by_cases h0 : s.putE ((S : Int) + (zeroT t : Int)) = 0
     . rw [if_pos h0] at h3
       exact absurd h3 setE_three
     . rw [if_neg h0] at h3 ⊢
       by_cases h4 : s.putE ((S : Int) + (zeroT t : Int)) = 3
       . rw [if_pos h4] at h3 ⊢
         by_cases hs : (s.put ((S : Int) + (zeroT t : Int)) d).setE (3 + (zeroT t : Int)) = 0
         . rw [if_pos hs] at h3 ⊢
           refine repl_left n _ _ ?_ ?_ h3
           . rw [Nv.tb_set (s := s) (k := zeroT t) (x := (S : Int) + 1) (by omega) (by rw [set_done_h hs, Nv.put_rg, show (3 + (zeroT t : Int)).toNat = 3 + zeroT t by omega]), <- ht]
           . have := leftT_set hz (zeroT_at hz) (x := (S : Int) + 1) (by omega)
             omega
         . rw [if_neg hs] at h3
           exact absurd h3 setE_three
       . rw [if_neg h4] at h3
         exact absurd h3 h4
   . rw [if_neg hz]
     show leftT (s.tb P) = 0
     rw [<- ht]
     exact left_no hz
theorem repl_stay {S : Nat} {a : Int} {d : List Int} (n : Nat) (t : List Int) (s : Nv) (ht : leftT t = 0) : (repl S a d n t s).2 = s := by
 cases n with
 | zero => rfl
 | succ n =>
   rw [repl, if_neg fun h => left_pos h ht]
theorem lput_left {S P : Nat} {a : Int} {d : List Int} {s : Nv} (h : (lput S P a d s).1 = 3) : leftT ((lput S P a d s).2.tb P) = 0 := by
 unfold lput at h ⊢
 split at h
 . rename_i ha
   rw [if_pos ha]
   split at h
   . cases h
   . rename_i hd
     rw [if_neg hd]
     split at h
     . rename_i h3
       rw [if_pos h3]
       have := leftT_le (s.tb P)
       rw [Nv.tb_length] at this
       exact repl_left _ _ _ (Nv.tb_congr (Nv.put_rg ..) P).symm (by omega) h
     . rename_i h3
       exact absurd h h3
 . cases h
theorem lput_stay {S P : Nat} {a : Int} {d : List Int} {s : Nv} (h : leftT (s.tb P) = 0) : leftT ((lput S P a d s).2.tb P) = 0 := by
 unfold lput
 split
 . split
   . exact h
   . split
     . rw [repl_stay _ _ _ h, Nv.tb_congr (Nv.put_rg ..) P]; exact h
     . dsimp only
       rw [Nv.tb_congr (Nv.put_rg ..) P]; exact h
 . exact h
theorem tmove_left {n P M : Nat} {s : Nv} (h : (tmove n P M s).1 = 3) : leftT ((tmove n P M s).2.tb P) = 0 := by
 unfold tmove at h ⊢
 split at h
 . exact absurd h setE_three
 . rename_i h0
   rw [if_neg h0]
   exact lput_left h
theorem tmove_stay {n P M : Nat} {s : Nv} (hP : P <= 16) (h : leftT (s.tb P) = 0) : leftT ((tmove n P M s).2.tb P) = 0 := by
 unfold tmove
 split
 . dsimp only
   rw [tb_far (.inl (by decide)) hP]; exact lput_stay h
 . exact lput_stay h
theorem tput_left {n P per p M a : Nat} {d : List Int} {s : Nv} (h : (tput n P per p M a d s).1 = 3) : leftT ((tput n P per p M a d s).2.tb P) = 0 := by
 unfold tput at h ⊢
 split at h
 . rename_i hp
   rw [if_pos hp]
   split at h
   . rename_i h0
     rw [if_pos h0]
     exact lput_left h
   . rename_i h0
     rw [if_neg h0]
     exact tmove_left h
 . rename_i hp
   rw [if_neg hp]
   exact lput_left h
theorem tput_stay {n P per p M a : Nat} {d : List Int} {s : Nv} (hP : P <= 16) (h : leftT (s.tb P) = 0) : leftT ((tput n P per p M a d s).2.tb P) = 0 := by
 unfold tput
 split
 . split
   . exact lput_stay (tmove_stay hP h)
   . exact tmove_stay hP h
 . exact lput_stay h
theorem tputs_left {n P per : Nat} : ∀ (l : List (Nat × List Int)) (p : Nat) (s : Nv), (tputs n P per p l s).1 = 3 -> leftT ((tputs n P per p l s).2.2.tb P) = 0
 | [], _, _, h => by cases h
 | x :: l, p, s, h => by
   rw [tputs] at h ⊢
   split at h
   . rename_i h0
     rw [if_pos h0]
     exact tputs_left l _ _ h
   . rename_i h0
     rw [if_neg h0]
     exact tput_left h
theorem tputs_stay {n P per : Nat} (hP : P <= 16) : ∀ (l : List (Nat × List Int)) (p : Nat) (s : Nv), leftT (s.tb P) = 0 -> leftT ((tputs n P per p l s).2.2.tb P) = 0
 | [], _, _, h => h
 | x :: l, p, s, h => by
   rw [tputs]
   split
   . exact tputs_stay hP l _ _ (tput_stay hP h)
   . exact tput_stay hP h
theorem lfin_left {n P per p : Nat} {C : List Hm} {s : Nv} (h : (lfin n P per p C s).1 = 0) (hk : lk (lfin n P per p C s).2.2 ≠ 0) : leftT ((lfin n P per p C s).2.2.tb P) = 0 := by
 unfold lfin at h hk ⊢
 by_cases h0 : (tputs n P per p (hmP C) s).1 = 0
 . rw [if_pos h0] at h hk
   refine absurd ?_ hk
   unfold lk
   dsimp only
   rw [set_done_h h]
   rfl
 . rw [if_neg h0] at h hk ⊢
   by_cases h3 : (tputs n P per p (hmP C) s).1 = 3
   . rw [if_pos h3]
     exact tputs_left _ _ _ h3
   . rw [if_neg h3] at h
     exact absurd h h0
theorem lfin_three {n P per p : Nat} {C : List Hm} {s : Nv} : (lfin n P per p C s).1 ≠ 3 := by
 unfold lfin
 split
 . exact setE_three
 . split
   . exact fun h => by cases h
   . assumption
theorem lfin_stay {n P per p : Nat} {C : List Hm} {s : Nv} (hP : P <= 16) (h : leftT (s.tb P) = 0) : leftT ((lfin n P per p C s).2.2.tb P) = 0 := by
 have := tputs_stay (n := n) (per := per) hP (hmP C) p s h
 unfold lfin
 split
 . dsimp only
   rw [tb_far (.inl (by decide)) hP]; exact this
 . split <;> exact this
theorem lcom_left {n P per p : Nat} {h : List Hm} {s : Nv} (h0 : (lcom n P per p h s).1 = 0 \/ (lcom n P per p h s).1 = 3) (hk : (lcom n P per p h s).1 = 3 \/ lk (lcom n P per p h s).2.2 ≠ 0) : leftT ((lcom n P per p h s).2.2.tb P) = 0 := by
 unfold lcom at h0 hk ⊢
 by_cases c : (tputs n P per p (lgP h) s).1 = 0
 . rw [if_pos c] at h0 hk ⊢
   by_cases e : (tputs n P per p (lgP h) s).2.2.setE ((1 : Nat) : Int) = 0
   . rw [if_pos e] at h0 hk ⊢
     have h1 := h0.resolve_right lfin_three
     exact lfin_left h1 (hk.resolve_left lfin_three)
   . rw [if_neg e] at h0
     rcases h0 with q | q
     . exact absurd q e
     . exact absurd q setE_three
 . rw [if_neg c] at h0 hk ⊢
   exact tputs_left _ _ _ (h0.resolve_left c)
theorem lcom_stay {n P per p : Nat} {h : List Hm} {s : Nv} (hP : P <= 16) (hl : leftT (s.tb P) = 0) : leftT ((lcom n P per p h s).2.2.tb P) = 0 := by
 have := tputs_stay (n := n) (per := per) hP (lgP h) p s hl
 unfold lcom
 split
 . split
   . exact lfin_stay hP (by rw [tb_far (.inl (by decide)) hP]; exact this)
   . dsimp only
     rw [tb_far (.inl (by decide)) hP]; exact this
 . exact this
theorem lrec_left {n P per p : Nat} {s : Nv} (h0 : (lrec n P per p s).1 = 0) (hk : lk (lrec n P per p s).2.2 ≠ 0) : leftT ((lrec n P per p s).2.2.tb P) = 0 := by
 unfold lrec at h0 hk ⊢
 by_cases c : lk s = 0
 . rw [if_pos c] at hk
   exact absurd c hk
 . rw [if_neg c] at h0 hk ⊢
   exact lfin_left h0 hk
theorem wrT_len_h {wl bl : List Int} {o : Int} {M : List Ed} (h : WrT wl bl o M) : M.length <= 4000 := by
 unfold WrT at h
 split at h
 . unfold Tells at h
   split at h
   . rename_i hi
     obtain ⟨_, _, h3, _⟩ := hi
     rw [h.len]
     unfold cnt
     split <;> omega
   . rw [h]; simp
 . rw [h]; simp
theorem wr_isE {X : List Int} {l : List Bk} {o : Int} {bl : List Int} {M : List Ed} (hB : blkF X = some l) (hM : WrT X bl o M) (h0 : refF X o bl.length = 0) :
 ∃ b ∈ l, ∃ f : Nat, b.u = true /\ o.toNat = 8 * (b.a.toNat + 1) + f /\ f + bl.length <= 8 * (b.s.toNat - 1) /\ IsE X (8 * (b.a.toNat + 1) + f) bl.length (fun k => bl.getD k 0) M /\ 0 <= b.a /\ b.a + b.s <= X.length /\ bl.length <= 448 := by
 have hm := blkF_some hB
 have hin : inL o bl.length l = true := by
  unfold refF at h0
  rw [hB] at h0
  dsimp only at h0
  split at h0
  . assumption
  . cases h0
 obtain ⟨⟨_, h448⟩, b, hb, hu, h1, h2⟩ := inL_yes.1 hin
 obtain ⟨a0, a5, ae⟩ := offB_in hm hb
 obtain ⟨⟨s1, _⟩, s2, s3⟩ := mayF_sizes (mayL_yes.1 hm).2 b hb
 rw [ae] at h1
 obtain ⟨f, hf⟩ : ∃ f : Nat, o.toNat = 8 * (b.a.toNat + 1) + f := ⟨o.toNat - 8 * (b.a.toNat + 1), by omega⟩
 refine ⟨b, hb, f, hu, hf, by omega, ?_, s2, s3, by omega⟩
 unfold WrT at hM
 rw [if_pos h0] at hM
 unfold Tells at hM
 rw [if_pos ⟨by omega, by omega, by omega, by omega⟩, hf] at hM
 exact hM


section
variable {ops : Array Oper} {o : Oper} {a : Act} {w : World} {Q : Exit -> Act -> World -> Prop} {K : Act -> World -> Prop}
end







end Go.Proofs.YtkpefnjohdjejaaGreat
