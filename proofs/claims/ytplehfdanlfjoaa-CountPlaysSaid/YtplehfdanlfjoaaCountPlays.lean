/-
  What is kept lags by less than batch, and never leads: any pages, any counts ahead: each count, when it is to be kept. No conditions.
-/
import Derived.Test.YtplehfdanlfjoaaCnw
import Derived.Deep.Fields
namespace Go.Proofs.Ytplehfdanlfjoaa.countPlays
open Go.Proofs.Ytplehfdanlfjoaa Go.ChangeShapes Go.WideShapes Go.ChangeAt Go.RowKit

/-- two slices of a call's own that lie apart -/
def Ap (v u : Value) : Prop := v.ownBlock = none ∨ u.ownBlock = none ∨ v.ownBlock ≠ u.ownBlock
theorem Ap.flip {v u : Value} (h : Ap v u) : Ap u v := by
  rcases h with h | h | h
  · exact .inr (.inl h)
  · exact .inl h
  · exact .inr (.inr (Ne.symm h))
theorem Ap.step {B : Nat} {w : World} {v u u' : Value} {l : List Int} {k : Nat} (h : Ap v u) (ho : OwnI B w v l) (hat : u'.ownBlock = u.ownBlock ∨ u'.ownBlock = some k) (hk : w.heap.size ≤ k) : Ap v u' := by
  rcases hat with g | g
  · unfold Ap; rw [g]; exact h
  · cases hv : v.ownBlock with
    | none => exact .inl hv
    | some q =>
      refine .inr (.inr ?_)
      rw [hv, g]
      intro e
      have := (World.ownsRow.lt ho q hv).2
      cases e; omega
theorem Ap.keeps {B : Nat} {w w' : World} {v u : Value} {l : List Int} (h : Ap v u) (ho : OwnI B w v l) (hg : w.grownBy w' u.ownBlock) : OwnI B w' v l := by
  rcases h with h | h | h
  · exact World.ownsRow.kept ho hg (.inl h)
  · cases hv : v.ownBlock with
    | none => exact World.ownsRow.kept ho hg (.inl hv)
    | some q => exact World.ownsRow.kept ho hg (.inr (by rw [hv, h]; intro e; cases e))
  · exact World.ownsRow.kept ho hg (.inr h)
theorem own_chg_i {B : Nat} {D : List Nat} {w w' : World} {v : Value} {l : List Int} (h : OwnI B w v l) (hc : Chg D w w') (hD : ∀ k ∈ D, k < B) : OwnI B w' v l := by
  refine ⟨h.1, h.2.imp id ?_⟩
  rintro ⟨g, cap, cur, hv, h1, hg, r⟩
  exact ⟨g, cap, cur, hv, h1, (hc.block g (Array.getElem?_eq_some_iff.1 hg).1 (fun hm => by have := hD g hm; omega)).trans hg, r⟩
theorem own_other_i {B b n c : Nat} {w : World} {l : List Int} (h : OwnI B w (.slice (some ⟨b, 0, none⟩) n c) l) {p : Addr} (hne : b ≠ p.block) (u : Value) : OwnI B (w.setCell p u) (.slice (some ⟨b, 0, none⟩) n c) l := by
  refine ⟨h.1, h.2.imp id ?_⟩
  rintro ⟨g, cap, cur, hv, h1, hg, r⟩
  cases hv
  exact ⟨_, _, cur, rfl, h1, (Below.heap_setCell w p u _ hne).trans hg, r⟩
theorem own_block {B : Nat} {w : World} {p : Option Addr} {n c : Nat} {l : List Int} (h : OwnI B w (.slice p n c) l) (h0 : 0 < l.length) : ∃ g, p = some ⟨g, 0, none⟩ ∧ B ≤ g ∧ g < w.heap.size := by
  obtain ⟨_, ⟨h1, h2⟩ | ⟨g, cap, cur, hv, hb, hg, _⟩⟩ := h
  · omega
  · cases hv
    exact ⟨g, rfl, hb, (Array.getElem?_eq_some_iff.1 hg).1⟩

theorem note_c (s : Ct) (q : Nat) : (s.note q).c = at1 s.c q (s.c q + 1) := by unfold Ct.note; split <;> rfl
theorem note_k {s : Ct} {q : Nat} (h : s.due q = false) : (s.note q).k = s.k := by unfold Ct.note; rw [h]; rfl
theorem note_k2 {s : Ct} {q : Nat} (h : s.due q = true) : (s.note q).k = at1 s.k q (s.c q + 1) := by unfold Ct.note; rw [h, if_pos rfl]; simp [Ct.kept, Ct.up, at1]
theorem note_n (s : Ct) (q : Nat) : (s.note q).n = s.n ∧ (s.note q).b = s.b := by unfold Ct.note; split <;> exact ⟨rfl, rfl⟩
/-- behind k notes: the Count s, now and saved as it -/
structure Lp (w w1 wr : World) (x g b n k : Nat) (v u : Value) (s : Ct) : Prop where
  q : Cq wr x g s
  ok : s.Ok
  nn : s.n = n
  bb : s.b = b
  cb : ∀ p, p < n → s.c p ≤ 1099511627776 + k
  own : OwnI w1.heap.size wr v (byF n fun p => (s.c p : Int))
  kept : OwnI w1.heap.size wr u (byF n fun p => (s.k p : Int))
  ap : Ap v u
  bel : Below w.heap.size w wr
theorem Lp.more {w w1 wr : World} {x g b n k : Nat} {v u : Value} {s : Ct} (h : Lp w w1 wr x g b n k v u s) : Lp w w1 wr x g b n (k + 1) v u s :=
  ⟨h.q, h.ok, h.nn, h.bb, fun p hp => Nat.le_succ_of_le (h.cb p hp), h.own, h.kept, h.ap, h.bel⟩
theorem Lp.below {w w1 wr wq : World} {x g b n k : Nat} {v u : Value} {s : Ct} (h : Lp w w1 wr x g b n k v u s) (hb : Below wr.heap.size wr wq) : Lp w w1 wq x g b n k v u s :=
  ⟨h.q.below hb, h.ok, h.nn, h.bb, h.cb, own_below_i h.own hb, own_below_i h.kept hb, h.ap, below_more h.bel hb⟩
/-- blocks: where now and saved lie -/
structure Bk (w w1 : World) (x g a e : Nat) : Prop where
  hw : w.heap.size ≤ w1.heap.size
  gw : w.heap.size ≤ g
  g1 : g < w1.heap.size
  x1 : x < w1.heap.size
  a1 : w1.heap.size ≤ a
  e1 : w1.heap.size ≤ e
  ne : a ≠ e
theorem Lp.noted {w w1 wr w2 : World} {x g b n k a e ca ce q : Nat} {s : Ct} (h : Lp w w1 wr x g b n k (.slice (some ⟨a, 0, none⟩) n ca) (.slice (some ⟨e, 0, none⟩) n ce) s) (B : Bk w w1 x g a e) (hq : q < n)
    (hQ : Cq w2 x g (s.note q)) (hC : Chg [g] wr w2) (hd : s.due q = false) : Lp w w1 (w2.setCell ⟨a, q, none⟩ (.int .i64 ((s.c q + 1 : Nat) : Int))) x g b n (k + 1) (.slice (some ⟨a, 0, none⟩) n ca) (.slice (some ⟨e, 0, none⟩) n ce) (s.note q) := by
  have hD : ∀ j ∈ [g], j < w1.heap.size := fun j hj => by rw [List.mem_singleton.1 hj]; exact B.g1
  have o2 := own_chg_i h.own hC hD
  have k2 := own_chg_i h.kept hC hD
  have o3 := own_stored_i o2 q ((s.c q + 1 : Nat) : Int)
  rw [byF_set (f' := fun p => ((s.note q).c p : Int)) (by rw [note_c]; simp [at1]) (fun j hj => by rw [note_c]; simp [at1, hj])] at o3
  have k3 := own_other_i k2 (p := ⟨a, q, none⟩) (fun e => B.ne e.symm) (.int .i64 ((s.c q + 1 : Nat) : Int))
  have ex := Below.heap_setCell w2 ⟨a, q, none⟩ (.int .i64 ((s.c q + 1 : Nat) : Int)) x (by have := B.x1; have := B.a1; show x ≠ a; omega)
  have eg := Below.heap_setCell w2 ⟨a, q, none⟩ (.int .i64 ((s.c q + 1 : Nat) : Int)) g (by have := B.g1; have := B.a1; show g ≠ a; omega)
  refine ⟨hQ.of_heap ex eg, h.ok.note (by rw [h.nn]; exact hq), by rw [(note_n s q).1, h.nn], by rw [(note_n s q).2, h.bb], fun p hp => ?_, o3, by rw [note_k hd]; exact k3, h.ap, ?_⟩
  · rw [note_c]; unfold at1
    have := h.cb p hp
    split
    · rename_i e; subst e; omega
    · omega
  · exact (hC.below h.bel h.bel.size (fun j hj => by rw [List.mem_singleton.1 hj]; exact B.gw)).setCell (p := ⟨a, q, none⟩) (Nat.le_trans B.hw B.a1) _
theorem Lp.noted2 {w w1 wr w2 w3 : World} {x g b n k a e ca ce q : Nat} {s : Ct} (h : Lp w w1 wr x g b n k (.slice (some ⟨a, 0, none⟩) n ca) (.slice (some ⟨e, 0, none⟩) n ce) s) (B : Bk w w1 x g a e) (hq : q < n)
    (hQ : Cq w2 x g (s.note q)) (hC : Chg [g] wr w2) (hd : s.due q = true) (h3 : ∃ m, w3 = (w2.setCell ⟨a, q, none⟩ (.int .i64 ((s.c q + 1 : Nat) : Int))).drewN m) :
    Lp w w1 (w3.setCell ⟨e, q, none⟩ (.int .i64 ((s.c q + 1 : Nat) : Int))) x g b n (k + 1) (.slice (some ⟨a, 0, none⟩) n ca) (.slice (some ⟨e, 0, none⟩) n ce) (s.note q) := by
  have hD : ∀ j ∈ [g], j < w1.heap.size := fun j hj => by rw [List.mem_singleton.1 hj]; exact B.g1
  have o2 := own_chg_i h.own hC hD
  have k2 := own_chg_i h.kept hC hD
  have o3 := own_stored_i o2 q ((s.c q + 1 : Nat) : Int)
  rw [byF_set (f' := fun p => ((s.note q).c p : Int)) (by rw [note_c]; simp [at1]) (fun j hj => by rw [note_c]; simp [at1, hj])] at o3
  have k3 := own_other_i k2 (p := ⟨a, q, none⟩) (fun e => B.ne e.symm) (.int .i64 ((s.c q + 1 : Nat) : Int))
  have ex := Below.heap_setCell w2 ⟨a, q, none⟩ (.int .i64 ((s.c q + 1 : Nat) : Int)) x (by have := B.x1; have := B.a1; show x ≠ a; omega)
  have eg := Below.heap_setCell w2 ⟨a, q, none⟩ (.int .i64 ((s.c q + 1 : Nat) : Int)) g (by have := B.g1; have := B.a1; show g ≠ a; omega)
  have bel := (hC.below h.bel h.bel.size (fun j hj => by rw [List.mem_singleton.1 hj]; exact B.gw)).setCell (p := ⟨a, q, none⟩) (Nat.le_trans B.hw B.a1) (.int .i64 ((s.c q + 1 : Nat) : Int))
  obtain ⟨m, rfl⟩ := h3
  have Q3 := hQ.of_heap ex eg
  generalize w2.setCell ⟨a, q, none⟩ (.int .i64 ((s.c q + 1 : Nat) : Int)) = W at *
  have o4 : OwnI w1.heap.size (W.drewN m) _ _ := own_chg_i o3 ((Chg.refl [] W).drewN m) (by simp)
  have k4 : OwnI w1.heap.size (W.drewN m) _ _ := own_chg_i k3 ((Chg.refl [] W).drewN m) (by simp)
  have o5 := own_other_i o4 (p := ⟨e, q, none⟩) B.ne (.int .i64 ((s.c q + 1 : Nat) : Int))
  have k5 := own_stored_i k4 q ((s.c q + 1 : Nat) : Int)
  rw [byF_set (f' := fun p => ((s.note q).k p : Int)) (by rw [note_k2 hd]; simp [at1]) (fun j hj => by rw [note_k2 hd]; simp [at1, hj])] at k5
  have fx := Below.heap_setCell (W.drewN m) ⟨e, q, none⟩ (.int .i64 ((s.c q + 1 : Nat) : Int)) x (by have := B.x1; have := B.e1; show x ≠ e; omega)
  have fg := Below.heap_setCell (W.drewN m) ⟨e, q, none⟩ (.int .i64 ((s.c q + 1 : Nat) : Int)) g (by have := B.g1; have := B.e1; show g ≠ e; omega)
  refine ⟨Q3.of_heap fx fg, h.ok.note (by rw [h.nn]; exact hq), by rw [(note_n s q).1, h.nn], by rw [(note_n s q).2, h.bb], fun p hp => ?_, o5, k5, h.ap, ?_⟩
  · rw [note_c]; unfold at1
    have := h.cb p hp
    split
    · rename_i e; subst e; omega
    · omega
  · exact (below_drewN bel m).setCell (p := ⟨e, q, none⟩) (Nat.le_trans B.hw B.e1) _

def bl (l : List Int) : List Int := l.map fun x => (br x : Int)
theorem bl_length (l : List Int) : (bl l).length = l.length := by simp [bl]
theorem bl_snoc {l : List Int} {k : Nat} (h : k < l.length) : bl (l.take k) ++ [(br (l.getD k 0) : Int)] = bl (l.take (k + 1)) := by
  rw [List.take_succ_eq_append_getElem h]
  unfold bl
  rw [List.map_append, List.getD_eq_getElem?_getD, List.getElem?_eq_getElem h]; rfl
theorem bl_byF (b n : Nat) (l : List Int) (h : l.length = n) : bl l = byF n fun p => ((cnew b n l n).c p : Int) := by
  subst h
  refine List.ext_getElem (by simp [bl, byF]) fun i h1 h2 => ?_
  have hi : i < l.length := by simpa [bl] using h1
  simp [bl, byF, cnew, hi]

set_option maxRecDepth 100000 in
theorem long (a0 : Int) (p q : Option Addr) (n c m d : Nat) (w : World) (h : 400 < m ∨ 60 < n) :
    Calls Try.prog 3 #[.int .i64 a0, .slice p n c, .slice q m d] w fun e w' => e = .returned (.bool true) ∧ Below w.heap.size w w' := by
  by_cases h1 : (m : Int) > 400
  · have h2 : m > 400 := by omega
    clear h
    go_enter Try.func3, Try.ntmps3
    go_wp2_with fail
    refine (awake_any _).mono ?_; rintro e w' ⟨rfl, hb⟩
    go_wp2_with fail
    go_ret
    exact ⟨rfl, hb⟩
  · have h2 : (n : Int) > 60 := by omega
    have h3 : n > 60 := by omega
    have h4 : ¬ m > 400 := by omega
    clear h
    go_enter Try.func3, Try.ntmps3
    go_wp2_with fail
    refine (awake_any _).mono ?_; rintro e w' ⟨rfl, hb⟩
    go_wp2_with fail
    go_ret
    exact ⟨rfl, hb⟩
set_option maxRecDepth 100000 in
theorem bad (a0 : Int) (kl : List Int) (p q : Option Addr) (c m d : Nat) (w : World) (hr : RI w (.slice p kl.length c) kl) (h1 : m ≤ 400) (h2 : kl.length ≤ 60) (h : a0 < 1 ∨ 100 < a0 ∨ 16 < kl.length) :
    Calls Try.prog 3 #[.int .i64 a0, .slice p kl.length c, .slice q m d] w fun e w' => e = .returned (.bool true) ∧ Below w.heap.size w w' := by
  have C := Lib.hid (cnew_no a0 _ kl w hr h)
  have k1 : ¬ (m : Int) > 400 := by omega
  have k2 : ¬ m > 400 := by omega
  have k3 : ¬ (kl.length : Int) > 60 := by omega
  have k4 : ¬ kl.length > 60 := by omega
  have h' : a0 < 1 ∨ (1 ≤ a0 ∧ 100 < a0) ∨ (1 ≤ a0 ∧ a0 ≤ 100 ∧ (16 : Int) < (kl.length : Int)) := by omega
  clear hr h1 h2 h
  generalize kl.length = n at *
  rcases h' with h | ⟨h, g⟩ | ⟨h, g, f⟩
  · have i1 : ¬ a0 ≥ 1 := by omega
    go_enter Try.func3, Try.ntmps3
    go_wp2_with fail
    refine (C.out).mono ?_; rintro e w' ⟨rfl, rfl⟩
    go_wp2_with fail
    refine (awake_any _).mono ?_; rintro e w' ⟨rfl, hb⟩
    go_wp2_with fail
    go_ret
    exact ⟨rfl, hb⟩
  · have i1 : ¬ a0 ≤ 100 := by omega
    go_enter Try.func3, Try.ntmps3
    go_wp2_with fail
    refine (C.out).mono ?_; rintro e w' ⟨rfl, rfl⟩
    go_wp2_with fail
    refine (awake_any _).mono ?_; rintro e w' ⟨rfl, hb⟩
    go_wp2_with fail
    go_ret
    exact ⟨rfl, hb⟩
  · have i1 : ¬ (n : Int) ≤ 16 := by omega
    have i2 : ¬ n ≤ 16 := by omega
    go_enter Try.func3, Try.ntmps3
    go_wp2_with fail
    refine (C.out).mono ?_; rintro e w' ⟨rfl, rfl⟩
    go_wp2_with fail
    refine (awake_any _).mono ?_; rintro e w' ⟨rfl, hb⟩
    go_wp2_with fail
    go_ret
    exact ⟨rfl, hb⟩

set_option maxRecDepth 100000 in
set_option maxHeartbeats 8000000 in
theorem good (b : Nat) (kl l : List Int) (p q : Option Addr) (c d : Nat) (w : World) (hr : RI w (.slice p kl.length c) kl) (hs : RI w (.slice q l.length d) l) (hm : l.length ≤ 400) (h1 : 1 ≤ b) (h2 : b ≤ 100) (h3 : kl.length ≤ 16) :
    Calls Try.prog 3 #[.int .i64 (b : Int), .slice p kl.length c, .slice q l.length d] w fun e w' => e = .returned (.bool true) ∧ Below w.heap.size w w' := by
  have C := Lib.hid (cnew_yes b _ kl w hr h1 h2 h3)
  have OK0 := Lib.hid (cnew_ok h1 h2 h3 kl.length)
  have HR := Lib.hid hr
  have HS := Lib.hid hs
  obtain ⟨n, hn⟩ : ∃ n, kl.length = n := ⟨_, rfl⟩
  obtain ⟨m, hml⟩ : ∃ m, l.length = m := ⟨_, rfl⟩
  rw [hn] at C OK0 HR h3 ⊢
  rw [hml] at HS hm ⊢
  have HN : Hid (kl.length = n ∧ n ≤ 16) := Lib.hid ⟨hn, h3⟩
  have HM : Hid (l.length = m ∧ m ≤ 400) := Lib.hid ⟨hml, hm⟩
  have HB : Hid (1 ≤ b ∧ b ≤ 100) := Lib.hid ⟨h1, h2⟩
  have k1 : ¬ (m : Int) > 400 := by omega
  have k2 : ¬ m > 400 := by omega
  have k3 : ¬ (n : Int) > 60 := by omega
  have k4 : ¬ n > 60 := by omega
  have k5 : (b : Int) ≥ 1 := by omega
  have k6 : (b : Int) ≤ 100 := by omega
  have k7 : (n : Int) ≤ 16 := by omega
  have k8 : n ≤ 16 := by omega
  clear hr hs hn hml hm h1 h2 h3
  go_enter Try.func3, Try.ntmps3
  go_wp2_with fail
  refine (C.out).mono ?_; rintro e w1 ⟨x, g, rfl, hx, hg, hQ, hb⟩
  have Q1 := Lib.hid hQ
  have B1 := Lib.hid hb
  have GG : Hid (w.heap.size ≤ g ∧ g < w1.heap.size ∧ x < w1.heap.size ∧ x ≠ g) := Lib.hid ⟨hg, hQ.ltg, hQ.ltx, hQ.ne⟩
  have O1 : Hid (OwnI w1.heap.size w1 (.slice none 0 0) (bl (kl.take 0))) := Lib.hid (World.ownsRow_nil _ _ _ _)
  clear hx hg hQ hb C
  go_wp2
  go_loopw [8, 9, 11, 47] (fun v u _ i wr => ∃ k : Nat, k ≤ n ∧ i = .int .i64 k ∧ Hid (OwnI w1.heap.size wr v (bl (kl.take k)) ∧ OwnI w1.heap.size wr u (bl (kl.take k)) ∧ Ap v u ∧ Below w1.heap.size w1 wr)) (fun _ _ _ i _ => n - (intOf i).toNat)
  case atStart => exact ⟨0, Nat.zero_le _, rfl, Lib.hid ⟨O1.out, O1.out, .inl rfl, Below.refl _ _⟩⟩
  case round =>
    obtain ⟨k, hk, rfl, H⟩ := hrel
    clear O1
    by_cases hlt : k < n
    · have j0 : IntKind.i64.wrap ((k : Int) + 1) = ((k + 1 : Nat) : Int) := by rw [show (k : Int) + 1 = ((k + 1 : Nat) : Int) by omega]; exact i64_nat _ (by omega)
      obtain ⟨bb, off, rfl, hbb, hc⟩ := ri_some HR.out (by rw [HN.out.1]; omega)
      have c0 : wr.cell? ⟨bb, off + k, none⟩ = some (.int .i64 (kl.getD k 0)) := (H.out.2.2.2.cell (p := ⟨bb, off + k, none⟩) (Nat.lt_of_lt_of_le hbb B1.out.size)).trans ((B1.out.cell (p := ⟨bb, off + k, none⟩) hbb).trans (hc k (by rw [HN.out.1]; exact hlt)))
      have i0 : (0 : Int) ≤ (k : Int) := by omega
      have i1 : (k : Int) < (n : Int) := by omega
      have i2 : ¬ (k : Int) < 0 := by omega
      have NX := Lib.hid (bl_snoc (l := kl) (k := k) (by rw [HN.out.1]; exact hlt))
      have hlen : Hid ((bl (kl.take k)).length + 1 ≤ 1000000) := Lib.hid (by rw [bl_length, List.length_take]; have := HN.out; omega)
      have hcase : (kl.getD k 0 < 0 ∧ (br (kl.getD k 0) : Int) = 0) ∨ (0 ≤ kl.getD k 0 ∧ kl.getD k 0 ≤ 1099511627776 ∧ (br (kl.getD k 0) : Int) = kl.getD k 0) ∨ (1099511627776 < kl.getD k 0 ∧ (br (kl.getD k 0) : Int) = 1099511627776) := by
        unfold br
        split
        · omega
        · split <;> omega
      obtain ⟨y, hy⟩ : ∃ y : Int, (br (kl.getD k 0) : Int) = y := ⟨_, rfl⟩
      rw [hy] at hcase NX
      generalize kl.getD k 0 = yy at *
      have szz : Hid (w1.heap.size ≤ wr.heap.size) := Lib.hid H.out.2.2.2.size
      have HA := Lib.hid H.out.1
      have HU := Lib.hid H.out.2.1
      have HP := Lib.hid H.out.2.2.1
      have HBl := Lib.hid H.out.2.2.2
      have hs1 : Hid (∀ o, w1.heap.size ≤ (wr.alloc o).heap.size) := Lib.hid (fun o => by rw [size_alloc]; exact Nat.le_succ_of_le H.out.2.2.2.size)
      clear hc hy HR hbb H
      have hfacts : (yy ≤ 1099511627776 ∧ ¬ 0 < yy ∧ y = 0) ∨ (yy ≤ 1099511627776 ∧ 0 < yy ∧ y = yy) ∨ (1099511627776 < yy ∧ 0 < yy ∧ y = 1099511627776) := by omega
      clear hcase
      rcases hfacts with ⟨f1, f2, rfl⟩ | ⟨f1, f2, rfl⟩ | ⟨f1, f2, rfl⟩
      all_goals
        go_wp2_with (at_builtin; refine list_app_int (o := ⟨some 57, _, _, _, _, _⟩) rfl (.tmp 54) (.tmp 56) rfl w1.heap.size _ (bl (kl.take k)) rfl (World.ownsRow.alloc HA.out _) _ [_] rfl (ri_one _ _) hlen.out (hs1.out _) ?_)
        intro v1 w2 hown hg hat
        have HA2 : Hid (OwnI w1.heap.size w2 v1 (bl (kl.take (k + 1)))) := Lib.hid (NX.out ▸ hown)
        have HU2 := Lib.hid (HP.out.flip.keeps (World.ownsRow.alloc HU.out _) hg)
        have HP2 := Lib.hid (HP.out.flip.step HU.out hat (Nat.le_succ _)).flip
        have HB2 := Lib.hid (Below.grown (HBl.out.alloc szz.out _) hg (hs1.out _) (fun q hq => (World.ownsRow.lt HA.out q hq).1))
        have hs2 : Hid (∀ o, w1.heap.size ≤ (w2.alloc o).heap.size) := Lib.hid (fun o => by rw [size_alloc]; exact Nat.le_succ_of_le HB2.out.size)
        have hs3 : Hid (w1.heap.size ≤ w2.heap.size) := Lib.hid HB2.out.size
        clear hown hg hat HA HU HP HBl
        go_wp2_with (at_builtin; refine list_app_int (o := ⟨some 61, _, _, _, _, _⟩) rfl (.tmp 58) (.tmp 60) rfl w1.heap.size _ (bl (kl.take k)) rfl (World.ownsRow.alloc HU2.out _) _ [_] rfl (ri_one _ _) hlen.out (hs2.out _) ?_)
        intro u1 w3 hown hg hat
        have HU3 : Hid (OwnI w1.heap.size w3 u1 (bl (kl.take (k + 1)))) := Lib.hid (NX.out ▸ hown)
        have HA3 := Lib.hid (HP2.out.keeps (World.ownsRow.alloc HA2.out _) hg)
        have HP3 := Lib.hid (HP2.out.step HA2.out hat (Nat.le_succ _))
        have HB3 := Lib.hid (Below.grown (HB2.out.alloc hs3.out _) hg (hs2.out _) (fun q hq => (World.ownsRow.lt HU2.out q hq).1))
        have HF := Lib.hid (And.intro HA3.out (And.intro HU3.out (And.intro HP3.out HB3.out)))
        clear hown hg hat HA2 HU2 HP2 HB2
        go_wp2
        exact ⟨⟨k + 1, by omega, by go_num, HF⟩, by simp [intOf]; omega⟩
    · obtain rfl : k = n := by omega
      have eT : kl.take k = kl := by rw [← HN.out.1, List.take_length]
      have hF : Hid (Lp w w1 wr x g b k 0 u8 u9 (cnew b k kl k)) := by
        have h := H.out
        rw [eT, bl_byF b k kl HN.out.1] at h
        exact Lib.hid ⟨Q1.out.below h.2.2.2, OK0.out, rfl, rfl, fun p _ => by
          show (if p < k then br (kl.getD p 0) else 0) ≤ _
          split
          · exact br_le _
          · omega, h.1, h.2.1, h.2.2.1, below_more B1.out h.2.2.2⟩
      obtain ⟨pa, ca, e8⟩ := hF.out.own.shape
      obtain ⟨pe, ce, e9⟩ := hF.out.kept.shape
      rw [byF_length] at e8 e9
      subst e8 e9
      clear H eT OK0 Q1 HR hlt hk
      go_wp2
      go_loopw [13, 14, 15, 65] (fun _ _ _ i wz => ∃ j : Nat, j ≤ m ∧ i = .int .i64 j ∧ Hid (∃ s, Lp w w1 wz x g b k j (.slice pa k ca) (.slice pe k ce) s)) (fun _ _ _ i _ => m - (intOf i).toNat)
      case atStart => exact ⟨0, Nat.zero_le _, rfl, Lib.hid ⟨_, hF.out⟩⟩
      case round =>
        obtain ⟨j, hj, rfl, H⟩ := hrel
        clear hF
        by_cases hlt : j < m
        · have j0 : IntKind.i64.wrap ((j : Int) + 1) = ((j + 1 : Nat) : Int) := by rw [show (j : Int) + 1 = ((j + 1 : Nat) : Int) by omega]; exact i64_nat _ (by omega)
          obtain ⟨bb, off, rfl, hbb, hc⟩ := ri_some HS.out (by rw [HM.out.1]; omega)
          obtain ⟨s, hs⟩ := H.out
          have HL := Lib.hid hs
          have c0 : wr.cell? ⟨bb, off + j, none⟩ = some (.int .i64 (l.getD j 0)) := (hs.bel.cell (p := ⟨bb, off + j, none⟩) hbb).trans (hc j (by rw [HM.out.1]; exact hlt))
          have i0 : (0 : Int) ≤ (j : Int) := by omega
          have i1 : (j : Int) < (m : Int) := by omega
          have i2 : ¬ (j : Int) < 0 := by omega
          clear hc HS hbb H
          generalize l.getD j 0 = y at *
          by_cases hin : 0 ≤ y ∧ y < (k : Int)
          · obtain ⟨t, rfl⟩ : ∃ t : Nat, y = (t : Int) := ⟨y.toNat, by omega⟩
            have htk : t < k := by omega
            obtain ⟨a, rfl, ha1, ha2⟩ := own_block hs.own (by rw [byF_length]; omega)
            obtain ⟨f, rfl, hf1, hf2⟩ := own_block hs.kept (by rw [byF_length]; omega)
            have hne : a ≠ f := by
              rcases hs.ap with h | h | h
              · cases h
              · cases h
              · exact fun e => h (by rw [e]; rfl)
            have BK : Hid (Bk w w1 x g a f) := Lib.hid ⟨B1.out.size, GG.out.1, GG.out.2.1, GG.out.2.2.1, ha1, hf1, hne⟩
            have hcb := hs.cb t htk
            have hle := hs.ok.le t (by rw [hs.nn]; exact htk)
            have hlg := hs.ok.lag t (by rw [hs.nn]; exact htk)
            rw [hs.bb] at hlg
            obtain ⟨C1, hC1⟩ : ∃ C1, s.c t + 1 = C1 := ⟨_, rfl⟩
            obtain ⟨D, hD⟩ : ∃ D, s.due t = D := ⟨_, rfl⟩
            have CN := Lib.hid (cnote_is (p := t) (a := (C1 : Int)) (d := D) (by rw [hC1]) hD rfl hs.q hs.ok (by rw [hs.nn]; exact htk) (by omega))
            have i3 : (0 : Int) ≤ (t : Int) := by omega
            have i4 : (t : Int) < (k : Int) := by omega
            have i5 : ¬ (t : Int) < 0 := by omega
            have i6 : ¬ (k : Int) ≤ (t : Int) := by omega
            have i7 : ¬ k ≤ t := by omega
            have NO := Lib.hid fun (w2 : World) (hQ : Cq w2 x g (s.note t)) (hC : Chg [g] wr w2) => (show w2.cell? ⟨a, t, none⟩ = some (.int .i64 (s.c t : Int)) ∧ w2.frozen? ⟨a, t, none⟩ = false from by
              have o2 := own_chg_i HL.out.own hC (fun j hj => by rw [List.mem_singleton.1 hj]; exact BK.out.g1)
              have := own_cell_i o2 (j := t) (by rw [byF_length]; exact htk)
              rw [byF_getD _ htk] at this; exact this)
            have j1 : IntKind.i64.wrap ((s.c t : Int) + 1) = (C1 : Int) := by rw [show (s.c t : Int) + 1 = (C1 : Int) by omega]; exact i64_nat _ (by omega)
            obtain ⟨K1, hK1⟩ : ∃ K1, s.k t = K1 := ⟨_, rfl⟩
            obtain ⟨df, hdf⟩ : ∃ df, C1 - K1 = df := ⟨_, rfl⟩
            have j2 : IntKind.i64.wrap ((C1 : Int) - (K1 : Int)) = (df : Int) := by rw [show (C1 : Int) - (K1 : Int) = (df : Int) by omega]; exact i64_nat _ (by omega)
            have q1 : ((df : Int) == (b : Int)) = D := by
              rw [← hD]; unfold Ct.due
              rw [hs.bb, hC1, hK1, hdf]
              by_cases h : b ≤ df
              · obtain rfl : df = b := by omega
                simp
              · simp [h]; omega
            cases D
            · have N1 := Lib.hid fun (w2 : World) (hQ : Cq w2 x g (s.note t)) (hC : Chg [g] wr w2) => HL.out.noted BK.out htk hQ hC hD
              rw [hC1] at N1
              have HT : Hid (t < k ∧ (s.note t).c t = C1 ∧ (s.note t).k t = K1 ∧ ((s.note t).lag t : Int) = (df : Int)) := Lib.hid (by
                have h1 : (s.note t).c t = C1 := by rw [note_c, ← hC1]; simp [at1]
                have h2 : (s.note t).k t = K1 := by rw [note_k hD, hK1]
                refine ⟨htk, h1, h2, ?_⟩
                unfold Ct.lag; rw [h1, h2, hdf])
              have i8 : ¬ (df : Int) ≥ (b : Int) := by simp at q1; omega
              have i9 : ¬ df ≥ b := by omega
              clear hs hcb hle hlg hin ha1 ha2 hf1 hf2 hne HL hK1 hdf k3 k4
              go_wp2_with fail
              refine (CN.out).mono ?_; rintro e w2 ⟨rfl, hq2, hc2⟩
              obtain ⟨n0, n1⟩ := NO.out w2 hq2 hc2
              obtain ⟨W, hW⟩ : ∃ W, w2.setCell ⟨a, t, none⟩ (.int .i64 (C1 : Int)) = W := ⟨_, rfl⟩
              have LP := N1.out w2 hq2 hc2
              rw [hW] at LP
              have d1 : ∀ z, (W.drewN z).cell? ⟨a, t, none⟩ = some (.int .i64 (C1 : Int)) := fun z => by
                have := (own_cell_i LP.own (j := t) (by rw [byF_length]; exact htk)).1
                rw [byF_getD _ htk, HT.out.2.1] at this; exact this
              have d2 : ∀ z, (W.drewN z).cell? ⟨f, t, none⟩ = some (.int .i64 (K1 : Int)) := fun z => by
                have := (own_cell_i LP.kept (j := t) (by rw [byF_length]; exact htk)).1
                rw [byF_getD _ htk, HT.out.2.2.1] at this; exact this
              have HP := Lib.hid LP
              clear LP hq2 hc2 htk N1 CN NO hD hC1
              go_wp2_with fail
              go_quiet (fail)
              have LV := Lib.hid (HP.out.below (below_drewN (Below.refl _ _) nq))
              generalize W.drewN nq = V at *
              clear d1 d2 HP
              go_wp2
              have e1 : ∀ w', Below V.heap.size V w' → w'.cell? ⟨a, t, none⟩ = some (.int .i64 (C1 : Int)) := fun w' hb => by
                have := (own_cell_i (LV.out.below hb).own (j := t) (by rw [byF_length]; exact HT.out.1)).1
                rw [byF_getD _ HT.out.1, HT.out.2.1] at this; exact this
              have e2 : ∀ w', Below V.heap.size V w' → w'.cell? ⟨f, t, none⟩ = some (.int .i64 (K1 : Int)) := fun w' hb => by
                have := (own_cell_i (LV.out.below hb).kept (j := t) (by rw [byF_length]; exact HT.out.1)).1
                rw [byF_getD _ HT.out.1, HT.out.2.2.1] at this; exact this
              have CL := Lib.hid fun (w' : World) (hb : Below V.heap.size V w') => clag_is (p := t) (a := (df : Int)) HT.out.2.2.2 (LV.out.below hb).q LV.out.ok (by rw [LV.out.nn]; exact HT.out.1)
              have CO := Lib.hid fun (w' : World) (hb : Below V.heap.size V w') => cof_is (p := t) (a := (C1 : Int)) (by rw [HT.out.2.1]) (LV.out.below hb).q (by rw [LV.out.nn]; exact HT.out.1)
              have hb0 : Below V.heap.size V V.drew := (Below.refl _ _).drew
              go_region_held3 (fun w' => Below V.heap.size V w')
                (first | assumption | exact below_more ‹Below V.heap.size V _› hbq)
                (first
                  | (go_at_call 11; refine (CL.out _ (by assumption)).mono ?_; rintro e wq ⟨rfl, hbq⟩)
                  | (go_at_call 10; refine (CO.out _ (by assumption)).mono ?_; rintro e wq ⟨rfl, rfl⟩))
              have HF : Hid (∃ s, Lp w w1 wq x g b k (j + 1) (.slice (some ⟨a, 0, none⟩) k ca) (.slice (some ⟨f, 0, none⟩) k ce) s) := Lib.hid ⟨_, LV.out.below ‹_›⟩
              go_wp2
              exact ⟨⟨j + 1, by omega, by go_num, HF⟩, by simp [intOf]; omega⟩
            · have N2 := Lib.hid fun (w2 w3 : World) (hQ : Cq w2 x g (s.note t)) (hC : Chg [g] wr w2) => HL.out.noted2 (w3 := w3) BK.out htk hQ hC hD
              have N0 := Lib.hid fun (w2 : World) (hC : Chg [g] wr w2) => own_other_i (own_chg_i HL.out.kept hC (fun j hj => by rw [List.mem_singleton.1 hj]; exact BK.out.g1)) (p := ⟨a, t, none⟩) (fun e => hne e.symm) (.int .i64 (C1 : Int))
              have N4 := Lib.hid fun (w2 : World) (hC : Chg [g] wr w2) => own_stored_i (own_chg_i HL.out.own hC (fun j hj => by rw [List.mem_singleton.1 hj]; exact BK.out.g1)) t (C1 : Int)
              rw [hC1] at N2
              obtain ⟨Z, hZ⟩ : ∃ Z : Nat, 0 = Z := ⟨_, rfl⟩
              obtain ⟨C2, hC2⟩ : ∃ C2 : Nat, C1 = C2 := ⟨_, rfl⟩
              have HT : Hid (t < k ∧ (s.note t).c t = C1 ∧ (s.note t).k t = C2 ∧ ((s.note t).lag t : Int) = (Z : Int)) := Lib.hid (by
                have h1 : (s.note t).c t = C1 := by rw [note_c, ← hC1]; simp [at1]
                have h2 : (s.note t).k t = C2 := by rw [note_k2 hD, ← hC2, ← hC1]; simp [at1]
                refine ⟨htk, h1, h2, ?_⟩
                unfold Ct.lag; rw [h1, h2, ← hZ, ← hC2]; simp)
              have HK : Hid ((byF k fun p => (s.k p : Int)).getD t 0 = (K1 : Int)) := Lib.hid (by rw [byF_getD _ htk, hK1])
              have j5 : IntKind.i64.wrap ((C1 : Int) - (C2 : Int)) = (Z : Int) := by rw [← hC2, Int.sub_self, ← hZ]; rfl
              have i8 : ¬ (Z : Int) ≥ (b : Int) := by omega
              have i9 : ¬ Z ≥ b := by omega
              clear hZ hC2 hs hcb hle hlg hin ha1 ha2 hf1 hf2 hne HL hK1 hdf k3 k4
              go_wp2_with fail
              refine (CN.out).mono ?_; rintro e w2 ⟨rfl, hq2, hc2⟩
              obtain ⟨n0, n1⟩ := NO.out w2 hq2 hc2
              obtain ⟨W, hW⟩ : ∃ W, w2.setCell ⟨a, t, none⟩ (.int .i64 (C1 : Int)) = W := ⟨_, rfl⟩
              have o4 := N0.out w2 hc2
              have o5 := N4.out w2 hc2
              rw [hW] at o4 o5
              have d1 : ∀ z, (W.drewN z).cell? ⟨a, t, none⟩ = some (.int .i64 (C1 : Int)) := fun z => by
                have := (own_cell_i o5 (j := t) (by rw [List.length_set, byF_length]; exact htk)).1
                rw [List.getD_eq_getElem?_getD, List.getElem?_set_self (by rw [byF_length]; exact htk)] at this; exact this
              have d2 : ∀ z, (W.drewN z).cell? ⟨f, t, none⟩ = some (.int .i64 (K1 : Int)) := fun z => by
                have := (own_cell_i o4 (j := t) (by rw [byF_length]; exact htk)).1
                rw [HK.out] at this; exact this
              have d3 : ∀ z, (W.drewN z).frozen? ⟨f, t, none⟩ = false := fun z => (own_cell_i o4 (j := t) (by rw [byF_length]; exact htk)).2
              have LN := Lib.hid fun z => N2.out w2 (W.drewN z) hq2 hc2 ⟨z, by rw [hW]⟩
              clear o4 o5 hq2 hc2 htk N2 N0 N4 CN NO hD hC1
              go_wp2_with fail
              go_quiet (fail)
              have LL := LN.out nq
              have f1 := d1 nq
              have f2 := d2 nq
              have f3 := d3 nq
              generalize W.drewN nq = X at *
              obtain ⟨V, hV⟩ : ∃ V, X.setCell ⟨f, t, none⟩ (.int .i64 (C1 : Int)) = V := ⟨_, rfl⟩
              rw [hV] at LL
              have LV := Lib.hid LL
              clear d1 d2 d3 LN LL
              go_wp2
              clear f1 f2 f3 hV q1 j2 n0 n1 hW j1 k5 k6
              have e1 : ∀ w', Below V.heap.size V w' → w'.cell? ⟨a, t, none⟩ = some (.int .i64 (C1 : Int)) := fun w' hb => by
                have := (own_cell_i (LV.out.below hb).own (j := t) (by rw [byF_length]; exact HT.out.1)).1
                rw [byF_getD _ HT.out.1, HT.out.2.1] at this; exact this
              have e2 : ∀ w', Below V.heap.size V w' → w'.cell? ⟨f, t, none⟩ = some (.int .i64 (C2 : Int)) := fun w' hb => by
                have := (own_cell_i (LV.out.below hb).kept (j := t) (by rw [byF_length]; exact HT.out.1)).1
                rw [byF_getD _ HT.out.1, HT.out.2.2.1] at this; exact this
              have CL := Lib.hid fun (w' : World) (hb : Below V.heap.size V w') => clag_is (p := t) (a := (Z : Int)) HT.out.2.2.2 (LV.out.below hb).q LV.out.ok (by rw [LV.out.nn]; exact HT.out.1)
              have CO := Lib.hid fun (w' : World) (hb : Below V.heap.size V w') => cof_is (p := t) (a := (C1 : Int)) (by rw [HT.out.2.1]) (LV.out.below hb).q (by rw [LV.out.nn]; exact HT.out.1)
              have hb0 : Below V.heap.size V V.drew := (Below.refl _ _).drew
              go_region_held3 (fun w' => Below V.heap.size V w')
                (first | assumption | exact below_more ‹Below V.heap.size V _› hbq)
                (first
                  | (go_at_call 11; refine (CL.out _ (by assumption)).mono ?_; rintro e wq ⟨rfl, hbq⟩)
                  | (go_at_call 10; refine (CO.out _ (by assumption)).mono ?_; rintro e wq ⟨rfl, rfl⟩))
              have HF : Hid (∃ s, Lp w w1 wq x g b k (j + 1) (.slice (some ⟨a, 0, none⟩) k ca) (.slice (some ⟨f, 0, none⟩) k ce) s) := Lib.hid ⟨_, LV.out.below ‹_›⟩
              go_wp2
              exact ⟨⟨j + 1, by omega, by go_num, HF⟩, by simp [intOf]; omega⟩
          · have hno : y < 0 ∨ (s.n : Int) ≤ y := by rw [hs.nn]; omega
            have CN := Lib.hid (cnote_no (chas_no hs.q hno))
            have CO := Lib.hid (cof_no (chas_no hs.q hno))
            have CL := Lib.hid (clag_no (chas_no hs.q hno))
            have HF : Hid (∃ s, Lp w w1 wr x g b k (j + 1) (.slice pa k ca) (.slice pe k ce) s) := Lib.hid ⟨s, hs.more⟩
            have hy : y < 0 ∨ (¬ y < 0 ∧ y ≥ (k : Int)) := by omega
            clear hs hno hin HL
            rcases hy with f1 | ⟨f1, f2⟩
            all_goals
              go_wp2_with fail
              refine (CN.out).mono ?_; rintro e w' ⟨rfl, rfl⟩
              go_wp2_with fail
              refine (CO.out).mono ?_; rintro e w' ⟨rfl, rfl⟩
              go_wp2_with fail
              refine (CL.out).mono ?_; rintro e w' ⟨rfl, rfl⟩
              go_wp2
              exact ⟨⟨j + 1, by omega, by go_num, HF⟩, by simp [intOf]; omega⟩
        · obtain rfl : j = m := by omega
          obtain ⟨s, hs⟩ := H.out
          have CA0 := call_any hs.q hs.ok.n
          rw [hs.nn] at CA0
          have CA := Lib.hid CA0
          have HL := Lib.hid hs
          clear hs H CA0
          go_wp2_with fail
          refine (CA.out).mono ?_; rintro e w2 ⟨rfl, ho, hb⟩
          have LB := Lib.hid (HL.out.below hb)
          have CI := Lib.hid (ints_same ho.ri LB.out.own.ri)
          clear ho hb
          go_wp2_with fail
          refine (CI.out).mono ?_; rintro e w3 ⟨rfl, z, rfl⟩
          go_wp2_with fail
          refine (awake_any _).mono ?_; rintro e w4 ⟨rfl, hb⟩
          have BF := Lib.hid (below_more (below_drewN LB.out.bel z) hb)
          go_wp2
          go_ret
          exact ⟨rfl, BF.out⟩
theorem walk (a0 : Int) (kl : List Int) (v1 : Value) (l : List Int) (v2 : Value) (w : World) (_ : (Lit.int .i64 a0).wf = true) (hk : IntsIn .i64 w v1 kl) (hl : IntsIn .i64 w v2 l) :
    Calls Try.prog 3 #[.int .i64 a0, v1, v2] w fun e w' => e = .returned (.bool true) ∧ Below w.heap.size w w' := by
  have hr := ri_in hk
  have hs := ri_in hl
  obtain ⟨p, c, rfl, _⟩ := hk
  obtain ⟨q, d, rfl, _⟩ := hl
  by_cases h1 : 400 < l.length ∨ 60 < kl.length
  · exact long a0 p q _ c _ d w h1
  · by_cases h2 : a0 < 1 ∨ 100 < a0 ∨ 16 < kl.length
    · exact bad a0 kl p q c _ d w hr (by omega) (by omega) h2
    · obtain ⟨b, rfl⟩ : ∃ b : Nat, a0 = (b : Int) := ⟨a0.toNat, by omega⟩
      exact good b kl l p q c d w hr hs (by omega) (by omega) (by omega) (by omega)

set_option maxRecDepth 100000 in
theorem lifted (os : Os) (started : os.Started) (H : Type) (enc : TypeId × Value → H) :
    ReturnsInHanded {} Try.checked os 3 .any (Rows.countPlaysSpec.pre6 enc Try.prog Try.f3 Rows.countPlaysRow.domain false) (Rows.countPlaysSpec.post enc Try.prog Try.f3 false true false false) := by
  refine returnsInHanded_of_change (C := Try.checked) own started (by kernel_rfl) Try.func3
    (ChangeSpec.witness6 (enc := enc) (C := Try.checked) false ⟨#[], #[.int .i64 0, .slice none 0 0, .slice none 0 0], []⟩ 8 (by kernel_rfl) (by kernel_rfl) (by kernel_rfl) (by kernel_rfl)) ?_
  intro W base args ds gs before hval0 hW hcnd _
  have hval : ∀ (j : Nat) t v, Try.f3.params[j]? = some t → args[j]? = some v → Value.okWide Try.prog W .any base t v := hval0
  have hW' := hW
  have hlt := hW.lt
  obtain ⟨p, q, hA0, hV, hpq, hfz, hnd⟩ := hW
  have hA : DataW.TrodAll enc Try.prog W 0 (fun _ => true) true Try.f3.params.toList args.toList ds p := hA0
  rw [Try.params3] at hA hval
  obtain ⟨v0, vs0, d0, ds0, p0, q0, hargs, rfl, hp, h0, r0⟩ := trodAll_cons hA
  obtain ⟨v1, vs1, d1, ds1, p1, q1, rfl, rfl, rfl, h1, r1⟩ := trodAll_cons r0
  obtain ⟨v2, vs2, d2, ds2, p2, q2, rfl, rfl, rfl, h2, r2⟩ := trodAll_cons r1
  obtain ⟨rfl, rfl, rfl⟩ := trodAll_nil r2
  obtain rfl : args = #[v0, v1, v2] := by cases args; simp_all
  obtain ⟨rfl, rfl⟩ := trodVars_none hV
  have hlt' : ∀ x ∈ before, x.block < W.heap.size := fun x hx => hlt x hx
  obtain ⟨a0, rfl, rfl, rfl, w0⟩ := open_int Try.underlying3 (hval 0 3 v0 rfl rfl) h0
  obtain ⟨l1, w1⟩ := ints_in Try.underlying22 Try.underlying3 (by kernel_rfl) (hval 1 22 v1 rfl rfl) (fun x hx => hlt' x (by rw [hpq, hp]; simp [hx])) h1
  obtain ⟨l2, w2⟩ := ints_in Try.underlying22 Try.underlying3 (by kernel_rfl) (hval 2 22 v2 rfl rfl) (fun x hx => hlt' x (by rw [hpq, hp]; simp [hx])) h2
  refine (walk a0 l1 v1 l2 v2 W w0 w1 w2).mono fun e W' ⟨he, hb⟩ => ?_
  subst he
  exact ⟨_, rfl, law_post rfl (by kernel_rfl) hW' (by rw [Try.params3]; intro t ht; simp only [List.mem_cons, List.not_mem_nil, or_false] at ht; (repeat' (first | (rcases ht with rfl | ht) | subst ht)) <;> exact ⟨by kernel_rfl, of_decide_eq_true (by kernel_rfl)⟩) rfl hb⟩

theorem over : Rows.countPlaysRow.holds Try.pinned (OpenSpec.ofChange Rows.countPlaysSpec) :=
  OpenClaim.holds_of_wide 3 Try.f3 rfl rfl rfl rfl rfl rfl rfl ⟨rfl, rfl, rfl, rfl, rfl⟩ rfl rfl rfl rfl rfl (by kernel_rfl) Try.func3 (by kernel_rfl)
    (of_decide_eq_true (by kernel_rfl)) (by unfold Func.isWrapper; first | (rw [if_pos (by decide +kernel)]; kernel_rfl) | (rw [if_neg (by decide +kernel)]; exact ⟨rfl, rfl⟩))
    (fun os started H enc _ => lifted os started H enc)

theorem proved : Rows.CountPlaysSaid := over
end Go.Proofs.Ytplehfdanlfjoaa.countPlays
