/-
  Contract of the reference's judge: what is told of an operation.
-/
import Derived.Test.YtkpefnjohdjejaaJgc
import Derived.Test.YtkpefnjohdjejaaAsm
import Derived.Test.YtkpefnjohdjejaaWre
import Derived.Test.YtkpefnjohdjejaaMrc
import Derived.Test.YtkpefnjohdjejaaZmd
namespace Go.Proofs.Ytkpefnjohdjejaa
set_option maxRecDepth 100000
open Go.ChangeShapes Go.WideShapes Go.ChangeAt Go.RowKit

theorem rsame_bare {w : World} {e o k : Int} {v : Value} {l : List Int} (hv : RA byE w v l) : Calls Try.prog 27 #[.agg (anc e o v), .agg (anc k 0 (.slice none 0 0))] w fun f w' => f = .returned (.bool (decide (bare3 e o l k))) ∧ Below w.heap.size w w' := by
  have h := rsame_is (w := w) (e := e) (o := o) (e' := k) (o' := 0) (l' := []) hv (own_nil_a byE 0 w).ra
  exact h
/-- nothing beside the error -/
def only3 (o : Int) (l : List Int) : Prop := o = 0 ∧ l = []
instance (o : Int) (l : List Int) : Decidable (only3 o l) := by unfold only3; infer_instance
theorem bare3_iff {e o k : Int} {l : List Int} : bare3 e o l k ↔ e = k ∧ only3 o l := Iff.rfl
/-- what holds in the midst of it: block y holds the copy -/
structure Mid (w W w2 : World) (D : List Nat) (j g y : Nat) (s : Js) : Prop where
  bW : Below w.heap.size w W
  bT : Below W.heap.size W w2
  jd : Ro w2 (y :: D) j g s
  md : Rm w2 (y :: D) y s.wl s.l s.r
  yy : W.heap.size ≤ y
  jy : j ≠ y
  gy : g ≠ y
theorem Mid.below {w W w2 w' : World} {D : List Nat} {j g y : Nat} {s : Js} (h : Mid w W w2 D j g y s) (hb : Below w2.heap.size w2 w') : Mid w W w' D j g y s :=
  ⟨h.bW, below_more h.bT hb, h.jd.below hb, h.md.below hb, h.yy, h.jy, h.gy⟩
/-- it ends, and nothing of the judge has changed -/
theorem Mid.stay {w W w2 w' : World} {D : List Nat} {j g y : Nat} {s : Js} (h : Mid w W w2 D j g y s) (hb : Below w2.heap.size w2 w') {P : Bool → Js → Prop} {b : Bool} (hP : P b s) : ROut3 w w' D j g P (.returned (.bool b)) :=
  ⟨b, s, g, y :: D, rfl, hP, h.jd.below hb, Chg.of_below (below_more h.bW (below_more h.bT hb)) _, Grow.one (Nat.le_trans h.bW.size h.yy), .inl rfl⟩
/-- the copy was changed, no more -/
theorem Mid.past {w W w2 w' : World} {D : List Nat} {j g y : Nat} {s : Js} (h : Mid w W w2 D j g y s) (hc : Chg [y] w2 w') (hd : ∀ k ∈ y :: D, k < w'.heap.size) : Ro w' (y :: D) j g s ∧ Below W.heap.size W w' :=
  ⟨h.jd.wide hc (fun k hk => by rw [List.mem_singleton.1 hk]; exact List.mem_cons_self ..) (fun q => h.gy (List.mem_singleton.1 q)) (fun q => h.jy (List.mem_singleton.1 q)) (fun _ h => h) (fun _ h => .inl h) hd, hc.below h.bT h.bT.size (fun k hk => by rw [List.mem_singleton.1 hk]; exact h.yy)⟩
theorem rout_stay {w W w' : World} {D : List Nat} {j g y : Nat} {s' : Js} (hb : Below w.heap.size w W) (hy : W.heap.size ≤ y) {w2 : World} (hB : Below W.heap.size W w2) (hj : Ro w' (y :: D) j g s') (hc : Chg [j] w2 w') {P : Bool → Js → Prop} {b : Bool} (hP : P b s') : ROut3 w w' D j g P (.returned (.bool b)) :=
  ⟨b, s', g, y :: D, rfl, hP, hj, (Chg.of_below (below_more hb hB) _).trans hc, Grow.one (Nat.le_trans hb.size hy), .inl rfl⟩
theorem rout_next {w W w' : World} {D : List Nat} {j g y : Nat} {s' : Js} (hb : Below w.heap.size w W) (hy : W.heap.size ≤ y) {w2 : World} (hB : Below W.heap.size W w2) (hj : Ro w' (y :: D) j y s') (hc : Chg [j] w2 w') {P : Bool → Js → Prop} {b : Bool} (hP : P b s') : ROut3 w w' D j g P (.returned (.bool b)) :=
  ⟨b, s', y, y :: D, rfl, hP, hj, (Chg.of_below (below_more hb hB) _).trans hc, Grow.one (Nat.le_trans hb.size hy), .inr (Nat.le_trans hb.size hy)⟩
theorem alq_none {wl : List Int} {N : Int} {l : List Bk} {o : Int} (h : (alQ N l o).isSome = false) : alW wl N l o = wl ∧ alB N l o = l := by
  have e : alQ N l o = none := by simpa using h
  unfold alW alB
  rw [e]
  exact ⟨rfl, rfl⟩
theorem js_w {s : Js} {b : Bool} (h : s.w = b) : { s with w := b } = s := by subst h; rfl
theorem seec_not {s : Js} {d o : Int} {bl : List Int} {er : Int} {s2 : Js} {e off : Int} {da : List Int} (h : ChQ s d o bl er s2) (hn : ¬ only3 off da) : SeeC s d o bl e off da false s :=
  ⟨er, s2, h, by
    rw [if_neg (fun q => hn q.2.2.2)]
    split
    · exact ⟨rfl, rfl⟩
    · rw [if_neg (fun q => hn q.2)]; exact ⟨rfl, rfl⟩⟩
/-- a change of the reference's model -/
def RCh (w w' : World) (D : List Nat) (y : Nat) (s : Js) (x : Px) (e : Ending) : Prop :=
  ∃ er s2, e = .returned (.int .i64 er) ∧ ChQ s x.d x.o x.bl er s2 ∧ s2.w = s.w ∧ Rm w' D y s2.wl s2.l s2.r ∧ Chg [y] w w'
theorem rch2 {w : World} {D : List Nat} {y : Nat} {s : Js} (x : Px) (hd : x.d = 2) (h : Rm w D y s.wl s.l s.r) : Calls Try.prog 32 #[.pointer (some ⟨y, 0, none⟩), .int .i64 x.o] w fun e w' => RCh w w' D y s x e :=
  (rmfree_is x.o w h).mono fun e w' ⟨h1, h2, h3⟩ => ⟨_, ⟨feW s.wl s.l x.o s.r, feB s.l x.o s.r, s.r, s.w⟩, h1, by unfold ChQ; rw [if_pos hd]; exact ⟨rfl, rfl⟩, rfl, h2, h3⟩
theorem rch5 {w : World} {D : List Nat} {y : Nat} {s : Js} (x : Px) (hd : x.d = 5) (h : Rm w D y s.wl s.l s.r) : Calls Try.prog 34 #[.pointer (some ⟨y, 0, none⟩), .int .i64 x.o] w fun e w' => RCh w w' D y s x e :=
  (rmsetr_is x.o w h).mono fun e w' ⟨h1, h2, h3⟩ => ⟨_, ⟨s.wl, s.l, if srQ s.l x.o = 0 then x.o else s.r, s.w⟩, h1, by unfold ChQ; rw [if_neg (by omega), if_neg (by omega)]; exact ⟨rfl, rfl⟩, rfl, h2, h3⟩
theorem rch4 {w : World} {D : List Nat} {y : Nat} {s : Js} (x : Px) (hd : x.d = 4) (h : Rm w D y s.wl s.l s.r) (hv : RA byE w x.v x.bl) (hbl : x.bl.length ≤ 100000) (ho : -9223372036854775808 ≤ x.o ∧ x.o ≤ 9223372036854775807) {M : List Ed} (hM : WrT s.wl x.bl x.o M) : Calls Try.prog 33 #[.pointer (some ⟨y, 0, none⟩), .int .i64 x.o, x.v] w fun e w' => RCh w w' D y s x e := by
  obtain ⟨q1, q2, q3⟩ := wrt_keeps h.hB h.ok hM
  refine (rmwrite_is x.o x.bl x.v w h hv hbl ho (appF s.wl M) (fun M' hM' => by rw [hM'.one hM]; exact ⟨rfl, q3⟩) q1 q2).mono fun e w' ⟨h1, h2, h3⟩ => ⟨_, ⟨appF s.wl M, s.l, s.r, s.w⟩, h1, ?_, rfl, h2, h3⟩
  unfold ChQ
  rw [if_neg (by omega), if_pos hd]
  exact ⟨rfl, M, hM, rfl⟩
end Go.Proofs.Ytkpefnjohdjejaa
