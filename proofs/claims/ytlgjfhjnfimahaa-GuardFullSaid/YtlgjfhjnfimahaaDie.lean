/-
  Regions that draw their order and in which an operation panics: what yields is taken first; then whichever of the dying ones comes up. And the bounds' panics with the world that they leave.
-/
import Derived.Test.YtlgjfhjnfimahaaLaw
import Derived.OrdersHeld
import Derived.Deep.Draws
import Derived.Laws.PanicsMore
namespace Go.Proofs.Ytlgjfhjnfimahaa
open Go.RowKit

section
variable {P : Program} {ops : Array Oper} {Q : Exit → Act → World → Prop} {w : World}

/-- operations that yield, one behind the other -/
def yields (P : Program) (ops : Array Oper) (w : World) (K : Act → Prop) : List Oper → Act → Prop
  | [], a => K a
  | o :: l, a => Region.wanted o (yielded ops a.tmps) = true ∧ ∃ v, (execOp a.eval o).run P w = .ok (.value v) w ∧ yields P ops w K l (a.put o.dst v)

theorem yields_step {K : Act → Prop} {o : Oper} {l : List Oper} {a : Act} {v : Value} (h1 : Region.wanted o (yielded ops a.tmps) = true) (h2 : (execOp a.eval o).run P w = .ok (.value v) w) (h3 : yields P ops w K l (a.put o.dst v)) :
    yields P ops w K (o :: l) a := ⟨h1, v, h2, h3⟩

def dyingB (ops : Array Oper) : List Nat → Array Bool → List Nat → Bool
  | [], listed, rs => (Region.ready .any ops listed == rs) && !rs.isEmpty
  | i :: l, listed, rs => Region.free .any ops listed i && (Region.ready .any ops listed).contains i && dyingB ops l (listed.setIfInBounds i true) rs

/-- the operation dies, and what is asked of such an end holds -/
def diesAt (P : Program) (ops : Array Oper) (R : Value → World → Prop) (w : World) (a : Act) (i : Nat) : Prop :=
  ∃ o v w', ops[i]? = some o ∧ Region.wanted o (yielded ops a.tmps) = true ∧ (execOp a.eval o).run P w = .halt (.panic v) w' ∧ R v w'

theorem dying_any (hsel : Region.noSelect ops = true) (R : Value → World → Prop) (ds : List Deferred) (rs : List Nat) :
    ∀ (is : List Nat) (listed : Array Bool) (a : Act) (fuel : Nat), a.defers = ds → dyingB ops is listed rs = true → is.length < fuel →
      yields P ops w (fun a' => ∀ i ∈ rs, diesAt P ops R w a' i) (is.filterMap (ops[·]?)) a →
      wpAnyH P .any ops (fun e a' w' => (∃ v, e = .panic [{ v := v, recovered := false }] ∧ R v w') ∧ a'.defers = ds) (fun w' => w' = w) fuel listed a w
  | [], listed, a, fuel + 1, hd, hB, _, h => by
    simp only [dyingB, Bool.and_eq_true, beq_iff_eq] at hB
    refine wpAnyH_all hB.1 (by intro e; rw [e] at hB; simp at hB) fun i hi => ?_
    obtain ⟨o, v, w', ho, hw, hr, hq⟩ := h i hi
    unfold wpOp
    simp only [ho, hw, if_true]
    refine .inl ?_
    unfold Oper.wp
    rw [hr]
    exact ⟨⟨v, rfl, hq⟩, hd⟩
  | i :: is, listed, a, fuel + 1, hd, hB, hl, h => by
    simp only [dyingB, Bool.and_eq_true] at hB
    cases ho : ops[i]? with
    | none =>
      obtain ⟨_, o, ho', _⟩ := mem_ready.1 (show i ∈ Region.ready .any ops listed by simpa using hB.1.2)
      rw [ho] at ho'; cases ho'
    | some o =>
      rw [List.filterMap_cons_some ho] at h
      obtain ⟨hw, v, hr, hk⟩ := h
      have hp : ∀ (a : Act) u, (a.put o.dst u).defers = a.defers := fun a u => by unfold Act.put; split <;> rfl
      exact wpAnyH_take ho hsel hB.1.1 hB.1.2 (fun c a' w' ⟨h1, h2⟩ => ⟨h1, (hp a' v).symm.trans h2⟩) (.inl ⟨hw, fun w' e => by rw [e]; exact hr⟩) rfl
        (dying_any hsel R ds rs is _ _ fuel ((hp a v).trans hd) hB.2 (by simp only [List.length_cons] at hl; omega) hk)
  | [], _, _, 0, _, _, hl, _ => by simp at hl
  | _ :: _, _, _, 0, _, _, hl, _ => by simp at hl

/-- A REGION THAT DIES, WHATEVER ORDER IS DRAWN -/
theorem region_dying {id : Nat} {l : List Oper} {a : Act} (R : Value → World → Prop) (is rs : List Nat) (hm : P.follows .mixedOrders = true)
    (hB : (Region.noSelect l.toArray && dyingB l.toArray is (Array.replicate l.toArray.size false) rs && decide (is.length < l.toArray.size)) = true)
    (h : yields P l.toArray w.drew (fun a' => ∀ i ∈ rs, diesAt P l.toArray R w.drew a' i) (is.filterMap (l.toArray[·]?)) a)
    (hQ : ∀ a' v w', a'.defers = a.defers → R v w' → Q (.panic [{ v := v, recovered := false }]) a' w') : (Code.region id l.toArray true).wp P Q a w := by
  simp only [Bool.and_eq_true, decide_eq_true_eq] at hB
  refine Code.wp_mono ?_ (wp_region_held hm (dying_any hB.1.1 R a.defers rs is _ a _ rfl hB.1.2 hB.2 h))
  rintro e a' w' ⟨⟨v, rfl, hr⟩, hd⟩
  exact hQ a' v w' hd hr

/-- an operation of a plain region that dies -/
theorem wpList_dies {o : Oper} {rest : List Oper} {a : Act} {v : Value} {w' : World} (hg : o.guard = none) (hr : (execOp a.eval o).run P w = .halt (.panic v) w')
    (hq : Q (.panic [{ v := v, recovered := false }]) a w') : wpList P ops Q (o :: rest) a w := by
  refine wpList_plain hg fun K hK => ?_
  unfold Oper.wp
  rw [hr]
  exact hq
theorem exec_index {ρ : Operand → Value} {o : Oper} {t : TypeId} {x i : Operand} {v : Value} {w' : World} (ho : o.op = .indexAddr t x i) (hr : (Instr.indexAt t (ρ x) (ρ i)).run P w = .halt (.panic v) w') :
    (execOp ρ o).run P w = .halt (.panic v) w' := by
  unfold execOp
  simp only [ho, Sem.run_bind, hr]
  rfl
theorem exec_slice {ρ : Operand → Value} {o : Oper} {t : TypeId} {x : Operand} {l h m : Option Operand} {v : Value} {w' : World} (ho : o.op = .slice t x l h m) (hr : (Instr.sliceAt t (ρ x) (l.map ρ) (h.map ρ) (m.map ρ)).run P w = .halt (.panic v) w') :
    (execOp ρ o).run P w = .halt (.panic v) w' := by
  unfold execOp
  simp only [ho, Sem.run_bind, hr]
  rfl

/-! ### the bounds' panics -/
theorem bounds_dies {α : Type} (k : IntKind) (x y : Int) (code : BoundsCode) (w : World) : ∃ u pv n, (boundsPanic k x y code : Sem α).run P w = .halt (.panic (.iface u pv)) (w.drewN n) := by
  have key : ∃ (s : Bool) (n : Nat), (boundsPanic k x y code : Sem α).run P w = .halt (.panic (boundsValue P (IntKind.i64.wrap x) y s code.toNat)) (w.drewN n) := by
    unfold boundsPanic boundsValue
    split
    · refine ⟨w.tape w.drawn (.extern "runtime.boundsError.signed" 2) % 2 == 1, 1, ?_⟩
      simp [Question.forced, Question.cut, runtimePanic, goPanic, go_sem]
      rfl
    · refine ⟨k != .u64, 0, ?_⟩
      simp [runtimePanic, goPanic, go_sem]
      rfl
  obtain ⟨s, n, h⟩ := key
  exact ⟨_, _, n, h⟩

theorem index_dies (t : TypeId) (a0 : Option Addr) (len cap : Nat) (k : IntKind) (i : Int) (h : P.underlying t = some (.slice (P.elem t))) (ho : a0 = none ∨ i < 0 ∨ (len : Int) ≤ i) (w : World) :
    ∃ u pv n, (Instr.indexAt t (.slice a0 len cap) (.int k i)).run P w = .halt (.panic (.iface u pv)) (w.drewN n) := by
  cases a0 with
  | none =>
    have e : (Instr.indexAt t (.slice none len cap) (.int k i)).run P w = (boundsPanic k i 0 .index).run P w := by simp [Instr.indexAt, run_underlying h, asIntOf]
    rw [e]; exact bounds_dies k i 0 .index w
  | some a =>
    rw [run_indexAt_slice (h := h), if_neg (by rcases ho with h' | h' | h' <;> first | cases h' | omega)]
    exact bounds_dies k i len .index w

theorem sliceBound_dies (k : IntKind) (i : Int) (y : Nat) (code : BoundsCode) (ho : i < 0 ∨ (y : Int) < i) (w : World) :
    ∃ u pv n, (Instr.sliceBound (.int k i) y code).run P w = .halt (.panic (.iface u pv)) (w.drewN n) := by
  rw [run_sliceBound_out (P := P) (w := w) k i y code (by omega)]
  exact bounds_dies k i y code w

/-- x[:h], h out of its bounds -/
theorem sliceTo_dies (t e : TypeId) (a : Option Addr) (len cap : Nat) (k : IntKind) (i : Int) (h : P.underlying t = some (.slice e)) (ho : i < 0 ∨ (cap : Int) < i) (w : World) :
    ∃ u pv n, (Instr.slice t (.slice a len cap) none (some (.int k i)) none).run P w = .halt (.panic (.iface u pv)) (w.drewN n) := by
  obtain ⟨u, pv, n, hr⟩ := sliceBound_dies (P := P) k i cap .sliceAcap ho w
  refine ⟨u, pv, n, run_slice_of_bounds t e a len cap _ _ _ h ?_⟩
  unfold Instr.sliceBounds
  simp only [Sem.run_bind, Sem.run_pure, hr, Result.andThen_ok, if_true]
  rfl

/-- x[i:j:m], j or i out of its bounds -/
theorem slice3_dies (t e : TypeId) (a : Option Addr) (len cap m : Nat) (i j : Int) (h : P.underlying t = some (.slice e)) (hm : m ≤ cap) (ho : ¬ (0 ≤ i ∧ i ≤ j ∧ j ≤ m)) (w : World) :
    ∃ u pv n, (Instr.slice t (.slice a len cap) (some (.int .i64 i)) (some (.int .i64 j)) (some (.int .i64 m))).run P w = .halt (.panic (.iface u pv)) (w.drewN n) := by
  have h1 : ∀ w, (Instr.sliceBound (.int .i64 m) cap .slice3Acap).run P w = .ok m w := fun w => by rw [run_sliceBound (P := P) (w := w) .i64 m cap .slice3Acap (by omega) (by omega)]; simp
  by_cases hj : 0 ≤ j ∧ j ≤ (m : Int)
  · obtain ⟨u, pv, n, hr⟩ := sliceBound_dies (P := P) .i64 i j.toNat .slice3C (by omega) w
    have h2 : ∀ w, (Instr.sliceBound (.int .i64 j) m .slice3B).run P w = .ok j.toNat w := fun w => by rw [run_sliceBound (P := P) (w := w) .i64 j m .slice3B (by omega) (by omega)]
    refine ⟨u, pv, n, run_slice_of_bounds t e a len cap _ _ _ h ?_⟩
    unfold Instr.sliceBounds
    simp only [Sem.run_bind, h1, h2, hr, Result.andThen_ok, Option.isSome, if_true]
    rfl
  · obtain ⟨u, pv, n, hr⟩ := sliceBound_dies (P := P) .i64 j m .slice3B (by omega) w
    refine ⟨u, pv, n, run_slice_of_bounds t e a len cap _ _ _ h ?_⟩
    unfold Instr.sliceBounds
    simp only [Sem.run_bind, h1, hr, Result.andThen_ok, Option.isSome, if_true]
    rfl
end
end Go.Proofs.Ytlgjfhjnfimahaa
