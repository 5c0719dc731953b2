/- texts written together: Law Blc Bkp Ftp Crp Blk Chg Elm Bka Bkc Bkf Ri Ftc Crd Ccg Ede Cre Crf Crh Bke Ru Wsm Bkg Bkd Bkh Bki Bkj Bkk Cri Crw Crx Mgp -/
import Derived.Test.YtkpefnjohdjejaaRows
import Derived.WalkKit
import Derived.WalkLawsBesides
import Derived.ProofKit
import Derived.OpenShut
import Derived.Lib.Hide
import Derived.Laws.BitsAllLaws
import Derived.Deep.RegionHeld3
import Derived.Deep.Draws
import Derived.OwnWalk
import Derived.Deep.OwnRows
import Derived.Maps.AppendAt
import Derived.Deep.Slices
import Derived.Deep.Fields
import Derived.Handy
import Derived.Deep.MidRow
import Derived.SizedLaws
import Derived.Lib.Tables
import Derived.Deep.WholeRow
import Derived.BigQuiet
import Derived.Lib.AppendZeros
import Derived.Deep.RegionLaw
import Derived.Lib.BufferMore

/-
  How a statement of this seat is closed: a call that returns true and leaves all that was there as it was meets the given row, whatever its arguments are. And what a slice of integers that comes in holds.
-/
namespace Go.Proofs.Ytkpefnjohdjejaa
set_option maxRecDepth 100000
open Go.ChangeShapes Go.WideShapes Go.ChangeAt Go.RowKit

theorem own : ownKnob Try.prog.godebug = none := by kernel_rfl
theorem laidOut : laidOutB Try.prog = true := by kernel_rfl

/-- a list of arguments reads behind the call as it did, if nothing that was there has turned -/
theorem trodAll_stays {H : Type} {enc : TypeId × Value → H} {W W' : World} (hb : Below W.heap.size W W') :
    ∀ (ts : List TypeId) (vs : List Value) (ds : List (DataW H)) (p : List MemPlace), (∀ t ∈ ts, Try.prog.readableRec t = true ∧ t < Try.prog.types.size) →
      DataW.TrodAll enc Try.prog W 0 (fun _ => true) true ts vs ds p → (∀ x ∈ p, x.block < W.heap.size) → ∀ sp : Nat → Bool, (∀ x ∈ p, sp x.block = true) → DataW.TrodAll enc Try.prog W' 0 sp true ts vs ds p := by
  intro ts
  induction ts with
  | nil =>
    intro vs ds p _ h _ sp _
    cases vs <;> cases ds <;> first | exact h | exact h.elim
  | cons t ts ih =>
    intro vs ds p hr h hlt sp hsp
    cases vs with
    | nil => exact h.elim
    | cons v vs =>
      cases ds with
      | nil => exact h.elim
      | cons d ds =>
        obtain ⟨p1, q1, h1, h2, rfl⟩ := h
        refine ⟨p1, q1, ?_, ih vs ds q1 (fun t ht => hr t (List.mem_cons_of_mem _ ht)) h2 (fun x hx => hlt x (List.mem_append_right _ hx)) sp (fun x hx => hsp x (List.mem_append_right _ hx)), rfl⟩
        exact WideElems.Trod_stays laidOut (hr t (List.mem_cons_self ..)).1 (hr t (List.mem_cons_self ..)).2 h1 (fun x hx => hb.same (hlt x (List.mem_append_left _ hx))) (fun x hx => hsp x (List.mem_append_left _ hx))

set_option maxRecDepth 100000 in
/-- THE CLOSE OF A LAW: it returned true, and below the heap's old size nothing has turned -/
theorem law_post {H : Type} {enc : TypeId × Value → H} {f : Func} {s : ChangeSpec} {W W' : World} {args : Array Value} {ds : List (DataW H)} {before : List MemPlace}
    (hv : s.vars = []) (hR : f.resultTypes = #[4]) (hW : DataW.Whole enc Try.prog f.params.toList s.vars false W args.toList ds [] before)
    (hread : ∀ t ∈ f.params.toList, Try.prog.readableRec t = true ∧ t < Try.prog.types.size)
    (hs : s.fn H ds = { results := [.lit (.bool true)], args := ds }) (hb : Below W.heap.size W W') :
    s.post enc Try.prog f false true false false W args (.bool true) W' := by
  have hW' := hW
  obtain ⟨p, q, hA, hV, rfl, hfz, hnd⟩ := hW
  rw [hv] at hV
  obtain ⟨_, rfl⟩ := trodVars_none hV
  have hs' : s.fn H (ds ++ []) = { results := [.lit (.bool true)], args := ds } := by rw [List.append_nil]; exact hs
  have hlt : ∀ x ∈ p, x.block < W.heap.size := fun x hx => hW'.lt x (List.mem_append_left _ hx)
  have hargs : ∀ sp : Nat → Bool, (∀ x ∈ p, sp x.block = true) → DataW.TrodAll enc Try.prog W' 0 sp true f.params.toList args.toList (s.fn H (ds ++ [])).args p := by
    intro sp hsp
    rw [hs']
    exact trodAll_stays hb _ _ _ _ hread hA hlt sp hsp
  have hres : ∀ (b : Nat) (sp : Nat → Bool) (hd : Bool), DataW.TrodAll enc Try.prog W' b sp hd f.resultTypes.toList ((Value.bool true).resultList f.resultTypes.size) (s.fn H (ds ++ [])).results [] := by
    intro b sp hd
    rw [hR, hs']
    exact trodAll_cons_mk (shut_bool Try.underlying4 _) trodAll_mk0
  have hvars : ∀ sp : Nat → Bool, DataW.TrodVars enc Try.prog W' sp s.vars (s.fn H (ds ++ [])).vars [] := by
    intro sp
    rw [hs', hv]; rfl
  refine ⟨ds, [], p ++ [], [], p, [], hW', hres _ _ _, hargs _ (fun x hx => by simpa using hlt x hx), hvars _, World.keptBut_mono (fun p hp => ⟨hp, Or.inr (by simpa using hp)⟩) (hb.frame _), fun _ => ?_⟩
  refine ⟨ok_one hR rfl (okWide_bool_mk Try.underlying4 _), _, _, ([] ++ p) ++ [], ⟨[] ++ p, [], trodAll_append (hargs _ (fun _ _ => rfl)) (hres _ _ _), hvars _, rfl, ?_, fun h => by cases h⟩, ?_⟩
  · intro b off hp
    have hp' : MemPlace.cell b off ∈ p := by simpa using hp
    have e : W'.frozen? ⟨b, off, none⟩ = W.frozen? ⟨b, off, none⟩ := hb.frozen (p := ⟨b, off, none⟩) (hlt _ hp')
    rw [e]
    exact hfz b off (by simpa using hp')
  · intro x hx _
    simpa using hx

theorem nat_of_u64 {a : Int} (h : (Lit.int .u64 a).wf = true) : ∃ n : Nat, a = n ∧ n < 2 ^ 64 := by
  have hx : 0 ≤ a ∧ a ≤ 18446744073709551615 := by simpa [Lit.wf, IntKind.min, IntKind.max, IntKind.signed, IntKind.bits] using h
  exact ⟨a.toNat, by omega, by omega⟩

theorem u64_nat (a : Int) : ∃ u : Nat, IntKind.u64.wrap a = (u : Int) ∧ u < 2 ^ 64 := by
  refine ⟨(a % 18446744073709551616).toNat, ?_, by omega⟩
  have h : IntKind.u64.wrap a = a % 18446744073709551616 := by simp [IntKind.wrap, IntKind.signed, IntKind.bits]
  rw [h]; omega
theorem tmod_nat (u n : Nat) : (u : Int).tmod ((n : Nat) : Int) = ((u % n : Nat) : Int) := by rw [Int.natCast_emod]; exact Int.tmod_eq_emod_of_nonneg (by omega)

theorem i64_of {a : Int} (h1 : -9223372036854775808 ≤ a) (h2 : a ≤ 9223372036854775807) : (Lit.int .i64 a).wf = true := by simp [Lit.wf, IntKind.min, IntKind.max, IntKind.signed, IntKind.bits, h1, h2]
theorem i64_wf {a : Int} (h : (Lit.int .i64 a).wf = true) : -9223372036854775808 ≤ a ∧ a ≤ 9223372036854775807 := by simpa [Lit.wf, IntKind.min, IntKind.max, IntKind.signed, IntKind.bits] using h
theorem u64_in {a : Int} (h : (Lit.int .u64 a).wf = true) : 0 ≤ a ∧ a ≤ 18446744073709551615 := by simpa [Lit.wf, IntKind.min, IntKind.max, IntKind.signed, IntKind.bits] using h
theorem tdiv_nat (a b : Nat) : (a : Int).tdiv (b : Int) = ((a / b : Nat) : Int) := rfl
theorem i64_nat (n : Nat) (h : n < 9223372036854775808) : IntKind.i64.wrap (n : Int) = n := IntWalk.i64_in _ (by omega)

/-- a slice of integers of kind k that came in: it reads as l -/
def IntsIn (k : IntKind) (w : World) (v : Value) (l : List Int) : Prop :=
  ∃ p cap, v = .slice p l.length cap ∧ l.length ≤ cap ∧ cap ≤ maxLen ∧ (∀ n ∈ l, (Lit.int k n).wf = true) ∧
    ((l = [] ∧ (p = none → cap = 0)) ∨ ∃ b off, p = some ⟨b, off, none⟩ ∧ b < w.heap.size ∧ ∀ i, i < l.length → w.cell? ⟨b, off + i, none⟩ = some (.int k (l.getD i 0)))

set_option maxRecDepth 100000 in
theorem ints_in {H : Type} {enc : TypeId × Value → H} {W : World} {t e : TypeId} {k : IntKind} {v : Value} {d : DataW H} {p : List MemPlace} (ht : Try.prog.underlying t = some (.slice e)) (he : Try.prog.underlying e = some (.int k))
    (hc : Try.prog.cellsOf e = 1) (hval : Value.okWide Try.prog W .any W.heap.size t v) (hlt : ∀ x ∈ p, x.block < W.heap.size) (h : DataW.Trod enc Try.prog W 0 (fun _ => true) true t v d p) : ∃ l : List Int, IntsIn k W v l := by
  obtain ⟨va, vl, vc, rfl⟩ := okWide_slice ht hval
  obtain ⟨fuel, hf⟩ := h
  rcases open_ints ht he hc hf with ⟨hcs, hx⟩ | ⟨a, len, cap, zs, hcs, _, hl, hm, hz, hx, hcell, hwz⟩
  · simp [Value.cells] at hcs
    obtain ⟨rfl, rfl, rfl⟩ := hcs
    exact ⟨[], none, 0, rfl, Nat.zero_le _, Nat.zero_le _, by simp, .inl ⟨rfl, fun _ => rfl⟩⟩
  · simp [Value.cells] at hcs
    obtain ⟨rfl, rfl, rfl⟩ := hcs
    have hz' : zs.length = vc := by simpa using hz
    have hlen : (zs.take vl).length = vl := by rw [List.length_take]; omega
    refine ⟨zs.take vl, some a, vc, by rw [hlen], by rw [hlen]; exact hl, hm, fun n hn => hwz n (List.mem_of_mem_take hn), ?_⟩
    by_cases h0 : vl = 0
    · exact .inl ⟨by rw [h0]; rfl, fun h => by cases h⟩
    · obtain ⟨b, off, rfl, hc'⟩ := Go.ints_at hcell (by omega)
      refine .inr ⟨b, off, rfl, ?_, fun i hi => ?_⟩
      · have hx2 : p = MemPlace.row ⟨b, off, none⟩ zs.length := (Prod.mk.inj hx).2
        have : MemPlace.cell b off ∈ p := by
          rw [hx2]
          exact List.mem_map.2 ⟨0, List.mem_range.2 (by omega), rfl⟩
        exact hlt _ this
      · rw [hlen] at hi
        rw [hc' i (by omega), List.getD_eq_getElem?_getD, List.getD_eq_getElem?_getD, List.getElem?_take, if_pos hi]

theorem ret_i64 {a b : Int} (h : a = b) : Ending.returned (.int .i64 a) = .returned (.int .i64 b) := by rw [h]
theorem ret_bool {a b : Bool} (h : a = b) : Ending.returned (.bool a) = .returned (.bool b) := by rw [h]
theorem size_alloc (w : World) (o : Obj) : (w.alloc o).heap.size = w.heap.size + 1 := by simp
theorem below_more {w w1 w2 : World} (h : Below w.heap.size w w1) (h2 : Below w1.heap.size w1 w2) : Below w.heap.size w w2 := h.trans (h2.mono h.size)
end Go.Proofs.Ytkpefnjohdjejaa

/-
  Headers of blocks: contracts of package block's functions and of the reference's of the same.
-/
namespace Go.Proofs.Ytkpefnjohdjejaa
set_option maxRecDepth 100000
open Go.RowKit

/-- a block may be of that size -/
def MayB (n : Int) : Prop := 2 ≤ n ∧ n ≤ 512
instance (n : Int) : Decidable (MayB n) := inferInstanceAs (Decidable (_ ∧ _))
/-- one, if used -/
def useB (u : Bool) : Int := if u then 1 else 0
/-- the header of a block -/
def hdB (n : Int) (u : Bool) : Int := if MayB n then n * 2 + useB u else 0
theorem hdB_yes {n : Int} {u : Bool} (h : MayB n) : hdB n u = n * 2 + useB u := if_pos h
theorem hdB_no {n : Int} {u : Bool} (h : ¬ MayB n) : hdB n u = 0 := if_neg h
theorem useB_or (u : Bool) : u = true ∧ useB u = 1 ∨ u = false ∧ useB u = 0 := by cases u <;> simp [useB]

theorem and1 (w : Int) (h0 : 0 ≤ w) (h1 : w ≤ 18446744073709551615) : bits .and .u64 w 1 = w % 2 := by
  rw [u64_and _ _ (by omega) (by omega) (by omega) (by omega)]
  have e : w.toNat &&& (1 : Int).toNat = w.toNat % 2 := Nat.and_two_pow_sub_one_eq_mod _ 1
  rw [e]; omega
theorem or1 (n : Int) (h0 : 0 ≤ n) (h1 : n ≤ 512) : bits .or .u64 (n * 2) 1 = n * 2 + 1 := by
  rw [u64_or _ _ (by omega) (by omega) (by omega) (by omega)]
  have e : (n * 2).toNat ||| (1 : Int).toNat = (n * 2).toNat + 1 := nat_join1 _ 1 (by omega) (by omega)
  rw [e]; omega

theorem mayb_yes (n : Int) (h : MayB n) (w : World) : Calls Try.prog 83 #[.int .i64 n] w fun e w' => e = .returned (.bool true) ∧ w = w' := by
  obtain ⟨h1, h2⟩ := h
  have h3 : n ≥ 2 := h1
  go_enter Try.func83, Try.ntmps83
  go_wp2_with fail
  go_ret
  exact ⟨rfl, rfl⟩
theorem mayb_no (n : Int) (h : ¬ MayB n) (w : World) : Calls Try.prog 83 #[.int .i64 n] w fun e w' => e = .returned (.bool false) ∧ w = w' := by
  by_cases h1 : n ≥ 2
  · have h2 : ¬ n ≤ 512 := fun k => h ⟨h1, k⟩
    clear h
    go_enter Try.func83, Try.ntmps83
    go_wp2_with fail
    go_ret
    exact ⟨rfl, rfl⟩
  · clear h
    go_enter Try.func83, Try.ntmps83
    go_wp2_with fail
    go_ret
    exact ⟨rfl, rfl⟩
theorem mayb_is (n : Int) (w : World) : Calls Try.prog 83 #[.int .i64 n] w fun e w' => e = .returned (.bool (decide (MayB n))) ∧ w = w' := by
  by_cases h : MayB n
  · rw [decide_eq_true h]; exact mayb_yes n h w
  · rw [decide_eq_false h]; exact mayb_no n h w
theorem rmayb_yes (n : Int) (h : MayB n) (w : World) : Calls Try.prog 64 #[.int .i64 n] w fun e w' => e = .returned (.bool true) ∧ w = w' := by
  obtain ⟨h1, h2⟩ := h
  have h3 : n ≥ 2 := h1
  go_enter Try.func64, Try.ntmps64
  go_wp2_with fail
  go_ret
  exact ⟨rfl, rfl⟩
theorem rmayb_no (n : Int) (h : ¬ MayB n) (w : World) : Calls Try.prog 64 #[.int .i64 n] w fun e w' => e = .returned (.bool false) ∧ w = w' := by
  by_cases h1 : n ≥ 2
  · have h2 : ¬ n ≤ 512 := fun k => h ⟨h1, k⟩
    clear h
    go_enter Try.func64, Try.ntmps64
    go_wp2_with fail
    go_ret
    exact ⟨rfl, rfl⟩
  · clear h
    go_enter Try.func64, Try.ntmps64
    go_wp2_with fail
    go_ret
    exact ⟨rfl, rfl⟩
theorem rmayb_is (n : Int) (w : World) : Calls Try.prog 64 #[.int .i64 n] w fun e w' => e = .returned (.bool (decide (MayB n))) ∧ w = w' := by
  by_cases h : MayB n
  · rw [decide_eq_true h]; exact rmayb_yes n h w
  · rw [decide_eq_false h]; exact rmayb_no n h w
theorem wordb_no (n : Int) (u : Bool) (h : ¬ MayB n) (w : World) : Calls Try.prog 63 #[.int .i64 n, .bool u] w fun e w' => e = .returned (.int .u64 0) ∧ w = w' := by
  go_enter Try.func63, Try.ntmps63
  go_wp2_with fail
  refine (mayb_no n h w).mono ?_; rintro e w' ⟨rfl, rfl⟩
  go_wp2_with fail
  go_ret
  exact ⟨rfl, rfl⟩
theorem wordb_yes (n : Int) (u : Bool) (h : MayB n) (w : World) : Calls Try.prog 63 #[.int .i64 n, .bool u] w fun e w' => e = .returned (.int .u64 (n * 2 + useB u)) ∧ w = w' := by
  have C := Lib.hid (mayb_yes n h w)
  obtain ⟨h1, h2⟩ := h
  have e1 : IntKind.u64.wrap n = n := by rw [IntKind.wrap_u64]; omega
  have e2 : IntKind.u64.wrap (n * 2) = n * 2 := by rw [IntKind.wrap_u64]; omega
  have e3 : bits .or .u64 (n * 2) 1 = n * 2 + 1 := or1 n (by omega) h2
  clear h1 h2
  cases u
  · rw [show n * 2 + useB false = n * 2 from by simp [useB]]
    go_enter Try.func63, Try.ntmps63
    go_wp2_with fail
    refine (C.out).mono ?_; rintro e w' ⟨rfl, rfl⟩
    go_wp2_with fail
    go_ret
    exact ⟨rfl, rfl⟩
  · rw [show n * 2 + useB true = n * 2 + 1 from rfl]
    go_enter Try.func63, Try.ntmps63
    go_wp2_with fail
    refine (C.out).mono ?_; rintro e w' ⟨rfl, rfl⟩
    go_wp2_with fail
    go_ret
    exact ⟨rfl, rfl⟩
theorem wordb_is (n : Int) (u : Bool) (w : World) : Calls Try.prog 63 #[.int .i64 n, .bool u] w fun e w' => e = .returned (.int .u64 (hdB n u)) ∧ w = w' := by
  by_cases h : MayB n
  · rw [hdB_yes h]; exact wordb_yes n u h w
  · rw [hdB_no h]; exact wordb_no n u h w
theorem rwordb_no (n : Int) (u : Bool) (h : ¬ MayB n) (w : World) : Calls Try.prog 39 #[.int .i64 n, .bool u] w fun e w' => e = .returned (.int .u64 0) ∧ w = w' := by
  go_enter Try.func39, Try.ntmps39
  go_wp2_with fail
  refine (rmayb_no n h w).mono ?_; rintro e w' ⟨rfl, rfl⟩
  go_wp2_with fail
  go_ret
  exact ⟨rfl, rfl⟩
theorem rwordb_yes (n : Int) (u : Bool) (h : MayB n) (w : World) : Calls Try.prog 39 #[.int .i64 n, .bool u] w fun e w' => e = .returned (.int .u64 (n * 2 + useB u)) ∧ w = w' := by
  have C := Lib.hid (rmayb_yes n h w)
  obtain ⟨h1, h2⟩ := h
  have e1 : IntKind.u64.wrap n = n := by rw [IntKind.wrap_u64]; omega
  have e2 : IntKind.u64.wrap (n * 2) = n * 2 := by rw [IntKind.wrap_u64]; omega
  have e3 : bits .or .u64 (n * 2) 1 = n * 2 + 1 := or1 n (by omega) h2
  clear h1 h2
  cases u
  · rw [show n * 2 + useB false = n * 2 from by simp [useB]]
    go_enter Try.func39, Try.ntmps39
    go_wp2_with fail
    refine (C.out).mono ?_; rintro e w' ⟨rfl, rfl⟩
    go_wp2_with fail
    go_ret
    exact ⟨rfl, rfl⟩
  · rw [show n * 2 + useB true = n * 2 + 1 from rfl]
    go_enter Try.func39, Try.ntmps39
    go_wp2_with fail
    refine (C.out).mono ?_; rintro e w' ⟨rfl, rfl⟩
    go_wp2_with fail
    go_ret
    exact ⟨rfl, rfl⟩
theorem rwordb_is (n : Int) (u : Bool) (w : World) : Calls Try.prog 39 #[.int .i64 n, .bool u] w fun e w' => e = .returned (.int .u64 (hdB n u)) ∧ w = w' := by
  by_cases h : MayB n
  · rw [hdB_yes h]; exact rwordb_yes n u h w
  · rw [hdB_no h]; exact rwordb_no n u h w

theorem rparse_no (x : Int) (_ : 0 ≤ x) (_ : x ≤ 18446744073709551615) (h : ¬ MayB (x / 2)) (w : World) :
    Calls Try.prog 60 #[.int .u64 x] w fun e w' => e = .returned (.tuple #[.int .i64 0, .bool false, .bool false]) ∧ w = w' := by
  by_cases h1 : x / 2 < 2
  · clear h
    go_enter Try.func60, Try.ntmps60
    go_wp2
    go_ret3
    exact ⟨rfl, rfl⟩
  · have h2 : x / 2 > 512 := by unfold MayB at h; omega
    clear h
    go_enter Try.func60, Try.ntmps60
    go_wp2
    go_ret3
    exact ⟨rfl, rfl⟩
theorem rparse_yes (x : Int) (h0 : 0 ≤ x) (h1 : x ≤ 18446744073709551615) (h : MayB (x / 2)) (u : Bool) (hu : decide (x % 2 = 1) = u) (w : World) :
    Calls Try.prog 60 #[.int .u64 x] w fun e w' => e = .returned (.tuple #[.int .i64 (x / 2), .bool u, .bool true]) ∧ w = w' := by
  have e1 : IntKind.i64.wrap (x / 2) = x / 2 := IntWalk.i64_in _ (by omega)
  have e2 : bits .and .u64 x 1 = x % 2 := and1 x h0 h1
  have e3 : (x % 2 == 1) = u := by rw [← hu]; rfl
  have h2 : ¬ x / 2 < 2 := by unfold MayB at h; omega
  have h3 : ¬ x / 2 > 512 := by unfold MayB at h; omega
  clear h0 h1 hu h
  go_enter Try.func60, Try.ntmps60
  go_wp2
  go_ret3
  exact ⟨rfl, rfl⟩

/-- a word is read as size n, use u, header or not c -/
def Reads (x n : Int) (u c : Bool) : Prop :=
  c = true ∧ MayB n ∧ x = n * 2 + useB u ∨ c = false ∧ n = 0 ∧ u = false ∧ ¬ MayB (x / 2)
theorem reads_some (x : Int) : ∃ n u c, Reads x n u c := by
  by_cases h : MayB (x / 2)
  · refine ⟨x / 2, decide (x % 2 = 1), true, .inl ⟨rfl, h, ?_⟩⟩
    by_cases c : x % 2 = 1
    · rw [decide_eq_true c]; simp only [useB, if_true]; omega
    · rw [decide_eq_false c]; simp [useB]; omega
  · exact ⟨0, false, false, .inr ⟨rfl, rfl, rfl, h⟩⟩
theorem reads_half {x n : Int} {u c : Bool} (h : Reads x n u c) (hc : c = true) : MayB n ∧ x = n * 2 + useB u ∧ x / 2 = n ∧ decide (x % 2 = 1) = u := by
  rcases h with ⟨_, h, e⟩ | ⟨e, _⟩
  · refine ⟨h, e, ?_, ?_⟩
    · rcases useB_or u with ⟨_, k⟩ | ⟨_, k⟩ <;> omega
    · rcases useB_or u with ⟨e2, k⟩ | ⟨e2, k⟩ <;> subst e2 <;> simp <;> omega
  · rw [hc] at e; cases e
theorem rparse_is (x n : Int) (u c : Bool) (hr : Reads x n u c) (h0 : 0 ≤ x) (h1 : x ≤ 18446744073709551615) (w : World) :
    Calls Try.prog 60 #[.int .u64 x] w fun e w' => e = .returned (.tuple #[.int .i64 n, .bool u, .bool c]) ∧ w = w' := by
  by_cases hc : c = true
  · obtain ⟨a, b, d, e⟩ := reads_half hr hc
    subst hc
    rw [← d] at a ⊢
    exact rparse_yes x h0 h1 a u e w
  · rcases hr with ⟨e, _⟩ | ⟨rfl, rfl, rfl, h⟩
    · exact absurd e hc
    · exact rparse_no x h0 h1 h w

end Go.Proofs.Ytkpefnjohdjejaa

/-
  Blocks side by side, plainly: which may be, as what words they are written, how words are read, where a word lies, what is free.
-/
namespace Go.Proofs.Ytkpefnjohdjejaa
set_option maxRecDepth 100000

structure Bk where
  a : Int
  s : Int
  u : Bool
instance : Inhabited Bk := ⟨⟨0, 0, false⟩⟩

/-- a heap may have so many words -/
def Mw (n : Int) : Prop := 8 ≤ n ∧ n ≤ 512 ∧ n % 8 = 0
instance (n : Int) : Decidable (Mw n) := inferInstanceAs (Decidable (_ ∧ _))
/-- blocks from a word on, up to the end n -/
def mayF (n : Int) : Int → Bool → List Bk → Bool
  | a, _, [] => decide (a = n)
  | a, f, b :: r => decide (b.a = a) && decide (MayB b.s) && !(f && !b.u) && mayF n (a + b.s) (!b.u) r
def mayL (n : Int) (l : List Bk) : Bool := decide (Mw n) && mayF n 0 false l
/-- words together -/
def szs : List Bk → Int
  | [] => 0
  | b :: r => b.s + szs r

theorem mayF_cons {n a : Int} {f : Bool} {b : Bk} {r : List Bk} : mayF n a f (b :: r) = true ↔ b.a = a ∧ MayB b.s ∧ ¬ (f = true ∧ b.u = false) ∧ mayF n (a + b.s) (!b.u) r = true := by
  rw [mayF]
  simp only [Bool.and_eq_true, decide_eq_true_eq, Bool.not_eq_true', and_assoc]
  cases f <;> cases b.u <;> simp
theorem mayF_nil {n a : Int} {f : Bool} : mayF n a f [] = true ↔ a = n := by simp [mayF]
theorem mayL_yes {n : Int} {l : List Bk} : mayL n l = true ↔ Mw n ∧ mayF n 0 false l = true := by simp [mayL]
theorem mayF_end {n : Int} : ∀ {l : List Bk} {a : Int} {f : Bool}, mayF n a f l = true → a + szs l = n ∧ a + 2 * l.length ≤ n
  | [], a, f, h => by rw [mayF_nil] at h; simp [szs]; omega
  | b :: r, a, f, h => by
    obtain ⟨_, hs, _, h⟩ := mayF_cons.1 h
    have := mayF_end h
    obtain ⟨h1, h2⟩ := hs
    simp only [szs, List.length_cons]
    omega
theorem mayF_app {n : Int} : ∀ {p r : List Bk} {a : Int} {f : Bool}, mayF n a f (p ++ r) = true → ∃ g, mayF n (a + szs p) g r = true ∧ 0 ≤ szs p
  | [], r, a, f, h => ⟨f, by simpa [szs] using h, by simp [szs]⟩
  | b :: p, r, a, f, h => by
    obtain ⟨_, hs, _, h⟩ := mayF_cons.1 h
    obtain ⟨g, h, h0⟩ := mayF_app h
    obtain ⟨h1, h2⟩ := hs
    refine ⟨g, ?_, by simp only [szs]; omega⟩
    rw [szs, ← Int.add_assoc]; exact h
theorem mayF_sizes {n : Int} : ∀ {l : List Bk} {a : Int} {f : Bool}, mayF n a f l = true → ∀ b ∈ l, MayB b.s ∧ a ≤ b.a ∧ b.a + b.s ≤ n
  | [], _, _, _, b, hb => by cases hb
  | c :: r, a, f, h, b, hb => by
    obtain ⟨ha, hs, _, h⟩ := mayF_cons.1 h
    rcases List.mem_cons.1 hb with rfl | hb
    · have := mayF_end h
      exact ⟨hs, by omega, by omega⟩
    · obtain ⟨h1, h2, h3⟩ := mayF_sizes h b hb
      obtain ⟨g1, g2⟩ := hs
      exact ⟨h1, by omega, h3⟩
theorem getD_cut {l : List Bk} {k : Nat} (hk : k < l.length) : l.drop k = l.getD k default :: l.drop (k + 1) := by
  rw [List.getD_eq_getElem?_getD, List.getElem?_eq_getElem hk]; exact List.drop_eq_getElem_cons hk
theorem getD_split {l : List Bk} {k : Nat} (hk : k < l.length) : l = l.take k ++ l.getD k default :: l.drop (k + 1) := by
  rw [← getD_cut hk, List.take_append_drop]

/-- blocks that words are read as, from a word on -/
def rdF (w : List Int) : Nat → Nat → Option (List Bk)
  | 0, a => if a < w.length then none else some []
  | k + 1, a => if a < w.length then (if MayB (w.getD a 0 / 2) then (rdF w k (a + (w.getD a 0 / 2).toNat)).map (⟨a, w.getD a 0 / 2, decide (w.getD a 0 % 2 = 1)⟩ :: ·) else none) else some []
def blkF (w : List Int) : Option (List Bk) := (rdF w w.length 0).bind fun l => if mayL w.length l = true then some l else none
theorem rdF_end {w : List Int} {k a : Nat} (h : w.length ≤ a) : rdF w k a = some [] := by
  cases k <;> rw [rdF, if_neg (by omega)]
theorem rdF_no {w : List Int} {k a : Nat} (h : a < w.length) (hx : ¬ MayB (w.getD a 0 / 2)) : rdF w k a = none := by
  cases k with
  | zero => rw [rdF, if_pos h]
  | succ k => rw [rdF, if_pos h, if_neg hx]
theorem rdF_yes {w : List Int} {k a n : Nat} {u : Bool} (h : a < w.length) (hx : w.getD a 0 = hdB n u) (hn : MayB n) : rdF w (k + 1) a = (rdF w k (a + n)).map (⟨a, n, u⟩ :: ·) := by
  rw [hdB_yes hn] at hx
  have e : w.getD a 0 / 2 = n := by rw [hx]; rcases useB_or u with ⟨_, h⟩ | ⟨_, h⟩ <;> omega
  have e2 : decide (w.getD a 0 % 2 = 1) = u := by rw [hx]; rcases useB_or u with ⟨e, h⟩ | ⟨e, h⟩ <;> subst e <;> simp <;> omega
  rw [rdF, if_pos h, e, if_pos hn, e2, Int.toNat_natCast]
/-- the headers of the first ones stand: they are read, and then the rest -/
theorem rdF_pre {v : List Int} {r : List Bk} (k : Nat) : ∀ (p : List Bk) (a : Nat) (f : Bool), mayF v.length a f (p ++ r) = true → (∀ b ∈ p, v.getD b.a.toNat 0 = hdB b.s b.u) → rdF v (p.length + k) a = (rdF v k ((a : Int) + szs p).toNat).map (p ++ ·)
  | [], a, f, _, _ => by simp [szs]
  | b :: p, a, f, h, hv => by
    obtain ⟨ha, hs, _, h⟩ := mayF_cons.1 h
    have hs' := hs
    obtain ⟨h1, h2⟩ := hs'
    have he := mayF_end h
    have hb := hv b (List.mem_cons_self ..)
    obtain ⟨bn, hbn⟩ : ∃ n : Nat, b.s = n := ⟨b.s.toNat, by omega⟩
    have hh : v.getD a 0 = hdB bn b.u := by rw [← hbn, ← hb, ha, Int.toNat_natCast]
    have e : (p.length + 1) + k = (p.length + k) + 1 := by omega
    have ep : (⟨(a : Int), (bn : Int), b.u⟩ : Bk) = b := by rw [← hbn, ← ha]
    rw [List.length_cons, e, rdF_yes (by omega) hh (hbn ▸ hs), rdF_pre k p (a + bn) (!b.u) (by rw [hbn] at h; push_cast; exact h) (fun c hc => hv c (List.mem_cons_of_mem _ hc)), ep]
    have e3 : (((a + bn : Nat) : Int) + szs p).toNat = ((a : Int) + szs (b :: p)).toNat := by rw [szs, hbn]; congr 1; push_cast; omega
    rw [e3, Option.map_map]
    rfl
/-- headers written into words -/
def wrF : List Int → List Bk → List Int
  | w, [] => w
  | w, b :: r => wrF (w.set b.a.toNat (hdB b.s b.u)) r
theorem wrF_length : ∀ (l : List Bk) (w : List Int), (wrF w l).length = w.length
  | [], _ => rfl
  | b :: r, w => by rw [wrF, wrF_length r, List.length_set]
theorem wrF_app : ∀ (p r : List Bk) (w : List Int), wrF w (p ++ r) = wrF (wrF w p) r
  | [], _, _ => rfl
  | b :: p, r, w => by rw [List.cons_append, wrF, wrF_app p r, wrF]
theorem wrF_lo {n : Int} : ∀ {l : List Bk} {a : Int} {f : Bool} {w : List Int} {j : Nat}, mayF n a f l = true → (j : Int) < a → (wrF w l).getD j 0 = w.getD j 0
  | [], _, _, _, _, _, _ => rfl
  | b :: r, a, f, w, j, h, hj => by
    obtain ⟨ha, hs, _, h⟩ := mayF_cons.1 h
    obtain ⟨h1, h2⟩ := hs
    rw [wrF, wrF_lo h (by omega)]
    simp only [List.getD_eq_getElem?_getD]
    rw [List.getElem?_set_ne (by omega)]
/-- each header stands where it was written -/
theorem wrF_at {w : List Int} {p r : List Bk} {b : Bk} {f : Bool} (h : mayF w.length 0 f (p ++ b :: r) = true) : (wrF w (p ++ b :: r)).getD b.a.toNat 0 = hdB b.s b.u := by
  obtain ⟨g, h, h0⟩ := mayF_app h
  obtain ⟨ha, hs, _, h⟩ := mayF_cons.1 h
  have he := mayF_end h
  obtain ⟨h1, h2⟩ := hs
  rw [wrF_app, wrF, wrF_lo h (by omega)]
  simp only [List.getD_eq_getElem?_getD]
  rw [List.getElem?_set_self (by rw [wrF_length]; omega)]
  rfl
theorem wrF_all {w : List Int} {l : List Bk} {f : Bool} (h : mayF w.length 0 f l = true) : ∀ b ∈ l, (wrF w l).getD b.a.toNat 0 = hdB b.s b.u := by
  intro b hb
  obtain ⟨p, r, rfl⟩ := List.append_of_mem hb
  exact wrF_at h
theorem mayL_fuel {n : Nat} {l : List Bk} (h : mayL n l = true) : ∃ k, n = l.length + k ∧ mayF n 0 false l = true ∧ szs l = n ∧ Mw n := by
  obtain ⟨hm, h⟩ := mayL_yes.1 h
  have he := mayF_end h
  exact ⟨n - l.length, by omega, h, by omega, hm⟩
/-- blocks that may be, written, are read -/
theorem blkF_wrF {w : List Int} {l : List Bk} (h : mayL w.length l = true) : blkF (wrF w l) = some l := by
  obtain ⟨k, hk, hf, hz, hm⟩ := mayL_fuel h
  have hl := wrF_length l w
  have := rdF_pre (v := wrF w l) (r := []) k l 0 false (by rw [hl, List.append_nil]; exact hf) (wrF_all hf)
  rw [blkF, hl, hk, this, rdF_end (by rw [hl]; omega), Option.map_some, List.append_nil]
  rw [← hk]
  simp only [Option.bind_some]
  rw [if_pos h]
/-- a header turned into another word: of those ahead nothing turns -/
theorem spoilt_pre {w : List Int} {p r : List Bk} {b : Bk} {x : Int} (h : mayL w.length (p ++ b :: r) = true) :
    ∃ k a, b.a = (a : Nat) ∧ a < w.length ∧ w.length = p.length + (k + 1) ∧ ((wrF w (p ++ b :: r)).set a x).getD a 0 = x ∧ rdF ((wrF w (p ++ b :: r)).set a x) w.length 0 = (rdF ((wrF w (p ++ b :: r)).set a x) (k + 1) a).map (p ++ ·) := by
  obtain ⟨k, hk, hf, hz, hm⟩ := mayL_fuel h
  obtain ⟨g, hf2, h0⟩ := mayF_app hf
  obtain ⟨ha, hs, _, hf3⟩ := mayF_cons.1 hf2
  have he := mayF_end hf3
  obtain ⟨h1, h2⟩ := hs
  have hl := wrF_length (p ++ b :: r) w
  have e0 := mayF_end hf2
  rw [List.length_append, List.length_cons] at hk
  rw [List.length_cons] at e0
  refine ⟨r.length + k, b.a.toNat, by omega, by omega, by omega, ?_, ?_⟩
  · simp only [List.getD_eq_getElem?_getD]
    rw [List.getElem?_set_self (by rw [hl]; omega)]; rfl
  · have := rdF_pre (v := (wrF w (p ++ b :: r)).set b.a.toNat x) (r := b :: r) (r.length + k + 1) p 0 false (by rw [List.length_set, hl]; exact hf) (fun c hc => by
      obtain ⟨p1, p2, rfl⟩ := List.append_of_mem hc
      have ec : (p1 ++ c :: p2) ++ b :: r = p1 ++ c :: (p2 ++ b :: r) := by simp
      have hw := wrF_at (w := w) (p := p1) (b := c) (r := p2 ++ b :: r) (f := false) (by rw [← ec]; exact hf)
      rw [ec] at hf ⊢
      obtain ⟨_, q1, q0⟩ := mayF_app hf
      obtain ⟨qa, ⟨qs, _⟩, _, q2⟩ := mayF_cons.1 q1
      obtain ⟨_, q3, q4⟩ := mayF_app q2
      obtain ⟨qb, _⟩ := mayF_cons.1 q3
      simp only [List.getD_eq_getElem?_getD] at hw ⊢
      rw [List.getElem?_set_ne (by omega)]
      exact hw)
    have e : w.length = p.length + (r.length + k + 1) := by omega
    rw [e, this, ha]
    simp
theorem blkF_spoilt {w : List Int} {p r : List Bk} {b : Bk} {x : Int} (h : mayL w.length (p ++ b :: r) = true) (hx : ¬ MayB (x / 2)) : blkF ((wrF w (p ++ b :: r)).set b.a.toNat x) = none := by
  obtain ⟨k, a, ha, hl, hk, hg, hr⟩ := spoilt_pre (x := x) h
  rw [ha, Int.toNat_natCast, blkF, List.length_set, wrF_length, hr, rdF_no (by rw [List.length_set, wrF_length]; exact hl) (by rw [hg]; exact hx)]
  rfl
/-- a last one that reaches beyond the end is none -/
theorem blkF_over {w : List Int} {p : List Bk} {b : Bk} {d : Int} (h : mayL w.length (p ++ [b]) = true) (hd : 0 < d) : blkF ((wrF w (p ++ [b])).set b.a.toNat (hdB (b.s + d) b.u)) = none := by
  by_cases hm : MayB (b.s + d)
  · obtain ⟨k, a, ha, hl, hk, hg, hr⟩ := spoilt_pre (x := hdB (b.s + d) b.u) h
    obtain ⟨_, hf⟩ := mayL_yes.1 h
    obtain ⟨g, hf2, h0⟩ := mayF_app hf
    obtain ⟨hb, ⟨h1, h2⟩, _, hf3⟩ := mayF_cons.1 hf2
    rw [mayF_nil] at hf3
    obtain ⟨m, hmm⟩ : ∃ m : Nat, b.s + d = m := ⟨(b.s + d).toNat, by omega⟩
    rw [ha, Int.toNat_natCast, blkF, List.length_set, wrF_length, hr]
    generalize hv : (wrF w (p ++ [b])).set a (hdB (b.s + d) b.u) = v at *
    have vl : v.length = w.length := by rw [← hv, List.length_set, wrF_length]
    clear hv hr
    rw [hmm] at hg hm
    rw [rdF_yes (by omega) hg hm, rdF_end (by omega)]
    simp only [Option.map_some, Option.bind_some]
    rw [if_neg]
    intro hc
    obtain ⟨_, hc⟩ := mayL_yes.1 hc
    obtain ⟨_, hc, _⟩ := mayF_app hc
    obtain ⟨_, _, _, hc⟩ := mayF_cons.1 hc
    rw [mayF_nil] at hc
    simp only at hc
    omega
  · rw [hdB_no hm]
    exact blkF_spoilt h (by decide)

/-- free words -/
def okL (l : List Bk) : Bool := decide (l.length ≤ 512) && l.all fun b => decide (MayB b.s)
def frS : List Bk → Int
  | [] => 0
  | b :: r => (if b.u = true then 0 else b.s) + frS r
def usS : List Bk → Int
  | [] => 0
  | b :: r => (if b.u = true then b.s else 0) + usS r
def moS : Int → List Bk → Int
  | m, [] => m
  | m, b :: r => moS (if b.u = true then m else max m b.s) r
def frL (l : List Bk) : Int := if okL l = true then frS l else 0
def moL (l : List Bk) : Int := if okL l = true then moS 0 l else 0
theorem fr_us : ∀ l : List Bk, frS l + usS l = szs l
  | [] => rfl
  | b :: r => by
    have := fr_us r
    simp only [frS, usS, szs]
    split <;> omega
theorem mayL_okL {n : Int} {l : List Bk} (h : mayL n l = true) : okL l = true := by
  obtain ⟨⟨_, h5, _⟩, h⟩ := mayL_yes.1 h
  have he := mayF_end h
  unfold okL
  rw [decide_eq_true (by omega), Bool.true_and, List.all_eq_true]
  exact fun b hb => decide_eq_true (mayF_sizes h b hb).1
/-- the block that a word is in -/
def inB (b : Bk) (x : Int) : Bool := decide (0 < b.s ∧ b.a ≤ x ∧ x - b.a < b.s)
def atS (x : Int) : Nat → List Bk → Int
  | _, [] => -1
  | k, b :: r => if inB b x = true then k else atS x (k + 1) r
theorem atS_in {n x : Int} : ∀ {l : List Bk} {a : Int} {f : Bool} {k : Nat}, mayF n a f l = true → a ≤ x → x < n → ∃ i, i < l.length ∧ atS x k l = ((k + i : Nat) : Int) ∧ (l.getD i default).a ≤ x ∧ x < (l.getD i default).a + (l.getD i default).s
  | [], a, f, k, h, h1, h2 => by rw [mayF_nil] at h; omega
  | b :: r, a, f, k, h, h1, h2 => by
    obtain ⟨ha, ⟨g1, g2⟩, _, h⟩ := mayF_cons.1 h
    by_cases hx : x < a + b.s
    · refine ⟨0, by simp, ?_, by simpa using by omega, by simpa using by omega⟩
      rw [atS, if_pos (by rw [inB, decide_eq_true_eq]; omega)]; rfl
    · obtain ⟨i, hi, e, q⟩ := atS_in (k := k + 1) h (by omega) h2
      refine ⟨i + 1, by simpa using hi, ?_, by simpa using q⟩
      rw [atS, if_neg (by rw [inB, decide_eq_true_eq]; omega), e]
      congr 1; omega
theorem atS_out {n x : Int} : ∀ {l : List Bk} {a : Int} {f : Bool} {k : Nat}, mayF n a f l = true → x < a ∨ n ≤ x → atS x k l = -1
  | [], _, _, _, _, _ => rfl
  | b :: r, a, f, k, h, hx => by
    obtain ⟨ha, ⟨g1, g2⟩, _, h⟩ := mayF_cons.1 h
    have he := mayF_end h
    rw [atS, if_neg (by rw [inB, decide_eq_true_eq]; omega)]
    exact atS_out h (by omega)
end Go.Proofs.Ytkpefnjohdjejaa

/-
  Which block is taken, plainly: how many words bytes need, what is taken, which blocks fit, which of them is chosen.
-/
namespace Go.Proofs.Ytkpefnjohdjejaa
set_option maxRecDepth 100000

/-- words for n bytes -/
def needN (n : Int) : Int := if 1 ≤ n ∧ n ≤ 448 then (n + 7) / 8 + 1 else 0
/-- what is taken -/
def takN (s n : Int) : Int := if 2 ≤ n ∧ n ≤ s then (if s - n < 2 then s else n) else 0
theorem takN_zero {s n : Int} : takN s n = 0 ↔ ¬ (2 ≤ n ∧ n ≤ s) := by
  unfold takN
  split
  · split <;> omega
  · rename_i h
    exact ⟨fun _ => h, fun _ => rfl⟩
/-- a free one that is large enough -/
def fitB (n : Int) (b : Bk) : Bool := !b.u && decide (2 ≤ n ∧ n ≤ b.s)
/-- a free one of a size -/
def hasS (z : Int) (b : Bk) : Bool := !b.u && decide (b.s = z)
/-- the lowest size of those that fit -/
def tgS (n : Int) : Int → List Bk → Int
  | m, [] => m
  | m, b :: r => tgS n (if fitB n b = true ∧ (m = 0 ∨ b.s < m) then b.s else m) r
/-- the places of those of a size -/
def plS (z : Int) : Nat → List Bk → List Nat
  | _, [] => []
  | k, b :: r => if hasS z b = true then k :: plS z (k + 1) r else plS z (k + 1) r
def fitN (n : Int) (l : List Bk) : List Nat := if tgS n 0 l = 0 then [] else plS (tgS n 0 l) 0 l
/-- places as ints -/
def ins (f : List Nat) : List Int := f.map fun (i : Nat) => (i : Int)

theorem fitB_iff {n : Int} {b : Bk} : fitB n b = true ↔ b.u = false ∧ 2 ≤ n ∧ n ≤ b.s := by
  unfold fitB
  cases b.u <;> simp
theorem hasS_iff {z : Int} {b : Bk} : hasS z b = true ↔ b.u = false ∧ b.s = z := by
  unfold hasS
  cases b.u <;> simp
theorem tgS_spec (n : Int) : ∀ (l : List Bk) (m : Int), 0 ≤ m → (tgS n m l = m ∨ ∃ b ∈ l, fitB n b = true ∧ b.s = tgS n m l) ∧ (∀ b ∈ l, fitB n b = true → 0 < tgS n m l ∧ tgS n m l ≤ b.s) ∧ (0 < m → 0 < tgS n m l ∧ tgS n m l ≤ m)
  | [], m, _ => ⟨.inl rfl, fun _ h => (List.not_mem_nil h).elim, fun h => ⟨h, Int.le_refl _⟩⟩
  | b :: r, m, hm => by
    rw [tgS]
    split
    · rename_i h
      obtain ⟨hf, hlt⟩ := h
      obtain ⟨hu, h2, hn⟩ := fitB_iff.1 hf
      obtain ⟨g1, g2, g3⟩ := tgS_spec n r b.s (by omega)
      obtain ⟨g4, g5⟩ := g3 (by omega)
      refine ⟨.inr ?_, fun c hc hfc => ?_, fun h0 => ⟨g4, by omega⟩⟩
      · rcases g1 with g1 | ⟨c, hc, g⟩
        · exact ⟨b, List.mem_cons_self .., hf, g1.symm⟩
        · exact ⟨c, List.mem_cons_of_mem _ hc, g⟩
      · rcases List.mem_cons.1 hc with rfl | hc
        · exact ⟨g4, g5⟩
        · exact g2 c hc hfc
    · rename_i h
      obtain ⟨g1, g2, g3⟩ := tgS_spec n r m hm
      refine ⟨g1.imp id fun ⟨c, hc, g⟩ => ⟨c, List.mem_cons_of_mem _ hc, g⟩, fun c hc hfc => ?_, g3⟩
      rcases List.mem_cons.1 hc with rfl | hc
      · have hm0 : 0 < m ∧ m ≤ c.s := by
          by_cases h0 : m = 0
          · exact absurd ⟨hfc, .inl h0⟩ h
          · by_cases h1 : c.s < m
            · exact absurd ⟨hfc, .inr h1⟩ h
            · omega
        obtain ⟨g4, g5⟩ := g3 hm0.1
        exact ⟨g4, by omega⟩
      · exact g2 c hc hfc
theorem plS_mem {z : Int} : ∀ {l : List Bk} {k i : Nat}, i ∈ plS z k l → k ≤ i ∧ i - k < l.length ∧ hasS z (l.getD (i - k) default) = true
  | [], k, i, h => by simp [plS] at h
  | b :: r, k, i, h => by
    rw [plS] at h
    split at h
    · rename_i hb
      rcases List.mem_cons.1 h with rfl | h
      · simpa using hb
      · obtain ⟨h1, h2, h3⟩ := plS_mem h
        refine ⟨by omega, by simp only [List.length_cons]; omega, ?_⟩
        rw [show i - k = (i - (k + 1)) + 1 by omega]; simpa using h3
    · obtain ⟨h1, h2, h3⟩ := plS_mem h
      refine ⟨by omega, by simp only [List.length_cons]; omega, ?_⟩
      rw [show i - k = (i - (k + 1)) + 1 by omega]; simpa using h3
theorem plS_has {z : Int} : ∀ {l : List Bk} {k j : Nat}, j < l.length → hasS z (l.getD j default) = true → k + j ∈ plS z k l
  | [], k, j, h, _ => by simp at h
  | b :: r, k, 0, h, hb => by
    have hb : hasS z b = true := by simpa using hb
    rw [plS, if_pos hb]; exact List.mem_cons_self ..
  | b :: r, k, j + 1, h, hb => by
    have := plS_has (z := z) (l := r) (k := k + 1) (j := j) (by simpa using h) (by simpa using hb)
    rw [show k + (j + 1) = k + 1 + j by omega, plS]
    split
    · exact List.mem_cons_of_mem _ this
    · exact this
theorem plS_rise {z : Int} : ∀ {l : List Bk} {k : Nat}, (plS z k l).Pairwise (· < ·)
  | [], k => by rw [plS]; exact List.Pairwise.nil
  | b :: r, k => by
    rw [plS]
    split
    · refine List.Pairwise.cons (fun i hi => ?_) plS_rise
      have := (plS_mem hi).1
      omega
    · exact plS_rise

/-- none fits -/
theorem fitN_none {n : Int} {l : List Bk} (h : ∀ b ∈ l, fitB n b = false) : fitN n l = [] := by
  obtain ⟨g1, _, _⟩ := tgS_spec n l 0 (Int.le_refl _)
  rw [fitN, if_pos]
  rcases g1 with g | ⟨b, hb, hf, _⟩
  · exact g
  · rw [h b hb] at hf; cases hf
theorem getD_mem {l : List Bk} {k : Nat} (hk : k < l.length) : l.getD k default ∈ l := by
  rw [List.getD_eq_getElem?_getD, List.getElem?_eq_getElem hk]; exact List.getElem_mem hk
/-- one that is told fits, and none that fits is smaller; all of its size are told -/
theorem fitN_mem {n : Int} {l : List Bk} {i : Nat} (h : i ∈ fitN n l) : i < l.length ∧ fitB n (l.getD i default) = true ∧ (∀ b ∈ l, fitB n b = true → (l.getD i default).s ≤ b.s) ∧ (l.getD i default).s = tgS n 0 l := by
  obtain ⟨g1, g2, _⟩ := tgS_spec n l 0 (Int.le_refl _)
  rw [fitN] at h
  split at h
  · cases h
  · rename_i h0
    obtain ⟨_, h2, h3⟩ := plS_mem h
    rw [Nat.sub_zero] at h2 h3
    obtain ⟨hu, hs⟩ := hasS_iff.1 h3
    refine ⟨h2, ?_, fun b hb hf => by rw [hs]; exact (g2 b hb hf).2, hs⟩
    rcases g1 with g | ⟨b, hb, hf, e⟩
    · exact absurd g h0
    · obtain ⟨_, q1, q2⟩ := fitB_iff.1 hf
      exact fitB_iff.2 ⟨hu, q1, by omega⟩
theorem fitN_some {n : Int} {l : List Bk} {b : Bk} (hb : b ∈ l) (hf : fitB n b = true) : fitN n l ≠ [] := by
  obtain ⟨g1, g2, _⟩ := tgS_spec n l 0 (Int.le_refl _)
  have h0 := (g2 b hb hf).1
  rw [fitN, if_neg (by omega)]
  rcases g1 with g | ⟨c, hc, hfc, e⟩
  · omega
  · obtain ⟨j, hj, ej⟩ := List.getElem_of_mem hc
    have : 0 + j ∈ plS (tgS n 0 l) 0 l := plS_has hj (by
      rw [List.getD_eq_getElem?_getD, List.getElem?_eq_getElem hj, Option.getD_some, ej]
      exact hasS_iff.2 ⟨(fitB_iff.1 hfc).1, e⟩)
    intro h
    rw [h] at this; cases this
theorem fitN_rise {n : Int} {l : List Bk} : (fitN n l).Pairwise (· < ·) := by
  unfold fitN
  split
  · exact List.Pairwise.nil
  · exact plS_rise

/-- how often the page of a word was written -/
def wrN (cs : List Int) (a : Int) : Int := if a < 0 then 0 else cs.getD (a / 32).toNat 0
/-- is the one at x taken rather than the one at y -/
def ahd (cs : List Int) (x y : Int) : Bool := if wrN cs x = wrN cs y then decide (x < y) else decide (wrN cs x < wrN cs y)
theorem ahd_iff {cs : List Int} {x y : Int} : ahd cs x y = true ↔ wrN cs x < wrN cs y ∨ wrN cs x = wrN cs y ∧ x < y := by
  unfold ahd
  split <;> simp <;> omega
def atL (l : List Bk) (i : Nat) : Int := (l.getD i default).a
/-- the one that is chosen of some places -/
def chO (cs : List Int) (l : List Bk) : Option Nat → List Nat → Option Nat
  | c, [] => c
  | none, i :: r => chO cs l (some i) r
  | some c, i :: r => chO cs l (if ahd cs (atL l i) (atL l c) = true then some i else some c) r
def oi : Option Nat → Int
  | none => -1
  | some i => i
def chN (n : Int) (cs : List Int) (l : List Bk) : Option Nat := chO cs l none (fitN n l)
theorem chO_none {cs : List Int} {l : List Bk} {i : Nat} {r : List Nat} : chO cs l none (i :: r) = chO cs l (some i) r := by rw [chO]
theorem chO_spec {cs : List Int} {l : List Bk} : ∀ (f : List Nat) (c : Nat), ∃ d, chO cs l (some c) f = some d ∧ (d = c ∨ d ∈ f) ∧ ahd cs (atL l c) (atL l d) = false ∧ ∀ i ∈ f, ahd cs (atL l i) (atL l d) = false
  | [], c => ⟨c, rfl, .inl rfl, by rw [Bool.eq_false_iff, Ne, ahd_iff]; omega, fun _ h => (List.not_mem_nil h).elim⟩
  | i :: r, c => by
    rw [chO]
    split
    · rename_i h
      obtain ⟨d, e, h1, h2, h3⟩ := chO_spec r i
      refine ⟨d, e, .inr (by rcases h1 with rfl | h1; exact List.mem_cons_self ..; exact List.mem_cons_of_mem _ h1), ?_, fun j hj => ?_⟩
      · rw [Bool.eq_false_iff, Ne, ahd_iff] at h2 ⊢
        rw [ahd_iff] at h
        omega
      · rcases List.mem_cons.1 hj with rfl | hj
        · exact h2
        · exact h3 j hj
    · rename_i h
      obtain ⟨d, e, h1, h2, h3⟩ := chO_spec r c
      refine ⟨d, e, h1.imp id (List.mem_cons_of_mem _), h2, fun j hj => ?_⟩
      rcases List.mem_cons.1 hj with rfl | hj
      · rw [Bool.eq_false_iff, Ne, ahd_iff] at h2 ⊢
        rw [ahd_iff] at h
        omega
      · exact h3 j hj
theorem chN_none {n : Int} {cs : List Int} {l : List Bk} (h : fitN n l = []) : chN n cs l = none := by rw [chN, h, chO]
theorem chN_some {n : Int} {cs : List Int} {l : List Bk} (h : fitN n l ≠ []) : ∃ d, chN n cs l = some d ∧ d ∈ fitN n l ∧ ∀ i ∈ fitN n l, wrN cs (atL l d) ≤ wrN cs (atL l i) := by
  unfold chN
  cases hf : fitN n l with
  | nil => exact absurd hf h
  | cons i r =>
    obtain ⟨d, e, h1, h2, h3⟩ := chO_spec (cs := cs) (l := l) r i
    refine ⟨d, by rw [chO_none, e], by rcases h1 with rfl | h1; exact List.mem_cons_self ..; exact List.mem_cons_of_mem _ h1, fun j hj => ?_⟩
    have : ahd cs (atL l j) (atL l d) = false := by
      rcases List.mem_cons.1 hj with rfl | hj
      · exact h2
      · exact h3 j hj
    rw [Bool.eq_false_iff, Ne, ahd_iff] at this
    omega
end Go.Proofs.Ytkpefnjohdjejaa

/-
  A block taken, plainly: which can be, what stands for it, which words are written; what is written into words.
-/
namespace Go.Proofs.Ytkpefnjohdjejaa
set_option maxRecDepth 100000

/-- a word that is to be written -/
structure Ed where
  w : Int
  v : Int
instance : Inhabited Ed := ⟨⟨0, 0⟩⟩
/-- values from a word on -/
def rise : Int → List Int → List Ed
  | _, [] => []
  | a, v :: r => ⟨a, v⟩ :: rise (a + 1) r
theorem rise_length : ∀ (vs : List Int) (a : Int), (rise a vs).length = vs.length
  | [], _ => rfl
  | _ :: r, a => by rw [rise, List.length_cons, rise_length r, List.length_cons]
theorem rise_app : ∀ (p q : List Int) (a : Int), rise a (p ++ q) = rise a p ++ rise (a + p.length) q
  | [], q, a => by simp [rise]
  | v :: p, q, a => by
    rw [List.cons_append, rise, rise_app p q, rise, List.cons_append, List.length_cons]
    congr 3
    push_cast
    omega
theorem rise_at : ∀ (vs : List Int) (a : Int) (k : Nat), k < vs.length → (rise a vs).getD k default = ⟨a + k, vs.getD k 0⟩
  | v :: r, a, 0, _ => by simp [rise]
  | v :: r, a, k + 1, h => by
    rw [rise, List.getD_cons_succ, rise_at r (a + 1) k (by simpa using h), List.getD_cons_succ]
    congr 1
    push_cast
    omega
/-- words written into words; those beyond are left out -/
def appF : List Int → List Ed → List Int
  | w, [] => w
  | w, e :: r => appF (if 0 ≤ e.w ∧ e.w < w.length then w.set e.w.toNat e.v else w) r
theorem appF_length : ∀ (l : List Ed) (w : List Int), (appF w l).length = w.length
  | [], _ => rfl
  | e :: r, w => by
    rw [appF, appF_length r]
    split
    · rw [List.length_set]
    · rfl
theorem appF_app : ∀ (p q : List Ed) (w : List Int), appF w (p ++ q) = appF (appF w p) q
  | [], _, _ => rfl
  | e :: p, q, w => by rw [List.cons_append, appF, appF_app p q, appF]
theorem appF_rise : ∀ (vs : List Int) (w : List Int) (a j : Nat), a + vs.length ≤ w.length → (appF w (rise a vs)).getD j 0 = if a ≤ j ∧ j < a + vs.length then vs.getD (j - a) 0 else w.getD j 0
  | [], w, a, j, _ => by
    rw [rise, appF, if_neg]
    simp only [List.length_nil]
    omega
  | v :: r, w, a, j, h => by
    rw [List.length_cons] at h
    have e : (a : Int) + 1 = ((a + 1 : Nat) : Int) := rfl
    rw [rise, appF, if_pos (by simp only; omega), e, appF_rise r _ (a + 1) j (by rw [List.length_set]; omega), List.length_cons]
    simp only [Int.toNat_natCast]
    by_cases h1 : j = a
    · subst h1
      rw [if_neg (by omega), if_pos (by omega), Nat.sub_self]
      simp only [List.getD_eq_getElem?_getD]
      rw [List.getElem?_set_self (by omega)]
      rfl
    · by_cases h2 : a + 1 ≤ j ∧ j < a + 1 + r.length
      · rw [if_pos h2, if_pos (by omega)]
        have e2 : j - a = (j - (a + 1)) + 1 := by omega
        rw [e2, List.getD_cons_succ]
      · rw [if_neg h2, if_neg (by omega)]
        simp only [List.getD_eq_getElem?_getD]
        rw [List.getElem?_set_ne (by omega)]

/-- blocks that may be, of the sum of their sizes -/
def mayS (l : List Bk) : Bool := mayL (szs l) l
theorem mayL_szs {n : Int} {l : List Bk} (h : mayL n l = true) : n = szs l := by
  have := (mayF_end (mayL_yes.1 h).2).1
  omega
theorem mayL_mayS {n : Int} {l : List Bk} (h : mayL n l = true) : mayS l = true := by
  have e := mayL_szs h
  subst e; exact h
/-- any sum that is the right one where they may be -/
theorem mayL_sum {n : Int} {l : List Bk} (h : mayS l = true → n = szs l) : mayL n l = mayS l := by
  cases e : mayS l
  · cases e2 : mayL n l
    · rfl
    · rw [mayL_mayS e2] at e; cases e
  · rw [h e]; exact e
/-- the block at a place; it can be taken -/
def bAt (l : List Bk) (i : Int) : Bk := l.getD i.toNat default
def canC (l : List Bk) (i n : Int) : Bool := mayS l && decide (0 ≤ i ∧ i < l.length ∧ (bAt l i).u = false ∧ takN (bAt l i).s n ≠ 0)
/-- what stands for it -/
def prtB (b : Bk) (n : Int) : List Bk := if takN b.s n = b.s then [⟨b.a, b.s, true⟩] else [⟨b.a, takN b.s n, true⟩, ⟨b.a + takN b.s n, b.s - takN b.s n, false⟩]
def crvF (l : List Bk) (i n : Int) : List Bk := if canC l i n = true then l.take i.toNat ++ (prtB (bAt l i) n ++ l.drop (i.toNat + 1)) else []
/-- the words that are written of a block: its header; noughts behind it, if it is used -/
def edV (b : Bk) : List Int := hdB b.s b.u :: (if b.u = true then List.replicate (b.s - 1).toNat 0 else [])
def edB (b : Bk) : List Ed := rise b.a (edV b)
def edF (p : List Bk) : List Ed := p.flatMap edB
def cedF (l : List Bk) (i n : Int) : List Ed := if canC l i n = true then edF (prtB (bAt l i) n) else []
/-- at which byte a block's bytes begin -/
def offB (a : Int) : Int := if 0 ≤ a ∧ a ≤ 512 then (a + 1) * 8 else 0

theorem takN_some {s n : Int} (h : takN s n ≠ 0) : 2 ≤ n ∧ n ≤ takN s n ∧ takN s n ≤ s ∧ (takN s n = s ∨ takN s n = n ∧ 2 ≤ s - n) := by
  have h1 : 2 ≤ n ∧ n ≤ s := by
    by_cases c : 2 ≤ n ∧ n ≤ s
    · exact c
    · exact absurd (takN_zero.2 c) h
  unfold takN
  rw [if_pos h1]
  split <;> omega
theorem canC_yes {l : List Bk} {i n : Int} : canC l i n = true ↔ mayS l = true ∧ 0 ≤ i ∧ i < l.length ∧ (bAt l i).u = false ∧ takN (bAt l i).s n ≠ 0 := by
  simp [canC]
theorem bAt_split {l : List Bk} {i : Int} (h0 : 0 ≤ i) (h1 : i < l.length) : l = l.take i.toNat ++ bAt l i :: l.drop (i.toNat + 1) := getD_split (by omega)
theorem bAt_mem {l : List Bk} {i : Int} (h0 : 0 ≤ i) (h1 : i < l.length) : bAt l i ∈ l := by
  have : i.toNat < l.length := by omega
  rw [bAt, List.getD_eq_getElem?_getD, List.getElem?_eq_getElem this]; exact List.getElem_mem _
theorem mayF_less {n a : Int} {l : List Bk} (h : mayF n a true l = true) : mayF n a false l = true := by
  cases l with
  | nil => exact h
  | cons b r =>
    obtain ⟨h1, h2, _, h4⟩ := mayF_cons.1 h
    exact mayF_cons.2 ⟨h1, h2, (fun q => by cases q.1), h4⟩
theorem mayF_repl {n : Int} {b : Bk} {q r : List Bk} (hq : ∀ f, mayF n b.a f (b :: r) = true → mayF n b.a f (q ++ r) = true) : ∀ (p : List Bk) (a : Int) (f : Bool), mayF n a f (p ++ b :: r) = true → mayF n a f (p ++ (q ++ r)) = true
  | [], a, f, h => by
    have e := (mayF_cons.1 h).1
    subst e
    exact hq f h
  | c :: p, a, f, h => by
    obtain ⟨h1, h2, h3, h4⟩ := mayF_cons.1 h
    exact mayF_cons.2 ⟨h1, h2, h3, mayF_repl hq p _ _ h4⟩
/-- a free block that is taken leaves blocks that may be -/
theorem mayL_crv {m i n : Int} {l : List Bk} (h : mayL m l = true) (hc : canC l i n = true) : mayL m (crvF l i n) = true := by
  obtain ⟨_, h0, h1, hu, ht⟩ := canC_yes.1 hc
  rw [crvF, if_pos hc]
  obtain ⟨hm, hf⟩ := mayL_yes.1 h
  refine mayL_yes.2 ⟨hm, ?_⟩
  rw [bAt_split h0 h1] at hf
  obtain ⟨t1, t2, t3, t4⟩ := takN_some ht
  refine mayF_repl (fun f g => ?_) _ _ _ hf
  obtain ⟨_, hs, _, g⟩ := mayF_cons.1 g
  rw [hu] at g
  obtain ⟨s1, s2⟩ := hs
  unfold prtB
  split
  · rename_i e
    refine mayF_cons.2 ⟨rfl, ⟨s1, s2⟩, (fun q => by cases q.2), mayF_less g⟩
  · rename_i e
    have t5 := t4.resolve_left e
    refine mayF_cons.2 ⟨rfl, ⟨by simp only; omega, by simp only; omega⟩, (fun q => by cases q.2), ?_⟩
    refine mayF_cons.2 ⟨rfl, ⟨by simp only; omega, by simp only; omega⟩, (fun q => by cases q.1), ?_⟩
    have e2 : (bAt l i).a + takN (bAt l i).s n + ((bAt l i).s - takN (bAt l i).s n) = (bAt l i).a + (bAt l i).s := by omega
    simp only [e2]
    exact g
theorem edF_nil : edF [] = [] := rfl
theorem edF_cons (b : Bk) (r : List Bk) : edF (b :: r) = edB b ++ edF r := by rw [edF, List.flatMap_cons]; rfl
theorem edB_used (b : Bk) (h : b.u = true) : edB b = ⟨b.a, hdB b.s b.u⟩ :: rise (b.a + 1) (List.replicate (b.s - 1).toNat 0) := by rw [edB, edV, if_pos h, rise]
theorem edB_free (b : Bk) (h : b.u = false) : edB b = [⟨b.a, hdB b.s b.u⟩] := by rw [edB, edV, if_neg (by rw [h]; decide), rise, rise]
/-- the words of a block that is taken, and of what is left -/
def takV (b : Bk) (n : Int) : List Int := hdB (takN b.s n) true :: (List.replicate (takN b.s n - 1).toNat 0 ++ (if takN b.s n = b.s then [] else [hdB (b.s - takN b.s n) false]))
theorem takV_length {b : Bk} {n : Int} (h : takN b.s n ≠ 0) : ((takV b n).length : Int) = takN b.s n + (if takN b.s n = b.s then 0 else 1) := by
  obtain ⟨t1, t2, t3, t4⟩ := takN_some h
  rw [takV, List.length_cons, List.length_append, List.length_replicate]
  split <;> simp <;> omega
theorem edF_prt {b : Bk} {n : Int} (h : takN b.s n ≠ 0) : edF (prtB b n) = rise b.a (takV b n) := by
  obtain ⟨t1, t2, t3, t4⟩ := takN_some h
  unfold prtB takV
  split
  · rename_i e
    rw [edF_cons, edF_nil, List.append_nil, List.append_nil, edB, edV, if_pos rfl]
    simp only [e]
  · rw [edF_cons, edF_cons, edF_nil, List.append_nil, edB, edV, if_pos rfl, edB_free _ rfl]
    rw [← List.cons_append, rise_app, rise]
    congr 1
    simp only [rise, List.length_cons, List.length_replicate]
    congr 2
    push_cast
    omega
theorem takV_at {b : Bk} {n : Int} (h : takN b.s n ≠ 0) (k : Nat) : (takV b n).getD k 0 = if k = 0 then hdB (takN b.s n) true else if (k : Int) < takN b.s n then 0 else if (k : Int) = takN b.s n ∧ takN b.s n ≠ b.s then hdB (b.s - takN b.s n) false else 0 := by
  obtain ⟨t1, t2, t3, t4⟩ := takN_some h
  rw [takV]
  cases k with
  | zero => simp
  | succ k =>
    rw [List.getD_cons_succ, if_neg (show ¬ k + 1 = 0 by omega)]
    simp only [List.getD_eq_getElem?_getD]
    by_cases c : ((k + 1 : Nat) : Int) < takN b.s n
    · rw [if_pos c, List.getElem?_append_left (by rw [List.length_replicate]; omega), List.getElem?_replicate]
      split <;> rfl
    · rw [if_neg c, List.getElem?_append_right (by rw [List.length_replicate]; omega), List.length_replicate]
      by_cases d : takN b.s n = b.s
      · rw [if_pos d, if_neg (show ¬ (((k + 1 : Nat) : Int) = takN b.s n ∧ takN b.s n ≠ b.s) from fun q => q.2 d)]; rfl
      · rw [if_neg d]
        by_cases e : ((k + 1 : Nat) : Int) = takN b.s n
        · rw [if_pos ⟨e, d⟩]
          have e2 : k - (takN b.s n - 1).toNat = 0 := by omega
          rw [e2]; rfl
        · rw [if_neg (show ¬ (((k + 1 : Nat) : Int) = takN b.s n ∧ takN b.s n ≠ b.s) from fun q => e q.1)]
          have e2 : k - (takN b.s n - 1).toNat = (k - (takN b.s n - 1).toNat - 1) + 1 := by omega
          rw [e2]; rfl
/-- words at whose places the headers stand are read as the blocks -/
theorem blkF_of {v : List Int} {l : List Bk} (h : mayL v.length l = true) (hv : ∀ b ∈ l, v.getD b.a.toNat 0 = hdB b.s b.u) : blkF v = some l := by
  obtain ⟨k, hk, hf, hz, hm⟩ := mayL_fuel h
  have := rdF_pre (v := v) (r := []) k l 0 false (by rw [List.append_nil]; exact hf) hv
  rw [blkF, hk, this, rdF_end (by omega), Option.map_some, List.append_nil]
  rw [← hk]
  simp only [Option.bind_some]
  rw [if_pos h]
theorem szs_app : ∀ p r : List Bk, szs (p ++ r) = szs p + szs r
  | [], r => by simp [szs]
  | b :: p, r => by rw [List.cons_append, szs, szs, szs_app p r, Int.add_assoc]
theorem frS_app : ∀ p r : List Bk, frS (p ++ r) = frS p + frS r
  | [], r => by simp [frS]
  | b :: p, r => by rw [List.cons_append, frS, frS, frS_app p r, Int.add_assoc]
theorem crv_length {l : List Bk} {i n : Int} (hc : canC l i n = true) : (crvF l i n).length = l.length + (if takN (bAt l i).s n = (bAt l i).s then 0 else 1) := by
  obtain ⟨_, h0, h1, hu, ht⟩ := canC_yes.1 hc
  rw [crvF, if_pos hc, List.length_append, List.length_append, List.length_take, List.length_drop, prtB]
  split <;> simp <;> omega
theorem crv_at {l : List Bk} {i n : Int} (hc : canC l i n = true) : bAt (crvF l i n) i = ⟨(bAt l i).a, takN (bAt l i).s n, true⟩ := by
  obtain ⟨_, h0, h1, hu, ht⟩ := canC_yes.1 hc
  have e : (l.take i.toNat).length = i.toNat := by rw [List.length_take]; omega
  rw [bAt, crvF, if_pos hc, List.getD_eq_getElem?_getD, List.getElem?_append_right (by omega), e, Nat.sub_self, prtB]
  split
  · rename_i q
    rw [q]; rfl
  · rfl
theorem crv_free {l : List Bk} {i n : Int} (hc : canC l i n = true) : frS (crvF l i n) = frS l - takN (bAt l i).s n := by
  obtain ⟨_, h0, h1, hu, ht⟩ := canC_yes.1 hc
  have e : frS l = frS (l.take i.toNat) + ((bAt l i).s + frS (l.drop (i.toNat + 1))) := by
    conv => lhs; rw [bAt_split h0 h1]
    rw [frS_app, frS, if_neg (by rw [hu]; decide)]
  rw [e, crvF, if_pos hc, frS_app, frS_app, prtB]
  split
  · rename_i q
    simp only [frS, if_true, q]
    omega
  · simp only [frS, if_true]
    simp
    omega
theorem offB_in {n : Int} {l : List Bk} {b : Bk} (h : mayL n l = true) (hb : b ∈ l) : 0 ≤ b.a ∧ b.a ≤ 512 ∧ offB b.a = b.a * 8 + 8 := by
  obtain ⟨⟨_, h5, _⟩, hf⟩ := mayL_yes.1 h
  obtain ⟨⟨h1, _⟩, h2, h3⟩ := mayF_sizes hf b hb
  refine ⟨h2, by omega, ?_⟩
  rw [offB, if_pos (by omega)]
  omega
end Go.Proofs.Ytkpefnjohdjejaa

/-
  Blocks that are known whole; what stays below the heap's old size.
-/
namespace Go.Proofs.Ytkpefnjohdjejaa
set_option maxRecDepth 100000
open Go.ChangeShapes Go.WideShapes Go.ChangeAt Go.RowKit

/-- a word's cell -/
def uv (x : Int) : Value := .int .u64 x
theorem cells_u64 : Try.prog.cellsOf 49 = 1 := by kernel_rfl

/-- a block that is known whole -/
def Whole (w : World) (g : Nat) (t : TypeId) (cs : Array Value) : Prop := w.heap[g]? = some (.cells cs t (0, 0))
theorem Whole.lt {w : World} {g : Nat} {t : TypeId} {cs : Array Value} (h : Whole w g t cs) : g < w.heap.size := (Array.getElem?_eq_some_iff.1 h).1
theorem Whole.at_ {w : World} {g : Nat} {t : TypeId} {cs : Array Value} (h : Whole w g t cs) (i : Nat) : w.cell? ⟨g, i, none⟩ = cs[i]? := cell_of_row w g i cs t (0, 0) h
theorem Whole.free {w : World} {g : Nat} {t : TypeId} {cs : Array Value} (h : Whole w g t cs) (i : Nat) : w.frozen? ⟨g, i, none⟩ = false := by
  have e : w.heap[g]? = some (.cells cs t (0, 0)) := h
  simp [World.frozen?, e]
theorem Whole.set_ {w : World} {g : Nat} {t : TypeId} {cs : Array Value} (h : Whole w g t cs) (i : Nat) (u : Value) : Whole (w.setCell ⟨g, i, none⟩ u) g t (cs.setIfInBounds i u) := by
  have e : w.heap[g]? = some (.cells cs t (0, 0)) := h
  unfold Whole
  simp [World.setCell, Array.getElem?_modify, e]
theorem Whole.grown {w w' : World} {g : Nat} {t : TypeId} {cs : Array Value} (h : Whole w g t cs) {row : Option Nat} (hg : w.grownBy w' row) (hne : some g ≠ row) : Whole w' g t cs := (hg.block g h.lt hne).trans h
theorem Whole.other {w : World} {g : Nat} {t : TypeId} {cs : Array Value} (h : Whole w g t cs) {p : Addr} (hp : g ≠ p.block) (u : Value) : Whole (w.setCell p u) g t cs := (Below.heap_setCell w p u g hp).trans h
theorem Whole.alloc {w : World} {g : Nat} {t : TypeId} {cs : Array Value} (h : Whole w g t cs) (o : Obj) : Whole (w.alloc o) g t cs := (Below.heap_alloc w o g h.lt).trans h

theorem below_drewN {B : Nat} {w w1 : World} (h : Below B w w1) (n : Nat) : Below B w (w1.drewN n) := h.trans ⟨rfl, rfl, rfl, Nat.le_refl _, fun _ _ => rfl⟩
theorem below_base {B : Nat} {w w1 w2 : World} (h : Below B w w1) (hB : B ≤ w1.heap.size) (h2 : Below w1.heap.size w1 w2) : Below B w w2 := h.trans (h2.mono hB)
theorem bal {w w1 : World} {o : Obj} (h : Below w.heap.size w w1) : Below w.heap.size w (w1.alloc o) := h.alloc h.size o
theorem cell_kept {w : World} {p : Addr} {u : Value} (h : w.cell? p = some u) (o : Obj) : (w.alloc o).cell? p = some u := (World.cell?_alloc_lt w o p (World.block_lt_of_cell? w _ h)).trans h
end Go.Proofs.Ytkpefnjohdjejaa

/-
  What a call changes of the blocks that were there; many cells stored into a block that is known whole.
-/
namespace Go.Proofs.Ytkpefnjohdjejaa
set_option maxRecDepth 100000
open Go.ChangeShapes Go.WideShapes Go.ChangeAt Go.RowKit

/-- of the blocks that were there none has turned but those of D -/
structure Chg (D : List Nat) (w w' : World) : Prop where
  os : w'.os = w.os
  tape : w'.tape = w.tape
  output : w'.output = w.output
  size : w.heap.size ≤ w'.heap.size
  block : ∀ k, k < w.heap.size → k ∉ D → w'.heap[k]? = w.heap[k]?
theorem Chg.refl (D : List Nat) (w : World) : Chg D w w := ⟨rfl, rfl, rfl, Nat.le_refl _, fun _ _ _ => rfl⟩
theorem Chg.trans {D : List Nat} {w w1 w2 : World} (h : Chg D w w1) (h2 : Chg D w1 w2) : Chg D w w2 :=
  ⟨h2.os.trans h.os, h2.tape.trans h.tape, h2.output.trans h.output, Nat.le_trans h.size h2.size, fun k hk hD => (h2.block k (Nat.lt_of_lt_of_le hk h.size) hD).trans (h.block k hk hD)⟩
theorem Chg.mono {D D' : List Nat} {w w1 : World} (h : Chg D w w1) (hD : ∀ k ∈ D, k ∈ D') : Chg D' w w1 := ⟨h.os, h.tape, h.output, h.size, fun k hk hn => h.block k hk fun hx => hn (hD k hx)⟩
theorem Chg.drewN {D : List Nat} {w w1 : World} (h : Chg D w w1) (n : Nat) : Chg D w (w1.drewN n) := ⟨h.os, h.tape, h.output, h.size, h.block⟩
theorem Chg.drew {D : List Nat} {w w1 : World} (h : Chg D w w1) : Chg D w w1.drew := ⟨h.os, h.tape, h.output, h.size, h.block⟩
theorem Chg.from_drew {D : List Nat} {w w1 : World} (h : Chg D w.drew w1) : Chg D w w1 := ⟨h.os, h.tape, h.output, h.size, h.block⟩
theorem Chg.from_drewN {D : List Nat} {w w1 : World} {n : Nat} (h : Chg D (w.drewN n) w1) : Chg D w w1 := ⟨h.os, h.tape, h.output, h.size, h.block⟩
theorem Chg.alloc {D : List Nat} {w w1 : World} (h : Chg D w w1) (o : Obj) : Chg D w (w1.alloc o) :=
  ⟨h.os, h.tape, h.output, Nat.le_trans h.size (by simp), fun k hk hn => (Below.heap_alloc w1 o k (Nat.lt_of_lt_of_le hk h.size)).trans (h.block k hk hn)⟩
theorem Chg.setCell {D : List Nat} {w w1 : World} (h : Chg D w w1) {p : Addr} (hp : p.block ∈ D ∨ w.heap.size ≤ p.block) (u : Value) : Chg D w (w1.setCell p u) :=
  ⟨h.os, h.tape, h.output, by simpa [World.setCell] using h.size, fun k hk hn => (Below.heap_setCell w1 p u k (by rcases hp with hp | hp; exact fun e => hn (e ▸ hp); omega)).trans (h.block k hk hn)⟩
theorem Chg.setCells {D : List Nat} {w : World} {b : Nat} (hp : b ∈ D ∨ w.heap.size ≤ b) : ∀ (vs : List Value) (o : Nat) (w1 : World), Chg D w w1 → Chg D w (w1.setCells b o vs)
  | [], _, _, h => h
  | v :: r, o, w1, h => by
    rw [World.setCells]
    exact Chg.setCells hp r (o + 1) _ (h.setCell (p := ⟨b, o, none⟩) hp v)
theorem Chg.setRow {D : List Nat} {w w1 : World} (h : Chg D w w1) {g : Nat} (hp : g ∈ D ∨ w.heap.size ≤ g) (c : Array Value) : Chg D w (w1.setRow g c) := by
  refine ⟨h.os, h.tape, h.output, by simpa using h.size, fun k hk hn => ?_⟩
  rw [setRow_other w1 g k c (by rcases hp with hp | hp; exact fun e => hn (e ▸ hp); omega)]
  exact h.block k hk hn
theorem Chg.of_below {w w1 : World} (h : Below w.heap.size w w1) (D : List Nat) : Chg D w w1 := ⟨h.os, h.tape, h.output, h.size, fun k hk _ => h.block k hk⟩
theorem Chg.below {D : List Nat} {B : Nat} {w0 w w1 : World} (h : Chg D w w1) (h0 : Below B w0 w) (hB : B ≤ w.heap.size) (hD : ∀ k ∈ D, B ≤ k) : Below B w0 w1 :=
  h0.trans ⟨h.os, h.tape, h.output, h.size, fun k hk => h.block k (Nat.lt_of_lt_of_le hk hB) fun hx => by have := hD k hx; omega⟩
theorem Chg.whole {D : List Nat} {w w1 : World} (h : Chg D w w1) {g : Nat} {t : TypeId} {cs : Array Value} (hw : Whole w g t cs) (hg : g ∉ D) : Whole w1 g t cs := (h.block g hw.lt hg).trans hw

/-- many cells stored into a block that is known whole -/
theorem Whole.setCells {g : Nat} {t : TypeId} : ∀ (vs : List Value) (o : Nat) (w : World) (cs : Array Value), Whole w g t cs →
    ∃ cs', Whole (w.setCells g o vs) g t cs' ∧ cs'.size = cs.size ∧ ∀ j, cs'[j]? = if o ≤ j ∧ j < o + vs.length ∧ j < cs.size then vs[j - o]? else cs[j]?
  | [], o, w, cs, h => ⟨cs, h, rfl, fun j => by rw [if_neg (by simp; omega)]⟩
  | v :: r, o, w, cs, h => by
    obtain ⟨cs', h1, h2, h3⟩ := Whole.setCells r (o + 1) _ _ (h.set_ o v)
    refine ⟨cs', by rw [World.setCells]; exact h1, h2.trans (by simp), fun j => ?_⟩
    rw [h3 j]
    simp only [Array.size_setIfInBounds, List.length_cons]
    by_cases hj : o = j
    · subst hj
      rw [if_neg (by omega)]
      by_cases hs : o < cs.size
      · rw [if_pos (by omega)]; simp [hs]
      · rw [if_neg (by omega), Array.getElem?_setIfInBounds]; simp [hs]
    · have e : (cs.setIfInBounds o v)[j]? = cs[j]? := by rw [Array.getElem?_setIfInBounds, if_neg hj]
      rw [e]
      by_cases hin : o + 1 ≤ j ∧ j < o + 1 + r.length ∧ j < cs.size
      · rw [if_pos hin, if_pos (by omega)]
        have : j - o = (j - (o + 1)) + 1 := by omega
        rw [this, List.getElem?_cons_succ]
      · rw [if_neg hin, if_neg (by omega)]
end Go.Proofs.Ytkpefnjohdjejaa

/-
  Slices of any type of elements, in any program: how they read, how they came in, those of a call's own, append onto them, stores into them.
-/
namespace Go.Proofs.Ytkpefnjohdjejaa
set_option maxRecDepth 100000
open Go.ChangeShapes Go.WideShapes Go.ChangeAt Go.RowKit

/-- a type of slices in a program: its elements as cells -/
structure Elm (P : Program) (α : Type) [Inhabited α] where
  t : TypeId
  e : TypeId
  size : Nat
  bytes : Nat
  z : Value
  enc : α → List Value
  ok : α → Prop
  ht : P.underlying t = some (.slice e)
  hi : (P.info? e).map (fun i => (i.zero, i.size, i.bytes)) = some (some z, size, bytes)
  hzs : z.cells.size = size
  pos : 0 < size
  bpos : 0 < bytes
  len : ∀ a, ok a → (enc a).length = size
  one : ∀ a, ok a → ∀ u ∈ enc a, u.oneCell' = true

section
variable {P : Program} {α : Type} [Inhabited α]

def AllOk (E : Elm P α) (l : List α) : Prop := ∀ x ∈ l, E.ok x
theorem AllOk.at_ {E : Elm P α} {l : List α} (h : AllOk E l) {k : Nat} (hk : k < l.length) : E.ok (l.getD k default) := h _ (by
  rw [List.getD_eq_getElem?_getD, List.getElem?_eq_getElem hk]; exact List.getElem_mem hk)
theorem flat_length (E : Elm P α) : ∀ (l : List α), AllOk E l → (l.flatMap E.enc).length = l.length * E.size
  | [], _ => by simp
  | x :: l, h => by
    rw [List.flatMap_cons, List.length_append, flat_length E l (fun y hy => h y (List.mem_cons_of_mem _ hy)), E.len x (h x (List.mem_cons_self ..)), List.length_cons, Nat.add_mul, Nat.one_mul, Nat.add_comm]
theorem flat_get (E : Elm P α) : ∀ (l : List α), AllOk E l → ∀ (k j : Nat), k < l.length → j < E.size → (l.flatMap E.enc)[k * E.size + j]? = (E.enc (l.getD k default))[j]?
  | [], _, k, _, hk, _ => by simp at hk
  | x :: l, h, 0, j, _, hj => by
    rw [List.flatMap_cons, Nat.zero_mul, Nat.zero_add, List.getElem?_append_left (by rw [E.len x (h x (List.mem_cons_self ..))]; exact hj)]
    rfl
  | x :: l, h, k + 1, j, hk, hj => by
    have hx := E.len x (h x (List.mem_cons_self ..))
    rw [List.flatMap_cons, List.getElem?_append_right (by rw [hx, Nat.add_mul]; omega), hx]
    have e : (k + 1) * E.size + j - E.size = k * E.size + j := by rw [Nat.add_mul]; omega
    rw [e, flat_get E l (fun y hy => h y (List.mem_cons_of_mem _ hy)) k j (by simpa using hk) hj]
    rfl
theorem flat_one (E : Elm P α) {l : List α} (h : AllOk E l) : ∀ u ∈ l.flatMap E.enc, u.oneCell' = true := by
  intro u hu
  obtain ⟨x, hx, hu⟩ := List.mem_flatMap.1 hu
  exact E.one x (h x hx) u hu
theorem flat_ext (E : Elm P α) {l : List α} (h : AllOk E l) {ys : List Value} (hl : ys.length = l.length * E.size) (hy : ∀ k j, k < l.length → j < E.size → ys[k * E.size + j]? = (E.enc (l.getD k default))[j]?) : ys = l.flatMap E.enc := by
  refine List.ext_getElem? fun q => ?_
  have hp := E.pos
  by_cases hq : q < l.length * E.size
  · have hk : q / E.size < l.length := Nat.div_lt_of_lt_mul (by rw [Nat.mul_comm]; exact hq)
    have hj := Nat.mod_lt q hp
    have e : q / E.size * E.size + q % E.size = q := Nat.div_add_mod' q E.size
    rw [← e, hy _ _ hk hj, flat_get E l h _ _ hk hj]
  · rw [List.getElem?_eq_none (by omega), List.getElem?_eq_none (by rw [flat_length E l h]; omega)]

/-- a slice that can be read: it holds l -/
def RA (E : Elm P α) (w : World) (v : Value) (l : List α) : Prop :=
  ∃ p cap, v = .slice p l.length cap ∧ l.length ≤ cap ∧ cap ≤ maxLen ∧ AllOk E l ∧ (l = [] ∨ ∃ b off, p = some ⟨b, off, none⟩ ∧ b < w.heap.size ∧ w.rangeAt b off (l.flatMap E.enc))
theorem ra_below {E : Elm P α} {w w' : World} {v : Value} {l : List α} (h : RA E w v l) (hb : Below w.heap.size w w') : RA E w' v l := by
  obtain ⟨p, cap, rfl, h1, h2, h3, h | ⟨b, off, rfl, hlt, hc⟩⟩ := h
  · exact ⟨p, cap, rfl, h1, h2, h3, .inl h⟩
  · exact ⟨_, cap, rfl, h1, h2, h3, .inr ⟨b, off, rfl, Nat.lt_of_lt_of_le hlt hb.size, fun j u hj => (hb.cell (p := ⟨b, off + j, none⟩) hlt).trans (hc j u hj)⟩⟩
theorem ra_chg {E : Elm P α} {D : List Nat} {w w' : World} {v : Value} {l : List α} (h : RA E w v l) (hc : Chg D w w') (hD : ∀ g, v.ownBlock = some g → g ∉ D) : RA E w' v l := by
  obtain ⟨p, cap, rfl, h1, h2, h3, h | ⟨b, off, rfl, hlt, hr⟩⟩ := h
  · exact ⟨p, cap, rfl, h1, h2, h3, .inl h⟩
  · refine ⟨_, cap, rfl, h1, h2, h3, .inr ⟨b, off, rfl, Nat.lt_of_lt_of_le hlt hc.size, fun j u hj => ?_⟩⟩
    have e := hc.block b hlt (hD b rfl)
    rw [← hr j u hj]
    simp only [World.cell?, e]
theorem ra_shape {E : Elm P α} {w : World} {v : Value} {l : List α} (h : RA E w v l) : ∃ p cap, v = .slice p l.length cap ∧ l.length ≤ cap ∧ cap ≤ maxLen := by
  obtain ⟨p, cap, e, h1, h2, _⟩ := h
  exact ⟨p, cap, e, h1, h2⟩
theorem ra_ok {E : Elm P α} {w : World} {v : Value} {l : List α} (h : RA E w v l) : AllOk E l := by obtain ⟨_, _, _, _, _, h, _⟩ := h; exact h
theorem ra_nil (E : Elm P α) (w : World) : RA E w (.slice none 0 0) [] := ⟨none, 0, rfl, Nat.le_refl _, Nat.zero_le _, (fun _ h => by cases h), .inl rfl⟩
/-- its k-th element -/
theorem ra_at {E : Elm P α} {w : World} {p : Option Addr} {n cap : Nat} {l : List α} (h : RA E w (.slice p n cap) l) (h0 : 0 < l.length) :
    ∃ b off, p = some ⟨b, off, none⟩ ∧ b < w.heap.size ∧ ∀ k, k < l.length → w.rangeAt b (off + k * E.size) (E.enc (l.getD k default)) := by
  obtain ⟨q, c, e, _, _, hok, rfl | ⟨b, off, rfl, hb, hr⟩⟩ := h
  · simp at h0
  · cases e
    refine ⟨b, off, rfl, hb, fun k hk j u hj => ?_⟩
    have hj' : j < E.size := by rw [← E.len _ (hok.at_ hk)]; exact (List.getElem?_eq_some_iff.1 hj).1
    have := hr (k * E.size + j) u (by rw [flat_get E l hok k j hk hj']; exact hj)
    rwa [← Nat.add_assoc] at this
/-- its head, its tail: a slice of it -/
theorem ra_take {E : Elm P α} {w : World} {p : Option Addr} {n cap : Nat} {l : List α} (h : RA E w (.slice p n cap) l) (k : Nat) : RA E w (.slice p (min k l.length) cap) (l.take k) := by
  obtain ⟨q, c, e, h1, h2, hok, hr⟩ := h
  cases e
  refine ⟨_, _, by rw [List.length_take], by rw [List.length_take]; omega, h2, fun x hx => hok x (List.mem_of_mem_take hx), ?_⟩
  rcases hr with rfl | ⟨b, off, rfl, hb, hr⟩
  · exact .inl (by simp)
  · refine .inr ⟨b, off, rfl, hb, fun j u hj => hr j u ?_⟩
    rw [← List.take_append_drop k l, List.flatMap_append]
    rw [List.getElem?_append_left (List.getElem?_eq_some_iff.1 hj).1]; exact hj

theorem ra_drop {E : Elm P α} {w : World} {b off n cap : Nat} {l : List α} (h : RA E w (.slice (some ⟨b, off, none⟩) n cap) l) {k : Nat} (hk : k < l.length) : RA E w (.slice (some ⟨b, off + k * E.size, none⟩) (n - k) (cap - k)) (l.drop k) := by
  obtain ⟨q, c, e, h1, h2, hok, hr⟩ := h
  cases e
  refine ⟨_, _, by rw [List.length_drop], by rw [List.length_drop]; omega, by omega, fun x hx => hok x (List.mem_of_mem_drop hx), ?_⟩
  rcases hr with rfl | ⟨b', off', e, hb, hr⟩
  · simp at hk
  · cases e
    refine .inr ⟨b, _, rfl, hb, fun j u hj => ?_⟩
    have hlen : (l.take k).length = k := by rw [List.length_take]; omega
    have := hr (k * E.size + j) u (by
      rw [← List.take_append_drop k l, List.flatMap_append]
      rw [List.getElem?_append_right (by rw [flat_length E _ (fun x hx => hok x (List.mem_of_mem_take hx)), hlen]; omega), flat_length E _ (fun x hx => hok x (List.mem_of_mem_take hx)), hlen, show k * E.size + j - k * E.size = j by omega]
      exact hj)
    rwa [← Nat.add_assoc] at this

/-- one that came in -/
theorem elems_in {H : Type} {enc : TypeId × Value → H} {W : World} {n0 : Nat} {sp : Nat → Bool} {held : Bool} {cs : List Value} {x : DataW H × List MemPlace} (E : Elm P α)
    (hf : DataW.trod enc P W 0 sp held n0 E.t cs = some x) (hin : ∀ (n : Nat) (c : List Value) y, DataW.trod enc P W 0 sp held n E.e c = some y → c.length = E.size → ∃ a, c = E.enc a ∧ E.ok a) :
    ∃ (v : Value) (l : List α), cs = [v] ∧ RA E W v l := by
  obtain ⟨i0, hi0, _, hs0, _⟩ := info_parts E.hi
  have hce : P.cellsOf E.e = E.size := by unfold Program.cellsOf; rw [hi0]; exact hs0
  rcases Go.Deep.open_slice E.ht hf with ⟨hcs, _⟩ | ⟨a, vl, vc, m, n, D, Pl, hcs, _, hl, hm, hmm, hdx, hx⟩
  · exact ⟨_, [], hcs, ra_nil E W⟩
  · have hle : vl ≤ m := by rw [hmm]; split <;> omega
    rw [hce] at hx
    have pick : ∀ i, ∃ c : α, i < vl → W.cells? 0 (a.add (i * E.size)) E.size = some (E.enc c) ∧ E.ok c := by
      intro i
      by_cases hi : i < vl
      · obtain ⟨cs', h1, h2⟩ := hx i (by omega)
        obtain ⟨c, rfl, hw⟩ := hin _ _ _ h2 (World.cells?_some h1).2.1
        exact ⟨c, fun _ => ⟨h1, hw⟩⟩
      · exact ⟨default, fun h => absurd h hi⟩
    obtain ⟨f, hfp⟩ := Classical.axiomOfChoice pick
    have hgd : ∀ k, k < vl → ((List.range vl).map f).getD k default = f k := fun k hk => by simp [hk]
    have hok : AllOk E ((List.range vl).map f) := fun y hy => by
      obtain ⟨i, hi, rfl⟩ := List.mem_map.1 hy
      exact (hfp i (List.mem_range.1 hi)).2
    by_cases h0 : vl = 0
    · subst h0
      exact ⟨_, [], hcs, some a, vc, rfl, Nat.zero_le _, hm, (fun _ h => by cases h), .inl rfl⟩
    · obtain ⟨b, off, spot⟩ := a
      have hpos := E.pos
      have e0 := (World.cells?_some (hfp 0 (by omega)).1).2.2 0 hpos
      rw [List.getElem?_eq_getElem (by rw [E.len _ (hfp 0 (by omega)).2]; exact hpos)] at e0
      have hspot : spot = none := by
        have := World.cell?_spot e0
        simpa [Addr.add] using this
      subst hspot
      refine ⟨_, (List.range vl).map f, hcs, _, vc, by simp, by simpa using hl, hm, hok, .inr ⟨b, off, rfl, ?_, fun q u hq => ?_⟩⟩
      · simpa [Addr.add] using World.block_lt_of_cell? W _ e0
      · have hql : q < vl * E.size := by
          have := (List.getElem?_eq_some_iff.1 hq).1
          rw [flat_length E _ hok] at this
          simpa using this
        have hk : q / E.size < vl := Nat.div_lt_of_lt_mul (by rw [Nat.mul_comm]; exact hql)
        have hj := Nat.mod_lt q hpos
        have e : q / E.size * E.size + q % E.size = q := Nat.div_add_mod' q E.size
        rw [← e, flat_get E _ hok _ _ (by simpa using hk) hj, hgd _ hk] at hq
        obtain ⟨_, _, hcell⟩ := World.cells?_some (hfp _ hk).1
        have := hcell _ hj
        rw [hq, add_plain, add_plain] at this
        rw [← e, ← Nat.add_assoc]; exact this

/-- of a call's own -/
def OwnA (E : Elm P α) (B : Nat) (w : World) (v : Value) (l : List α) : Prop := w.ownsRow B E.e E.size v l.length (l.flatMap E.enc) ∧ AllOk E l
theorem OwnA.ra {E : Elm P α} {B : Nat} {w : World} {v : Value} {l : List α} (h : OwnA E B w v l) : RA E w v l := by
  obtain ⟨h, hok⟩ := h
  have h' := h
  obtain ⟨_, ⟨rfl, h0⟩ | ⟨g, cap, cur, rfl, _, hg, h1, h2, _⟩⟩ := h
  · rw [List.eq_nil_of_length_eq_zero h0]; exact ra_nil E w
  · refine ⟨_, cap, rfl, h1, h2, hok, .inr ⟨g, 0, rfl, (Array.getElem?_eq_some_iff.1 hg).1, fun j u hj => ?_⟩⟩
    have := h'.cells (g := g) rfl j u hj
    have e : (⟨g, 0, none⟩ : Addr).add j = ⟨g, 0 + j, none⟩ := Go.WideShapes.add_plain ..
    rw [e] at this; exact this
theorem OwnA.shape {E : Elm P α} {B : Nat} {w : World} {v : Value} {l : List α} (h : OwnA E B w v l) : ∃ p c, v = .slice p l.length c ∧ l.length ≤ c ∧ c ≤ maxLen := ra_shape h.ra
theorem OwnA.block {E : Elm P α} {B : Nat} {w : World} {v : Value} {l : List α} (h : OwnA E B w v l) (h0 : 0 < l.length) : ∃ g c, v = .slice (some ⟨g, 0, none⟩) l.length c ∧ B ≤ g ∧ g < w.heap.size ∧ l.length ≤ c ∧ c ≤ maxLen := by
  obtain ⟨⟨_, ⟨rfl, h1⟩ | ⟨g, cap, cur, rfl, hb, hg, h1, h2, _⟩⟩, _⟩ := h
  · omega
  · exact ⟨g, cap, rfl, hb, (Array.getElem?_eq_some_iff.1 hg).1, h1, h2⟩
theorem OwnA.below {E : Elm P α} {B : Nat} {w w' : World} {v : Value} {l : List α} (h : OwnA E B w v l) (hb : Below w.heap.size w w') : OwnA E B w' v l := by
  refine ⟨⟨h.1.1, h.1.2.imp id ?_⟩, h.2⟩
  rintro ⟨g, cap, cur, hv, h1, hg, r⟩
  exact ⟨g, cap, cur, hv, h1, (hb.block g (Array.getElem?_eq_some_iff.1 hg).1).trans hg, r⟩
theorem OwnA.chg {E : Elm P α} {D : List Nat} {B : Nat} {w w' : World} {v : Value} {l : List α} (h : OwnA E B w v l) (hc : Chg D w w') (hD : ∀ g, v.ownBlock = some g → g ∉ D) : OwnA E B w' v l := by
  refine ⟨⟨h.1.1, h.1.2.imp id ?_⟩, h.2⟩
  rintro ⟨g, cap, cur, hv, h1, hg, r⟩
  subst hv
  exact ⟨g, cap, cur, rfl, h1, (hc.block g (Array.getElem?_eq_some_iff.1 hg).1 (hD g rfl)).trans hg, r⟩
theorem OwnA.mono {E : Elm P α} {B B' : Nat} {w : World} {v : Value} {l : List α} (h : OwnA E B w v l) (hb : B' ≤ B) : OwnA E B' w v l :=
  ⟨⟨h.1.1, h.1.2.imp id fun ⟨g, cap, cur, hv, hg, r⟩ => ⟨g, cap, cur, hv, Nat.le_trans hb hg, r⟩⟩, h.2⟩
theorem own_nil_a (E : Elm P α) (B : Nat) (w : World) : OwnA E B w (.slice none 0 0) [] := ⟨World.ownsRow_nil _ _ _ _, fun _ h => by cases h⟩
theorem own_lit_a (E : Elm P α) (w : World) {l : List α} (hok : AllOk E l) (hl : l.length ≤ maxLen) : OwnA E w.heap.size (w.alloc (.cells (l.flatMap E.enc).toArray E.e)) (.slice (some ⟨w.heap.size, 0, none⟩) l.length l.length) l := by
  have h := World.ownsRow_lit (e := E.e) (size := E.size) (base := w.heap.size) w (l.flatMap E.enc).toArray l.length (Nat.le_refl _) hl (by simpa using flat_length E l hok)
  exact ⟨by simpa using h, hok⟩
theorem made_flat (E : Elm P α) {n : Nat} {x : α} (hx : E.ok x) (hz : E.enc x = E.z.cells.toList) : (madeCells E.z.cells (n * E.size)).toList = (List.replicate n x).flatMap E.enc := by
  have hok : AllOk E (List.replicate n x) := fun y hy => by rw [(List.mem_replicate.1 hy).2]; exact hx
  refine flat_ext E hok (by simp [madeCells]) fun k j hk hj => ?_
  have hk' : k < n := by simpa using hk
  have hlt : k * E.size + j < n * E.size := by
    have : (k + 1) * E.size ≤ n * E.size := Nat.mul_le_mul_right _ hk'
    rw [Nat.add_mul] at this; omega
  have em : (k * E.size + j) % E.size = j := by rw [Nat.add_comm, Nat.add_mul_mod_self_right]; exact Nat.mod_eq_of_lt hj
  have hjz : j < E.z.cells.size := by rw [E.hzs]; exact hj
  have eg : (List.replicate n x).getD k default = x := by simp [hk']
  rw [eg, hz, Array.getElem?_toList, Array.getElem?_toList, madeCells]
  rw [Array.getElem?_map, Array.getElem?_range, if_pos hlt, Option.map_some, E.hzs, em]
  rw [getElem!_pos E.z.cells j hjz, Array.getElem?_eq_getElem hjz]
theorem own_made_a (E : Elm P α) (w : World) (n : Nat) (hn : n ≤ maxLen) {x : α} (hx : E.ok x) (hz : E.enc x = E.z.cells.toList) : OwnA E w.heap.size (w.alloc (.cells (madeCells E.z.cells (n * E.size)) E.e)) (.slice (some ⟨w.heap.size, 0, none⟩) n n) (List.replicate n x) := by
  have hok : AllOk E (List.replicate n x) := fun y hy => by rw [(List.mem_replicate.1 hy).2]; exact hx
  have e := made_flat E (n := n) hx hz
  refine ⟨⟨flat_length E _ hok, .inr ⟨w.heap.size, n, _, by simp, Nat.le_refl _, heap_alloc_new w _, by simp, hn, size_madeCells _ _, ?_⟩⟩, hok⟩
  rw [List.length_replicate, ← e, List.take_of_length_le (by rw [Array.length_toList, size_madeCells]; exact Nat.le_refl _)]

/-- a cell of an element stored -/
theorem OwnA.setCell {E : Elm P α} {B g n c : Nat} {w : World} {l : List α} (h : OwnA E B w (.slice (some ⟨g, 0, none⟩) n c) l) {k j : Nat} {x : α} {u : Value} (hk : k < l.length) (hj : j < E.size) (hx : E.ok x) (he : E.enc x = (E.enc (l.getD k default)).set j u) :
    OwnA E B (w.setCell ⟨g, k * E.size + j, none⟩ u) (.slice (some ⟨g, 0, none⟩) n c) (l.set k x) := by
  have hn : n = l.length := by
    obtain ⟨p, c', e, _⟩ := h.shape
    cases e; rfl
  subst hn
  have hs := (World.ownsRow.stored (g := g) (cap := c) h.1 (k * E.size + j) u).1
  have hok : AllOk E (l.set k x) := fun y hy => by
    rcases List.mem_or_eq_of_mem_set hy with hy | rfl
    · exact h.2 y hy
    · exact hx
  have e : (l.flatMap E.enc).set (k * E.size + j) u = (l.set k x).flatMap E.enc := by
    refine flat_ext E hok (by rw [List.length_set, List.length_set]; exact flat_length E l h.2) fun k' j' hk' hj' => ?_
    rw [List.length_set] at hk'
    rw [List.getElem?_set, flat_get E l h.2 _ _ hk' hj', flat_length E l h.2]
    have hlt : k * E.size + j < l.length * E.size := by
      have : (k + 1) * E.size ≤ l.length * E.size := Nat.mul_le_mul_right _ hk
      rw [Nat.add_mul] at this; omega
    by_cases hkk : k = k'
    · subst hkk
      have eg : (l.set k x).getD k default = x := by simp [hk]
      rw [eg, he, List.getElem?_set, E.len _ (h.2.at_ hk)]
      by_cases hjj : j = j'
      · subst hjj; rw [if_pos rfl, if_pos rfl, if_pos hlt, if_pos hj]
      · rw [if_neg (by omega), if_neg hjj]
    · have eg : (l.set k x).getD k' default = l.getD k' default := by simp [hkk]
      rw [eg, if_neg fun q => hkk ?_]
      have a := congrArg (· / E.size) q
      rw [Nat.mul_comm k, Nat.mul_comm k', Nat.mul_add_div E.pos, Nat.mul_add_div E.pos, Nat.div_eq_of_lt hj, Nat.div_eq_of_lt hj'] at a
      omega
  exact ⟨by rw [List.length_set, ← e]; exact hs, hok⟩
/-- a whole element stored -/
theorem OwnA.setElem {E : Elm P α} {B g n c : Nat} {w : World} {l : List α} (h : OwnA E B w (.slice (some ⟨g, 0, none⟩) n c) l) {k : Nat} {x : α} (hk : k < l.length) (hx : E.ok x) :
    OwnA E B (w.setCells g (k * E.size) (E.enc x)) (.slice (some ⟨g, 0, none⟩) n c) (l.set k x) := by
  have hok : AllOk E (l.set k x) := fun y hy => by
    rcases List.mem_or_eq_of_mem_set hy with hy | rfl
    · exact h.2 y hy
    · exact hx
  obtain ⟨⟨hl, h0 | ⟨g', cap, cur, e, hb, hg, hnc, hcm, hsz, htk⟩⟩, hal⟩ := h
  · cases h0.1
  cases e
  have hl2 := E.len x hx
  obtain ⟨cur', w1, w2, w3⟩ := Whole.setCells (E.enc x) (k * E.size) w cur (show Whole w g E.e cur from hg)
  have hlt : (k + 1) * E.size ≤ l.length * E.size := Nat.mul_le_mul_right _ hk
  have hcap : l.length * E.size ≤ c * E.size := Nat.mul_le_mul_right _ hnc
  have hcur : cur'.toList.length = c * E.size := by rw [Array.length_toList, w2, hsz]
  rw [Nat.add_mul] at hlt
  refine ⟨⟨by rw [flat_length E _ hok], .inr ⟨g, c, cur', by rw [List.length_set], hb, w1, by rw [List.length_set]; exact hnc, hcm, by rw [w2]; exact hsz, ?_⟩⟩, hok⟩
  rw [List.length_set]
  refine flat_ext E hok (by rw [List.length_take, hcur, List.length_set]; omega) fun k' j' hk' hj' => ?_
  rw [List.length_set] at hk'
  have hlt' : (k' + 1) * E.size ≤ l.length * E.size := Nat.mul_le_mul_right _ hk'
  rw [Nat.add_mul] at hlt'
  rw [List.getElem?_take, if_pos (by omega), Array.getElem?_toList, w3, hl2]
  by_cases hkk : k = k'
  · subst hkk
    rw [if_pos (by omega)]
    have eg : (l.set k x).getD k default = x := by simp [hk]
    rw [eg, show k * E.size + j' - k * E.size = j' by omega]
  · have eg : (l.set k x).getD k' default = l.getD k' default := by simp [hkk]
    have hap : ¬ (k * E.size ≤ k' * E.size + j' ∧ k' * E.size + j' < k * E.size + E.size ∧ k' * E.size + j' < cur.size) := by
      intro q
      rcases Nat.lt_or_gt_of_ne hkk with h1 | h1
      · have : (k + 1) * E.size ≤ k' * E.size := Nat.mul_le_mul_right _ h1
        rw [Nat.add_mul] at this; omega
      · have : (k' + 1) * E.size ≤ k * E.size := Nat.mul_le_mul_right _ h1
        rw [Nat.add_mul] at this; omega
    rw [if_neg hap, eg, ← flat_get E l hal _ _ hk' hj', ← htk, List.getElem?_take, if_pos (by omega), Array.getElem?_toList]
theorem OwnA.free {E : Elm P α} {B g n c : Nat} {w : World} {l : List α} (h : OwnA E B w (.slice (some ⟨g, 0, none⟩) n c) l) (j : Nat) : w.frozen? ⟨g, j, none⟩ = false := by
  have hn : n = l.length := by
    obtain ⟨p, c', e, _⟩ := h.shape
    cases e; rfl
  subst hn
  exact World.ownsRow.frozenAt (g := g) (cap := c) h.1 j

/-- append -/
theorem run_app_nil {P : Program} (w : World) (base : Nat) (t ty e : TypeId) (i : TypeInfo) (size : Nat) (ht : P.underlying t = some (.slice e)) (hi : P.info? e = some i)
    (v : Value) (n : Nat) (xs : List Value) (hown : w.ownsRow base e size v n xs) (c : Nat) : (Builtin.append_ #[t, t] ty #[v, .slice none 0 c]).run P w = .ok v w := by
  obtain ⟨_, ⟨rfl, rfl⟩ | ⟨g, cap, cur, rfl, _, _, hc, _⟩⟩ := hown <;> simp [Builtin.append_, run_underlying ht, sizeOf, typeInfo, Builtin.lenOf, Builtin.firstCells, storeCells, *]
theorem run_app (E : Elm P α) (B : Nat) (v : Value) (l : List α) (w : World) (hown : OwnA E B w v l) (u : Value) (r : List α) (hr : RA E w u r) (hlen : (l.length + r.length) * E.bytes ≤ 140737488355328) (hB : B ≤ w.heap.size) (ty : TypeId) :
    ∃ v' w', (Builtin.append_ #[E.t, E.t] ty #[v, u]).run P w = .ok v' w' ∧ OwnA E B w' v' (l ++ r) ∧ w.grownBy w' v.ownBlock ∧ (v'.ownBlock = v.ownBlock ∨ v'.ownBlock = some w.heap.size) := by
  obtain ⟨i0, hi, hz0, hz1, hz2⟩ := info_parts E.hi
  obtain ⟨A, c, rfl, h1, h2, hok, h3⟩ := hr
  have hok2 : AllOk E (l ++ r) := fun x hx => (List.mem_append.1 hx).elim (hown.2 x) (hok x)
  have fin : ∀ w' v', w'.ownsRow B E.e E.size v' (l.length + r.length) (l.flatMap E.enc ++ r.flatMap E.enc) → OwnA E B w' v' (l ++ r) := fun w' v' h =>
    ⟨by rw [List.length_append, List.flatMap_append]; exact h, hok2⟩
  cases A with
  | none =>
    have hr0 : r = [] := by
      rcases h3 with h3 | ⟨b, off, h, _⟩
      · exact h3
      · cases h
    subst hr0
    exact ⟨v, w, run_app_nil w B _ ty _ i0 E.size E.ht hi v _ _ hown.1 c, by simpa using hown, World.grownBy.refl w _, .inl rfl⟩
  | some ad =>
    have hc : ∀ j u, (r.flatMap E.enc)[j]? = some u → w.cell? (ad.add j) = some u := by
      intro j u hu
      rcases h3 with h3 | ⟨b, off, h, _, hc⟩
      · subst h3; simp at hu
      · cases h
        have e : (⟨b, off, none⟩ : Addr).add j = ⟨b, off + j, none⟩ := Go.WideShapes.add_plain ..
        rw [e]; exact hc j u hu
    have hbb : l.length + r.length ≤ (l.length + r.length) * E.bytes := Nat.le_mul_of_pos_right _ E.bpos
    obtain ⟨v', w', hrun, g1, g2, _, g4⟩ := run_append_own_at (P := P) w B E.t ty E.e i0 E.z E.size E.bytes E.ht hi hz0 hz1 hz2 E.hzs E.pos v l.length (l.flatMap E.enc) hown.1 ad r.length c (r.flatMap E.enc) (flat_length E r hok) hc (flat_one E hok) (by unfold maxLen; omega) hlen hB
    exact ⟨v', w', hrun, fin _ _ g1, g2, g4⟩
variable {ops : Array Oper} {rest : List Oper} {o : Oper} {a : Act} {w : World} {Q : Exit → Act → World → Prop} {K : Act → World → Prop}
theorem wp_app (E : Elm P α) (s x : Operand) (ho : o.op = .call { callee := .builtin .append, args := #[s, x], argTypes := #[E.t, E.t] }) (B : Nat) (v : Value) (l : List α) (hs : a.eval s = v) (hown : OwnA E B w v l)
    (u : Value) (r : List α) (hx : a.eval x = u) (hr : RA E w u r) (hlen : (l.length + r.length) * E.bytes ≤ 140737488355328) (hB : B ≤ w.heap.size)
    (h : ∀ v' w', OwnA E B w' v' (l ++ r) → w.grownBy w' v.ownBlock → (v'.ownBlock = v.ownBlock ∨ v'.ownBlock = some w.heap.size) → K (a.put o.dst v') w') : o.wp P a w K Q := by
  obtain ⟨v', w', hrun, h2, h3, h4⟩ := run_app E B v l w hown u r hr hlen hB o.type
  unfold Oper.wp execOp
  simp only [ho, resolve, invoke, builtin, Sem.run_bind, Sem.run_pure, Result.andThen_ok, List.map_toArray, List.map_cons, List.map_nil, hs, hx, hrun]
  exact h v' w' h2 h3 h4
theorem list_app (E : Elm P α) (hgd : o.guard = none) (s x : Operand) (ho : o.op = .call { callee := .builtin .append, args := #[s, x], argTypes := #[E.t, E.t] }) (B : Nat) (v : Value) (l : List α) (hs : a.eval s = v) (hown : OwnA E B w v l)
    (u : Value) (r : List α) (hx : a.eval x = u) (hr : RA E w u r) (hlen : (l.length + r.length) * E.bytes ≤ 140737488355328) (hB : B ≤ w.heap.size)
    (h : ∀ v' w', OwnA E B w' v' (l ++ r) → w.grownBy w' v.ownBlock → (v'.ownBlock = v.ownBlock ∨ v'.ownBlock = some w.heap.size) → wpList P ops Q rest (a.put o.dst v') w') : wpList P ops Q (o :: rest) a w :=
  wpList_plain hgd fun _ hK => wp_app E s x ho B v l hs hown u r hx hr hlen hB fun v' w' h2 h3 h4 => hK _ _ (h v' w' h2 h3 h4)
theorem step_app (E : Elm P α) {F : Prop} (hgd : o.guard = none) (s x : Operand) (ho : o.op = .call { callee := .builtin .append, args := #[s, x], argTypes := #[E.t, E.t] }) (B : Nat) (v : Value) (l : List α) (hs : a.eval s = v) (hown : OwnA E B w v l)
    (u : Value) (r : List α) (hx : a.eval x = u) (hr : RA E w u r) (hlen : (l.length + r.length) * E.bytes ≤ 140737488355328) (hB : B ≤ w.heap.size)
    (h : ∀ v' w', OwnA E B w' v' (l ++ r) → w.grownBy w' v.ownBlock → (v'.ownBlock = v.ownBlock ∨ v'.ownBlock = some w.heap.size) → K (a.put o.dst v') w') : if Region.wanted o (yielded ops a.tmps) = true then o.wp P a w K Q else F := by
  rw [if_pos (by simp [Region.wanted, hgd])]
  exact wp_app E s x ho B v l hs hown u r hx hr hlen hB h
theorem OwnA.kept {E : Elm P α} {B : Nat} {w w' : World} {v : Value} {l : List α} {row : Option Nat} (h : OwnA E B w v l) (hg : w.grownBy w' row) (hne : v.ownBlock = none ∨ v.ownBlock ≠ row) : OwnA E B w' v l := ⟨h.1.kept hg hne, h.2⟩
theorem OwnA.lt {E : Elm P α} {B : Nat} {w : World} {v : Value} {l : List α} (h : OwnA E B w v l) : ∀ k, v.ownBlock = some k → B ≤ k ∧ k < w.heap.size := World.ownsRow.lt h.1
theorem OwnA.drew {E : Elm P α} {B : Nat} {w : World} {v : Value} {l : List α} (h : OwnA E B w v l) : OwnA E B w.drew v l := h
theorem OwnA.alloc {E : Elm P α} {B : Nat} {w : World} {v : Value} {l : List α} (h : OwnA E B w v l) (o : Obj) : OwnA E B (w.alloc o) v l := ⟨h.1.alloc o, h.2⟩
theorem below_app {E : Elm P α} {B : Nat} {w w1 w2 : World} {v : Value} {l : List α} (h : Below B w w1) (hB : B ≤ w1.heap.size) (ho : OwnA E B w1 v l) (hg : w1.grownBy w2 v.ownBlock) : Below B w w2 := h.grown hg hB (fun k hk => (ho.lt k hk).1)

/-- slices in a slice -/
def RAs (E : Elm P α) (R : Elm P Value) (w : World) (v : Value) (l : List (List α)) : Prop := ∃ vs, RA R w v vs ∧ vs.length = l.length ∧ ∀ k, k < l.length → RA E w (vs.getD k default) (l.getD k [])
theorem ras_below {E : Elm P α} {R : Elm P Value} {w w' : World} {v : Value} {l : List (List α)} (h : RAs E R w v l) (hb : Below w.heap.size w w') : RAs E R w' v l := by
  obtain ⟨vs, h1, h2, h3⟩ := h
  exact ⟨vs, ra_below h1 hb, h2, fun k hk => ra_below (h3 k hk) hb⟩
theorem ras_shape {E : Elm P α} {R : Elm P Value} {w : World} {v : Value} {l : List (List α)} (h : RAs E R w v l) : ∃ p cap, v = .slice p l.length cap ∧ l.length ≤ cap ∧ cap ≤ maxLen := by
  obtain ⟨vs, h1, h2, _⟩ := h
  rw [← h2]; exact ra_shape h1
/-- its k-th -/
theorem ras_at {E : Elm P α} {R : Elm P Value} {w : World} {p : Option Addr} {n cap : Nat} {l : List (List α)} (hR : R.enc = fun v => [v]) (hs : R.size = 1) (h : RAs E R w (.slice p n cap) l) (h0 : 0 < l.length) :
    ∃ b off, p = some ⟨b, off, none⟩ ∧ b < w.heap.size ∧ ∀ k, k < l.length → ∃ u, w.cell? ⟨b, off + k, none⟩ = some u ∧ RA E w u (l.getD k []) := by
  obtain ⟨vs, h1, h2, h3⟩ := h
  obtain ⟨b, off, rfl, hb, hr⟩ := ra_at h1 (by omega)
  refine ⟨b, off, rfl, hb, fun k hk => ⟨_, ?_, h3 k hk⟩⟩
  have := hr k (by omega) 0 (vs.getD k default) (by rw [hR]; rfl)
  rw [hs, Nat.mul_one, Nat.add_zero] at this
  exact this
theorem rows_in {H : Type} {enc : TypeId × Value → H} {W : World} {n0 : Nat} {sp : Nat → Bool} {held : Bool} {cs : List Value} {x : DataW H × List MemPlace} (E : Elm P α) (R : Elm P Value) (hR : R.enc = fun v => [v]) (hs : R.size = 1) (hok : ∀ v, v.oneCell' = true → R.ok v) (he : R.e = E.t)
    (hf : DataW.trod enc P W 0 sp held n0 R.t cs = some x) (hin : ∀ (n : Nat) (c : List Value) y, DataW.trod enc P W 0 sp held n E.e c = some y → c.length = E.size → ∃ a, c = E.enc a ∧ E.ok a) :
    ∃ (v : Value) (l : List (List α)), cs = [v] ∧ RAs E R W v l := by
  let R' : Elm P (Value × List α) := { t := R.t, e := R.e, size := R.size, bytes := R.bytes, z := R.z, enc := fun x => [x.1], ok := fun x => x.1.oneCell' = true ∧ RA E W x.1 x.2, ht := R.ht, hi := R.hi, hzs := R.hzs, pos := R.pos, bpos := R.bpos, len := fun a _ => by rw [hs]; rfl, one := fun a h u hu => by rw [List.mem_singleton.1 hu]; exact h.1 }
  obtain ⟨v, ls, e, p, cap, ev, h1, h2, h3, h4⟩ := elems_in R' hf (fun n c y hy hl => by
    have hy' : DataW.trod enc P W 0 sp held n E.t c = some y := by rw [← he]; exact hy
    obtain ⟨u, l, e, hr⟩ := elems_in E hy' hin
    obtain ⟨q, k, eu, _⟩ := ra_shape hr
    exact ⟨(u, l), e, by rw [eu]; rfl, hr⟩)
  have hmem : ∀ k, k < ls.length → ls.getD k default ∈ ls := fun k hk => by
    rw [List.getD_eq_getElem?_getD, List.getElem?_eq_getElem hk]; exact List.getElem_mem hk
  refine ⟨v, ls.map (·.2), e, ls.map (·.1), ⟨p, cap, by rw [List.length_map]; exact ev, by rw [List.length_map]; exact h1, h2, fun y hy => ?_, ?_⟩, by simp, fun k hk => ?_⟩
  · obtain ⟨z, hz, rfl⟩ := List.mem_map.1 hy
    exact hok _ (h3 z hz).1
  · rcases h4 with rfl | ⟨b, off, rfl, hb, hr⟩
    · exact .inl rfl
    · refine .inr ⟨b, off, rfl, hb, ?_⟩
      have ef : (ls.map (·.1)).flatMap R.enc = ls.flatMap R'.enc := by rw [hR, List.flatMap_map]
      rw [ef]; exact hr
  · have hk' : k < ls.length := by simpa using hk
    have a := (h3 _ (hmem k hk')).2
    have e1 : (ls.map (·.1)).getD k default = (ls.getD k default).1 := by simp [hk']
    have e2 : (ls.map (·.2)).getD k [] = (ls.getD k default).2 := by simp [hk']
    rw [e1, e2]; exact a
/-- how long one that came in can be -/
theorem slice_sized {H : Type} {enc : TypeId × Value → H} {W : World} {sp : Nat → Bool} {held : Bool} {t e : TypeId} {q : Option Addr} {n cap : Nat} {d : DataW H} {p : List MemPlace} {ts : List TypeId} {ds : List (DataW H)} {j : Nat}
    (ht : P.underlying t = some (.slice e)) (h : DataW.Trod enc P W 0 sp held t (.slice q n cap) d p) (htj : ts[j]? = some t) (hd : ds[j]? = some d) (hsz : (DataW.weightsEach P ts ds).all (· ≤ reachBytes) = true) : n * P.bytesOf e ≤ reachBytes := by
  obtain ⟨fuel, hf⟩ := h
  rcases Go.Deep.open_slice ht hf with ⟨hcs, _⟩ | ⟨a, vl, vc, m, k, D, Pl, hcs, _, _, _, _, hdx, _⟩
  · simp [Value.cells] at hcs
    rw [hcs.2.1, Nat.zero_mul]; exact Nat.zero_le _
  · simp [Value.cells] at hcs
    obtain ⟨_, rfl, _⟩ := hcs
    have hdd := (Prod.mk.inj hdx).1
    subst hdd
    have := sized_slice hsz htj hd ht
    simp only [List.length_map, List.length_range] at this
    exact Nat.le_trans (Nat.mul_le_mul_right _ (Nat.le_add_right _ _)) this
end
end Go.Proofs.Ytkpefnjohdjejaa

/-
  A block (api.Block), by value, in a variable, in a slice: how it came in, how it reads, how it is built, whether two are the same.
-/
namespace Go.Proofs.Ytkpefnjohdjejaa
set_option maxRecDepth 100000
open Go.ChangeShapes Go.WideShapes Go.ChangeAt Go.RowKit

def Bk.cells (b : Bk) : List Value := [.int .i64 b.a, .int .i64 b.s, .bool b.u]
def bc (b : Bk) : Array Value := b.cells.toArray
structure Bk.Wf (b : Bk) : Prop where
  wa : (Lit.int .i64 b.a).wf = true
  ws : (Lit.int .i64 b.s).wf = true
theorem Bk.wf_of {b : Bk} (h1 : -9223372036854775808 ≤ b.a) (h2 : b.a ≤ 9223372036854775807) (h3 : -9223372036854775808 ≤ b.s) (h4 : b.s ≤ 9223372036854775807) : b.Wf := ⟨i64_of h1 h2, i64_of h3 h4⟩

theorem cells_block : Try.prog.cellsOf 72 = 3 := by kernel_rfl
theorem cells_int_b : Try.prog.cellsOf 3 = 1 := by kernel_rfl
theorem cells_bool_b : Try.prog.cellsOf 4 = 1 := by kernel_rfl
theorem info_block : (Try.prog.info? 72).map (·.size) = some 3 := by kernel_rfl
theorem trod_three {H : Type} {enc : TypeId × Value → H} {P : Program} {w : World} {base : Nat} {spare : Nat → Bool} {held : Bool} {t : TypeId} {f0 f1 f2 : Field} {fuel : Nat} {cs : List Value} {x : DataW H × List MemPlace}
    (ht : P.underlying t = some (.struct #[f0, f1, f2])) (h : DataW.trod enc P w base spare held fuel t cs = some x) :
    ∃ y0 y1 y2 n, cs.length = P.cellsOf t ∧ DataW.trod enc P w base spare held n f0.type ((cs.drop f0.offset).take (P.cellsOf f0.type)) = some y0 ∧
      DataW.trod enc P w base spare held n f1.type ((cs.drop f1.offset).take (P.cellsOf f1.type)) = some y1 ∧ DataW.trod enc P w base spare held n f2.type ((cs.drop f2.offset).take (P.cellsOf f2.type)) = some y2 := by
  obtain ⟨xs, n, _, rfl, hl, hlen, hf⟩ := DataW.trod_struct ht h
  match xs, hlen with
  | [y0, y1, y2], _ => exact ⟨y0, y1, y2, n, hl, by simpa using hf 0 f0 rfl, by simpa using hf 1 f1 rfl, by simpa using hf 2 f2 rfl⟩
/-- its cells that read -/
theorem block_cells {H : Type} {enc : TypeId × Value → H} {W : World} {base n : Nat} {sp : Nat → Bool} {held : Bool} {cs : List Value} {y : DataW H × List MemPlace}
    (h : DataW.trod enc Try.prog W base sp held n 72 cs = some y) : ∃ c : Bk, cs = c.cells ∧ c.Wf := by
  obtain ⟨y0, y1, y2, k, hl, g0, g1, g2⟩ := trod_three Try.underlying72 h
  rw [cells_block] at hl
  dsimp only at g0 g1 g2
  rw [cells_int_b] at g0 g1
  rw [cells_bool_b] at g2
  obtain ⟨i, e0, _, w0⟩ := DataW.trod_int Try.underlying3 g0
  obtain ⟨s, e1, _, w1⟩ := DataW.trod_int Try.underlying3 g1
  obtain ⟨u, e2, _⟩ := DataW.trod_bool Try.underlying4 g2
  refine ⟨⟨i, s, u⟩, ?_, ⟨w0, w1⟩⟩
  match cs, hl with
  | [c0, c1, c2], _ =>
    simp at e0 e1 e2
    simp [Bk.cells, e0, e1, e2]

/-- slices of them -/
def blkE : Elm Try.prog Bk where
  t := 45
  e := 72
  size := 3
  bytes := 24
  z := .agg #[.int .i64 0, .int .i64 0, .bool false]
  enc := Bk.cells
  ok := Bk.Wf
  ht := Try.underlying45
  hi := by kernel_rfl
  hzs := rfl
  pos := by decide
  bpos := by decide
  len := fun _ _ => rfl
  one := fun a _ u hu => by
    simp only [Bk.cells, List.mem_cons, List.not_mem_nil, or_false] at hu
    rcases hu with rfl | rfl | rfl <;> rfl
theorem blocks_in {H : Type} {enc : TypeId × Value → H} {W : World} {base : Nat} {v : Value} {d : DataW H} {p : List MemPlace}
    (hval : Value.okWide Try.prog W .any base 45 v) (h : DataW.Trod enc Try.prog W 0 (fun _ => true) true 45 v d p) : ∃ l : List Bk, RA blkE W v l := by
  obtain ⟨va, vl, vc, rfl⟩ := okWide_slice Try.underlying45 hval
  obtain ⟨fuel, hf⟩ := h
  obtain ⟨u, l, e, hr⟩ := elems_in blkE hf (fun _ _ _ hy _ => block_cells hy)
  have e' : Value.slice va vl vc = u := by simpa [Value.cells] using e
  exact ⟨l, by rw [e']; exact hr⟩

@[go_sem] theorem bc_ne (b : Bk) : (bc b = #[]) = False := by simp [bc, Bk.cells]
theorem bc_one (b : Bk) : (bc b).all (·.oneCell') = true := by simp [bc, Bk.cells, Value.oneCell']
theorem bc_size (b : Bk) : (bc b).size = 3 := rfl
/-- block g holds it -/
def Bv (w : World) (g : Nat) (b : Bk) : Prop := Whole w g 72 (bc b)
section
variable {w w' : World} {g : Nat} {b : Bk}
theorem Bv.lt (h : Bv w g b) : g < w.heap.size := Whole.lt h
theorem Bv.below (h : Bv w g b) (hb : Below w.heap.size w w') : Bv w' g b := (hb.block g (Whole.lt h)).trans h
theorem Bv.chg {D : List Nat} (h : Bv w g b) (hb : Chg D w w') (hg : g ∉ D) : Bv w' g b := hb.whole h hg
theorem Bv.new (w : World) (b : Bk) : Bv (w.alloc (.cells (bc b) 72)) w.heap.size b := heap_alloc_new w _
theorem Bv.alloc (h : Bv w g b) (o : Obj) : Bv (w.alloc o) g b := Whole.alloc h o
theorem Bv.c0 (h : Bv w g b) : w.cell? ⟨g, 0, none⟩ = some (.int .i64 b.a) := Whole.at_ h 0
theorem Bv.c1 (h : Bv w g b) : w.cell? ⟨g, 1, none⟩ = some (.int .i64 b.s) := Whole.at_ h 1
theorem Bv.c2 (h : Bv w g b) : w.cell? ⟨g, 2, none⟩ = some (.bool b.u) := Whole.at_ h 2
end
/-- a whole one loaded, stored -/
def blkLoad (p : Value) : Sem Value := Instr.loadAt 72 p
def blkStore (p v : Value) : Sem Unit := Instr.storeAt 72 p v
@[go_sem ↓] theorem loadAt_blk (p : Value) : Instr.loadAt 72 p = blkLoad p := rfl
@[go_sem ↓] theorem storeAt_blk (p v : Value) : Instr.storeAt 72 p v = blkStore p v := rfl
theorem run_blkLoad {w : World} {b o : Nat} {c : Bk} (h : w.rangeAt b o c.cells) : (blkLoad (.pointer (some ⟨b, o, none⟩))).run Try.prog w = .ok (.agg (bc c)) w :=
  run_loadAt_mid (P := Try.prog) w b o 72 c.cells _ h Try.underlying72 rfl info_block
theorem Bv.load {w : World} {g : Nat} {b : Bk} (h : Bv w g b) : (blkLoad (.pointer (some ⟨g, 0, none⟩))).run Try.prog w = .ok (.agg (bc b)) w :=
  run_blkLoad fun j u hj => by rw [Whole.at_ h, Nat.zero_add, ← hj]; simp [bc]
theorem run_blkStore (w : World) {z : Array Value} (hz : z.size = 3) (c : Bk) :
    (blkStore (.pointer (some ⟨w.heap.size, 0, none⟩)) (.agg (bc c))).run Try.prog (w.alloc (.cells z 72)) = .ok () (w.alloc (.cells (bc c) 72)) := by
  unfold blkStore
  simp only [Instr.storeAt, Instr.sureAddr, Sem.run_bind, Sem.run_pure, Result.andThen]
  rw [run_storeVar_row _ _ 72 72 z (bc c) (heap_alloc_new w _) (by rw [info_block, bc_size]) (by rw [hz, bc_size]) (bc_one c), World.setRow_alloc_new]
@[go_sem] theorem blk_store_new (w : World) (c : Bk) :
    (blkStore (.pointer (some ⟨w.heap.size, 0, none⟩)) (.agg (bc c))).run Try.prog (w.alloc (.cells #[.int .i64 0, .int .i64 0, .bool false] 72)) = .ok () (w.alloc (.cells (bc c) 72)) :=
  run_blkStore w rfl c
/-- the k-th of a slice: loaded whole; its parts -/
theorem blk_at {w : World} {p : Option Addr} {n cap : Nat} {l : List Bk} (h : RA blkE w (.slice p n cap) l) (h0 : 0 < l.length) :
    ∃ b off, p = some ⟨b, off, none⟩ ∧ b < w.heap.size ∧ ∀ k, k < l.length → (blkLoad (.pointer (some ⟨b, off + k * 3, none⟩))).run Try.prog w = .ok (.agg (bc (l.getD k default))) w ∧
      w.cell? ⟨b, off + k * 3, none⟩ = some (.int .i64 (l.getD k default).a) ∧ w.cell? ⟨b, off + k * 3 + 1, none⟩ = some (.int .i64 (l.getD k default).s) ∧ w.cell? ⟨b, off + k * 3 + 2, none⟩ = some (.bool (l.getD k default).u) ∧ (l.getD k default).Wf := by
  obtain ⟨b, off, e, hb, hr⟩ := ra_at h h0
  refine ⟨b, off, e, hb, fun k hk => ?_⟩
  have hk2 := hr k hk
  exact ⟨run_blkLoad hk2, hk2 0 _ rfl, hk2 1 _ rfl, hk2 2 _ rfl, (ra_ok h).at_ hk⟩
theorem blk_boxed (w : World) (c : Bk) : ∃ W, w.alloc (.cells (bc c) 72) = W ∧ Hid (Bv W w.heap.size c ∧ Below w.heap.size w W) :=
  ⟨_, rfl, Lib.hid ⟨Bv.new w c, bal (Below.refl _ _)⟩⟩
/-- built -/
theorem built_blk3 (a s : Int) (u : Bool) : Try.prog.built 72 [(0, .int .i64 a), (1, .int .i64 s), (2, .bool u)] = some (bc ⟨a, s, u⟩) := by kernel_rfl
theorem built_blk1 (s : Int) : Try.prog.built 72 [(1, .int .i64 s)] = some (bc ⟨0, s, false⟩) := by kernel_rfl
def blkBuild (ps : Array (Nat × Value)) : Sem Value := Instr.build 72 ps
@[go_sem ↓] theorem build_blk (ps : Array (Nat × Value)) : Instr.build 72 ps = blkBuild ps := rfl
@[go_sem] theorem run_blkBuild3 (w : World) (a s : Int) (u : Bool) : (blkBuild #[(0, .int .i64 a), (1, .int .i64 s), (2, .bool u)]).run Try.prog w = .ok (.agg (bc ⟨a, s, u⟩)) w := run_build w _ _ _ (built_blk3 a s u)
@[go_sem] theorem run_blkBuild1 (w : World) (s : Int) : (blkBuild #[(1, .int .i64 s)]).run Try.prog w = .ok (.agg (bc ⟨0, s, false⟩)) w := run_build w _ _ _ (built_blk1 s)
theorem built_blk2 (a s : Int) : Try.prog.built 72 [(0, .int .i64 a), (1, .int .i64 s)] = some (bc ⟨a, s, false⟩) := by kernel_rfl
@[go_sem] theorem run_blkBuild2 (w : World) (a s : Int) : (blkBuild #[(0, .int .i64 a), (1, .int .i64 s)]).run Try.prog w = .ok (.agg (bc ⟨a, s, false⟩)) w := run_build w _ _ _ (built_blk2 a s)
theorem built_blks2 (w : World) (a s a' s' : Int) (u u' : Bool) : (Instr.buildSlice 45 2 #[(0, .agg #[.int .i64 a, .int .i64 s, .bool u]), (1, .agg #[.int .i64 a', .int .i64 s', .bool u'])]).run Try.prog w = .ok (.slice (some ⟨w.heap.size, 0, none⟩) 2 2) (w.alloc (.cells #[.int .i64 a, .int .i64 s, .bool u, .int .i64 a', .int .i64 s', .bool u'] 72)) := by
  unfold Instr.buildSlice
  simp [run_underlying Try.underlying45, Instr.fill, go_sem]
theorem built_blks0 (w : World) : (Instr.buildSlice 45 0 #[]).run Try.prog w = .ok (.slice (some ⟨w.heap.size, 0, none⟩) 0 0) (w.alloc (.cells #[] 72)) := by
  simp [Instr.buildSlice, run_underlying Try.underlying45, Instr.fill, go_sem]
theorem built_blks1 (w : World) (a s : Int) (u : Bool) : (Instr.buildSlice 45 1 #[(0, .agg #[.int .i64 a, .int .i64 s, .bool u])]).run Try.prog w = .ok (.slice (some ⟨w.heap.size, 0, none⟩) 1 1) (w.alloc (.cells #[.int .i64 a, .int .i64 s, .bool u] 72)) := by
  simp [Instr.buildSlice, run_underlying Try.underlying45, Instr.fill, go_sem]
def blkSlice (n : Nat) (ps : Array (Nat × Value)) : Sem Value := Instr.buildSlice 45 n ps
@[go_sem ↓] theorem slice_blk (n : Nat) (ps : Array (Nat × Value)) : Instr.buildSlice 45 n ps = blkSlice n ps := rfl
@[go_sem] theorem run_blkSlice0 (w : World) : (blkSlice 0 #[]).run Try.prog w = .ok (.slice (some ⟨w.heap.size, 0, none⟩) 0 0) (w.alloc (.cells #[] 72)) := built_blks0 w
@[go_sem] theorem run_blkSlice1 (w : World) (c : Bk) : (blkSlice 1 #[(0, .agg (bc c))]).run Try.prog w = .ok (.slice (some ⟨w.heap.size, 0, none⟩) 1 1) (w.alloc (.cells (bc c) 72)) := built_blks1 w c.a c.s c.u
theorem blk_one (w : World) {c : Bk} (h : c.Wf) : OwnA blkE w.heap.size (w.alloc (.cells (bc c) 72)) (.slice (some ⟨w.heap.size, 0, none⟩) 1 1) [c] := by
  have := own_lit_a blkE w (l := [c]) (fun x hx => by rw [List.mem_singleton.1 hx]; exact h) (by unfold maxLen; simp)
  simpa [blkE, bc] using this
def bc2 (x y : Bk) : Array Value := #[.int .i64 x.a, .int .i64 x.s, .bool x.u, .int .i64 y.a, .int .i64 y.s, .bool y.u]
@[go_sem] theorem run_blkSlice2 (w : World) (x y : Bk) : (blkSlice 2 #[(0, .agg (bc x)), (1, .agg (bc y))]).run Try.prog w = .ok (.slice (some ⟨w.heap.size, 0, none⟩) 2 2) (w.alloc (.cells (bc2 x y) 72)) := built_blks2 w x.a x.s y.a y.s x.u y.u
theorem blk_two (w : World) {x y : Bk} (hx : x.Wf) (hy : y.Wf) : OwnA blkE w.heap.size (w.alloc (.cells (bc2 x y) 72)) (.slice (some ⟨w.heap.size, 0, none⟩) 2 2) [x, y] := by
  have := own_lit_a blkE w (l := [x, y]) (fun z hz => by
    simp only [List.mem_cons, List.not_mem_nil, or_false] at hz
    rcases hz with rfl | rfl
    · exact hx
    · exact hy) (by unfold maxLen; simp)
  exact this
theorem blk_none (w : World) : OwnA blkE w.heap.size (w.alloc (.cells #[] 72)) (.slice (some ⟨w.heap.size, 0, none⟩) 0 0) [] := by
  have := own_lit_a blkE w (l := []) (fun x hx => by cases hx) (Nat.zero_le _)
  simpa [blkE] using this
/-- whether two are the same -/
def eqB (x y : Bk) : Bool := x.a == y.a && (x.s == y.s && x.u == y.u)
theorem eqB_self (x : Bk) : eqB x x = true := by simp [eqB]
theorem eqB_iff {x y : Bk} : eqB x y = true ↔ x = y := by
  obtain ⟨a, s, u⟩ := x
  obtain ⟨a', s', u'⟩ := y
  simp [eqB]
theorem fields_blk : Try.prog.underlying 72 = some (.struct (Try.prog.fieldsOf 72)) := by kernel_rfl
theorem stood_blk : Try.prog.stoodInHeld 72 = false := by kernel_rfl
theorem part_i (w : World) (b : Bk) : (part 3 (bc b) 0).run Try.prog w = .ok (.int .i64 b.a) w ∧ (part 3 (bc b) 1).run Try.prog w = .ok (.int .i64 b.s) w ∧ (part 4 (bc b) 2).run Try.prog w = .ok (.bool b.u) w := by
  refine ⟨?_, ?_, ?_⟩ <;> simp [part, isAgg, run_underlying Try.underlying3, run_underlying Try.underlying4, bc, Bk.cells]
@[go_sem high] theorem run_eqB (w : World) (x y : Bk) : (Op.equalIn 10000 72 (.agg (bc x)) (.agg (bc y))).run Try.prog w = .ok (eqB x y) w := by
  obtain ⟨p0, p1, p2⟩ := part_i w x
  obtain ⟨q0, q1, q2⟩ := part_i w y
  have a0 := run_equalIn_int (P := Try.prog) w 9998 3 .i64 .i64 x.a y.a Try.underlying3
  have a1 := run_equalIn_int (P := Try.prog) w 9998 3 .i64 .i64 x.s y.s Try.underlying3
  have a2 := run_equalIn_bool (P := Try.prog) w 9998 4 x.u y.u Try.underlying4
  rw [run_equalIn_struct w 9999 72 (bc x) (bc y) fields_blk stood_blk, Program.fieldsOf, Try.underlying72]
  simp only [Op.eqFields, Sem.run_bind, Sem.run_ite, p0, p1, p2, q0, q1, q2, a0, a1, a2, Result.andThen_ok, Sem.run_pure]
  unfold eqB
  cases (x.a == y.a) <;> cases (x.s == y.s) <;> cases (x.u == y.u) <;> simp
section
variable {ops : Array Oper} {rest : List Oper} {o : Oper} {a : Act} {w : World} {Q : Exit → Act → World → Prop}
theorem app_blk (hgd : o.guard = none) (s x : Operand) (ho : o.op = .call { callee := .builtin .append, args := #[s, x], argTypes := #[45, 45] }) (B : Nat) (v : Value) (l : List Bk) (hs : a.eval s = v) (hown : OwnA blkE B w v l)
    (u : Value) (r : List Bk) (hx : a.eval x = u) (hr : RA blkE w u r) (hlen : Hid (l.length + r.length ≤ 2000)) (hB : B ≤ w.heap.size)
    (h : ∀ v' w', OwnA blkE B w' v' (l ++ r) → w.grownBy w' v.ownBlock → (v'.ownBlock = v.ownBlock ∨ v'.ownBlock = some w.heap.size) → wpList Try.prog ops Q rest (a.put o.dst v') w') : wpList Try.prog ops Q (o :: rest) a w :=
  list_app blkE hgd s x ho B v l hs hown u r hx hr (by have := hlen.out; show _ * 24 ≤ _; omega) hB h
end
end Go.Proofs.Ytkpefnjohdjejaa

/-
  Contracts of package chain, and of the reference's of the same: which blocks may be.
-/
namespace Go.Proofs.Ytkpefnjohdjejaa
set_option maxRecDepth 100000
open Go.RowKit

theorem mayw_is (n : Int) (w : World) : Calls Try.prog 62 #[.int .i64 n] w fun e w' => e = .returned (.bool (decide (Mw n))) ∧ w = w' := by
  by_cases h1 : n ≥ 8
  · by_cases h2 : n ≤ 512
    · have h3 : n.tmod 8 = n % 8 := Int.tmod_eq_emod_of_nonneg (by omega)
      by_cases h4 : n % 8 = 0
      · rw [h4] at h3
        rw [decide_eq_true (show Mw n from ⟨h1, h2, h4⟩)]
        clear h4
        go_enter Try.func62, Try.ntmps62
        go_wp2_with fail
        go_ret
        exact ⟨rfl, rfl⟩
      · have h6 : (n % 8 == 0) = false := beq_eq_false_iff_ne.2 h4
        rw [decide_eq_false (show ¬ Mw n from fun h => h4 h.2.2)]
        go_enter Try.func62, Try.ntmps62
        go_wp2_with fail
        go_ret
        exact ⟨rfl, rfl⟩
    · rw [decide_eq_false (show ¬ Mw n from fun h => h2 h.2.1)]
      go_enter Try.func62, Try.ntmps62
      go_wp2_with fail
      go_ret
      exact ⟨rfl, rfl⟩
  · rw [decide_eq_false (show ¬ Mw n from fun h => h1 h.1)]
    go_enter Try.func62, Try.ntmps62
    go_wp2_with fail
    go_ret
    exact ⟨rfl, rfl⟩
theorem rmayw_is (n : Int) (w : World) : Calls Try.prog 18 #[.int .i64 n] w fun e w' => e = .returned (.bool (decide (Mw n))) ∧ w = w' := by
  by_cases h1 : n ≥ 8
  · by_cases h2 : n ≤ 512
    · have h3 : n.tmod 8 = n % 8 := Int.tmod_eq_emod_of_nonneg (by omega)
      by_cases h4 : n % 8 = 0
      · rw [h4] at h3
        rw [decide_eq_true (show Mw n from ⟨h1, h2, h4⟩)]
        clear h4
        go_enter Try.func18, Try.ntmps18
        go_wp2_with fail
        go_ret
        exact ⟨rfl, rfl⟩
      · have h6 : (n % 8 == 0) = false := beq_eq_false_iff_ne.2 h4
        rw [decide_eq_false (show ¬ Mw n from fun h => h4 h.2.2)]
        go_enter Try.func18, Try.ntmps18
        go_wp2_with fail
        go_ret
        exact ⟨rfl, rfl⟩
    · rw [decide_eq_false (show ¬ Mw n from fun h => h2 h.2.1)]
      go_enter Try.func18, Try.ntmps18
      go_wp2_with fail
      go_ret
      exact ⟨rfl, rfl⟩
  · rw [decide_eq_false (show ¬ Mw n from fun h => h1 h.1)]
    go_enter Try.func18, Try.ntmps18
    go_wp2_with fail
    go_ret
    exact ⟨rfl, rfl⟩

end Go.Proofs.Ytkpefnjohdjejaa

/-
  Contracts of package chain, and of the reference's of the same: how much is free.
-/
namespace Go.Proofs.Ytkpefnjohdjejaa
set_option maxRecDepth 100000
open Go.RowKit

def allB (l : List Bk) : Bool := l.all fun b => decide (MayB b.s)
theorem okL_is (l : List Bk) : okL l = (decide (l.length ≤ 512) && allB l) := rfl
theorem allB_cons (b : Bk) (r : List Bk) : allB (b :: r) = (decide (MayB b.s) && allB r) := rfl
theorem allB_at {l : List Bk} (h : allB l = true) {k : Nat} (hk : k < l.length) : MayB (l.getD k default).s := by
  have := List.all_eq_true.1 h (l.getD k default) (by rw [List.getD_eq_getElem?_getD, List.getElem?_eq_getElem hk]; exact List.getElem_mem hk)
  exact of_decide_eq_true this



theorem frL_no {l : List Bk} (h : okL l = false) : frL l = 0 := by rw [frL, h]; rfl
theorem frL_yes {l : List Bk} (h : okL l = true) : frL l = frS l := if_pos h
theorem moL_no {l : List Bk} (h : okL l = false) : moL l = 0 := by rw [moL, h]; rfl
theorem moL_yes {l : List Bk} (h : okL l = true) : moL l = moS 0 l := if_pos h


end Go.Proofs.Ytkpefnjohdjejaa

/-
  Slices of ints: how they read, how they came in, those of a call's own; append onto them. (The part of Mem and App that is about ints.)
-/
namespace Go.Proofs.Ytkpefnjohdjejaa
set_option maxRecDepth 100000
open Go.ChangeShapes Go.WideShapes Go.ChangeAt Go.RowKit

def iv (x : Int) : Value := .int .i64 x
/-- a slice of ints that can be read: it holds l -/
def RI (w : World) (v : Value) (l : List Int) : Prop :=
  ∃ p cap, v = .slice p l.length cap ∧ l.length ≤ cap ∧ cap ≤ maxLen ∧ (l = [] ∨ ∃ b off, p = some ⟨b, off, none⟩ ∧ ∀ i, i < l.length → w.cell? ⟨b, off + i, none⟩ = some (.int .i64 (l.getD i 0)))
theorem ri_same {w w' : World} {v : Value} {l : List Int} (h : RI w v l) (hb : ∀ p : Addr, p.block < w.heap.size → w'.cell? p = w.cell? p) : RI w' v l := by
  obtain ⟨p, cap, rfl, h1, h2, h | ⟨b, off, rfl, hc⟩⟩ := h
  · exact ⟨p, cap, rfl, h1, h2, .inl h⟩
  · refine ⟨_, cap, rfl, h1, h2, .inr ⟨b, off, rfl, fun i hi => ?_⟩⟩
    have := hc i hi
    rw [hb _ (World.block_lt_of_cell? w _ this)]; exact this
theorem ri_below {w w' : World} {v : Value} {l : List Int} (h : RI w v l) (hb : Below w.heap.size w w') : RI w' v l := ri_same h fun _ hp => hb.cell hp
theorem ri_in {w : World} {v : Value} {l : List Int} (h : IntsIn .i64 w v l) : RI w v l := by
  obtain ⟨p, cap, rfl, h1, h2, _, ⟨rfl, _⟩ | ⟨b, off, rfl, _, hc⟩⟩ := h
  · exact ⟨p, cap, rfl, h1, h2, .inl rfl⟩
  · exact ⟨_, cap, rfl, h1, h2, .inr ⟨b, off, rfl, hc⟩⟩
theorem in_wf {w : World} {v : Value} {l : List Int} (h : IntsIn .i64 w v l) : ∀ n ∈ l, (Lit.int .i64 n).wf = true := by
  obtain ⟨p, cap, rfl, h1, h2, h3, _⟩ := h; exact h3
theorem ri_nil (w : World) : RI w (.slice none 0 0) [] := ⟨none, 0, rfl, Nat.le_refl _, Nat.zero_le _, .inl rfl⟩
theorem ri_some {w : World} {p : Option Addr} {n cap : Nat} {l : List Int} (h : RI w (.slice p n cap) l) (h0 : 0 < l.length) : ∃ b off, p = some ⟨b, off, none⟩ ∧ b < w.heap.size ∧ ∀ i, i < l.length → w.cell? ⟨b, off + i, none⟩ = some (.int .i64 (l.getD i 0)) := by
  obtain ⟨p', cap', e, _, _, h | ⟨b, off, rfl, hc⟩⟩ := h
  · subst h; cases h0
  · cases e; exact ⟨b, off, rfl, World.block_lt_of_cell? w _ (hc 0 h0), hc⟩
/-- a slice of ints of a call's own -/
def OwnI (B : Nat) (w : World) (v : Value) (l : List Int) : Prop := w.ownsRow B 3 1 v l.length (l.map iv)
theorem OwnI.ri {B : Nat} {w : World} {v : Value} {l : List Int} (h : OwnI B w v l) : RI w v l := by
  have h' : w.ownsRow B 3 1 v l.length (l.map iv) := h
  obtain ⟨_, ⟨rfl, h0⟩ | ⟨g, cap, cur, rfl, _, _, h1, h2, _⟩⟩ := h
  · rw [List.eq_nil_of_length_eq_zero h0]; exact ri_nil w
  · refine ⟨_, cap, rfl, h1, h2, .inr ⟨g, 0, rfl, fun i hi => ?_⟩⟩
    have := h'.cells (g := g) rfl i (iv (l.getD i 0)) (by simp [hi])
    have e : (⟨g, 0, none⟩ : Addr).add i = ⟨g, 0 + i, none⟩ := Go.WideShapes.add_plain ..
    rw [e] at this; exact this
theorem OwnI.shape {B : Nat} {w : World} {v : Value} {l : List Int} (h : OwnI B w v l) : ∃ p c, v = .slice p l.length c := by
  obtain ⟨p, c, h, _⟩ := h.ri; exact ⟨p, c, h⟩
theorem OwnI.mono {B B' : Nat} {w : World} {v : Value} {l : List Int} (h : OwnI B w v l) (hb : B' ≤ B) : OwnI B' w v l :=
  ⟨h.1, h.2.imp id fun ⟨g, cap, cur, hv, hg, r⟩ => ⟨g, cap, cur, hv, Nat.le_trans hb hg, r⟩⟩
theorem OwnI.far {B : Nat} {w : World} {v : Value} {l : List Int} (h : OwnI B w v l) {p : Addr} (hp : p.block < B) (u : Value) : OwnI B (w.setCell p u) v l := ownsRow_setCell_below h hp u
theorem info_int : (Try.prog.info? 3).map (fun i => (i.zero, i.size, i.bytes)) = some (some (.int .i64 0), 1, 8) := by kernel_rfl
theorem cells_int : Try.prog.cellsOf 3 = 1 := by kernel_rfl

theorem iv_one (l : List Int) : ∀ u ∈ l.map iv, u.oneCell' = true := by
  intro u hu; obtain ⟨x, _, rfl⟩ := List.mem_map.1 hu; rfl
/-- nothing behind it -/
theorem run_app_none {P : Program} (w : World) (base : Nat) (t ty e : TypeId) (i : TypeInfo) (size : Nat) (ht : P.underlying t = some (.slice e)) (hi : P.info? e = some i)
    (v : Value) (n : Nat) (xs : List Value) (hown : w.ownsRow base e size v n xs) (c : Nat) : (Builtin.append_ #[t, t] ty #[v, .slice none 0 c]).run P w = .ok v w := by
  obtain ⟨_, ⟨rfl, rfl⟩ | ⟨g, cap, cur, rfl, _, _, hc, _⟩⟩ := hown <;> simp [Builtin.append_, run_underlying ht, sizeOf, typeInfo, Builtin.lenOf, Builtin.firstCells, storeCells, *]
theorem run_app_int (B : Nat) (v : Value) (l : List Int) (w : World) (hown : OwnI B w v l) (u : Value) (r : List Int) (hr : RI w u r) (hlen : l.length + r.length ≤ 1000000) (hB : B ≤ w.heap.size) (ty : TypeId) :
    ∃ v' w', (Builtin.append_ #[66, 66] ty #[v, u]).run Try.prog w = .ok v' w' ∧ OwnI B w' v' (l ++ r) ∧ w.grownBy w' v.ownBlock ∧ (v'.ownBlock = v.ownBlock ∨ v'.ownBlock = some w.heap.size) := by
  obtain ⟨i0, hi, hz0, hz1, hz2⟩ := info_parts info_int
  obtain ⟨A, c, rfl, h1, h2, h3⟩ := hr
  have fin : ∀ w' v', w'.ownsRow B 3 1 v' (l.length + r.length) (l.map iv ++ r.map iv) → OwnI B w' v' (l ++ r) := fun w' v' h => by
    unfold OwnI; rw [List.length_append, List.map_append]; exact h
  cases A with
  | none =>
    have hr0 : r = [] := by
      rcases h3 with h3 | ⟨b, off, h, _⟩
      · exact h3
      · cases h
    subst hr0
    exact ⟨v, w, run_app_none w B _ ty _ i0 1 Try.underlying66 hi v _ _ hown c, by simpa using hown, World.grownBy.refl w _, .inl rfl⟩
  | some ad =>
    have hc : ∀ j u, (r.map iv)[j]? = some u → w.cell? (ad.add j) = some u := by
      intro j u hu
      rcases h3 with h3 | ⟨b, off, h, hc⟩
      · subst h3; simp at hu
      · cases h
        have hj : j < r.length := by have := (List.getElem?_eq_some_iff.1 hu).1; simpa using this
        have e : (⟨b, off, none⟩ : Addr).add j = ⟨b, off + j, none⟩ := Go.WideShapes.add_plain ..
        rw [e, hc j hj]
        simp [hj] at hu
        rw [← hu]; simp [iv, hj]
    obtain ⟨v', w', hrun, g1, g2, _, g4⟩ := run_append_own_at (P := Try.prog) w B 66 ty 3 i0 (.int .i64 0) 1 8 Try.underlying66 hi hz0 hz1 hz2 rfl (by decide) v l.length (l.map iv) hown ad r.length c (r.map iv) (by simp) hc (iv_one r) (by unfold maxLen; omega) (by omega) hB
    exact ⟨v', w', hrun, fin _ _ g1, g2, g4⟩
section
variable {ops : Array Oper} {rest : List Oper} {o : Oper} {a : Act} {w : World} {Q : Exit → Act → World → Prop} {K : Act → World → Prop}
theorem wp_app_int (s x : Operand) (ho : o.op = .call { callee := .builtin .append, args := #[s, x], argTypes := #[66, 66] }) (B : Nat) (v : Value) (l : List Int) (hs : a.eval s = v) (hown : OwnI B w v l)
    (u : Value) (r : List Int) (hx : a.eval x = u) (hr : RI w u r) (hlen : l.length + r.length ≤ 1000000) (hB : B ≤ w.heap.size)
    (h : ∀ v' w', OwnI B w' v' (l ++ r) → w.grownBy w' v.ownBlock → (v'.ownBlock = v.ownBlock ∨ v'.ownBlock = some w.heap.size) → K (a.put o.dst v') w') : o.wp Try.prog a w K Q := by
  obtain ⟨v', w', hrun, h2, h3, h4⟩ := run_app_int B v l w hown u r hr hlen hB o.type
  unfold Oper.wp execOp
  simp only [ho, resolve, invoke, builtin, Sem.run_bind, Sem.run_pure, Result.andThen_ok, List.map_toArray, List.map_cons, List.map_nil, hs, hx, hrun]
  exact h v' w' h2 h3 h4
theorem list_app_int (hgd : o.guard = none) (s x : Operand) (ho : o.op = .call { callee := .builtin .append, args := #[s, x], argTypes := #[66, 66] }) (B : Nat) (v : Value) (l : List Int) (hs : a.eval s = v) (hown : OwnI B w v l)
    (u : Value) (r : List Int) (hx : a.eval x = u) (hr : RI w u r) (hlen : l.length + r.length ≤ 1000000) (hB : B ≤ w.heap.size)
    (h : ∀ v' w', OwnI B w' v' (l ++ r) → w.grownBy w' v.ownBlock → (v'.ownBlock = v.ownBlock ∨ v'.ownBlock = some w.heap.size) → wpList Try.prog ops Q rest (a.put o.dst v') w') : wpList Try.prog ops Q (o :: rest) a w :=
  wpList_plain hgd fun _ hK => wp_app_int s x ho B v l hs hown u r hx hr hlen hB fun v' w' h2 h3 h4 => hK _ _ (h v' w' h2 h3 h4)
theorem step_app_int {E : Prop} (hgd : o.guard = none) (s x : Operand) (ho : o.op = .call { callee := .builtin .append, args := #[s, x], argTypes := #[66, 66] }) (B : Nat) (v : Value) (l : List Int) (hs : a.eval s = v) (hown : OwnI B w v l)
    (u : Value) (r : List Int) (hx : a.eval x = u) (hr : RI w u r) (hlen : l.length + r.length ≤ 1000000) (hB : B ≤ w.heap.size)
    (h : ∀ v' w', OwnI B w' v' (l ++ r) → w.grownBy w' v.ownBlock → (v'.ownBlock = v.ownBlock ∨ v'.ownBlock = some w.heap.size) → K (a.put o.dst v') w') : if Region.wanted o (yielded ops a.tmps) = true then o.wp Try.prog a w K Q else E := by
  rw [if_pos (by simp [Region.wanted, hgd])]
  exact wp_app_int s x ho B v l hs hown u r hx hr hlen hB h
end
theorem own_lit (w : World) (l : List Int) (hl : l.length ≤ maxLen) : OwnI w.heap.size (w.alloc (.cells (l.map iv).toArray 3)) (.slice (some ⟨w.heap.size, 0, none⟩) l.length l.length) l := by
  have h := World.ownsRow_lit (e := 3) (size := 1) (base := w.heap.size) w (l.map iv).toArray l.length (Nat.le_refl _) hl (by simp)
  simpa [OwnI] using h
theorem ri_one (w : World) (x : Int) : RI (w.alloc (.cells #[.int .i64 x] 3)) (.slice (some ⟨w.heap.size, 0, none⟩) 1 1) [x] := (own_lit w [x] (by unfold maxLen; simp)).ri
end Go.Proofs.Ytkpefnjohdjejaa

/-
  Contracts of package fit: how many words bytes need, what is taken, how often a page was written, which of two is ahead.
-/
namespace Go.Proofs.Ytkpefnjohdjejaa
set_option maxRecDepth 100000
open Go.RowKit

theorem need_is (n : Int) (w : World) : Calls Try.prog 40 #[.int .i64 n] w fun e w' => e = .returned (.int .i64 (needN n)) ∧ w = w' := by
  by_cases h1 : n < 1
  · rw [needN, if_neg (by omega)]
    go_enter Try.func40, Try.ntmps40
    go_wp2_with fail
    go_ret
    exact ⟨rfl, rfl⟩
  · by_cases h2 : n > 448
    · rw [needN, if_neg (by omega)]
      go_enter Try.func40, Try.ntmps40
      go_wp2_with fail
      go_ret
      exact ⟨rfl, rfl⟩
    · rw [needN, if_pos (by omega)]
      obtain ⟨k, rfl⟩ : ∃ k : Nat, n = k := ⟨n.toNat, by omega⟩
      have j1 : IntKind.i64.wrap ((k : Int) + 8) = ((k + 8 : Nat) : Int) := by rw [show (k : Int) + 8 = ((k + 8 : Nat) : Int) by omega]; exact i64_nat _ (by omega)
      have j2 : IntKind.i64.wrap (((k + 8 : Nat) : Int) - 1) = ((k + 7 : Nat) : Int) := by rw [show ((k + 8 : Nat) : Int) - 1 = ((k + 7 : Nat) : Int) by omega]; exact i64_nat _ (by omega)
      obtain ⟨q, hq⟩ : ∃ q, (k + 7) / 8 = q := ⟨_, rfl⟩
      have j3 : ((k + 7 : Nat) : Int).tdiv 8 = (q : Int) := by rw [← hq]; exact tdiv_nat (k + 7) 8
      have j4 : IntKind.i64.wrap (q : Int) = (q : Int) := i64_nat _ (by omega)
      have j5 : IntKind.i64.wrap ((q : Int) + 1) = ((q + 1 : Nat) : Int) := by rw [show (q : Int) + 1 = ((q + 1 : Nat) : Int) by omega]; exact i64_nat _ (by omega)
      have e : ((k : Int) + 7) / 8 + 1 = ((q + 1 : Nat) : Int) := by omega
      rw [e]
      obtain ⟨a, ha⟩ : ∃ a, k + 8 = a := ⟨_, rfl⟩
      obtain ⟨b, hb⟩ : ∃ a, k + 7 = a := ⟨_, rfl⟩
      obtain ⟨c, hc⟩ : ∃ a, q + 1 = a := ⟨_, rfl⟩
      rw [ha] at j1 j2
      rw [hb] at j2 j3
      rw [hc] at j5 ⊢
      clear ha hb hc hq e
      go_enter Try.func40, Try.ntmps40
      go_wp2_with fail
      go_ret
      exact ⟨rfl, rfl⟩

theorem takes_is (s n t : Int) (hs : (Lit.int .i64 s).wf = true) (ht : takN s n = t) (w : World) : Calls Try.prog 67 #[.int .i64 s, .int .i64 n] w fun e w' => e = .returned (.int .i64 t) ∧ w = w' := by
  obtain ⟨s1, s2⟩ := i64_wf hs
  subst ht
  clear hs
  by_cases h1 : n < 2
  · rw [takN, if_neg (by omega)]
    go_enter Try.func67, Try.ntmps67
    go_wp2_with fail
    go_ret
    exact ⟨rfl, rfl⟩
  · by_cases h2 : n > s
    · rw [takN, if_neg (by omega)]
      go_enter Try.func67, Try.ntmps67
      go_wp2_with fail
      go_ret
      exact ⟨rfl, rfl⟩
    · rw [takN, if_pos (by omega)]
      obtain ⟨d, hd⟩ : ∃ d, s - n = d := ⟨_, rfl⟩
      have j1 : IntKind.i64.wrap (s - n) = d := by rw [hd]; exact IntWalk.i64_in _ (by omega)
      rw [hd]
      clear hd s1 s2
      by_cases h3 : d < 2
      · rw [if_pos h3]
        go_enter Try.func67, Try.ntmps67
        go_wp2_with fail
        go_ret
        exact ⟨rfl, rfl⟩
      · rw [if_neg h3]
        go_enter Try.func67, Try.ntmps67
        go_wp2_with fail
        go_ret
        exact ⟨rfl, rfl⟩


end Go.Proofs.Ytkpefnjohdjejaa

/-
  Contracts of package carve, and of the reference's of the same: the sum of sizes, what is taken, what stands for a block that is taken, where bytes begin.
-/
namespace Go.Proofs.Ytkpefnjohdjejaa
set_option maxRecDepth 100000
open Go.RowKit

theorem mayS_all {l : List Bk} (h : mayS l = true) : allB l = true := by
  have := mayF_sizes (mayL_yes.1 h).2
  exact List.all_eq_true.2 fun b hb => decide_eq_true (this b hb).1
/-- sums of sizes: 0 where one may not be -/
def szW (l : List Bk) : Int := if allB l = true then szs l else 0
def allR (l : List Bk) : Bool := l.all fun b => decide (0 ≤ b.s ∧ b.s ≤ 1000)
def szR (l : List Bk) : Int := if allR l = true then szs l else 0
theorem may_szW (l : List Bk) : mayL (szW l) l = mayS l := mayL_sum fun h => by rw [szW, if_pos (mayS_all h)]
theorem allB_allR {l : List Bk} (h : allB l = true) : allR l = true := List.all_eq_true.2 fun b hb => by
  have := of_decide_eq_true (List.all_eq_true.1 h b hb)
  obtain ⟨h1, h2⟩ := this
  exact decide_eq_true (by omega)
theorem may_szR (l : List Bk) : mayL (szR l) l = mayS l := mayL_sum fun h => by rw [szR, if_pos (allB_allR (mayS_all h))]
theorem allR_cons (b : Bk) (r : List Bk) : allR (b :: r) = (decide (0 ≤ b.s ∧ b.s ≤ 1000) && allR r) := rfl


set_option maxHeartbeats 1000000 in
theorem rsizes_is (l : List Bk) (v : Value) (w : World) (hv : RA blkE w v l) (hl : l.length ≤ 1000) :
    Calls Try.prog 90 #[v] w fun e w' => e = .returned (.int .i64 (szR l)) ∧ Below w.heap.size w w' := by
  obtain ⟨p, cap, rfl, hlc, hcm⟩ := ra_shape hv
  obtain ⟨r, hr⟩ : ∃ r, szR l = r := ⟨_, rfl⟩
  rw [hr]
  have HL := Lib.hid hl
  have HV := Lib.hid hv
  have HR : Hid ((if allR l = true then szs l else 0) = r) := Lib.hid hr
  clear hr hcm hlc hv hl
  go_enter Try.func90, Try.ntmps90
  go_wp2
  go_loopw [3, 5, 8] (fun z x i wr => ∃ k z' : Nat, k ≤ l.length ∧ i = .int .i64 k ∧ z = .int .i64 z' ∧ z' ≤ 1000 * k ∧ Hid ((if allR (l.drop k) = true then (z' : Int) + szs (l.drop k) else 0) = r ∧ Below w.heap.size w wr)) (fun _ _ i _ => l.length - (intOf i).toNat)
  case atStart => exact ⟨0, 0, Nat.zero_le _, rfl, rfl, Nat.zero_le _, Lib.hid ⟨by rw [List.drop_zero]; simpa using HR.out, Below.refl _ _⟩⟩
  case round =>
    obtain ⟨k, z, hk, rfl, rfl, hz, H⟩ := hrel
    by_cases hlt : k < l.length
    · obtain ⟨b, off, rfl, hb, hx⟩ := blk_at (ra_below HV.out H.out.2) (by omega)
      obtain ⟨hld, _, _, _, hwf⟩ := hx k hlt
      have hF := H.out.1
      rw [getD_cut hlt, allR_cons, szs] at hF
      generalize l.getD k default = y at *
      obtain ⟨a, s, u⟩ := y
      obtain ⟨W, hW, HW⟩ := blk_boxed wr ⟨a, s, u⟩
      have c1 : W.cell? ⟨wr.heap.size, 1, none⟩ = some (.int .i64 s) := HW.out.1.c1
      have HB := Lib.hid (below_more H.out.2 HW.out.2)
      have i0 : (0 : Int) ≤ (k : Int) := by omega
      have i1 : (k : Int) < (l.length : Int) := by omega
      have i2 : ¬ (k : Int) < 0 := by omega
      have i3 : IntKind.i64.wrap ((k : Int) + 1) = ((k + 1 : Nat) : Int) := by rw [show (k : Int) + 1 = ((k + 1 : Nat) : Int) by omega]; exact i64_nat _ (by have := HL.out; omega)
      have HK := Lib.hid hlt
      have HZ := Lib.hid hz
      simp only at hF
      by_cases hs : 0 ≤ s ∧ s ≤ 1000
      · rw [decide_eq_true hs, Bool.true_and] at hF
        obtain ⟨sn, rfl⟩ : ∃ m : Nat, s = m := ⟨s.toNat, by obtain ⟨h, _⟩ := hs; omega⟩
        have HS : Hid (sn ≤ 1000) := Lib.hid (by obtain ⟨_, h⟩ := hs; omega)
        have i4 : IntKind.i64.wrap ((z : Int) + (sn : Int)) = ((z + sn : Nat) : Int) := by rw [show (z : Int) + (sn : Int) = ((z + sn : Nat) : Int) by omega]; exact i64_nat _ (by have := HL.out; have := HS.out; omega)
        have HF : Hid ((if allR (l.drop (k + 1)) = true then ((z + sn : Nat) : Int) + szs (l.drop (k + 1)) else 0) = r) := Lib.hid (by rw [← hF]; push_cast; rw [Int.add_assoc])
        have i5 : ¬ (sn : Int) < 0 := by omega
        have i6 : ¬ (sn : Int) > 1000 := by omega
        clear hx hk hb hwf hz hs hF
        go_wp2
        go_roundw
        case rel => exact ⟨k + 1, z + sn, by have := HK.out; omega, by go_num, rfl, by have := HZ.out; have := HS.out; omega, Lib.hid ⟨HF.out, HB.out⟩⟩
        case measure => have := HK.out; simp [intOf]; omega
      · rw [decide_eq_false hs, Bool.false_and, if_neg Bool.false_ne_true] at hF
        subst hF
        clear hx hk hb hwf hz
        by_cases h0 : s < 0
        · clear hs
          go_wp2
          go_ret
          exact ⟨rfl, HB.out⟩
        · have h1 : s > 1000 := by omega
          clear hs
          go_wp2
          go_ret
          exact ⟨rfl, HB.out⟩
    · obtain rfl : k = l.length := by omega
      have hF := H.out.1
      rw [List.drop_length, szs, Int.add_zero, if_pos (show allR [] = true from rfl)] at hF
      subst hF
      go_wp2
      go_ret
      exact ⟨rfl, H.out.2⟩

theorem rtakes_is (s n t : Int) (hs : (Lit.int .i64 s).wf = true) (ht : takN s n = t) (w : World) : Calls Try.prog 78 #[.int .i64 s, .int .i64 n] w fun e w' => e = .returned (.int .i64 t) ∧ w = w' := by
  obtain ⟨s1, s2⟩ := i64_wf hs
  subst ht
  clear hs
  by_cases h1 : n < 2
  · rw [takN, if_neg (by omega)]
    go_enter Try.func78, Try.ntmps78
    go_wp2_with fail
    go_ret
    exact ⟨rfl, rfl⟩
  · by_cases h2 : n > s
    · rw [takN, if_neg (by omega)]
      go_enter Try.func78, Try.ntmps78
      go_wp2_with fail
      go_ret
      exact ⟨rfl, rfl⟩
    · rw [takN, if_pos (by omega)]
      obtain ⟨d, hd⟩ : ∃ d, s - n = d := ⟨_, rfl⟩
      have j1 : IntKind.i64.wrap (s - n) = d := by rw [hd]; exact IntWalk.i64_in _ (by omega)
      rw [hd]
      clear hd s1 s2
      by_cases h3 : d < 2
      · rw [if_pos h3]
        go_enter Try.func78, Try.ntmps78
        go_wp2_with fail
        go_ret
        exact ⟨rfl, rfl⟩
      · rw [if_neg h3]
        go_enter Try.func78, Try.ntmps78
        go_wp2_with fail
        go_ret
        exact ⟨rfl, rfl⟩

theorem off_is (b : Bk) (x : Int) (hx : offB b.a = x) (w : World) : Calls Try.prog 49 #[.agg (bc b)] w fun e w' => e = .returned (.int .i64 x) ∧ Below w.heap.size w w' := by
  obtain ⟨⟨a, s, u⟩, hb⟩ : ∃ c, c = b := ⟨b, rfl⟩
  subst hb
  obtain ⟨W, hW, HW⟩ := blk_boxed w ⟨a, s, u⟩
  have c0 : W.cell? ⟨w.heap.size, 0, none⟩ = some (.int .i64 a) := HW.out.1.c0
  subst hx
  simp only
  by_cases h0 : a < 0
  · rw [offB, if_neg (by omega)]
    go_enter Try.func49, Try.ntmps49
    go_wp2_with fail
    go_ret
    exact ⟨rfl, HW.out.2⟩
  · by_cases h1 : a > 512
    · rw [offB, if_neg (by omega)]
      go_enter Try.func49, Try.ntmps49
      go_wp2_with fail
      go_ret
      exact ⟨rfl, HW.out.2⟩
    · rw [offB, if_pos (by omega)]
      have j1 : IntKind.i64.wrap (a + 1) = a + 1 := IntWalk.i64_in _ (by omega)
      have j2 : IntKind.i64.wrap ((a + 1) * 8) = (a + 1) * 8 := IntWalk.i64_in _ (by omega)
      go_enter Try.func49, Try.ntmps49
      go_wp2_with fail
      go_ret
      exact ⟨rfl, HW.out.2⟩
theorem roff_is (b : Bk) (x : Int) (hx : offB b.a = x) (w : World) : Calls Try.prog 52 #[.agg (bc b)] w fun e w' => e = .returned (.int .i64 x) ∧ Below w.heap.size w w' := by
  obtain ⟨⟨a, s, u⟩, hb⟩ : ∃ c, c = b := ⟨b, rfl⟩
  subst hb
  obtain ⟨W, hW, HW⟩ := blk_boxed w ⟨a, s, u⟩
  have c0 : W.cell? ⟨w.heap.size, 0, none⟩ = some (.int .i64 a) := HW.out.1.c0
  subst hx
  simp only
  by_cases h0 : a < 0
  · rw [offB, if_neg (by omega)]
    go_enter Try.func52, Try.ntmps52
    go_wp2_with fail
    go_ret
    exact ⟨rfl, HW.out.2⟩
  · by_cases h1 : a > 512
    · rw [offB, if_neg (by omega)]
      go_enter Try.func52, Try.ntmps52
      go_wp2_with fail
      go_ret
      exact ⟨rfl, HW.out.2⟩
    · rw [offB, if_pos (by omega)]
      have j1 : IntKind.i64.wrap (a + 1) = a + 1 := IntWalk.i64_in _ (by omega)
      have j2 : IntKind.i64.wrap ((a + 1) * 8) = (a + 1) * 8 := IntWalk.i64_in _ (by omega)
      go_enter Try.func52, Try.ntmps52
      go_wp2_with fail
      go_ret
      exact ⟨rfl, HW.out.2⟩
end Go.Proofs.Ytkpefnjohdjejaa

/-
  slices.Concat and slices.Grow of blocks: a new slice of all that is in some slices.
-/
namespace Go.Proofs.Ytkpefnjohdjejaa
set_option maxRecDepth 100000
open Go.RowKit


theorem grown_own (w : World) (n : Nat) (hn : n ≤ 2000) : OwnA blkE w.heap.size (w.drew.alloc (.cells (Builtin.zeroCells blkE.z.cells n ++ Builtin.zeroCells blkE.z.cells (grownCap w n 0 72 - n)) 72)) (.slice (some ⟨w.heap.size, 0, none⟩) 0 (grownCap w n 0 72)) [] := by
  have h1 := grownCap_ge w n 0 72
  have h2 := grownCap_le_maxLen w n 0 72 (by unfold maxLen; omega)
  refine ⟨⟨rfl, .inr ⟨w.heap.size, _, _, rfl, Nat.le_refl _, heap_alloc_new _ _, Nat.zero_le _, h2, ?_, ?_⟩⟩, fun _ h => by cases h⟩
  · rw [Array.size_append, size_zeroCells, size_zeroCells, blkE.hzs, ← Nat.add_mul]
    congr 1
    omega
  · simp

/-- how many there are in all -/
def lens (ls : List (List Bk)) : Nat := (ls.map List.length).sum
theorem lens_drop {ls : List (List Bk)} {k : Nat} (h : k < ls.length) : lens (ls.drop k) = (ls.getD k []).length + lens (ls.drop (k + 1)) := by
  unfold lens
  rw [List.drop_eq_getElem_cons h, List.getD_eq_getElem?_getD, List.getElem?_eq_getElem h, List.map_cons, List.sum_cons]
  rfl
theorem lens_flat (ls : List (List Bk)) : ls.flatten.length = lens ls := by simp [lens, List.length_flatten]
theorem flat_take {ls : List (List Bk)} {k : Nat} (h : k < ls.length) : (ls.take (k + 1)).flatten = (ls.take k).flatten ++ ls.getD k [] := by
  rw [List.take_add_one, List.getElem?_eq_getElem h, List.getD_eq_getElem?_getD, List.getElem?_eq_getElem h]
  simp only [Option.toList_some, List.flatten_append, List.flatten_cons, List.flatten_nil, List.append_nil, Option.getD_some]
theorem flat_split {ls : List (List Bk)} {k : Nat} (h : k < ls.length) : ((ls.take k).flatten).length + (ls.getD k []).length ≤ lens ls := by
  have := congrArg List.length (flat_take h)
  rw [List.length_append] at this
  rw [← this, ← lens_flat]
  conv => rhs; rw [← List.take_append_drop (k + 1) ls]
  rw [List.flatten_append, List.length_append]
  omega

end Go.Proofs.Ytkpefnjohdjejaa

/-
  An edit (api.Edit: a word that is to be written), by value, in a variable, in a slice: how it came in, how it reads, how it is built, whether two are the same.
-/
namespace Go.Proofs.Ytkpefnjohdjejaa
set_option maxRecDepth 100000
open Go.ChangeShapes Go.WideShapes Go.ChangeAt Go.RowKit

def Ed.cells (b : Ed) : List Value := [.int .i64 b.w, .int .u64 b.v]
def ec (b : Ed) : Array Value := b.cells.toArray
structure Ed.Wf (b : Ed) : Prop where
  ww : (Lit.int .i64 b.w).wf = true
  wv : (Lit.int .u64 b.v).wf = true
theorem u64_of {a : Int} (h1 : 0 ≤ a) (h2 : a ≤ 18446744073709551615) : (Lit.int .u64 a).wf = true := by simp [Lit.wf, IntKind.min, IntKind.max, IntKind.signed, IntKind.bits, h1, h2]
theorem Ed.wf_of {b : Ed} (h1 : -9223372036854775808 ≤ b.w) (h2 : b.w ≤ 9223372036854775807) (h3 : 0 ≤ b.v) (h4 : b.v ≤ 18446744073709551615) : b.Wf := ⟨i64_of h1 h2, u64_of h3 h4⟩

theorem cells_edit : Try.prog.cellsOf 114 = 2 := by kernel_rfl
theorem cells_int_e : Try.prog.cellsOf 3 = 1 := by kernel_rfl
theorem cells_u64_e : Try.prog.cellsOf 49 = 1 := by kernel_rfl
theorem info_edit : (Try.prog.info? 114).map (·.size) = some 2 := by kernel_rfl
theorem trod_ed2 {H : Type} {enc : TypeId × Value → H} {P : Program} {w : World} {base : Nat} {spare : Nat → Bool} {held : Bool} {t : TypeId} {f0 f1 : Field} {fuel : Nat} {cs : List Value} {x : DataW H × List MemPlace}
    (ht : P.underlying t = some (.struct #[f0, f1])) (h : DataW.trod enc P w base spare held fuel t cs = some x) :
    ∃ y0 y1 n, cs.length = P.cellsOf t ∧ DataW.trod enc P w base spare held n f0.type ((cs.drop f0.offset).take (P.cellsOf f0.type)) = some y0 ∧
      DataW.trod enc P w base spare held n f1.type ((cs.drop f1.offset).take (P.cellsOf f1.type)) = some y1 := by
  obtain ⟨xs, n, _, rfl, hl, hlen, hf⟩ := DataW.trod_struct ht h
  match xs, hlen with
  | [y0, y1], _ => exact ⟨y0, y1, n, hl, by simpa using hf 0 f0 rfl, by simpa using hf 1 f1 rfl⟩
/-- its cells that read -/
theorem edit_cells {H : Type} {enc : TypeId × Value → H} {W : World} {base n : Nat} {sp : Nat → Bool} {held : Bool} {cs : List Value} {y : DataW H × List MemPlace}
    (h : DataW.trod enc Try.prog W base sp held n 114 cs = some y) : ∃ c : Ed, cs = c.cells ∧ c.Wf := by
  obtain ⟨y0, y1, k, hl, g0, g1⟩ := trod_ed2 Try.underlying114 h
  rw [cells_edit] at hl
  dsimp only at g0 g1
  rw [cells_int_e] at g0
  rw [cells_u64_e] at g1
  obtain ⟨i, e0, _, w0⟩ := DataW.trod_int Try.underlying3 g0
  obtain ⟨s, e1, _, w1⟩ := DataW.trod_int Try.underlying49 g1
  refine ⟨⟨i, s⟩, ?_, ⟨w0, w1⟩⟩
  match cs, hl with
  | [c0, c1], _ =>
    simp at e0 e1
    simp [Ed.cells, e0, e1]

/-- slices of them -/
def edE : Elm Try.prog Ed where
  t := 91
  e := 114
  size := 2
  bytes := 16
  z := .agg #[.int .i64 0, .int .u64 0]
  enc := Ed.cells
  ok := Ed.Wf
  ht := Try.underlying91
  hi := by kernel_rfl
  hzs := rfl
  pos := by decide
  bpos := by decide
  len := fun _ _ => rfl
  one := fun a _ u hu => by
    simp only [Ed.cells, List.mem_cons, List.not_mem_nil, or_false] at hu
    rcases hu with rfl | rfl <;> rfl
theorem edits_in {H : Type} {enc : TypeId × Value → H} {W : World} {base : Nat} {v : Value} {d : DataW H} {p : List MemPlace}
    (hval : Value.okWide Try.prog W .any base 91 v) (h : DataW.Trod enc Try.prog W 0 (fun _ => true) true 91 v d p) : ∃ l : List Ed, RA edE W v l := by
  obtain ⟨va, vl, vc, rfl⟩ := okWide_slice Try.underlying91 hval
  obtain ⟨fuel, hf⟩ := h
  obtain ⟨u, l, e, hr⟩ := elems_in edE hf (fun _ _ _ hy _ => edit_cells hy)
  have e' : Value.slice va vl vc = u := by simpa [Value.cells] using e
  exact ⟨l, by rw [e']; exact hr⟩

@[go_sem] theorem ec_ne (b : Ed) : (ec b = #[]) = False := by simp [ec, Ed.cells]
theorem ec_one (b : Ed) : (ec b).all (·.oneCell') = true := by simp [ec, Ed.cells, Value.oneCell']
theorem ec_size (b : Ed) : (ec b).size = 2 := rfl
/-- block g holds it -/
def Ev (w : World) (g : Nat) (b : Ed) : Prop := Whole w g 114 (ec b)
section
variable {w w' : World} {g : Nat} {b : Ed}
theorem Ev.lt (h : Ev w g b) : g < w.heap.size := Whole.lt h
theorem Ev.below (h : Ev w g b) (hb : Below w.heap.size w w') : Ev w' g b := (hb.block g (Whole.lt h)).trans h
theorem Ev.new (w : World) (b : Ed) : Ev (w.alloc (.cells (ec b) 114)) w.heap.size b := heap_alloc_new w _
theorem Ev.c0 (h : Ev w g b) : w.cell? ⟨g, 0, none⟩ = some (.int .i64 b.w) := Whole.at_ h 0
theorem Ev.c1 (h : Ev w g b) : w.cell? ⟨g, 1, none⟩ = some (.int .u64 b.v) := Whole.at_ h 1
end
/-- a whole one loaded, stored -/
def edLoad (p : Value) : Sem Value := Instr.loadAt 114 p
def edStore (p v : Value) : Sem Unit := Instr.storeAt 114 p v
@[go_sem ↓] theorem loadAt_ed (p : Value) : Instr.loadAt 114 p = edLoad p := rfl
@[go_sem ↓] theorem storeAt_ed (p v : Value) : Instr.storeAt 114 p v = edStore p v := rfl
theorem run_edLoad {w : World} {b o : Nat} {c : Ed} (h : w.rangeAt b o c.cells) : (edLoad (.pointer (some ⟨b, o, none⟩))).run Try.prog w = .ok (.agg (ec c)) w :=
  run_loadAt_mid (P := Try.prog) w b o 114 c.cells _ h Try.underlying114 rfl info_edit
theorem run_edStore (w : World) {z : Array Value} (hz : z.size = 2) (c : Ed) :
    (edStore (.pointer (some ⟨w.heap.size, 0, none⟩)) (.agg (ec c))).run Try.prog (w.alloc (.cells z 114)) = .ok () (w.alloc (.cells (ec c) 114)) := by
  unfold edStore
  simp only [Instr.storeAt, Instr.sureAddr, Sem.run_bind, Sem.run_pure, Result.andThen]
  rw [run_storeVar_row _ _ 114 114 z (ec c) (heap_alloc_new w _) (by rw [info_edit, ec_size]) (by rw [hz, ec_size]) (ec_one c), World.setRow_alloc_new]
@[go_sem] theorem ed_store_new (w : World) (c : Ed) :
    (edStore (.pointer (some ⟨w.heap.size, 0, none⟩)) (.agg (ec c))).run Try.prog (w.alloc (.cells #[.int .i64 0, .int .u64 0] 114)) = .ok () (w.alloc (.cells (ec c) 114)) :=
  run_edStore w rfl c
/-- the k-th of a slice: loaded whole; its parts -/
theorem ed_at {w : World} {p : Option Addr} {n cap : Nat} {l : List Ed} (h : RA edE w (.slice p n cap) l) (h0 : 0 < l.length) :
    ∃ b off, p = some ⟨b, off, none⟩ ∧ b < w.heap.size ∧ ∀ k, k < l.length → (edLoad (.pointer (some ⟨b, off + k * 2, none⟩))).run Try.prog w = .ok (.agg (ec (l.getD k default))) w ∧
      w.cell? ⟨b, off + k * 2, none⟩ = some (.int .i64 (l.getD k default).w) ∧ w.cell? ⟨b, off + k * 2 + 1, none⟩ = some (.int .u64 (l.getD k default).v) ∧ (l.getD k default).Wf := by
  obtain ⟨b, off, e, hb, hr⟩ := ra_at h h0
  refine ⟨b, off, e, hb, fun k hk => ?_⟩
  have hk2 := hr k hk
  exact ⟨run_edLoad hk2, hk2 0 _ rfl, hk2 1 _ rfl, (ra_ok h).at_ hk⟩
theorem ed_boxed (w : World) (c : Ed) : ∃ W, w.alloc (.cells (ec c) 114) = W ∧ Hid (Ev W w.heap.size c ∧ Below w.heap.size w W) :=
  ⟨_, rfl, Lib.hid ⟨Ev.new w c, bal (Below.refl _ _)⟩⟩
/-- built -/
theorem built_ed2 (a s : Int) : Try.prog.built 114 [(0, .int .i64 a), (1, .int .u64 s)] = some (ec ⟨a, s⟩) := by kernel_rfl
theorem built_ed1 (a : Int) : Try.prog.built 114 [(0, .int .i64 a)] = some (ec ⟨a, 0⟩) := by kernel_rfl
def edBuild (ps : Array (Nat × Value)) : Sem Value := Instr.build 114 ps
@[go_sem ↓] theorem build_ed (ps : Array (Nat × Value)) : Instr.build 114 ps = edBuild ps := rfl
@[go_sem] theorem run_edBuild2 (w : World) (a s : Int) : (edBuild #[(0, .int .i64 a), (1, .int .u64 s)]).run Try.prog w = .ok (.agg (ec ⟨a, s⟩)) w := run_build w _ _ _ (built_ed2 a s)
@[go_sem] theorem run_edBuild1 (w : World) (a : Int) : (edBuild #[(0, .int .i64 a)]).run Try.prog w = .ok (.agg (ec ⟨a, 0⟩)) w := run_build w _ _ _ (built_ed1 a)
theorem built_eds1 (w : World) (a s : Int) : (Instr.buildSlice 91 1 #[(0, .agg #[.int .i64 a, .int .u64 s])]).run Try.prog w = .ok (.slice (some ⟨w.heap.size, 0, none⟩) 1 1) (w.alloc (.cells #[.int .i64 a, .int .u64 s] 114)) := by
  simp [Instr.buildSlice, run_underlying Try.underlying91, Instr.fill, go_sem]
def edSlice (n : Nat) (ps : Array (Nat × Value)) : Sem Value := Instr.buildSlice 91 n ps
@[go_sem ↓] theorem slice_ed (n : Nat) (ps : Array (Nat × Value)) : Instr.buildSlice 91 n ps = edSlice n ps := rfl
@[go_sem] theorem run_edSlice1 (w : World) (c : Ed) : (edSlice 1 #[(0, .agg (ec c))]).run Try.prog w = .ok (.slice (some ⟨w.heap.size, 0, none⟩) 1 1) (w.alloc (.cells (ec c) 114)) := built_eds1 w c.w c.v
theorem ed_one (w : World) {c : Ed} (h : c.Wf) : OwnA edE w.heap.size (w.alloc (.cells (ec c) 114)) (.slice (some ⟨w.heap.size, 0, none⟩) 1 1) [c] := by
  have := own_lit_a edE w (l := [c]) (fun x hx => by rw [List.mem_singleton.1 hx]; exact h) (by unfold maxLen; simp)
  simpa [edE, ec] using this
/-- whether two are the same -/
def eqE (x y : Ed) : Bool := x.w == y.w && x.v == y.v
theorem eqE_self (x : Ed) : eqE x x = true := by simp [eqE]
theorem fields_ed : Try.prog.underlying 114 = some (.struct (Try.prog.fieldsOf 114)) := by kernel_rfl
theorem stood_ed : Try.prog.stoodInHeld 114 = false := by kernel_rfl
theorem part_e (w : World) (b : Ed) : (part 3 (ec b) 0).run Try.prog w = .ok (.int .i64 b.w) w ∧ (part 49 (ec b) 1).run Try.prog w = .ok (.int .u64 b.v) w := by
  refine ⟨?_, ?_⟩ <;> simp [part, isAgg, run_underlying Try.underlying3, run_underlying Try.underlying49, ec, Ed.cells]
@[go_sem high] theorem run_eqE (w : World) (x y : Ed) : (Op.equalIn 10000 114 (.agg (ec x)) (.agg (ec y))).run Try.prog w = .ok (eqE x y) w := by
  obtain ⟨p0, p1⟩ := part_e w x
  obtain ⟨q0, q1⟩ := part_e w y
  have a0 := run_equalIn_int (P := Try.prog) w 9998 3 .i64 .i64 x.w y.w Try.underlying3
  have a1 := run_equalIn_int (P := Try.prog) w 9998 49 .u64 .u64 x.v y.v Try.underlying49
  rw [run_equalIn_struct w 9999 114 (ec x) (ec y) fields_ed stood_ed, Program.fieldsOf, Try.underlying114]
  simp only [Op.eqFields, Sem.run_bind, Sem.run_ite, p0, p1, q0, q1, a0, a1, Result.andThen_ok, Sem.run_pure]
  unfold eqE
  cases (x.w == y.w) <;> cases (x.v == y.v) <;> simp
section
variable {ops : Array Oper} {rest : List Oper} {o : Oper} {a : Act} {w : World} {Q : Exit → Act → World → Prop} {K : Act → World → Prop}
theorem app_ed (hgd : o.guard = none) (s x : Operand) (ho : o.op = .call { callee := .builtin .append, args := #[s, x], argTypes := #[91, 91] }) (B : Nat) (v : Value) (l : List Ed) (hs : a.eval s = v) (hown : OwnA edE B w v l)
    (u : Value) (r : List Ed) (hx : a.eval x = u) (hr : RA edE w u r) (hlen : Hid (l.length + r.length ≤ 4000)) (hB : B ≤ w.heap.size)
    (h : ∀ v' w', OwnA edE B w' v' (l ++ r) → w.grownBy w' v.ownBlock → (v'.ownBlock = v.ownBlock ∨ v'.ownBlock = some w.heap.size) → wpList Try.prog ops Q rest (a.put o.dst v') w') : wpList Try.prog ops Q (o :: rest) a w :=
  list_app edE hgd s x ho B v l hs hown u r hx hr (by have := hlen.out; show _ * 16 ≤ _; omega) hB h
theorem step_ed {F : Prop} (hgd : o.guard = none) (s x : Operand) (ho : o.op = .call { callee := .builtin .append, args := #[s, x], argTypes := #[91, 91] }) (B : Nat) (v : Value) (l : List Ed) (hs : a.eval s = v) (hown : OwnA edE B w v l)
    (u : Value) (r : List Ed) (hx : a.eval x = u) (hr : RA edE w u r) (hlen : Hid (l.length + r.length ≤ 4000)) (hB : B ≤ w.heap.size)
    (h : ∀ v' w', OwnA edE B w' v' (l ++ r) → w.grownBy w' v.ownBlock → (v'.ownBlock = v.ownBlock ∨ v'.ownBlock = some w.heap.size) → K (a.put o.dst v') w') : if Region.wanted o (yielded ops a.tmps) = true then o.wp Try.prog a w K Q else F :=
  step_app edE hgd s x ho B v l hs hown u r hx hr (by have := hlen.out; show _ * 16 ≤ _; omega) hB h
end
end Go.Proofs.Ytkpefnjohdjejaa

/-
  Contracts of package carve: what stands for a block that is taken, the blocks behind it, the words that are written.
-/
namespace Go.Proofs.Ytkpefnjohdjejaa
set_option maxRecDepth 100000
open Go.RowKit

theorem canC_no {l : List Bk} {i n : Int} (h : canC l i n = false) : mayS l = false ∨ i < 0 ∨ (l.length : Int) ≤ i ∨ (0 ≤ i ∧ i < l.length ∧ ((bAt l i).u = true ∨ takN (bAt l i).s n = 0)) := by
  by_cases h1 : mayS l = true
  · by_cases h2 : i < 0
    · exact .inr (.inl h2)
    · by_cases h3 : (l.length : Int) ≤ i
      · exact .inr (.inr (.inl h3))
      · refine .inr (.inr (.inr ⟨by omega, by omega, ?_⟩))
        by_cases h4 : (bAt l i).u = true
        · exact .inl h4
        · refine .inr ?_
          by_cases h5 : takN (bAt l i).s n = 0
          · exact h5
          · rw [canC_yes.2 ⟨h1, by omega, by omega, by simpa using h4, h5⟩] at h
            cases h
  · exact .inl (by simpa using h1)


end Go.Proofs.Ytkpefnjohdjejaa

/-
  Contracts of package carve: noughts behind a header, the words that are written, the blocks behind the taking.
-/
namespace Go.Proofs.Ytkpefnjohdjejaa
set_option maxRecDepth 100000
open Go.RowKit

theorem rise_more (a : Int) (k : Nat) (x : Int) : rise a (List.replicate (k + 1) x) = rise a (List.replicate k x) ++ [⟨a + k, x⟩] := by
  rw [List.replicate_succ', rise_app, List.length_replicate]
  rfl
end Go.Proofs.Ytkpefnjohdjejaa

/-
  Contracts of package carve: the blocks behind the taking, the words that are written.
-/
namespace Go.Proofs.Ytkpefnjohdjejaa
set_option maxRecDepth 100000
open Go.RowKit

@[go_sem] theorem eql_nil_nil (w : World) : (binOp .eql 45 (.slice none 0 0) (.slice none 0 0)).run Try.prog w = .ok (.bool true) w := Lib.run_eql_slice_nil_nil w _ _ Try.underlying45
@[go_sem] theorem eql_some_nil (w : World) (a : Addr) (n c : Nat) : (binOp .eql 45 (.slice (some a) n c) (.slice none 0 0)).run Try.prog w = .ok (.bool false) w := Lib.run_eql_slice_some_nil w _ _ _ Try.underlying45

theorem crvF_no {l : List Bk} {i n : Int} (h : canC l i n = false) : crvF l i n = [] := by rw [crvF, h]; rfl
theorem cedF_no {l : List Bk} {i n : Int} (h : canC l i n = false) : cedF l i n = [] := by rw [cedF, h]; rfl

end Go.Proofs.Ytkpefnjohdjejaa

/-
  Contracts of package chain, and of the reference's of the same: the place of a word, what is free.
-/
namespace Go.Proofs.Ytkpefnjohdjejaa
set_option maxRecDepth 100000
open Go.RowKit

/-- a distance without a sign -/
theorem far_u64 {x a s : Int} (hx : (Lit.int .i64 x).wf = true) (ha : (Lit.int .i64 a).wf = true) (hs : (Lit.int .i64 s).wf = true) (h1 : 0 < s) (h2 : a ≤ x) :
    ∃ X A d, IntKind.u64.wrap x = X ∧ IntKind.u64.wrap a = A ∧ IntKind.u64.wrap (X - A) = d ∧ d = x - a ∧ IntKind.u64.wrap s = s := by
  obtain ⟨x1, x2⟩ := i64_wf hx
  obtain ⟨a1, a2⟩ := i64_wf ha
  obtain ⟨s1, s2⟩ := i64_wf hs
  refine ⟨_, _, x - a, rfl, rfl, ?_, rfl, ?_⟩
  · simp only [IntKind.wrap_u64]; omega
  · simp only [IntKind.wrap_u64]; omega



end Go.Proofs.Ytkpefnjohdjejaa

/-
  Slices of words (uint64): how they read, how they came in, those of a call's own; append onto them.
-/
namespace Go.Proofs.Ytkpefnjohdjejaa
set_option maxRecDepth 100000
open Go.ChangeShapes Go.WideShapes Go.ChangeAt Go.RowKit

/-- a slice of ints that can be read: it holds l -/
def RU (w : World) (v : Value) (l : List Int) : Prop :=
  ∃ p cap, v = .slice p l.length cap ∧ l.length ≤ cap ∧ cap ≤ maxLen ∧ (l = [] ∨ ∃ b off, p = some ⟨b, off, none⟩ ∧ ∀ i, i < l.length → w.cell? ⟨b, off + i, none⟩ = some (.int .u64 (l.getD i 0)))
theorem ru_same {w w' : World} {v : Value} {l : List Int} (h : RU w v l) (hb : ∀ p : Addr, p.block < w.heap.size → w'.cell? p = w.cell? p) : RU w' v l := by
  obtain ⟨p, cap, rfl, h1, h2, h | ⟨b, off, rfl, hc⟩⟩ := h
  · exact ⟨p, cap, rfl, h1, h2, .inl h⟩
  · refine ⟨_, cap, rfl, h1, h2, .inr ⟨b, off, rfl, fun i hi => ?_⟩⟩
    have := hc i hi
    rw [hb _ (World.block_lt_of_cell? w _ this)]; exact this
theorem ru_below {w w' : World} {v : Value} {l : List Int} (h : RU w v l) (hb : Below w.heap.size w w') : RU w' v l := ru_same h fun _ hp => hb.cell hp
theorem ru_in {w : World} {v : Value} {l : List Int} (h : IntsIn .u64 w v l) : RU w v l := by
  obtain ⟨p, cap, rfl, h1, h2, _, ⟨rfl, _⟩ | ⟨b, off, rfl, _, hc⟩⟩ := h
  · exact ⟨p, cap, rfl, h1, h2, .inl rfl⟩
  · exact ⟨_, cap, rfl, h1, h2, .inr ⟨b, off, rfl, hc⟩⟩
theorem in_wf_u {w : World} {v : Value} {l : List Int} (h : IntsIn .u64 w v l) : ∀ n ∈ l, (Lit.int .u64 n).wf = true := by
  obtain ⟨p, cap, rfl, h1, h2, h3, _⟩ := h; exact h3
theorem ru_nil (w : World) : RU w (.slice none 0 0) [] := ⟨none, 0, rfl, Nat.le_refl _, Nat.zero_le _, .inl rfl⟩
theorem ru_some {w : World} {p : Option Addr} {n cap : Nat} {l : List Int} (h : RU w (.slice p n cap) l) (h0 : 0 < l.length) : ∃ b off, p = some ⟨b, off, none⟩ ∧ b < w.heap.size ∧ ∀ i, i < l.length → w.cell? ⟨b, off + i, none⟩ = some (.int .u64 (l.getD i 0)) := by
  obtain ⟨p', cap', e, _, _, h | ⟨b, off, rfl, hc⟩⟩ := h
  · subst h; cases h0
  · cases e; exact ⟨b, off, rfl, World.block_lt_of_cell? w _ (hc 0 h0), hc⟩
/-- a slice of ints of a call's own -/
def OwnU (B : Nat) (w : World) (v : Value) (l : List Int) : Prop := w.ownsRow B 49 1 v l.length (l.map uv)
theorem OwnU.ru {B : Nat} {w : World} {v : Value} {l : List Int} (h : OwnU B w v l) : RU w v l := by
  have h' : w.ownsRow B 49 1 v l.length (l.map uv) := h
  obtain ⟨_, ⟨rfl, h0⟩ | ⟨g, cap, cur, rfl, _, _, h1, h2, _⟩⟩ := h
  · rw [List.eq_nil_of_length_eq_zero h0]; exact ru_nil w
  · refine ⟨_, cap, rfl, h1, h2, .inr ⟨g, 0, rfl, fun i hi => ?_⟩⟩
    have := h'.cells (g := g) rfl i (uv (l.getD i 0)) (by simp [hi])
    have e : (⟨g, 0, none⟩ : Addr).add i = ⟨g, 0 + i, none⟩ := Go.WideShapes.add_plain ..
    rw [e] at this; exact this
theorem OwnU.shape {B : Nat} {w : World} {v : Value} {l : List Int} (h : OwnU B w v l) : ∃ p c, v = .slice p l.length c := by
  obtain ⟨p, c, h, _⟩ := h.ru; exact ⟨p, c, h⟩
theorem OwnU.mono {B B' : Nat} {w : World} {v : Value} {l : List Int} (h : OwnU B w v l) (hb : B' ≤ B) : OwnU B' w v l :=
  ⟨h.1, h.2.imp id fun ⟨g, cap, cur, hv, hg, r⟩ => ⟨g, cap, cur, hv, Nat.le_trans hb hg, r⟩⟩
theorem OwnU.far {B : Nat} {w : World} {v : Value} {l : List Int} (h : OwnU B w v l) {p : Addr} (hp : p.block < B) (u : Value) : OwnU B (w.setCell p u) v l := ownsRow_setCell_below h hp u
theorem info_u64 : (Try.prog.info? 49).map (fun i => (i.zero, i.size, i.bytes)) = some (some (.int .u64 0), 1, 8) := by kernel_rfl

theorem uv_one (l : List Int) : ∀ u ∈ l.map uv, u.oneCell' = true := by
  intro u hu; obtain ⟨x, _, rfl⟩ := List.mem_map.1 hu; rfl
/-- nothing behind it -/
theorem run_app_none_u {P : Program} (w : World) (base : Nat) (t ty e : TypeId) (i : TypeInfo) (size : Nat) (ht : P.underlying t = some (.slice e)) (hi : P.info? e = some i)
    (v : Value) (n : Nat) (xs : List Value) (hown : w.ownsRow base e size v n xs) (c : Nat) : (Builtin.append_ #[t, t] ty #[v, .slice none 0 c]).run P w = .ok v w := by
  obtain ⟨_, ⟨rfl, rfl⟩ | ⟨g, cap, cur, rfl, _, _, hc, _⟩⟩ := hown <;> simp [Builtin.append_, run_underlying ht, sizeOf, typeInfo, Builtin.lenOf, Builtin.firstCells, storeCells, *]
theorem run_app_u64 (B : Nat) (v : Value) (l : List Int) (w : World) (hown : OwnU B w v l) (u : Value) (r : List Int) (hr : RU w u r) (hlen : l.length + r.length ≤ 1000000) (hB : B ≤ w.heap.size) (ty : TypeId) :
    ∃ v' w', (Builtin.append_ #[41, 41] ty #[v, u]).run Try.prog w = .ok v' w' ∧ OwnU B w' v' (l ++ r) ∧ w.grownBy w' v.ownBlock ∧ (v'.ownBlock = v.ownBlock ∨ v'.ownBlock = some w.heap.size) := by
  obtain ⟨i0, hi, hz0, hz1, hz2⟩ := info_parts info_u64
  obtain ⟨A, c, rfl, h1, h2, h3⟩ := hr
  have fin : ∀ w' v', w'.ownsRow B 49 1 v' (l.length + r.length) (l.map uv ++ r.map uv) → OwnU B w' v' (l ++ r) := fun w' v' h => by
    unfold OwnU; rw [List.length_append, List.map_append]; exact h
  cases A with
  | none =>
    have hr0 : r = [] := by
      rcases h3 with h3 | ⟨b, off, h, _⟩
      · exact h3
      · cases h
    subst hr0
    exact ⟨v, w, run_app_none_u w B _ ty _ i0 1 Try.underlying41 hi v _ _ hown c, by simpa using hown, World.grownBy.refl w _, .inl rfl⟩
  | some ad =>
    have hc : ∀ j u, (r.map uv)[j]? = some u → w.cell? (ad.add j) = some u := by
      intro j u hu
      rcases h3 with h3 | ⟨b, off, h, hc⟩
      · subst h3; simp at hu
      · cases h
        have hj : j < r.length := by have := (List.getElem?_eq_some_iff.1 hu).1; simpa using this
        have e : (⟨b, off, none⟩ : Addr).add j = ⟨b, off + j, none⟩ := Go.WideShapes.add_plain ..
        rw [e, hc j hj]
        simp [hj] at hu
        rw [← hu]; simp [uv, hj]
    obtain ⟨v', w', hrun, g1, g2, _, g4⟩ := run_append_own_at (P := Try.prog) w B 41 ty 49 i0 (.int .u64 0) 1 8 Try.underlying41 hi hz0 hz1 hz2 rfl (by decide) v l.length (l.map uv) hown ad r.length c (r.map uv) (by simp) hc (uv_one r) (by unfold maxLen; omega) (by omega) hB
    exact ⟨v', w', hrun, fin _ _ g1, g2, g4⟩
section
variable {ops : Array Oper} {rest : List Oper} {o : Oper} {a : Act} {w : World} {Q : Exit → Act → World → Prop} {K : Act → World → Prop}
theorem wp_app_u64 (s x : Operand) (ho : o.op = .call { callee := .builtin .append, args := #[s, x], argTypes := #[41, 41] }) (B : Nat) (v : Value) (l : List Int) (hs : a.eval s = v) (hown : OwnU B w v l)
    (u : Value) (r : List Int) (hx : a.eval x = u) (hr : RU w u r) (hlen : l.length + r.length ≤ 1000000) (hB : B ≤ w.heap.size)
    (h : ∀ v' w', OwnU B w' v' (l ++ r) → w.grownBy w' v.ownBlock → (v'.ownBlock = v.ownBlock ∨ v'.ownBlock = some w.heap.size) → K (a.put o.dst v') w') : o.wp Try.prog a w K Q := by
  obtain ⟨v', w', hrun, h2, h3, h4⟩ := run_app_u64 B v l w hown u r hr hlen hB o.type
  unfold Oper.wp execOp
  simp only [ho, resolve, invoke, builtin, Sem.run_bind, Sem.run_pure, Result.andThen_ok, List.map_toArray, List.map_cons, List.map_nil, hs, hx, hrun]
  exact h v' w' h2 h3 h4
theorem list_app_u64 (hgd : o.guard = none) (s x : Operand) (ho : o.op = .call { callee := .builtin .append, args := #[s, x], argTypes := #[41, 41] }) (B : Nat) (v : Value) (l : List Int) (hs : a.eval s = v) (hown : OwnU B w v l)
    (u : Value) (r : List Int) (hx : a.eval x = u) (hr : RU w u r) (hlen : l.length + r.length ≤ 1000000) (hB : B ≤ w.heap.size)
    (h : ∀ v' w', OwnU B w' v' (l ++ r) → w.grownBy w' v.ownBlock → (v'.ownBlock = v.ownBlock ∨ v'.ownBlock = some w.heap.size) → wpList Try.prog ops Q rest (a.put o.dst v') w') : wpList Try.prog ops Q (o :: rest) a w :=
  wpList_plain hgd fun _ hK => wp_app_u64 s x ho B v l hs hown u r hx hr hlen hB fun v' w' h2 h3 h4 => hK _ _ (h v' w' h2 h3 h4)
theorem step_app_u64 {E : Prop} (hgd : o.guard = none) (s x : Operand) (ho : o.op = .call { callee := .builtin .append, args := #[s, x], argTypes := #[41, 41] }) (B : Nat) (v : Value) (l : List Int) (hs : a.eval s = v) (hown : OwnU B w v l)
    (u : Value) (r : List Int) (hx : a.eval x = u) (hr : RU w u r) (hlen : l.length + r.length ≤ 1000000) (hB : B ≤ w.heap.size)
    (h : ∀ v' w', OwnU B w' v' (l ++ r) → w.grownBy w' v.ownBlock → (v'.ownBlock = v.ownBlock ∨ v'.ownBlock = some w.heap.size) → K (a.put o.dst v') w') : if Region.wanted o (yielded ops a.tmps) = true then o.wp Try.prog a w K Q else E := by
  rw [if_pos (by simp [Region.wanted, hgd])]
  exact wp_app_u64 s x ho B v l hs hown u r hx hr hlen hB h
end
theorem own_lit_u (w : World) (l : List Int) (hl : l.length ≤ maxLen) : OwnU w.heap.size (w.alloc (.cells (l.map uv).toArray 49)) (.slice (some ⟨w.heap.size, 0, none⟩) l.length l.length) l := by
  have h := World.ownsRow_lit (e := 49) (size := 1) (base := w.heap.size) w (l.map uv).toArray l.length (Nat.le_refl _) hl (by simp)
  simpa [OwnU] using h
theorem ru_one (w : World) (x : Int) : RU (w.alloc (.cells #[.int .u64 x] 49)) (.slice (some ⟨w.heap.size, 0, none⟩) 1 1) [x] := (own_lit_u w [x] (by unfold maxLen; simp)).ru
theorem OwnU.block {B : Nat} {w : World} {v : Value} {l : List Int} (h : OwnU B w v l) (h0 : 0 < l.length) : ∃ g c, v = .slice (some ⟨g, 0, none⟩) l.length c ∧ B ≤ g ∧ g < w.heap.size ∧ l.length ≤ c ∧ c ≤ maxLen := by
  obtain ⟨_, ⟨rfl, h1⟩ | ⟨g, cap, cur, rfl, hb, hg, h1, h2, _⟩⟩ := h
  · omega
  · exact ⟨g, cap, rfl, hb, (Array.getElem?_eq_some_iff.1 hg).1, h1, h2⟩
theorem OwnU.stored {B g c : Nat} {w : World} {n : Nat} {l : List Int} (h : OwnU B w (.slice (some ⟨g, 0, none⟩) n c) l) (j : Nat) (x : Int) : OwnU B (w.setCell ⟨g, j, none⟩ (.int .u64 x)) (.slice (some ⟨g, 0, none⟩) n c) (l.set j x) := by
  have hn : n = l.length := by
    obtain ⟨p, c', e⟩ := h.shape
    cases e; rfl
  subst hn
  have := World.ownsRow.stored (g := g) (cap := c) h j (uv x)
  unfold OwnU
  rw [List.length_set, List.map_set]
  exact this.1
theorem OwnU.cells {B : Nat} {w : World} {g n c : Nat} {l : List Int} (h : OwnU B w (.slice (some ⟨g, 0, none⟩) n c) l) {j : Nat} (hj : j < l.length) : w.cell? ⟨g, j, none⟩ = some (.int .u64 (l.getD j 0)) ∧ w.frozen? ⟨g, j, none⟩ = false := by
  have hn : n = l.length := by
    obtain ⟨p, c', e⟩ := h.shape
    cases e; rfl
  subst hn
  refine ⟨?_, World.ownsRow.frozenAt (g := g) (cap := c) h j⟩
  rw [World.ownsRow.cellAt (g := g) (cap := c) h j (by omega)]
  simp [hj, uv]
theorem OwnU.below {B : Nat} {w w' : World} {v : Value} {l : List Int} (h : OwnU B w v l) (hb : Below w.heap.size w w') : OwnU B w' v l := by
  refine ⟨h.1, h.2.imp id ?_⟩
  rintro ⟨g, cap, cur, hv, h1, hg, r⟩
  exact ⟨g, cap, cur, hv, h1, (hb.block g (Array.getElem?_eq_some_iff.1 hg).1).trans hg, r⟩
theorem OwnU.drew {B : Nat} {w : World} {v : Value} {l : List Int} (h : OwnU B w v l) : OwnU B w.drew v l := h
theorem own_nil_u (B : Nat) (w : World) : OwnU B w (.slice none 0 0) [] := World.ownsRow_nil _ _ _ _
theorem own_made_u (w : World) (n : Nat) (hn : n ≤ maxLen) : OwnU w.heap.size (w.alloc (.cells (madeCells #[.int .u64 0] n) 49)) (.slice (some ⟨w.heap.size, 0, none⟩) n n) (List.replicate n 0) := by
  have e : (madeCells #[.int .u64 0] n).toList = (List.replicate n 0).map uv := by rw [toList_madeCells_one]; simp [uv]
  refine ⟨by simp, .inr ⟨w.heap.size, n, madeCells #[.int .u64 0] n, by simp, Nat.le_refl _, heap_alloc_new w _, by simp, hn, by rw [← Array.length_toList, e]; simp, by rw [e]; simp⟩⟩
/-- append([]uint64{}, t...): a copy, of the call's own -/
theorem own_fresh_u (w : World) : OwnU w.heap.size (w.alloc (.cells #[] 49)) (.slice (some ⟨w.heap.size, 0, none⟩) 0 0) [] := own_lit_u w [] (Nat.zero_le _)
theorem below_app_u {B : Nat} {w w1 w2 : World} {v : Value} {l : List Int} (h : Below B w w1) (hB : B ≤ w1.heap.size) (ho : OwnU B w1 v l) (hg : w1.grownBy w2 v.ownBlock) : Below B w w2 := h.grown hg hB (fun k hk => (World.ownsRow.lt ho k hk).1)
end Go.Proofs.Ytkpefnjohdjejaa

/-
  Contract of the reference's SameWords: words that are the same.
-/
namespace Go.Proofs.Ytkpefnjohdjejaa
set_option maxRecDepth 100000
open Go.RowKit

end Go.Proofs.Ytkpefnjohdjejaa

/-
  Blocks that are the same, words that are the same; words of one free block.
-/
namespace Go.Proofs.Ytkpefnjohdjejaa
set_option maxRecDepth 100000
open Go.RowKit

set_option maxHeartbeats 1000000 in
theorem blks_same {v u : Value} {l : List Bk} {w : World} (hv : RA blkE w v l) (hu : RA blkE w u l) : Calls Try.prog 14 #[v, u] w fun e w' => e = .returned (.bool true) ∧ ∃ n, w' = w.drewN n := by
  obtain ⟨p, c, rfl, hlc, hcm⟩ := ra_shape hv
  obtain ⟨q, d, rfl, _, _⟩ := ra_shape hu
  have HS : Hid (∀ wr, (∃ n, wr = w.drewN n) → ∀ j, j < l.length → ∃ b off b' off', p = some ⟨b, off, none⟩ ∧ q = some ⟨b', off', none⟩ ∧ (∀ m, (blkLoad (.pointer (some ⟨b, off + j * 3, none⟩))).run Try.prog (wr.drewN m) = .ok (.agg (bc (l.getD j default))) (wr.drewN m)) ∧ ∀ m, (blkLoad (.pointer (some ⟨b', off' + j * 3, none⟩))).run Try.prog (wr.drewN m) = .ok (.agg (bc (l.getD j default))) (wr.drewN m)) := Lib.hid fun wr hwr j hj => by
    obtain ⟨n, rfl⟩ := hwr
    obtain ⟨b, off, rfl, _, _⟩ := blk_at hv (by omega)
    obtain ⟨b', off', rfl, _, _⟩ := blk_at hu (by omega)
    refine ⟨b, off, b', off', rfl, rfl, fun m => ?_, fun m => ?_⟩
    · obtain ⟨_, _, e, _, hx⟩ := blk_at (w := (w.drewN n).drewN m) hv (by omega)
      cases e
      exact (hx j hj).1
    · obtain ⟨_, _, e, _, hx⟩ := blk_at (w := (w.drewN n).drewN m) hu (by omega)
      cases e
      exact (hx j hj).1
  unfold maxLen at hcm
  have HL : Hid (l.length ≤ 9223372036854775807) := Lib.hid (by omega)
  clear hv hu hlc hcm
  go_enter Try.func14, Try.ntmps14
  go_wp2
  go_loopw [13] (fun i wr => ∃ k : Nat, k ≤ l.length ∧ i = .int .i64 k ∧ Hid (∃ n, wr = w.drewN n)) (fun i _ => l.length - (intOf i).toNat)
  case atStart => exact ⟨0, Nat.zero_le _, rfl, Lib.hid ⟨0, rfl⟩⟩
  case round =>
    obtain ⟨k, hk, rfl, HD⟩ := hrel
    by_cases hlt : k < l.length
    · obtain ⟨b, off, b', off', rfl, rfl, d1, d2⟩ := HS.out wr HD.out k hlt
      have j0 : IntKind.i64.wrap ((k : Int) + 1) = ((k + 1 : Nat) : Int) := by rw [show (k : Int) + 1 = ((k + 1 : Nat) : Int) by omega]; exact i64_nat _ (by have := HL.out; omega)
      have i0 : (0 : Int) ≤ (k : Int) := by omega
      have i1 : (k : Int) < (l.length : Int) := by omega
      have i2 : ¬ (k : Int) < 0 := by omega
      clear HS
      generalize l.getD k default = y at *
      generalize l.length = L at *
      have hy := eqB_self y
      go_wp2_with fail
      go_quiet (fail)
      go_wp2
      exact ⟨⟨k + 1, by omega, by go_num, Lib.hid (by obtain ⟨n, e⟩ := HD.out; subst e; exact ⟨_, World.drewN_drewN ..⟩)⟩, by simp [intOf]; omega⟩
    · obtain rfl : k = l.length := by omega
      go_wp2
      go_ret
      exact ⟨rfl, HD.out⟩

/-- words of one free block -/
def firstL (n : Int) : List Int := if Mw n then (List.replicate n.toNat 0).set 0 (n * 2) else []
theorem firstL_no {n : Int} (h : ¬ Mw n) : firstL n = [] := if_neg h
theorem firstL_yes {n : Nat} (h : Mw n) : firstL n = (List.replicate n 0).set 0 ((n : Int) * 2) := by rw [firstL, if_pos h, Int.toNat_natCast]
theorem Mw.mayB {n : Int} (h : Mw n) : MayB n := by obtain ⟨h1, h2, _⟩ := h; exact ⟨by omega, h2⟩

set_option maxHeartbeats 1000000 in
theorem first_is (n : Int) (w : World) : Calls Try.prog 38 #[.int .i64 n] w fun e w' => (∃ v, e = .returned v ∧ OwnU w.heap.size w' v (firstL n)) ∧ Below w.heap.size w w' := by
  have C := Lib.hid (mayw_is n w)
  by_cases hm : Mw n
  · rw [decide_eq_true hm] at C
    have hm2 := hm
    obtain ⟨h1, h2, _⟩ := hm2
    obtain ⟨k, rfl⟩ : ∃ k : Nat, n = k := ⟨n.toNat, by omega⟩
    rw [firstL_yes hm]
    have hmk := run_make_row' (P := Try.prog) 41 49 (.int .u64 0) 8 Try.underlying41 info_u64 rfl .i64 .i64 k (by omega) (by omega)
    obtain ⟨W, hW⟩ : ∃ W, w.alloc (.cells (madeCells #[.int .u64 0] k) 49) = W := ⟨_, rfl⟩
    have O := own_made_u w k (by unfold maxLen; omega)
    have B := bal (o := .cells (madeCells #[.int .u64 0] k) 49) (Below.refl w.heap.size w)
    rw [hW] at O B
    obtain ⟨c1, f1⟩ := OwnU.cells O (j := 0) (by simp; omega)
    have own2 := OwnU.stored O 0 ((k : Int) * 2)
    have B2 := B.setCell (p := ⟨w.heap.size, 0, none⟩) (Nat.le_refl _) (.int .u64 ((k : Int) * 2))
    have HO := Lib.hid own2
    have HB := Lib.hid B2
    have C2 := Lib.hid (wordb_is (k : Int) false W)
    rw [hdB_yes hm.mayB, show useB false = 0 from rfl, Int.add_zero] at C2
    have k1 : 0 < k := by omega
    generalize (List.replicate k (0 : Int)).getD 0 0 = y at c1
    clear O B own2 B2 hm h1 h2
    go_enter Try.func38, Try.ntmps38
    go_wp2_with fail
    refine (C.out).mono ?_; rintro e w' ⟨rfl, rfl⟩
    go_wp2_with fail
    refine (C2.out).mono ?_; rintro e w' ⟨rfl, rfl⟩
    go_wp2_with fail
    go_ret
    exact ⟨⟨_, rfl, HO.out⟩, HB.out⟩
  · rw [decide_eq_false hm] at C
    rw [firstL_no hm]
    clear hm
    go_enter Try.func38, Try.ntmps38
    go_wp2_with fail
    refine (C.out).mono ?_; rintro e w' ⟨rfl, rfl⟩
    go_wp2_with fail
    go_ret
    exact ⟨⟨_, rfl, own_nil_u _ _⟩, Below.refl _ _⟩
set_option maxHeartbeats 1000000 in
theorem rfirst_is (n : Int) (w : World) : Calls Try.prog 19 #[.int .i64 n] w fun e w' => (∃ v, e = .returned v ∧ OwnU w.heap.size w' v (firstL n)) ∧ Below w.heap.size w w' := by
  have C := Lib.hid (rmayw_is n w)
  by_cases hm : Mw n
  · rw [decide_eq_true hm] at C
    have hm2 := hm
    obtain ⟨h1, h2, _⟩ := hm2
    obtain ⟨k, rfl⟩ : ∃ k : Nat, n = k := ⟨n.toNat, by omega⟩
    rw [firstL_yes hm]
    have hmk := run_make_row' (P := Try.prog) 41 49 (.int .u64 0) 8 Try.underlying41 info_u64 rfl .i64 .i64 k (by omega) (by omega)
    obtain ⟨W, hW⟩ : ∃ W, w.alloc (.cells (madeCells #[.int .u64 0] k) 49) = W := ⟨_, rfl⟩
    have O := own_made_u w k (by unfold maxLen; omega)
    have B := bal (o := .cells (madeCells #[.int .u64 0] k) 49) (Below.refl w.heap.size w)
    rw [hW] at O B
    obtain ⟨c1, f1⟩ := OwnU.cells O (j := 0) (by simp; omega)
    have own2 := OwnU.stored O 0 ((k : Int) * 2)
    have B2 := B.setCell (p := ⟨w.heap.size, 0, none⟩) (Nat.le_refl _) (.int .u64 ((k : Int) * 2))
    have HO := Lib.hid own2
    have HB := Lib.hid B2
    have C2 := Lib.hid (rwordb_is (k : Int) false W)
    rw [hdB_yes hm.mayB, show useB false = 0 from rfl, Int.add_zero] at C2
    have k1 : 0 < k := by omega
    generalize (List.replicate k (0 : Int)).getD 0 0 = y at c1
    clear O B own2 B2 hm h1 h2
    go_enter Try.func19, Try.ntmps19
    go_wp2_with fail
    refine (C.out).mono ?_; rintro e w' ⟨rfl, rfl⟩
    go_wp2_with fail
    refine (C2.out).mono ?_; rintro e w' ⟨rfl, rfl⟩
    go_wp2_with fail
    go_ret
    exact ⟨⟨_, rfl, HO.out⟩, HB.out⟩
  · rw [decide_eq_false hm] at C
    rw [firstL_no hm]
    clear hm
    go_enter Try.func19, Try.ntmps19
    go_wp2_with fail
    refine (C.out).mono ?_; rintro e w' ⟨rfl, rfl⟩
    go_wp2_with fail
    go_ret
    exact ⟨⟨_, rfl, own_nil_u _ _⟩, Below.refl _ _⟩
end Go.Proofs.Ytkpefnjohdjejaa

/-
  Contracts of the reference: which blocks may be.
-/
namespace Go.Proofs.Ytkpefnjohdjejaa
set_option maxRecDepth 100000
open Go.RowKit

/-- whether the one ahead of the k-th is free -/
def gAt (l : List Bk) : Nat → Bool
  | 0 => false
  | m + 1 => !(l.getD m default).u

set_option maxHeartbeats 1000000 in
theorem rmay_is (n : Int) (l : List Bk) (v : Value) (r : Bool) (w : World) (hv : RA blkE w v l) (hl : l.length ≤ 1000) (hr : mayL n l = r) :
    Calls Try.prog 61 #[v, .int .i64 n] w fun e w' => e = .returned (.bool r) ∧ Below w.heap.size w w' := by
  obtain ⟨p, cap, rfl, hlc, hcm⟩ := ra_shape hv
  unfold maxLen at hcm
  have C := Lib.hid (rmayw_is n w)
  by_cases hm : Mw n
  · rw [decide_eq_true hm] at C
    have HR : Hid (mayF n 0 false l = r) := Lib.hid (by rw [← hr, mayL, decide_eq_true hm, Bool.true_and])
    have HL := Lib.hid hl
    have HM := Lib.hid hcm
    have HC := Lib.hid hlc
    have HV := Lib.hid hv
    have HW0 := Lib.hid hm
    clear hr hm hl hcm hlc hv
    go_enter Try.func61, Try.ntmps61
    go_wp2_with fail
    refine (C.out).mono ?_; rintro e w' ⟨rfl, rfl⟩
    go_wp2
    go_loopw [5, 13] (fun a i wr => ∃ (k z : Nat), k ≤ l.length ∧ i = .int .i64 k ∧ a = .int .i64 z ∧ z ≤ 512 * k ∧ Hid (mayF n z (gAt l k) (l.drop k) = r ∧ Below w.heap.size w wr)) (fun _ i _ => l.length - (intOf i).toNat)
    case atStart => exact ⟨0, 0, Nat.zero_le _, rfl, rfl, Nat.zero_le _, Lib.hid ⟨HR.out, Below.refl _ _⟩⟩
    case round =>
      obtain ⟨k, z, hk, rfl, rfl, hz, H⟩ := hrel
      by_cases hlt : k < l.length
      · obtain ⟨b, off, rfl, hb, hx⟩ := blk_at (ra_below HV.out H.out.2) (by omega)
        obtain ⟨hld, _, _, _, _⟩ := hx k hlt
        have HX : Hid (∀ m, k = m + 1 → wr.cell? ⟨b, off + m * 3 + 2, none⟩ = some (.bool !(gAt l k))) := Lib.hid fun m e => by
          subst e
          obtain ⟨_, _, _, h, _⟩ := hx m (by omega)
          rw [h, gAt, Bool.not_not]
        have hF := H.out.1
        rw [getD_cut hlt] at hF
        have HG : Hid (gAt l (k + 1) = !(l.getD k default).u) := Lib.hid rfl
        generalize hgg : gAt l k = g at hF HX
        generalize l.getD k default = x at *
        obtain ⟨xa, xs, xu⟩ := x
        obtain ⟨W, hW, HW⟩ := blk_boxed wr ⟨xa, xs, xu⟩
        have c0 : W.cell? ⟨wr.heap.size, 0, none⟩ = some (.int .i64 xa) := HW.out.1.c0
        have c1 : W.cell? ⟨wr.heap.size, 1, none⟩ = some (.int .i64 xs) := HW.out.1.c1
        have c2 : W.cell? ⟨wr.heap.size, 2, none⟩ = some (.bool xu) := HW.out.1.c2
        have HY : Hid (∀ m, k = m + 1 → W.cell? ⟨b, off + m * 3 + 2, none⟩ = some (.bool !g)) := Lib.hid fun m e => (HW.out.2.cell (p := ⟨b, _, none⟩) hb).trans (HX.out m e)
        have HB := Lib.hid (below_more H.out.2 HW.out.2)
        have i0 : (0 : Int) ≤ (k : Int) := by omega
        have i1 : (k : Int) < (l.length : Int) := by omega
        have i2 : ¬ (k : Int) < 0 := by omega
        have i3 : IntKind.i64.wrap ((k : Int) + 1) = ((k + 1 : Nat) : Int) := by rw [show (k : Int) + 1 = ((k + 1 : Nat) : Int) by omega]; exact i64_nat _ (by have := HL.out; omega)
        have HF := Lib.hid hF
        have HK := Lib.hid hlt
        have HL2 := Lib.hid hz
        have HN0 : Hid (k = 0 → g = false) := Lib.hid fun e => by subst e; exact hgg.symm
        clear hx hF hk hb hz HX hgg
        by_cases ha : xa = (z : Int)
        · subst ha
          by_cases hs : MayB xs
          · have M := Lib.hid (rmayb_yes xs hs W)
            obtain ⟨xn, rfl⟩ : ∃ m : Nat, xs = m := ⟨xs.toNat, by obtain ⟨h, _⟩ := hs; omega⟩
            have HS : Hid (xn ≤ 512) := Lib.hid (by obtain ⟨_, h⟩ := hs; omega)
            have j0 : IntKind.i64.wrap ((z : Int) + (xn : Int)) = ((z + xn : Nat) : Int) := by rw [show (z : Int) + (xn : Int) = ((z + xn : Nat) : Int) by omega]; exact i64_nat _ (by have := HL2.out; have := HS.out; have := HL.out; have := HK.out; omega)
            obtain ⟨q, hq⟩ : ∃ q : Int, n - (z : Int) = q := ⟨_, rfl⟩
            have j1 : IntKind.i64.wrap (n - (z : Int)) = q := by rw [hq]; exact IntWalk.i64_in _ (by have := HL2.out; have := HL.out; have := HK.out; obtain ⟨_, _, _⟩ := HW0.out; omega)
            have HMS := Lib.hid hs
            have HQ := Lib.hid hq
            clear hs hq
            by_cases hgt : (xn : Int) > q
            · obtain rfl : r = false := by
                cases r
                · rfl
                · have e := mayF_end (mayF_cons.1 HF.out).2.2.2
                  have e2 := HQ.out
                  simp only at e
                  omega
              clear j0
              go_wp2_with fail
              refine (M.out).mono ?_; rintro e w' ⟨rfl, rfl⟩
              go_wp2
              go_ret
              exact ⟨rfl, HB.out⟩
            have HN : Hid (¬ (g = true ∧ xu = false) → mayF n ((z + xn : Nat) : Int) (!xu) (l.drop (k + 1)) = r) := Lib.hid (fun hg => by
              have := HF.out
              rw [mayF, decide_eq_true (show (Bk.mk (z : Int) (xn : Int) xu).a = (z : Int) from rfl), decide_eq_true (show MayB (Bk.mk (z : Int) (xn : Int) xu).s from HMS.out)] at this
              have e : (g && !xu) = false := by cases g <;> cases xu <;> simp_all
              rw [show (g && !(Bk.mk (z : Int) (xn : Int) xu).u) = false from e] at this
              rw [← this]
              simp)
            have HE : Hid ((n : Int) = n) := Lib.hid rfl
            by_cases hk0 : k = 0
            · obtain rfl := HN0.out hk0
              have i4 : ¬ (k : Int) > 0 := by omega
              have HN2 := Lib.hid (HN.out (by simp))
              clear HN HY hk0
              go_wp2_with fail
              refine (M.out).mono ?_; rintro e w' ⟨rfl, rfl⟩
              go_wp2
              go_roundw
              case rel => exact ⟨k + 1, z + xn, by have := HK.out; omega, by go_num, rfl, by have := HL2.out; have := HS.out; omega, Lib.hid ⟨by rw [HG.out]; exact HN2.out, HB.out⟩⟩
              case measure => have := HK.out; simp [intOf]; omega
            · obtain ⟨m, hm⟩ : ∃ m, k = m + 1 := ⟨k - 1, by omega⟩
              have y2 := HY.out m hm
              have i4 : (k : Int) > 0 := by omega
              have i5 : IntKind.i64.wrap ((k : Int) - 1) = (m : Int) := by rw [show (k : Int) - 1 = (m : Int) by omega]; exact i64_nat _ (by have := HL.out; have := HK.out; omega)
              have i6 : (0 : Int) ≤ (m : Int) := by omega
              have i7 : (m : Int) < (l.length : Int) := by have := HK.out; omega
              have i8 : ¬ (m : Int) < 0 := by omega
              clear hm hk0
              clear HY
              cases xu with
              | true =>
                have HN2 := Lib.hid (HN.out (by simp))
                clear HN y2
                go_wp2_with fail
                refine (M.out).mono ?_; rintro e w' ⟨rfl, rfl⟩
                go_wp2
                go_roundw
                case rel => exact ⟨k + 1, z + xn, by have := HK.out; omega, by go_num, rfl, by have := HL2.out; have := HS.out; omega, Lib.hid ⟨by rw [HG.out]; exact HN2.out, HB.out⟩⟩
                case measure => have := HK.out; simp [intOf]; omega
              | false =>
                cases g with
                | false =>
                  have HN2 := Lib.hid (HN.out (by simp))
                  clear HN
                  go_wp2_with fail
                  refine (M.out).mono ?_; rintro e w' ⟨rfl, rfl⟩
                  go_wp2
                  go_roundw
                  case rel => exact ⟨k + 1, z + xn, by have := HK.out; omega, by go_num, rfl, by have := HL2.out; have := HS.out; omega, Lib.hid ⟨by rw [HG.out]; exact HN2.out, HB.out⟩⟩
                  case measure => have := HK.out; simp [intOf]; omega
                | true =>
                  obtain rfl : r = false := by cases r; rfl; exact absurd ⟨rfl, rfl⟩ (mayF_cons.1 HF.out).2.2.1
                  clear HN j0
                  go_wp2_with fail
                  refine (M.out).mono ?_; rintro e w' ⟨rfl, rfl⟩
                  go_wp2
                  go_ret
                  exact ⟨rfl, HB.out⟩
          · have M := Lib.hid (rmayb_no xs hs W)
            obtain rfl : r = false := by cases r; rfl; exact absurd (mayF_cons.1 HF.out).2.1 hs
            clear hs
            go_wp2_with fail
            refine (M.out).mono ?_; rintro e w' ⟨rfl, rfl⟩
            go_wp2
            go_ret
            exact ⟨rfl, HB.out⟩
        · obtain rfl : r = false := by cases r; rfl; exact absurd (mayF_cons.1 HF.out).1 ha
          have hb0 : (xa == (z : Int)) = false := beq_eq_false_iff_ne.2 ha
          go_wp2
          go_ret
          exact ⟨rfl, HB.out⟩
      · obtain rfl : k = l.length := by omega
        have hF := H.out.1
        rw [List.drop_length, mayF] at hF
        by_cases hn : (z : Int) = n
        · rw [decide_eq_true hn] at hF
          subst hF
          subst hn
          go_wp2
          go_ret
          exact ⟨rfl, H.out.2⟩
        · rw [decide_eq_false hn] at hF
          subst hF
          have hb0 : ((z : Int) == n) = false := beq_eq_false_iff_ne.2 hn
          go_wp2
          go_ret
          exact ⟨rfl, H.out.2⟩
  · rw [decide_eq_false hm] at C
    obtain rfl : r = false := by rw [← hr, mayL, decide_eq_false hm, Bool.false_and]
    clear hr hm
    go_enter Try.func61, Try.ntmps61
    go_wp2_with fail
    refine (C.out).mono ?_; rintro e w' ⟨rfl, rfl⟩
    go_wp2_with fail
    go_ret
    exact ⟨rfl, Below.refl _ _⟩
end Go.Proofs.Ytkpefnjohdjejaa

/-
  Contracts of package chain, and of the reference's of the same: blocks that words are read as.
-/
namespace Go.Proofs.Ytkpefnjohdjejaa
set_option maxRecDepth 100000
open Go.RowKit

/-- words that a uint64 can hold -/
def WordsOk (l : List Int) : Prop := ∀ j, j < l.length → 0 ≤ l.getD j 0 ∧ l.getD j 0 ≤ 18446744073709551615
theorem words_ok {l : List Int} (hw : ∀ n ∈ l, (Lit.int .u64 n).wf = true) : WordsOk l := fun j hj => by
  rw [List.getD_eq_getElem?_getD, List.getElem?_eq_getElem hj]
  exact u64_in (hw _ (List.getElem_mem hj))
theorem reads_of (x : Int) (h : MayB (x / 2)) : Reads x (x / 2) (decide (x % 2 = 1)) true := by
  refine .inl ⟨rfl, h, ?_⟩
  by_cases c : x % 2 = 1
  · rw [decide_eq_true c]; simp only [useB, if_true]; omega
  · rw [decide_eq_false c]; simp [useB]; omega
theorem ru_at {w : World} {p : Option Addr} {n cap : Nat} {l : List Int} (h : RU w (.slice p n cap) l) (h0 : 0 < l.length) : ∃ b off, p = some ⟨b, off, none⟩ ∧ ∀ i, i < l.length → w.cell? ⟨b, off + i, none⟩ = some (.int .u64 (l.getD i 0)) := by
  obtain ⟨p', cap', e, _, _, h | ⟨b, off, rfl, hc⟩⟩ := h
  · subst h; simp at h0
  · cases e; exact ⟨b, off, rfl, hc⟩

/-- the state of the loop: what is read so far, and the rest, is what all is read as -/
structure Rd (l : List Int) (w0 w : World) (v : Value) (a : Nat) (R : Option (List Bk)) : Prop where
  ex : ∃ p k, OwnA blkE w0.heap.size w v p ∧ (rdF l k a).map (p ++ ·) = R ∧ l.length ≤ a + k ∧ 2 * p.length ≤ a
  up : Below w0.heap.size w0 w
theorem Rd.start (l : List Int) (w : World) : Rd l w w (.slice none 0 0) 0 (rdF l l.length 0) :=
  ⟨⟨[], l.length, own_nil_a _ _ _, by simp, by omega, by simp⟩, Below.refl _ _⟩
theorem Rd.none_ {l : List Int} {w0 w : World} {v : Value} {a : Nat} {R : Option (List Bk)} (h : Rd l w0 w v a R) (ha : a < l.length) (hx : ¬ MayB (l.getD a 0 / 2)) : R = none := by
  obtain ⟨p, k, _, h2, _⟩ := h.ex
  rw [← h2, rdF_no ha hx]; rfl
theorem Rd.end_ {l : List Int} {w0 w : World} {v : Value} {a : Nat} {R : Option (List Bk)} (h : Rd l w0 w v a R) (ha : l.length ≤ a) : ∃ p, OwnA blkE w0.heap.size w v p ∧ R = some p ∧ 2 * p.length ≤ a := by
  obtain ⟨p, k, h1, h2, _, h4⟩ := h.ex
  exact ⟨p, h1, by rw [← h2, rdF_end ha, Option.map_some, List.append_nil], h4⟩
/-- one more: what its append needs, and what it leaves -/
theorem Rd.more {l : List Int} {w0 w W : World} {v : Value} {a n : Nat} {u : Bool} {R : Option (List Bk)} (h : Rd l w0 w v a R) (hl : l.length ≤ 1000) (ha : a < l.length) (hn : l.getD a 0 / 2 = n) (hm : MayB n) (hu : decide (l.getD a 0 % 2 = 1) = u)
    (hW : w.alloc (.cells (bc ⟨a, n, u⟩) 72) = W) :
    ∃ p, OwnA blkE w0.heap.size W v p ∧ RA blkE W (.slice (some ⟨w.heap.size, 0, none⟩) 1 1) [⟨a, n, u⟩] ∧ Hid (p.length + [(⟨a, n, u⟩ : Bk)].length ≤ 2000) ∧ w0.heap.size ≤ W.heap.size ∧
      ∀ v' w', OwnA blkE w0.heap.size w' v' (p ++ [⟨a, n, u⟩]) → W.grownBy w' v.ownBlock → Rd l w0 w' v' (a + n) R := by
  obtain ⟨p, k, h1, h2, h3, h4⟩ := h.ex
  have hB : Below w0.heap.size w0 W := by rw [← hW]; exact bal h.up
  have hO : OwnA blkE w0.heap.size W v p := by rw [← hW]; exact h1.alloc _
  have hm2 := hm
  obtain ⟨n1, n2⟩ := hm2
  refine ⟨p, hO, ?_, Lib.hid (by simp; omega), hB.size, fun v' w' ho hg => ⟨⟨p ++ [⟨a, n, u⟩], k - 1, ho, ?_, by omega, by simp; omega⟩, below_app hB hB.size hO hg⟩⟩
  · rw [← hW]; exact (blk_one w (c := ⟨a, n, u⟩) (Bk.wf_of (by simp only; omega) (by simp only; omega) (by simp only; omega) (by simp only; omega))).ra
  · obtain ⟨j, rfl⟩ : ∃ j, k = j + 1 := ⟨k - 1, by omega⟩
    rw [← h2, Nat.add_sub_cancel, rdF, if_pos ha, hn, if_pos hm, hu, Int.toNat_natCast, Option.map_map]
    congr 1
    funext r
    simp

set_option maxHeartbeats 2000000 in
theorem rblocks_main (l : List Int) (v : Value) (R : Option (List Bk)) (w : World) (hv : RU w v l) (hl : l.length ≤ 1000) (hw : WordsOk l) (hr : blkF l = R) :
    Calls Try.prog 37 #[v] w fun e w' => (∃ u, e = .returned (.tuple #[u, .bool R.isSome]) ∧ OwnA blkE w.heap.size w' u (R.getD [])) ∧ Below w.heap.size w w' := by
  have HV := Lib.hid hv
  obtain ⟨p, cap, rfl, hlc, hcm, _⟩ := hv
  have HL := Lib.hid hl
  have HW := Lib.hid hw
  have HR := Lib.hid hr
  clear hl hw hr hlc hcm
  go_enter Try.func37, Try.ntmps37
  go_wp2
  go_loopw [4, 5] (fun y a wr => ∃ (z : Nat) (lv : Value), y = lv ∧ a = .int .i64 z ∧ z ≤ l.length + 512 ∧ Hid (Rd l w wr lv z (rdF l l.length 0))) (fun _ a _ => l.length - (intOf a).toNat)
  case atStart => exact ⟨0, _, rfl, rfl, Nat.zero_le _, Lib.hid (Rd.start l w)⟩
  case round =>
    obtain ⟨z, lv, rfl, rfl, hz, H⟩ := hrel
    by_cases hlt : z < l.length
    · obtain ⟨b, off, rfl, hx⟩ := ru_at (ru_below HV.out H.out.up) (by omega)
      have c1 := hx z hlt
      obtain ⟨x0, x1⟩ := HW.out z hlt
      have i0 : (0 : Int) ≤ (z : Int) := by omega
      have i1 : (z : Int) < (l.length : Int) := by omega
      have i2 : ¬ (z : Int) < 0 := by omega
      have HK := Lib.hid hlt
      have HZ := Lib.hid hz
      by_cases hm : MayB (l.getD z 0 / 2)
      · have P := Lib.hid (fun w => rparse_is (l.getD z 0) _ _ _ (reads_of _ hm) x0 x1 w)
        obtain ⟨n, hn⟩ : ∃ n : Nat, l.getD z 0 / 2 = n := ⟨(l.getD z 0 / 2).toNat, by obtain ⟨h, _⟩ := hm; omega⟩
        obtain ⟨u, hu⟩ : ∃ u, decide (l.getD z 0 % 2 = 1) = u := ⟨_, rfl⟩
        obtain ⟨W, hW⟩ : ∃ W, wr.alloc (.cells (bc ⟨z, n, u⟩) 72) = W := ⟨_, rfl⟩
        obtain ⟨pre, o1, r1, hlen, hB, hmore⟩ := H.out.more HL.out hlt hn (hn ▸ hm) hu hW
        rw [hn, hu] at P
        have HN : Hid (2 ≤ n ∧ n ≤ 512) := Lib.hid (by rw [hn] at hm; obtain ⟨a, b⟩ := hm; omega)
        have j0 : IntKind.i64.wrap ((z : Int) + (n : Int)) = ((z + n : Nat) : Int) := by rw [show (z : Int) + (n : Int) = ((z + n : Nat) : Int) by omega]; exact i64_nat _ (by have := HL.out; have := HN.out; omega)
        have O1 := Lib.hid o1
        have R1 := Lib.hid r1
        have HB := Lib.hid hB
        have HM := Lib.hid hmore
        clear hx hm hn hu x0 x1 hz o1 r1 hB hmore
        generalize l.getD z 0 = x at *
        go_wp2_with fail
        refine (P.out _).mono ?_; rintro e w' ⟨rfl, rfl⟩
        go_wp2_with (at_builtin; refine app_blk (o := ⟨some 30, _, _, _, _, _⟩) rfl (.tmp 24) (.tmp 29) rfl w.heap.size _ pre rfl O1.out _ [⟨z, n, u⟩] rfl R1.out hlen HB.out ?_)
        intro v' w2 o2 g2 _
        have HN2 := Lib.hid (HM.out v' w2 o2 g2)
        clear o2 g2
        go_wp2
        go_roundw
        case rel => exact ⟨z + n, _, rfl, rfl, by have := HK.out; have := HN.out; omega, HN2⟩
        case measure => have := HK.out; have := HN.out; simp [intOf]; omega
      · have P := Lib.hid (fun w => rparse_no (l.getD z 0) x0 x1 hm w)
        have hR : R = none := by rw [← HR.out, blkF, H.out.none_ hlt hm]; rfl
        subst hR
        have HB := Lib.hid H.out.up
        clear hx hm x0 x1 hz
        generalize l.getD z 0 = x at *
        go_wp2_with fail
        refine (P.out _).mono ?_; rintro e w' ⟨rfl, rfl⟩
        go_wp2
        go_ret2
        exact ⟨⟨_, rfl, own_nil_a _ _ _⟩, HB.out⟩
    · obtain ⟨pre, o1, hp, hlen⟩ := H.out.end_ (by omega)
      have M := Lib.hid (rmay_is l.length pre _ _ wr o1.ra (by have := HL.out; omega) rfl)
      have i3 : ¬ (z : Int) < (l.length : Int) := by omega
      have HB := Lib.hid H.out.up
      have hR := HR.out
      rw [blkF, hp, Option.bind_some] at hR
      have O1 := Lib.hid o1
      clear hp o1 hz hlen
      cases hmm : mayL l.length pre
      · rw [hmm] at M
        rw [hmm, if_neg Bool.false_ne_true] at hR
        subst hR
        clear hmm
        go_wp2_with fail
        refine (M.out).mono ?_; rintro e w2 ⟨rfl, hb⟩
        have HB2 := Lib.hid (below_more HB.out hb)
        clear hb
        go_wp2
        go_ret2
        exact ⟨⟨_, rfl, own_nil_a _ _ _⟩, HB2.out⟩
      · rw [hmm] at M
        rw [hmm, if_pos rfl] at hR
        subst hR
        clear hmm
        go_wp2_with fail
        refine (M.out).mono ?_; rintro e w2 ⟨rfl, hb⟩
        have O2 := Lib.hid (O1.out.below hb)
        have HB2 := Lib.hid (below_more HB.out hb)
        clear hb
        go_wp2
        go_ret2
        exact ⟨⟨_, rfl, O2.out⟩, HB2.out⟩

theorem blkF_no {l : List Int} (h : ¬ Mw l.length) : blkF l = none := by
  rw [blkF]
  cases rdF l l.length 0 with
  | none => rfl
  | some p => rw [Option.bind_some, if_neg]; intro k; exact h (mayL_yes.1 k).1
end Go.Proofs.Ytkpefnjohdjejaa

/-
  Headers of blocks written into words: what the statements write.
-/
namespace Go.Proofs.Ytkpefnjohdjejaa
set_option maxRecDepth 100000
open Go.RowKit

theorem wrF_take (w : List Int) {l : List Bk} {k : Nat} (hk : k < l.length) : wrF w (l.take (k + 1)) = (wrF w (l.take k)).set (l.getD k default).a.toNat (hdB (l.getD k default).s (l.getD k default).u) := by
  rw [List.take_add_one, wrF_app, List.getD_eq_getElem?_getD, List.getElem?_eq_getElem hk]
  rfl

end Go.Proofs.Ytkpefnjohdjejaa

/-
  The call of awake of darninglaw14.
-/
namespace Go.Proofs.Ytkpefnjohdjejaa
set_option maxRecDepth 100000
open Go.RowKit

theorem ones_blk : blkF [7, 0, 0, 10, 0, 0, 0, 0] = some [⟨0, 3, true⟩, ⟨3, 5, false⟩] := by kernel_rfl
theorem ones_first : firstL 8 = [16, 0, 0, 0, 0, 0, 0, 0] := by kernel_rfl
theorem OwnA.as_slice {B : Nat} {w : World} {v : Value} {l : List Bk} (h : OwnA blkE B w v l) (h0 : 0 < l.length) : ∃ g c, v = .slice (some ⟨g, 0, none⟩) l.length c ∧ l.length ≤ c ∧ g < w.heap.size ∧ ∀ w', Below w.heap.size w w' → RA blkE w' (.slice (some ⟨g, 0, none⟩) l.length c) l ∧ ∀ k, k < l.length →
    w'.cell? ⟨g, k * 3, none⟩ = some (.int .i64 (l.getD k default).a) ∧ w'.cell? ⟨g, k * 3 + 1, none⟩ = some (.int .i64 (l.getD k default).s) ∧ w'.cell? ⟨g, k * 3 + 2, none⟩ = some (.bool (l.getD k default).u) := by
  obtain ⟨g, c, rfl, _, hg, hc, _⟩ := h.block h0
  refine ⟨g, c, rfl, hc, hg, fun w' hb => ⟨(h.below hb).ra, fun k hk => ?_⟩⟩
  obtain ⟨b, off, e, _, hx⟩ := blk_at (h.below hb).ra h0
  cases e
  obtain ⟨_, x1, x2, x3, _⟩ := hx k hk
  rw [Nat.zero_add] at x1 x2 x3
  exact ⟨x1, x2, x3⟩

end Go.Proofs.Ytkpefnjohdjejaa

/-
  Slices of blocks and words of a call's own: an element, as the statements read it.
-/
namespace Go.Proofs.Ytkpefnjohdjejaa
set_option maxRecDepth 100000
open Go.RowKit

theorem OwnA.elem {B g n c : Nat} {w : World} {l : List Bk} (h : OwnA blkE B w (.slice (some ⟨g, 0, none⟩) n c) l) {k : Nat} (hk : k < l.length) : (blkLoad (.pointer (some ⟨g, k * 3, none⟩))).run Try.prog w = .ok (.agg (bc (l.getD k default))) w := by
  obtain ⟨b, off, e, _, hx⟩ := blk_at h.ra (by omega)
  cases e
  obtain ⟨x, _⟩ := hx k hk
  rw [Nat.zero_add] at x
  exact x
theorem set_ok {l : List Int} (h : WordsOk l) {j : Nat} {x : Int} (h0 : 0 ≤ x) (h1 : x ≤ 18446744073709551615) : WordsOk (l.set j x) := fun i hi => by
  rw [List.length_set] at hi
  have := h i hi
  rw [List.getD_eq_getElem?_getD] at this ⊢
  by_cases e : j = i
  · subst e
    rw [List.getElem?_set_self hi]
    exact ⟨h0, h1⟩
  · rw [List.getElem?_set_ne e]; exact this
theorem hdB_in (n : Int) (u : Bool) : 0 ≤ hdB n u ∧ hdB n u ≤ 18446744073709551615 := by
  by_cases h : MayB n
  · rw [hdB_yes h]
    obtain ⟨h1, h2⟩ := h
    rcases useB_or u with ⟨_, e⟩ | ⟨_, e⟩ <;> omega
  · rw [hdB_no h]; decide
theorem wrF_ok : ∀ (l : List Bk) (w : List Int), WordsOk w → WordsOk (wrF w l)
  | [], _, h => h
  | _ :: r, _, h => wrF_ok r _ (set_ok h (hdB_in _ _).1 (hdB_in _ _).2)
theorem zeros_ok (n : Nat) : WordsOk (List.replicate n 0) := fun j hj => by
  rw [List.length_replicate] at hj
  simp [hj]

end Go.Proofs.Ytkpefnjohdjejaa

/-
  Contract of carve.Edits: the words that are written.
-/
namespace Go.Proofs.Ytkpefnjohdjejaa
set_option maxRecDepth 100000
open Go.RowKit

/-- what Edits asks of the blocks that it is told -/
def EdOk (P : List Bk) : Prop := ∀ b ∈ P, 0 ≤ b.a ∧ b.a ≤ 512 ∧ 2 ≤ b.s ∧ b.s ≤ 512
theorem edF_take {P : List Bk} {k : Nat} (h : k < P.length) : edF (P.take (k + 1)) = edF (P.take k) ++ edB (P.getD k default) := by
  rw [List.take_add_one, List.getElem?_eq_getElem h, List.getD_eq_getElem?_getD, List.getElem?_eq_getElem h]
  simp only [edF, Option.toList_some, List.flatMap_append, List.flatMap_cons, List.flatMap_nil, List.append_nil, Option.getD_some]
theorem edB_length {b : Bk} (h : b.s ≤ 512) : (edB b).length ≤ 513 := by
  rw [edB, rise_length, edV, List.length_cons]
  split
  · rw [List.length_replicate]; omega
  · simp
theorem edF_length {P : List Bk} (h : EdOk P) : ∀ k, k ≤ P.length → (edF (P.take k)).length ≤ 513 * k
  | 0, _ => by simp [edF]
  | k + 1, hk => by
    have h1 := edF_length h k (by omega)
    have h2 := h (P.getD k default) (by rw [List.getD_eq_getElem?_getD, List.getElem?_eq_getElem (by omega)]; exact List.getElem_mem _)
    have h3 := edB_length h2.2.2.2
    rw [edF_take (by omega), List.length_append]
    omega
theorem edOk_prt {l : List Bk} {i n : Int} (h : canC l i n = true) : EdOk (prtB (bAt l i) n) := by
  obtain ⟨hm, h0, h1, hu, ht⟩ := canC_yes.1 h
  have hz := mayF_sizes (mayL_yes.1 hm).2 _ (bAt_mem h0 h1)
  obtain ⟨g1, g2, g3⟩ := (mayL_yes.1 hm).1
  obtain ⟨⟨s1, s2⟩, a1, a2⟩ := hz
  obtain ⟨t1, t2, t3, t4⟩ := takN_some ht
  intro b hb
  unfold prtB at hb
  split at hb
  · obtain rfl := List.mem_singleton.1 hb
    exact ⟨a1, by simp only; omega, s1, s2⟩
  · simp only [List.mem_cons, List.not_mem_nil, or_false] at hb
    rcases hb with rfl | rfl
    · refine ⟨a1, ?_, ?_, ?_⟩ <;> simp only <;> omega
    · refine ⟨?_, ?_, ?_, ?_⟩ <;> simp only <;> omega
theorem edRise_ok {a : Int} (h1 : 0 ≤ a) (h2 : a ≤ 9223372036854774807) : ∀ n : Nat, n ≤ 1000 → AllOk edE (rise a (List.replicate n 0))
  | 0, _ => fun _ h => by cases h
  | n + 1, hn => by
    intro x hx
    rw [rise_more] at hx
    rcases List.mem_append.1 hx with hx | hx
    · exact edRise_ok h1 h2 n (by omega) x hx
    · obtain rfl := List.mem_singleton.1 hx
      refine Ed.wf_of ?_ ?_ ?_ ?_ <;> simp only <;> omega

end Go.Proofs.Ytkpefnjohdjejaa

/-
  What every program must know of package carve: the call of awake of darninglaw16.
-/
namespace Go.Proofs.Ytkpefnjohdjejaa
set_option maxRecDepth 100000
open Go.RowKit

theorem OwnA.as_eds {B : Nat} {w : World} {v : Value} {l : List Ed} (h : OwnA edE B w v l) (h0 : 0 < l.length) : ∃ g c, v = .slice (some ⟨g, 0, none⟩) l.length c ∧ l.length ≤ c ∧ ∀ w', Below w.heap.size w w' → RA edE w' (.slice (some ⟨g, 0, none⟩) l.length c) l ∧ ∀ k, k < l.length →
    w'.cell? ⟨g, k * 2, none⟩ = some (.int .i64 (l.getD k default).w) ∧ w'.cell? ⟨g, k * 2 + 1, none⟩ = some (.int .u64 (l.getD k default).v) := by
  obtain ⟨g, c, rfl, _, hg, hc, _⟩ := h.block h0
  refine ⟨g, c, rfl, hc, fun w' hb => ⟨(h.below hb).ra, fun k hk => ?_⟩⟩
  obtain ⟨b, off, e, _, hx⟩ := ed_at (h.below hb).ra h0
  cases e
  obtain ⟨_, x1, x2, _⟩ := hx k hk
  rw [Nat.zero_add] at x1 x2
  exact ⟨x1, x2⟩
theorem crv_one : crvF [⟨0, 8, false⟩] 0 3 = [⟨0, 3, true⟩, ⟨3, 5, false⟩] := by kernel_rfl
theorem ced_one : cedF [⟨0, 8, false⟩] 0 3 = [⟨0, 7⟩, ⟨1, 0⟩, ⟨2, 0⟩, ⟨3, 10⟩] := by kernel_rfl
theorem can_one : canC [⟨0, 8, false⟩] 0 3 = true := by kernel_rfl

end Go.Proofs.Ytkpefnjohdjejaa

/-
  What the statements on a block that is taken start from: a place, a number of words; what can be taken there.
-/
namespace Go.Proofs.Ytkpefnjohdjejaa
set_option maxRecDepth 100000
open Go.RowKit

theorem bAt_nat (l : List Bk) (k : Nat) : bAt l (k : Int) = l.getD k default := by rw [bAt, Int.toNat_natCast]
theorem can_at {n : Int} {l : List Bk} (h : mayL n l = true) {k : Nat} (hk : k < l.length) {N : Int} (hN : 2 ≤ N) : canC l k N = (!(l.getD k default).u && decide (N ≤ (l.getD k default).s)) := by
  have hm := mayL_mayS h
  have hb := bAt_nat l k
  cases hu : (l.getD k default).u
  · by_cases c : N ≤ (l.getD k default).s
    · rw [decide_eq_true c]
      exact canC_yes.2 ⟨hm, by omega, by omega, by rw [hb]; exact hu, by rw [hb]; exact fun e => takN_zero.1 e ⟨hN, c⟩⟩
    · rw [decide_eq_false c]
      cases e : canC l k N
      · rfl
      · obtain ⟨_, _, _, _, ht⟩ := canC_yes.1 e
        rw [hb] at ht
        exact absurd (takN_zero.2 (by omega)) ht
  · cases e : canC l k N
    · rfl
    · obtain ⟨_, _, _, hu', _⟩ := canC_yes.1 e
      rw [hb, hu] at hu'
      cases hu'
theorem at_in {n : Int} {l : List Bk} (h : mayL n l = true) {k : Nat} (hk : k < l.length) : MayB (l.getD k default).s ∧ 0 ≤ (l.getD k default).a ∧ (l.getD k default).a + (l.getD k default).s ≤ n :=
  mayF_sizes (mayL_yes.1 h).2 _ (by rw [List.getD_eq_getElem?_getD, List.getElem?_eq_getElem hk]; exact List.getElem_mem hk)
/-- the numbers that the statements make of any -/
theorem placeb_of (x : Int) (L : Nat) (hL : 0 < L) (h2 : L ≤ 300) : ∃ u k : Nat, IntKind.u64.wrap x = (u : Int) ∧ IntKind.u64.wrap (L : Int) = (L : Int) ∧ (u : Int).tmod (L : Int) = (k : Int) ∧ IntKind.i64.wrap (k : Int) = (k : Int) ∧ k < L := by
  obtain ⟨u, hu, _⟩ := u64_nat x
  have hk : u % L < L := Nat.mod_lt _ hL
  exact ⟨u, u % L, hu, by rw [IntKind.wrap_u64]; omega, tmod_nat u L, i64_nat _ (by omega), hk⟩
theorem need_of (x : Int) : ∃ u q N : Nat, IntKind.u64.wrap x = (u : Int) ∧ (u : Int).tmod 60 = (q : Int) ∧ IntKind.i64.wrap (q : Int) = (q : Int) ∧ IntKind.i64.wrap (2 + (q : Int)) = (N : Int) ∧ 2 ≤ N ∧ N ≤ 62 := by
  obtain ⟨u, hu, _⟩ := u64_nat x
  have hk : u % 60 < 60 := Nat.mod_lt _ (by omega)
  exact ⟨u, u % 60, 2 + u % 60, hu, tmod_nat u 60, i64_nat _ (by omega), by rw [show (2 : Int) + ((u % 60 : Nat) : Int) = ((2 + u % 60 : Nat) : Int) by omega]; exact i64_nat _ (by omega), by omega, by omega⟩
theorem frS_in {n : Int} : ∀ {l : List Bk} {a : Int} {f : Bool}, mayF n a f l = true → 0 ≤ frS l ∧ frS l ≤ szs l
  | [], _, _, _ => by simp [frS, szs]
  | b :: r, a, f, h => by
    obtain ⟨_, ⟨h1, _⟩, _, h⟩ := mayF_cons.1 h
    have := frS_in h
    rw [frS, szs]
    split <;> omega
theorem frL_in {n : Int} {l : List Bk} (h : mayL n l = true) : frL l = frS l ∧ 0 ≤ frS l ∧ frS l ≤ 512 := by
  have hf := (mayL_yes.1 h).2
  have h1 := frS_in hf
  have h2 := (mayF_end hf).1
  obtain ⟨_, h3, _⟩ := (mayL_yes.1 h).1
  exact ⟨frL_yes (mayL_okL h), h1.1, by omega⟩
end Go.Proofs.Ytkpefnjohdjejaa

/-
  A block given back, plainly: which can be, what becomes one free block, the blocks behind it, the word that is written.
-/
namespace Go.Proofs.Ytkpefnjohdjejaa
set_option maxRecDepth 100000

/-- the block at a place can be given back -/
def canM (l : List Bk) (i : Int) : Bool := mayS l && decide (0 ≤ i ∧ i < l.length ∧ (bAt l i).u = true)
/-- from which place, up to which one, all becomes one -/
def frm (l : List Bk) (k : Nat) : Nat := if 0 < k ∧ (l.getD (k - 1) default).u = false then k - 1 else k
def too (l : List Bk) (k : Nat) : Nat := if k + 1 < l.length ∧ (l.getD (k + 1) default).u = false then k + 2 else k + 1
def midB (l : List Bk) (k : Nat) : List Bk := (l.take (too l k)).drop (frm l k)
def oneB (l : List Bk) (k : Nat) : Bk := ⟨(l.getD (frm l k) default).a, szs (midB l k), false⟩
def mrgF (l : List Bk) (i : Int) : List Bk := if canM l i = true then l.take (frm l i.toNat) ++ (oneB l i.toNat :: l.drop (too l i.toNat)) else []
def medF (l : List Bk) (i : Int) : Ed := if canM l i = true then ⟨(oneB l i.toNat).a, hdB (oneB l i.toNat).s false⟩ else ⟨0, 0⟩

theorem canM_yes {l : List Bk} {i : Int} : canM l i = true ↔ mayS l = true ∧ 0 ≤ i ∧ i < l.length ∧ (bAt l i).u = true := by simp [canM]
theorem canM_no {l : List Bk} {i : Int} (h : canM l i = false) : mayS l = false ∨ i < 0 ∨ (l.length : Int) ≤ i ∨ (0 ≤ i ∧ i < l.length ∧ (bAt l i).u = false) := by
  by_cases h1 : mayS l = true
  · by_cases h2 : i < 0
    · exact .inr (.inl h2)
    · by_cases h3 : (l.length : Int) ≤ i
      · exact .inr (.inr (.inl h3))
      · refine .inr (.inr (.inr ⟨by omega, by omega, ?_⟩))
        cases h4 : (bAt l i).u
        · rfl
        · rw [canM_yes.2 ⟨h1, by omega, by omega, h4⟩] at h
          cases h
  · exact .inl (by simpa using h1)
theorem mrgF_no {l : List Bk} {i : Int} (h : canM l i = false) : mrgF l i = [] := by rw [mrgF, h]; rfl
theorem medF_no {l : List Bk} {i : Int} (h : canM l i = false) : medF l i = ⟨0, 0⟩ := by rw [medF, h]; rfl
theorem frm_or (l : List Bk) (k : Nat) : (frm l k = k ∧ (k = 0 ∨ (l.getD (k - 1) default).u = true)) ∨ (0 < k ∧ frm l k = k - 1 ∧ (l.getD (k - 1) default).u = false) := by
  by_cases c : 0 < k ∧ (l.getD (k - 1) default).u = false
  · exact .inr ⟨c.1, by rw [frm, if_pos c], c.2⟩
  · refine .inl ⟨by rw [frm, if_neg c], ?_⟩
    by_cases d : k = 0
    · exact .inl d
    · refine .inr ?_
      cases e : (l.getD (k - 1) default).u
      · exact absurd ⟨by omega, e⟩ c
      · rfl
theorem too_or (l : List Bk) (k : Nat) : (too l k = k + 1 ∧ (l.length ≤ k + 1 ∨ (l.getD (k + 1) default).u = true)) ∨ (k + 1 < l.length ∧ too l k = k + 2 ∧ (l.getD (k + 1) default).u = false) := by
  by_cases c : k + 1 < l.length ∧ (l.getD (k + 1) default).u = false
  · exact .inr ⟨c.1, by rw [too, if_pos c], c.2⟩
  · refine .inl ⟨by rw [too, if_neg c], ?_⟩
    by_cases d : l.length ≤ k + 1
    · exact .inl d
    · refine .inr ?_
      cases e : (l.getD (k + 1) default).u
      · exact absurd ⟨by omega, e⟩ c
      · rfl
theorem frm_too {l : List Bk} {k : Nat} (h : k < l.length) : frm l k ≤ k ∧ k < too l k ∧ too l k ≤ l.length ∧ k ≤ frm l k + 1 ∧ too l k ≤ k + 2 := by
  rcases frm_or l k with ⟨e, _⟩ | ⟨_, e, _⟩ <;> rcases too_or l k with ⟨e', _⟩ | ⟨_, e', _⟩ <;> omega

/-- whether the last one is free -/
def lastF (f : Bool) : List Bk → Bool
  | [] => f
  | b :: r => lastF (!b.u) r
theorem lastF_take : ∀ (l : List Bk) (f : Bool) (j : Nat), j < l.length → lastF f (l.take (j + 1)) = !(l.getD j default).u
  | b :: r, f, 0, _ => by rw [List.take_succ_cons, List.take_zero]; rfl
  | b :: r, f, j + 1, h => by rw [List.take_succ_cons, lastF, lastF_take r _ j (by simpa using h), List.getD_cons_succ]
theorem mayF_flag {n : Int} : ∀ {p q : List Bk} {a : Int} {f : Bool}, mayF n a f (p ++ q) = true → mayF n (a + szs p) (lastF f p) q = true
  | [], q, a, f, h => by simpa [szs, lastF] using h
  | b :: p, q, a, f, h => by
    obtain ⟨_, _, _, h⟩ := mayF_cons.1 h
    rw [szs, lastF, ← Int.add_assoc]
    exact mayF_flag h
theorem mayF_swap {n : Int} {q' : List Bk} : ∀ {p q : List Bk} {a : Int} {f : Bool}, mayF n a f (p ++ q) = true → mayF n (a + szs p) (lastF f p) q' = true → mayF n a f (p ++ q') = true
  | [], q, a, f, _, h => by simpa [szs, lastF] using h
  | b :: p, q, a, f, h, h' => by
    obtain ⟨h1, h2, h3, h⟩ := mayF_cons.1 h
    rw [szs, lastF, ← Int.add_assoc] at h'
    exact mayF_cons.2 ⟨h1, h2, h3, mayF_swap h h'⟩

theorem mid_split {l : List Bk} {k : Nat} (h : k < l.length) : l = l.take (frm l k) ++ (midB l k ++ l.drop (too l k)) := by
  obtain ⟨h1, h2, h3, _⟩ := frm_too h
  have e : l.take (frm l k) = (l.take (too l k)).take (frm l k) := by rw [List.take_take, Nat.min_eq_left (by omega)]
  rw [midB, e, ← List.append_assoc, List.take_append_drop, List.take_append_drop]
/-- what becomes one: the used one, with a free one ahead or not, with a free one behind or not -/
theorem mid_is {l : List Bk} {k : Nat} (h : k < l.length) : midB l k = (if frm l k = k then [] else [l.getD (k - 1) default]) ++ (l.getD k default :: (if too l k = k + 1 then [] else [l.getD (k + 1) default])) := by
  have t1 : ∀ j, j < too l k → j < l.length := fun j hj => by have := frm_too h; omega
  rw [midB, List.drop_take]
  rcases frm_or l k with ⟨e, _⟩ | ⟨e0, e, _⟩ <;> rcases too_or l k with ⟨e', _⟩ | ⟨e0', e', _⟩ <;> rw [e, e']
  · rw [if_pos rfl, if_pos rfl, show k + 1 - k = 1 by omega, getD_cut h]
    rfl
  · rw [if_pos rfl, if_neg (by omega), show k + 2 - k = 2 by omega, getD_cut h, getD_cut e0']
    rfl
  · rw [if_neg (by omega), if_pos rfl, show k + 1 - (k - 1) = 2 by omega, getD_cut (l := l) (k := k - 1) (by omega), show k - 1 + 1 = k by omega, getD_cut h]
    rfl
  · rw [if_neg (by omega), if_neg (by omega), show k + 2 - (k - 1) = 3 by omega, getD_cut (l := l) (k := k - 1) (by omega), show k - 1 + 1 = k by omega, getD_cut h, getD_cut e0']
    rfl
theorem mid_cons {l : List Bk} {k : Nat} (h : k < l.length) : ∃ r, midB l k = l.getD (frm l k) default :: r := by
  rw [mid_is h]
  rcases frm_or l k with ⟨e, _⟩ | ⟨e0, e, _⟩
  · rw [if_pos e, e]; exact ⟨_, rfl⟩
  · rw [if_neg (by omega), e]; exact ⟨_, rfl⟩
theorem mid_in {l : List Bk} {k : Nat} (h : k < l.length) : ∀ b ∈ midB l k, b ∈ l := fun b hb => by
  rw [mid_split h]
  exact List.mem_append.2 (.inr (List.mem_append.2 (.inl hb)))

/-- what holds of the one that they become -/
theorem one_ok {n : Int} {l : List Bk} {k : Nat} (h : mayF n 0 false l = true) (hn : n ≤ 512) (hk : k < l.length) (hu : (l.getD k default).u = true) :
    mayF n (szs (l.take (frm l k))) (lastF false (l.take (frm l k))) (oneB l k :: l.drop (too l k)) = true ∧ (oneB l k).a = szs (l.take (frm l k)) := by
  have hs := h
  rw [mid_split hk] at hs
  have h1 := mayF_flag hs
  rw [Int.zero_add] at h1
  obtain ⟨r, hr⟩ := mid_cons hk
  have h3 := mayF_app h1
  rw [hr, List.cons_append] at h1
  obtain ⟨a1, a2, a3, a4⟩ := mayF_cons.1 h1
  obtain ⟨g, h3, h4⟩ := h3
  have he := mayF_end h3
  have h5 := (mayF_app a4)
  obtain ⟨_, h5, h6⟩ := h5
  have hz : szs (midB l k) = (l.getD (frm l k) default).s + szs r := by rw [hr, szs]
  have hp : 0 ≤ szs (l.take (frm l k)) := (mayF_app hs).elim fun _ x => x.2
  have ho : (oneB l k).a = szs (l.take (frm l k)) := a1
  refine ⟨mayF_cons.2 ⟨ho, ?_, ?_, ?_⟩, ho⟩
  · obtain ⟨b1, b2⟩ := a2
    show MayB (szs (midB l k))
    exact ⟨by omega, by omega⟩
  · rintro ⟨c1, _⟩
    rcases frm_or l k with ⟨e, c⟩ | ⟨e0, e, c⟩
    · rw [e] at c1
      rcases c with c | c
      · subst c
        cases c1
      · obtain ⟨j, rfl⟩ : ∃ j, k = j + 1 := by
          cases k with
          | zero => cases c1
          | succ j => exact ⟨j, rfl⟩
        rw [lastF_take l _ j (by omega)] at c1
        rw [Nat.add_sub_cancel] at c
        rw [c] at c1
        cases c1
    · rw [e] at a3 c1
      exact a3 ⟨c1, c⟩
  · show mayF n (szs (l.take (frm l k)) + szs (midB l k)) true (l.drop (too l k)) = true
    have hs2 := h
    rw [← List.take_append_drop (too l k) l] at hs2
    have h7 := mayF_flag hs2
    have e2 : szs (l.take (too l k)) = szs (l.take (frm l k)) + szs (midB l k) := by
      have := frm_too hk
      have e : l.take (frm l k) = (l.take (too l k)).take (frm l k) := by rw [List.take_take, Nat.min_eq_left (by omega)]
      rw [midB, e, ← szs_app, List.take_append_drop]
    rw [Int.zero_add, e2] at h7
    rcases too_or l k with ⟨e, c⟩ | ⟨e0, e, c⟩
    · rcases c with c | c
      · rw [e, List.drop_eq_nil_of_le (by omega)] at h7 ⊢
        exact mayF_nil.2 (mayF_nil.1 h7)
      · by_cases d : l.length ≤ k + 1
        · rw [e, List.drop_eq_nil_of_le d] at h7 ⊢
          exact mayF_nil.2 (mayF_nil.1 h7)
        · rw [e] at h7 ⊢
          rw [getD_cut (by omega)] at h7 ⊢
          obtain ⟨d1, d2, d3, d4⟩ := mayF_cons.1 h7
          exact mayF_cons.2 ⟨d1, d2, (fun q => by rw [c] at q; cases q.2), d4⟩
    · rw [e] at h7 ⊢
      rw [lastF_take l _ (k + 1) e0, c] at h7
      exact h7
theorem mrgF_yes {l : List Bk} {k : Nat} (h : canM l k = true) : mrgF l k = l.take (frm l k) ++ (oneB l k :: l.drop (too l k)) := by rw [mrgF, if_pos h, Int.toNat_natCast]
theorem medF_yes {l : List Bk} {k : Nat} (h : canM l k = true) : medF l k = ⟨(oneB l k).a, hdB (oneB l k).s false⟩ := by rw [medF, if_pos h, Int.toNat_natCast]
theorem canM_nat {l : List Bk} {k : Nat} (h : canM l k = true) : mayS l = true ∧ k < l.length ∧ (l.getD k default).u = true := by
  obtain ⟨h1, _, h3, h4⟩ := canM_yes.1 h
  rw [bAt_nat] at h4
  exact ⟨h1, by omega, h4⟩
theorem canM_at {n : Int} {l : List Bk} (h : mayL n l = true) {k : Nat} (hk : k < l.length) : canM l k = (l.getD k default).u := by
  have hm := mayL_mayS h
  unfold canM
  rw [hm, Bool.true_and, bAt_nat]
  cases hu : (l.getD k default).u
  · exact decide_eq_false fun q => by cases q.2.2
  · exact decide_eq_true ⟨by omega, by omega, rfl⟩
theorem mayL_mrg {n : Int} {l : List Bk} {k : Nat} (h : mayL n l = true) (hc : canM l k = true) : mayL n (mrgF l k) = true := by
  obtain ⟨_, hk, hu⟩ := canM_nat hc
  obtain ⟨hm, hf⟩ := mayL_yes.1 h
  obtain ⟨h1, _⟩ := one_ok hf hm.2.1 hk hu
  have hs := hf
  rw [mid_split hk] at hs
  rw [mrgF_yes hc]
  exact mayL_yes.2 ⟨hm, mayF_swap hs (by rw [Int.zero_add]; exact h1)⟩
/-- what the one is, where they may be -/
theorem one_in {n : Int} {l : List Bk} {k : Nat} (h : mayL n l = true) (hc : canM l k = true) : MayB (oneB l k).s ∧ 0 ≤ (oneB l k).a ∧ (oneB l k).a + (oneB l k).s ≤ n :=
  mayF_sizes (mayL_yes.1 (mayL_mrg h hc)).2 _ (by rw [mrgF_yes hc]; simp)
theorem mrg_at {l : List Bk} {k : Nat} (hc : canM l k = true) : (mrgF l k).getD (frm l k) default = oneB l k := by
  obtain ⟨_, hk, _⟩ := canM_nat hc
  have := frm_too hk
  rw [mrgF_yes hc, List.getD_eq_getElem?_getD, List.getElem?_append_right (by rw [List.length_take]; omega), List.length_take, Nat.min_eq_left (by omega), Nat.sub_self]
  rfl
theorem mrg_length {l : List Bk} {k : Nat} (hc : canM l k = true) : frm l k < (mrgF l k).length ∧ (mrgF l k).length ≤ l.length ∧ (mrgF l k).length + too l k = l.length + 1 + frm l k := by
  obtain ⟨_, hk, _⟩ := canM_nat hc
  have := frm_too hk
  rw [mrgF_yes hc, List.length_append, List.length_cons, List.length_take, List.length_drop]
  omega
/-- how many are used -/
def cntU : List Bk → Nat
  | [] => 0
  | b :: r => (if b.u = true then 1 else 0) + cntU r
theorem cntU_app : ∀ p r : List Bk, cntU (p ++ r) = cntU p + cntU r
  | [], r => by simp [cntU]
  | b :: p, r => by rw [List.cons_append, cntU, cntU, cntU_app p r, Nat.add_assoc]
theorem cntU_le : ∀ l : List Bk, cntU l ≤ l.length
  | [] => Nat.le_refl _
  | b :: r => by
    have := cntU_le r
    rw [cntU, List.length_cons]
    split <;> omega
theorem mid_counts {l : List Bk} {k : Nat} (hk : k < l.length) (hu : (l.getD k default).u = true) : cntU (midB l k) = 1 ∧ frS (midB l k) + (l.getD k default).s = szs (midB l k) := by
  rw [mid_is hk]
  have hp := frm_or l k
  have hq := too_or l k
  obtain ⟨⟨a, s, u⟩, hb⟩ : ∃ b, l.getD k default = b := ⟨_, rfl⟩
  obtain ⟨⟨a1, s1, u1⟩, hb1⟩ : ∃ b, l.getD (k - 1) default = b := ⟨_, rfl⟩
  obtain ⟨⟨a2, s2, u2⟩, hb2⟩ : ∃ b, l.getD (k + 1) default = b := ⟨_, rfl⟩
  rw [hb] at hu ⊢
  rw [hb1] at hp ⊢
  rw [hb2] at hq ⊢
  simp only at hu hp hq ⊢
  subst hu
  rcases hp with ⟨e, _⟩ | ⟨_, e, rfl⟩ <;> rcases hq with ⟨e', _⟩ | ⟨_, e', rfl⟩
  · rw [if_pos e, if_pos e']
    refine ⟨rfl, ?_⟩
    simp [frS, szs]
  · rw [if_pos e, if_neg (by omega)]
    refine ⟨rfl, ?_⟩
    simp [frS, szs]
    omega
  · rw [if_neg (by omega), if_pos e']
    refine ⟨rfl, ?_⟩
    simp [frS, szs]
  · rw [if_neg (by omega), if_neg (by omega)]
    refine ⟨rfl, ?_⟩
    simp [frS, szs]
    omega
theorem mrg_counts {l : List Bk} {k : Nat} (hc : canM l k = true) : cntU (mrgF l k) + 1 = cntU l ∧ frS (mrgF l k) = frS l + (l.getD k default).s := by
  obtain ⟨_, hk, hu⟩ := canM_nat hc
  obtain ⟨h1, h2⟩ := mid_counts hk hu
  have e1 : cntU l = _ := congrArg cntU (mid_split hk)
  have e2 : frS l = _ := congrArg frS (mid_split hk)
  rw [cntU_app, cntU_app] at e1
  rw [frS_app, frS_app] at e2
  rw [mrgF_yes hc, cntU_app, frS_app, cntU, frS, if_neg (by simp [oneB]), if_neg (by simp [oneB])]
  have e3 : (oneB l k).s = szs (midB l k) := rfl
  omega
/-- where none is used, all is one free block -/
theorem none_used {n : Int} {l : List Bk} (h : mayL n l = true) (h0 : cntU l = 0) : l = [⟨0, n, false⟩] := by
  obtain ⟨hm, hf⟩ := mayL_yes.1 h
  match l, hf, h0 with
  | [], hf, _ =>
    rw [mayF_nil] at hf
    obtain ⟨h1, _⟩ := hm
    omega
  | [b], hf, h0 =>
    obtain ⟨h1, _, _, h4⟩ := mayF_cons.1 hf
    rw [mayF_nil] at h4
    obtain ⟨a, s, u⟩ := b
    simp only at h1 h4
    cases u
    · rw [h1]
      congr 2
      omega
    · simp [cntU] at h0
  | b :: c :: r, hf, h0 =>
    obtain ⟨_, _, _, h4⟩ := mayF_cons.1 hf
    obtain ⟨_, _, h5, _⟩ := mayF_cons.1 h4
    rw [cntU, cntU] at h0
    exfalso
    cases hb : b.u
    · cases hcu : c.u
      · exact h5 ⟨by rw [hb]; rfl, hcu⟩
      · rw [hcu] at h0
        simp at h0
    · rw [hb] at h0
      simp at h0

/-- one that is taken and given back leaves the blocks as they were -/
theorem mrg_crv {n : Int} {l : List Bk} {k : Nat} {N : Int} (h : mayL n l = true) (hc : canC l k N = true) : canM (crvF l k N) k = true ∧ mrgF (crvF l k N) k = l := by
  have hC := mayL_crv h hc
  obtain ⟨_, _, h1, hu, ht⟩ := canC_yes.1 hc
  have hk : k < l.length := by omega
  have hlen := crv_length hc
  have hat := crv_at hc
  simp only [bAt_nat] at hat hu
  have hkm : k < (crvF l k N).length := by omega
  have hcm : canM (crvF l k N) k = true := by rw [canM_at hC hkm, hat]
  refine ⟨hcm, ?_⟩
  rw [mrgF_yes hcm]
  have hcf : crvF l k N = l.take k ++ (prtB (l.getD k default) N ++ l.drop (k + 1)) := by rw [crvF, if_pos hc, Int.toNat_natCast, bAt_nat]
  rw [bAt_nat] at ht
  have hsp := getD_split hk
  obtain ⟨hm, hf⟩ := mayL_yes.1 h
  rw [hsp] at hf
  have g1 := mayF_flag hf
  obtain ⟨g2, g3, g4, g5⟩ := mayF_cons.1 g1
  rw [hu] at g4 g5
  have tl : (l.take k).length = k := by rw [List.length_take]; omega
  obtain ⟨t1, t2, t3, t4⟩ := takN_some ht
  -- the one ahead is used
  have hF : frm (crvF l k N) k = k := by
    rcases frm_or (crvF l k N) k with ⟨e, _⟩ | ⟨e0, e, c⟩
    · exact e
    · exfalso
      obtain ⟨j, rfl⟩ : ∃ j, k = j + 1 := ⟨k - 1, by omega⟩
      rw [hcf, Nat.add_sub_cancel, List.getD_eq_getElem?_getD, List.getElem?_append_left (by rw [tl]; omega), List.getElem?_take_of_lt (by omega), ← List.getD_eq_getElem?_getD] at c
      rw [lastF_take l _ j (by omega), c] at g4
      exact g4 ⟨rfl, rfl⟩
  have gA : ∀ (P : List Bk) (j : Nat), (l.take k ++ P).getD (k + j) default = P.getD j default := fun P j => by
    rw [List.getD_eq_getElem?_getD, List.getElem?_append_right (by omega), tl, Nat.add_sub_cancel_left, ← List.getD_eq_getElem?_getD]
  have gD : ∀ (P : List Bk) (j : Nat), (l.take k ++ P).drop (k + j) = P.drop j := fun P j => by
    rw [List.drop_append, tl, List.drop_eq_nil_of_le (by rw [tl]; omega), Nat.add_sub_cancel_left]; rfl
  have hrest : ∀ r, l.drop (k + 1) = r → mayF n (0 + szs (l.take k) + (l.getD k default).s) true r = true := fun r e => by rw [← e]; exact g5
  obtain ⟨⟨a, s, u⟩, hb⟩ : ∃ b, l.getD k default = b := ⟨_, rfl⟩
  rw [hb] at hat hu t3 t4 ht hcf hrest hsp t2
  simp only at hu t3 t4 hrest t2
  subst hu
  have hcr : prtB ⟨a, s, false⟩ N = if takN s N = s then [⟨a, s, true⟩] else [⟨a, takN s N, true⟩, ⟨a + takN s N, s - takN s N, false⟩] := rfl
  have hone : ∀ r, midB (crvF l k N) k = ⟨a, takN s N, true⟩ :: r → takN s N + szs r = s → oneB (crvF l k N) k = ⟨a, s, false⟩ := fun r e1 e2 => by
    rw [oneB, hF, hat, e1, szs]
    simp only
    rw [e2]
  have hmid := mid_is hkm
  rw [if_pos hF, List.nil_append, hat] at hmid
  by_cases e : takN s N = s
  · have hcr : prtB ⟨a, s, false⟩ N = [⟨a, s, true⟩] := by rw [hcr, if_pos e]
    rw [hcr, List.singleton_append] at hcf
    have hT : too (crvF l k N) k = k + 1 := by
      rcases too_or (crvF l k N) k with ⟨e, _⟩ | ⟨e0, e, c⟩
      · exact e
      · exfalso
        rw [hcf, gA] at c
        rw [hcf, List.length_append, tl, List.length_cons] at e0
        cases hd : l.drop (k + 1) with
        | nil => rw [hd] at e0; simp at e0
        | cons d r =>
          rw [hd] at c
          obtain ⟨_, _, q, _⟩ := mayF_cons.1 (hrest _ hd)
          exact q ⟨rfl, c⟩
    rw [hT, if_pos rfl] at hmid
    rw [hF, hT, hone [] hmid (by simp only [szs]; omega), hcf, gD]
    have e3 : (l.take k ++ (⟨a, s, true⟩ :: l.drop (k + 1))).take k = l.take k := by
      have := List.take_left (l₁ := l.take k) (l₂ := (⟨a, s, true⟩ :: l.drop (k + 1)))
      rwa [tl] at this
    rw [e3]
    exact hsp.symm
  · have hcr : prtB ⟨a, s, false⟩ N = [⟨a, takN s N, true⟩, ⟨a + takN s N, s - takN s N, false⟩] := by rw [hcr, if_neg e]
    rw [hcr] at hcf
    have hx : (crvF l k N).getD (k + 1) default = ⟨a + takN s N, s - takN s N, false⟩ := by rw [hcf, gA]; rfl
    have hT : too (crvF l k N) k = k + 2 := by
      rcases too_or (crvF l k N) k with ⟨e, c⟩ | ⟨e0, e, c⟩
      · exfalso
        rw [hx] at c
        rcases c with c | c
        · rw [hcf, List.length_append, tl] at c
          simp at c
        · cases c
      · exact e
    rw [hT, if_neg (by omega), hx] at hmid
    rw [hF, hT, hone _ hmid (by simp only [szs]; omega), hcf, gD]
    have e3 : (l.take k ++ ([(⟨a, takN s N, true⟩ : Bk), ⟨a + takN s N, s - takN s N, false⟩] ++ l.drop (k + 1))).take k = l.take k := by
      have := List.take_left (l₁ := l.take k) (l₂ := ([(⟨a, takN s N, true⟩ : Bk), ⟨a + takN s N, s - takN s N, false⟩] ++ l.drop (k + 1)))
      rwa [tl] at this
    rw [e3]
    exact hsp.symm
end Go.Proofs.Ytkpefnjohdjejaa
