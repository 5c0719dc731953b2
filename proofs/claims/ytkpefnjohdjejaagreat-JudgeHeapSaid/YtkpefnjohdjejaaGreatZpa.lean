import Derived.Test.YtkpefnjohdjejaaGreatRows
import Derived.WalkKit
import Derived.WalkLawsBesides
import Derived.ProofKit
import Derived.OpenShut
import Derived.Lib.Hide
import Derived.Laws.BitsAllLaws
import Derived.Deep.RegionHeld3
import Derived.Deep.Draws
import Derived.OwnWalk
import Derived.Deep.OwnRows
import Derived.Maps.AppendAt
import Derived.Deep.Slices
import Derived.Deep.Fields
import Derived.Handy
import Derived.Deep.MidRow
import Derived.SizedLaws
import Derived.Lib.Tables
import Derived.Deep.WholeRow
import Derived.BigQuiet
import Derived.Lib.AppendZeros
import Derived.Deep.RegionLaw
import Derived.Lib.BufferMore
import Derived.Laws.BytesArg
set_option maxRecDepth 100000
set_option maxHeartbeats 8000000
namespace Go.Proofs.YtkpefnjohdjejaaGreat
open Go.ChangeShapes Go.WideShapes Go.ChangeAt Go.RowKit
theorem jz {p : Prop} (h : p) : Hid p := Lib.hid h
theorem own : ownKnob Tryz.prog.godebug = none := by kernel_rfl
theorem laidOut : laidOutB Tryz.prog = true := by kernel_rfl
theorem trodAll_stays {H : Type} {enc : TypeId × Value -> H} {W W' : World} (hb : Below W.heap.size W W') :
 ∀ (ts : List TypeId) (vs : List Value) (ds : List (DataW H)) (p : List MemPlace), (∀ t ∈ ts, Tryz.prog.readableRec t = true /\ t < Tryz.prog.types.size) →
  DataW.TrodAll enc Tryz.prog W 0 (fun _ => true) true ts vs ds p -> (∀ x ∈ p, x.block < W.heap.size) -> ∀ sp : Nat -> Bool, (∀ x ∈ p, sp x.block = true) -> DataW.TrodAll enc Tryz.prog W' 0 sp true ts vs ds p := by
 intro ts
 induction ts with
 | nil =>
   intro vs ds p _ h _ sp _
   cases vs <;> cases ds <;> first | exact h | exact h.elim
 | cons t ts ih =>
   intro vs ds p hr h hlt sp hsp
   cases vs with
   | nil => exact h.elim
   | cons v vs =>
     cases ds with
     | nil => exact h.elim
     | cons d ds =>
       obtain ⟨p1, q1, h1, h2, rfl⟩ := h
       refine ⟨p1, q1, ?_, ih vs ds q1 (fun t ht => hr t (List.mem_cons_of_mem _ ht)) h2 (fun x hx => hlt x (List.mem_append_right _ hx)) sp (fun x hx => hsp x (List.mem_append_right _ hx)), rfl⟩
       exact WideElems.Trod_stays laidOut (hr t (List.mem_cons_self ..)).1 (hr t (List.mem_cons_self ..)).2 h1 (fun x hx => hb.same (hlt x (List.mem_append_left _ hx))) (fun x hx => hsp x (List.mem_append_left _ hx))
theorem law_post {H : Type} {enc : TypeId × Value -> H} {f : Func} {s : ChangeSpec} {W W' : World} {args : Array Value} {ds : List (DataW H)} {before : List MemPlace}
 (hv : s.vars = []) (hR : f.resultTypes = #[4]) (hW : DataW.Whole enc Tryz.prog f.params.toList s.vars false W args.toList ds [] before)
 (hread : ∀ t ∈ f.params.toList, Tryz.prog.readableRec t = true /\ t < Tryz.prog.types.size)
 (hs : s.fn H ds = { results := [.lit (.bool true)], args := ds }) (hb : Below W.heap.size W W') :
 s.post enc Tryz.prog f false true false false W args (.bool true) W' := by
 have hW' := hW
 obtain ⟨p, q, hA, hV, rfl, hfz, hnd⟩ := hW
 rw [hv] at hV
 obtain ⟨_, rfl⟩ := trodVars_none hV
 have hs' : s.fn H (ds ++ []) = { results := [.lit (.bool true)], args := ds } := by rw [List.append_nil]; exact hs
 have hlt : ∀ x ∈ p, x.block < W.heap.size := fun x hx => hW'.lt x (List.mem_append_left _ hx)
 have hargs : ∀ sp : Nat -> Bool, (∀ x ∈ p, sp x.block = true) -> DataW.TrodAll enc Tryz.prog W' 0 sp true f.params.toList args.toList (s.fn H (ds ++ [])).args p := by
  intro sp hsp
  rw [hs']
  exact trodAll_stays hb _ _ _ _ hread hA hlt sp hsp
 have hres : ∀ (b : Nat) (sp : Nat -> Bool) (hd : Bool), DataW.TrodAll enc Tryz.prog W' b sp hd f.resultTypes.toList ((Value.bool true).resultList f.resultTypes.size) (s.fn H (ds ++ [])).results [] := by
  intro b sp hd
  rw [hR, hs']
  exact trodAll_cons_mk (shut_bool Tryz.underlying4 _) trodAll_mk0
 have hvars : ∀ sp : Nat -> Bool, DataW.TrodVars enc Tryz.prog W' sp s.vars (s.fn H (ds ++ [])).vars [] := by
  intro sp
  rw [hs', hv]; rfl
 refine ⟨ds, [], p ++ [], [], p, [], hW', hres _ _ _, hargs _ (fun x hx => by simpa using hlt x hx), hvars _, World.keptBut_mono (fun p hp => ⟨hp, Or.inr (by simpa using hp)⟩) (hb.frame _), fun _ => ?_⟩
 refine ⟨ok_one hR rfl (okWide_bool_mk Tryz.underlying4 _), _, _, ([] ++ p) ++ [], ⟨[] ++ p, [], trodAll_append (hargs _ (fun _ _ => rfl)) (hres _ _ _), hvars _, rfl, ?_, fun h => by cases h⟩, ?_⟩
 . intro b off hp
   have hp' : MemPlace.cell b off ∈ p := by simpa using hp
   have e : W'.frozen? ⟨b, off, none⟩ = W.frozen? ⟨b, off, none⟩ := hb.frozen (p := ⟨b, off, none⟩) (hlt _ hp')
   rw [e]
   exact hfz b off (by simpa using hp')
 . intro x hx _
   simpa using hx
theorem u64_nat (a : Int) : ∃ u : Nat, IntKind.u64.wrap a = (u : Int) /\ u < 2 ^ 64 := by
 refine ⟨(a % 18446744073709551616).toNat, ?_, by omega⟩
 have h : IntKind.u64.wrap a = a % 18446744073709551616 := by simp [IntKind.wrap, IntKind.signed, IntKind.bits]
 rw [h]; omega
theorem tmod_nat (u n : Nat) : (u : Int).tmod ((n : Nat) : Int) = ((u % n : Nat) : Int) := by rw [Int.natCast_emod]; exact Int.tmod_eq_emod_of_nonneg (by omega)
theorem i64_of {a : Int} (h1 : -9223372036854775808 <= a) (h2 : a <= 9223372036854775807) : (Lit.int .i64 a).wf = true := by simp [Lit.wf, IntKind.min, IntKind.max, IntKind.signed, IntKind.bits, h1, h2]
theorem i64_wf {a : Int} (h : (Lit.int .i64 a).wf = true) : -9223372036854775808 <= a /\ a <= 9223372036854775807 := by simpa [Lit.wf, IntKind.min, IntKind.max, IntKind.signed, IntKind.bits] using h
theorem tdiv_nat (a b : Nat) : (a : Int).tdiv (b : Int) = ((a / b : Nat) : Int) := rfl
theorem i64_nat (n : Nat) (h : n < 9223372036854775808) : IntKind.i64.wrap (n : Int) = n := IntWalk.i64_in _ (by omega)
def IntsIn (k : IntKind) (w : World) (v : Value) (l : List Int) : Prop :=
 ∃ p cap, v = .slice p l.length cap /\ l.length <= cap /\ cap <= maxLen /\ (∀ n ∈ l, (Lit.int k n).wf = true) ∧
  ((l = [] /\ (p = none -> cap = 0)) \/ ∃ b off, p = some ⟨b, off, none⟩ /\ b < w.heap.size /\ ∀ i, i < l.length -> w.cell? ⟨b, off + i, none⟩ = some (.int k (l.getD i 0)))
theorem ints_in {H : Type} {enc : TypeId × Value -> H} {W : World} {t e : TypeId} {k : IntKind} {v : Value} {d : DataW H} {p : List MemPlace} (ht : Tryz.prog.underlying t = some (.slice e)) (he : Tryz.prog.underlying e = some (.int k))
 (hc : Tryz.prog.cellsOf e = 1) (hval : Value.okWide Tryz.prog W .any W.heap.size t v) (hlt : ∀ x ∈ p, x.block < W.heap.size) (h : DataW.Trod enc Tryz.prog W 0 (fun _ => true) true t v d p) : ∃ l : List Int, IntsIn k W v l := by
 obtain ⟨va, vl, vc, rfl⟩ := okWide_slice ht hval
 obtain ⟨fuel, hf⟩ := h
 rcases open_ints ht he hc hf with ⟨hcs, hx⟩ | ⟨a, len, cap, zs, hcs, _, hl, hm, hz, hx, hcell, hwz⟩
 . simp [Value.cells] at hcs
   obtain ⟨rfl, rfl, rfl⟩ := hcs
   exact ⟨[], none, 0, rfl, Nat.zero_le _, Nat.zero_le _, by simp, .inl ⟨rfl, fun _ => rfl⟩⟩
 . simp [Value.cells] at hcs
   obtain ⟨rfl, rfl, rfl⟩ := hcs
   have hz' : zs.length = vc := by simpa using hz
   have hlen : (zs.take vl).length = vl := by rw [List.length_take]; omega
   refine ⟨zs.take vl, some a, vc, by rw [hlen], by rw [hlen]; exact hl, hm, fun n hn => hwz n (List.mem_of_mem_take hn), ?_⟩
   by_cases h0 : vl = 0
   . exact .inl ⟨by rw [h0]; rfl, fun h => by cases h⟩
   . obtain ⟨b, off, rfl, hc'⟩ := Go.ints_at hcell (by omega)
     refine .inr ⟨b, off, rfl, ?_, fun i hi => ?_⟩
     . have hx2 : p = MemPlace.row ⟨b, off, none⟩ zs.length := (Prod.mk.inj hx).2
       have : MemPlace.cell b off ∈ p := by
        rw [hx2]
        exact List.mem_map.2 ⟨0, List.mem_range.2 (by omega), rfl⟩
       exact hlt _ this
     . rw [hlen] at hi
       rw [hc' i (by omega), List.getD_eq_getElem?_getD, List.getD_eq_getElem?_getD, List.getElem?_take, if_pos hi]
theorem ret_i64 {a b : Int} (h : a = b) : Ending.returned (.int .i64 a) = .returned (.int .i64 b) := by rw [h]
theorem ret_bool {a b : Bool} (h : a = b) : Ending.returned (.bool a) = .returned (.bool b) := by rw [h]
theorem size_alloc (w : World) (o : Obj) : (w.alloc o).heap.size = w.heap.size + 1 := by simp
theorem below_more {w w1 w2 : World} (h : Below w.heap.size w w1) (h2 : Below w1.heap.size w1 w2) : Below w.heap.size w w2 := h.trans (h2.mono h.size)
def MayB (n : Int) : Prop := 2 <= n /\ n <= 512
instance (n : Int) : Decidable (MayB n) := inferInstanceAs (Decidable (_ /\ _))
def useB (u : Bool) : Int := if u then 1 else 0
def hdB (n : Int) (u : Bool) : Int := if MayB n then n * 2 + useB u else 0
theorem hdB_yes {n : Int} {u : Bool} (h : MayB n) : hdB n u = n * 2 + useB u := if_pos h
theorem hdB_no {n : Int} {u : Bool} (h : ¬ MayB n) : hdB n u = 0 := if_neg h
theorem useB_or (u : Bool) : u = true /\ useB u = 1 \/ u = false /\ useB u = 0 := by cases u <;> simp [useB]
theorem and1 (w : Int) (h0 : 0 <= w) (h1 : w <= 18446744073709551615) : bits .and .u64 w 1 = w % 2 := by
 rw [u64_and _ _ (by omega) (by omega) (by omega) (by omega)]
 have e : w.toNat &&& (1 : Int).toNat = w.toNat % 2 := Nat.and_two_pow_sub_one_eq_mod _ 1
 rw [e]; omega
theorem or1 (n : Int) (h0 : 0 <= n) (h1 : n <= 512) : bits .or .u64 (n * 2) 1 = n * 2 + 1 := by
 rw [u64_or _ _ (by omega) (by omega) (by omega) (by omega)]
 have e : (n * 2).toNat ||| (1 : Int).toNat = (n * 2).toNat + 1 := nat_join1 _ 1 (by omega) (by omega)
 rw [e]; omega
theorem mayb_yes (n : Int) (h : MayB n) (w : World) : Calls Tryz.prog 86 #[.int .i64 n] w fun e w' => e = .returned (.bool true) /\ w = w' := by
 obtain ⟨h1, h2⟩ := h
 have h3 : n >= 2 := h1
 go_enter Tryz.func86, Tryz.ntmps86
 go_wp2_with fail
 go_ret
 exact ⟨rfl, rfl⟩
theorem mayb_no (n : Int) (h : ¬ MayB n) (w : World) : Calls Tryz.prog 86 #[.int .i64 n] w fun e w' => e = .returned (.bool false) /\ w = w' := by
 by_cases h1 : n >= 2
 . have h2 : ¬ n <= 512 := fun k => h ⟨h1, k⟩
   clear h
   go_enter Tryz.func86, Tryz.ntmps86
   go_wp2_with fail
   go_ret
   exact ⟨rfl, rfl⟩
 . clear h
   go_enter Tryz.func86, Tryz.ntmps86
   go_wp2_with fail
   go_ret
   exact ⟨rfl, rfl⟩
theorem mayb_is (n : Int) (w : World) : Calls Tryz.prog 86 #[.int .i64 n] w fun e w' => e = .returned (.bool (decide (MayB n))) /\ w = w' := by
 by_cases h : MayB n
 . rw [decide_eq_true h]; exact mayb_yes n h w
 . rw [decide_eq_false h]; exact mayb_no n h w
theorem wordb_no (n : Int) (u : Bool) (h : ¬ MayB n) (w : World) : Calls Tryz.prog 52 #[.int .i64 n, .bool u] w fun e w' => e = .returned (.int .u64 0) /\ w = w' := by
 go_enter Tryz.func52, Tryz.ntmps52
 go_wp2_with fail
 refine (mayb_no n h w).mono ?_; rintro e w' ⟨rfl, rfl⟩
 go_wp2_with fail
 go_ret
 exact ⟨rfl, rfl⟩
theorem wordb_yes (n : Int) (u : Bool) (h : MayB n) (w : World) : Calls Tryz.prog 52 #[.int .i64 n, .bool u] w fun e w' => e = .returned (.int .u64 (n * 2 + useB u)) /\ w = w' := by
 have C := jz (mayb_yes n h w)
 obtain ⟨h1, h2⟩ := h
 have e1 : IntKind.u64.wrap n = n := by rw [IntKind.wrap_u64]; omega
 have e2 : IntKind.u64.wrap (n * 2) = n * 2 := by rw [IntKind.wrap_u64]; omega
 have e3 : bits .or .u64 (n * 2) 1 = n * 2 + 1 := or1 n (by omega) h2
 clear h1 h2
 cases u
 . rw [show n * 2 + useB false = n * 2 from by simp [useB]]
   go_enter Tryz.func52, Tryz.ntmps52
   go_wp2_with fail
   refine (C.out).mono ?_; rintro e w' ⟨rfl, rfl⟩
   go_wp2_with fail
   go_ret
   exact ⟨rfl, rfl⟩
 . rw [show n * 2 + useB true = n * 2 + 1 from rfl]
   go_enter Tryz.func52, Tryz.ntmps52
   go_wp2_with fail
   refine (C.out).mono ?_; rintro e w' ⟨rfl, rfl⟩
   go_wp2_with fail
   go_ret
   exact ⟨rfl, rfl⟩
theorem wordb_is (n : Int) (u : Bool) (w : World) : Calls Tryz.prog 52 #[.int .i64 n, .bool u] w fun e w' => e = .returned (.int .u64 (hdB n u)) /\ w = w' := by
 by_cases h : MayB n
 . rw [hdB_yes h]; exact wordb_yes n u h w
 . rw [hdB_no h]; exact wordb_no n u h w
theorem parse_no (x : Int) (h0 : 0 <= x) (h1 : x <= 18446744073709551615) (h : ¬ MayB (x / 2)) (w : World) :
 Calls Tryz.prog 101 #[.int .u64 x] w fun e w' => e = .returned (.tuple #[.int .i64 0, .bool false, .bool false]) /\ w = w' := by
 have e1 : IntKind.i64.wrap (x / 2) = x / 2 := IntWalk.i64_in _ (by omega)
 clear h0 h1
 go_enter Tryz.func101, Tryz.ntmps101
 go_wp2_with fail
 refine (mayb_no _ h w).mono ?_; rintro e w' ⟨rfl, rfl⟩
 go_wp2
 go_ret3
 exact ⟨rfl, rfl⟩
theorem parse_yes (x : Int) (h0 : 0 <= x) (h1 : x <= 18446744073709551615) (h : MayB (x / 2)) (u : Bool) (hu : decide (x % 2 = 1) = u) (w : World) :
 Calls Tryz.prog 101 #[.int .u64 x] w fun e w' => e = .returned (.tuple #[.int .i64 (x / 2), .bool u, .bool true]) /\ w = w' := by
 have e1 : IntKind.i64.wrap (x / 2) = x / 2 := IntWalk.i64_in _ (by omega)
 have e2 : bits .and .u64 x 1 = x % 2 := and1 x h0 h1
 have e3 : (x % 2 != 0) = u := by rw [<- hu]; by_cases c : x % 2 = 1 <;> simp [c] <;> omega
 clear h0 h1 hu
 go_enter Tryz.func101, Tryz.ntmps101
 go_wp2_with fail
 refine (mayb_yes _ h w).mono ?_; rintro e w' ⟨rfl, rfl⟩
 go_wp2
 go_ret3
 exact ⟨rfl, rfl⟩
def Reads (x n : Int) (u c : Bool) : Prop :=
 c = true /\ MayB n /\ x = n * 2 + useB u \/ c = false /\ n = 0 /\ u = false /\ ¬ MayB (x / 2)
theorem reads_half {x n : Int} {u c : Bool} (h : Reads x n u c) (hc : c = true) : MayB n /\ x = n * 2 + useB u /\ x / 2 = n /\ decide (x % 2 = 1) = u := by
 rcases h with ⟨_, h, e⟩ | ⟨e, _⟩
 . refine ⟨h, e, ?_, ?_⟩
   . rcases useB_or u with ⟨_, k⟩ | ⟨_, k⟩ <;> omega
   . rcases useB_or u with ⟨e2, k⟩ | ⟨e2, k⟩ <;> subst e2 <;> simp <;> omega
 . rw [hc] at e; cases e
theorem parse_is (x n : Int) (u c : Bool) (hr : Reads x n u c) (h0 : 0 <= x) (h1 : x <= 18446744073709551615) (w : World) :
 Calls Tryz.prog 101 #[.int .u64 x] w fun e w' => e = .returned (.tuple #[.int .i64 n, .bool u, .bool c]) /\ w = w' := by
 by_cases hc : c = true
 . obtain ⟨a, b, d, e⟩ := reads_half hr hc
   subst hc
   rw [<- d] at a ⊢
   exact parse_yes x h0 h1 a u e w
 . rcases hr with ⟨e, _⟩ | ⟨rfl, rfl, rfl, h⟩
   . exact absurd e hc
   . exact parse_no x h0 h1 h w
structure Bk where
 a : Int
 s : Int
 u : Bool
instance : Inhabited Bk := ⟨⟨0, 0, false⟩⟩
def Mw (n : Int) : Prop := 8 <= n /\ n <= 512 /\ n % 8 = 0
instance (n : Int) : Decidable (Mw n) := inferInstanceAs (Decidable (_ /\ _))
def mayF (n : Int) : Int -> Bool -> List Bk -> Bool
 | a, _, [] => decide (a = n)
 | a, f, b :: r => decide (b.a = a) && decide (MayB b.s) && !(f && !b.u) && mayF n (a + b.s) (!b.u) r
def mayL (n : Int) (l : List Bk) : Bool := decide (Mw n) && mayF n 0 false l
def szs : List Bk -> Int
 | [] => 0
 | b :: r => b.s + szs r
theorem mayF_cons {n a : Int} {f : Bool} {b : Bk} {r : List Bk} : mayF n a f (b :: r) = true ↔ b.a = a /\ MayB b.s /\ ¬ (f = true /\ b.u = false) /\ mayF n (a + b.s) (!b.u) r = true := by
 rw [mayF]
 simp only [Bool.and_eq_true, decide_eq_true_eq, Bool.not_eq_true', and_assoc]
 cases f <;> cases b.u <;> simp
theorem mayF_nil {n a : Int} {f : Bool} : mayF n a f [] = true ↔ a = n := by simp [mayF]
theorem mayL_yes {n : Int} {l : List Bk} : mayL n l = true ↔ Mw n /\ mayF n 0 false l = true := by simp [mayL]
theorem mayF_end {n : Int} : ∀ {l : List Bk} {a : Int} {f : Bool}, mayF n a f l = true -> a + szs l = n /\ a + 2 * l.length <= n
 | [], a, f, h => by rw [mayF_nil] at h; simp [szs]; omega
 | b :: r, a, f, h => by
   obtain ⟨_, hs, _, h⟩ := mayF_cons.1 h
   have := mayF_end h
   obtain ⟨h1, h2⟩ := hs
   simp only [szs, List.length_cons]
   omega
theorem mayF_app {n : Int} : ∀ {p r : List Bk} {a : Int} {f : Bool}, mayF n a f (p ++ r) = true -> ∃ g, mayF n (a + szs p) g r = true /\ 0 <= szs p
 | [], r, a, f, h => ⟨f, by simpa [szs] using h, by simp [szs]⟩
 | b :: p, r, a, f, h => by
   obtain ⟨_, hs, _, h⟩ := mayF_cons.1 h
   obtain ⟨g, h, h0⟩ := mayF_app h
   obtain ⟨h1, h2⟩ := hs
   refine ⟨g, ?_, by simp only [szs]; omega⟩
   rw [szs, <- Int.add_assoc]; exact h
theorem mayF_sizes {n : Int} : ∀ {l : List Bk} {a : Int} {f : Bool}, mayF n a f l = true -> ∀ b ∈ l, MayB b.s /\ a <= b.a /\ b.a + b.s <= n
 | [], _, _, _, b, hb => by cases hb
 | c :: r, a, f, h, b, hb => by
   obtain ⟨ha, hs, _, h⟩ := mayF_cons.1 h
   rcases List.mem_cons.1 hb with rfl | hb
   . have := mayF_end h
     exact ⟨hs, by omega, by omega⟩
   . obtain ⟨h1, h2, h3⟩ := mayF_sizes h b hb
     obtain ⟨g1, g2⟩ := hs
     exact ⟨h1, by omega, h3⟩
theorem getD_cut {l : List Bk} {k : Nat} (hk : k < l.length) : l.drop k = l.getD k default :: l.drop (k + 1) := by
 rw [List.getD_eq_getElem?_getD, List.getElem?_eq_getElem hk]; exact List.drop_eq_getElem_cons hk
theorem getD_split {l : List Bk} {k : Nat} (hk : k < l.length) : l = l.take k ++ l.getD k default :: l.drop (k + 1) := by
 rw [<- getD_cut hk, List.take_append_drop]
def rdF (w : List Int) : Nat -> Nat -> Option (List Bk)
 | 0, a => if a < w.length then none else some []
 | k + 1, a => if a < w.length then (if MayB (w.getD a 0 / 2) then (rdF w k (a + (w.getD a 0 / 2).toNat)).map (⟨a, w.getD a 0 / 2, decide (w.getD a 0 % 2 = 1)⟩ :: ·) else none) else some []
def blkF (w : List Int) : Option (List Bk) := (rdF w w.length 0).bind fun l => if mayL w.length l = true then some l else none
theorem rdF_end {w : List Int} {k a : Nat} (h : w.length <= a) : rdF w k a = some [] := by
 cases k <;> rw [rdF, if_neg (by omega)]
theorem rdF_no {w : List Int} {k a : Nat} (h : a < w.length) (hx : ¬ MayB (w.getD a 0 / 2)) : rdF w k a = none := by
 cases k with
 | zero => rw [rdF, if_pos h]
 | succ k => rw [rdF, if_pos h, if_neg hx]
theorem rdF_yes {w : List Int} {k a n : Nat} {u : Bool} (h : a < w.length) (hx : w.getD a 0 = hdB n u) (hn : MayB n) : rdF w (k + 1) a = (rdF w k (a + n)).map (⟨a, n, u⟩ :: ·) := by
 rw [hdB_yes hn] at hx
 have e : w.getD a 0 / 2 = n := by rw [hx]; rcases useB_or u with ⟨_, h⟩ | ⟨_, h⟩ <;> omega
 have e2 : decide (w.getD a 0 % 2 = 1) = u := by rw [hx]; rcases useB_or u with ⟨e, h⟩ | ⟨e, h⟩ <;> subst e <;> simp <;> omega
 rw [rdF, if_pos h, e, if_pos hn, e2, Int.toNat_natCast]
theorem rdF_pre {v : List Int} {r : List Bk} (k : Nat) : ∀ (p : List Bk) (a : Nat) (f : Bool), mayF v.length a f (p ++ r) = true -> (∀ b ∈ p, v.getD b.a.toNat 0 = hdB b.s b.u) -> rdF v (p.length + k) a = (rdF v k ((a : Int) + szs p).toNat).map (p ++ ·)
 | [], a, f, _, _ => by simp [szs]
 | b :: p, a, f, h, hv => by
   obtain ⟨ha, hs, _, h⟩ := mayF_cons.1 h
   have hs' := hs
   obtain ⟨h1, h2⟩ := hs'
   have he := mayF_end h
   have hb := hv b (List.mem_cons_self ..)
   obtain ⟨bn, hbn⟩ : ∃ n : Nat, b.s = n := ⟨b.s.toNat, by omega⟩
   have hh : v.getD a 0 = hdB bn b.u := by rw [<- hbn, <- hb, ha, Int.toNat_natCast]
   have e : (p.length + 1) + k = (p.length + k) + 1 := by omega
   have ep : (⟨(a : Int), (bn : Int), b.u⟩ : Bk) = b := by rw [<- hbn, <- ha]
   rw [List.length_cons, e, rdF_yes (by omega) hh (hbn ▸ hs), rdF_pre k p (a + bn) (!b.u) (by rw [hbn] at h; push_cast; exact h) (fun c hc => hv c (List.mem_cons_of_mem _ hc)), ep]
   have e3 : (((a + bn : Nat) : Int) + szs p).toNat = ((a : Int) + szs (b :: p)).toNat := by rw [szs, hbn]; congr 1; push_cast; omega
   rw [e3, Option.map_map]
   rfl
theorem mayL_fuel {n : Nat} {l : List Bk} (h : mayL n l = true) : ∃ k, n = l.length + k /\ mayF n 0 false l = true /\ szs l = n /\ Mw n := by
 obtain ⟨hm, h⟩ := mayL_yes.1 h
 have he := mayF_end h
 exact ⟨n - l.length, by omega, h, by omega, hm⟩
def needN (n : Int) : Int := if 1 <= n /\ n <= 448 then (n + 7) / 8 + 1 else 0
def takN (s n : Int) : Int := if 2 <= n /\ n <= s then (if s - n < 2 then s else n) else 0
theorem takN_zero {s n : Int} : takN s n = 0 ↔ ¬ (2 <= n /\ n <= s) := by
 unfold takN
 split
 . split <;> omega
 . rename_i h
   exact ⟨fun _ => h, fun _ => rfl⟩
def fitB (n : Int) (b : Bk) : Bool := !b.u && decide (2 <= n /\ n <= b.s)
def hasS (z : Int) (b : Bk) : Bool := !b.u && decide (b.s = z)
def tgS (n : Int) : Int -> List Bk -> Int
 | m, [] => m
 | m, b :: r => tgS n (if fitB n b = true /\ (m = 0 \/ b.s < m) then b.s else m) r
def plS (z : Int) : Nat -> List Bk -> List Nat
 | _, [] => []
 | k, b :: r => if hasS z b = true then k :: plS z (k + 1) r else plS z (k + 1) r
def fitN (n : Int) (l : List Bk) : List Nat := if tgS n 0 l = 0 then [] else plS (tgS n 0 l) 0 l
def ins (f : List Nat) : List Int := f.map fun (i : Nat) => (i : Int)
theorem fitB_iff {n : Int} {b : Bk} : fitB n b = true ↔ b.u = false /\ 2 <= n /\ n <= b.s := by
 unfold fitB
 cases b.u <;> simp
theorem hasS_iff {z : Int} {b : Bk} : hasS z b = true ↔ b.u = false /\ b.s = z := by
 unfold hasS
 cases b.u <;> simp
theorem tgS_spec (n : Int) : ∀ (l : List Bk) (m : Int), 0 <= m -> (tgS n m l = m \/ ∃ b ∈ l, fitB n b = true /\ b.s = tgS n m l) /\ (∀ b ∈ l, fitB n b = true -> 0 < tgS n m l /\ tgS n m l <= b.s) /\ (0 < m -> 0 < tgS n m l /\ tgS n m l <= m)
 | [], m, _ => ⟨.inl rfl, fun _ h => (List.not_mem_nil h).elim, fun h => ⟨h, Int.le_refl _⟩⟩
 | b :: r, m, hm => by
   rw [tgS]
   split
   . rename_i h
     obtain ⟨hf, hlt⟩ := h
     obtain ⟨hu, h2, hn⟩ := fitB_iff.1 hf
     obtain ⟨g1, g2, g3⟩ := tgS_spec n r b.s (by omega)
     obtain ⟨g4, g5⟩ := g3 (by omega)
     refine ⟨.inr ?_, fun c hc hfc => ?_, fun h0 => ⟨g4, by omega⟩⟩
     . rcases g1 with g1 | ⟨c, hc, g⟩
       . exact ⟨b, List.mem_cons_self .., hf, g1.symm⟩
       . exact ⟨c, List.mem_cons_of_mem _ hc, g⟩
     . rcases List.mem_cons.1 hc with rfl | hc
       . exact ⟨g4, g5⟩
       . exact g2 c hc hfc
   . rename_i h
     obtain ⟨g1, g2, g3⟩ := tgS_spec n r m hm
     refine ⟨g1.imp id fun ⟨c, hc, g⟩ => ⟨c, List.mem_cons_of_mem _ hc, g⟩, fun c hc hfc => ?_, g3⟩
     rcases List.mem_cons.1 hc with rfl | hc
     . have hm0 : 0 < m /\ m <= c.s := by
        by_cases h0 : m = 0
        . exact absurd ⟨hfc, .inl h0⟩ h
        . by_cases h1 : c.s < m
          . exact absurd ⟨hfc, .inr h1⟩ h
          . omega
       obtain ⟨g4, g5⟩ := g3 hm0.1
       exact ⟨g4, by omega⟩
     . exact g2 c hc hfc
theorem plS_mem {z : Int} : ∀ {l : List Bk} {k i : Nat}, i ∈ plS z k l -> k <= i /\ i - k < l.length /\ hasS z (l.getD (i - k) default) = true
 | [], k, i, h => by simp [plS] at h
 | b :: r, k, i, h => by
   rw [plS] at h
   split at h
   . rename_i hb
     rcases List.mem_cons.1 h with rfl | h
     . simpa using hb
     . obtain ⟨h1, h2, h3⟩ := plS_mem h
       refine ⟨by omega, by simp only [List.length_cons]; omega, ?_⟩
       rw [show i - k = (i - (k + 1)) + 1 by omega]; simpa using h3
   . obtain ⟨h1, h2, h3⟩ := plS_mem h
     refine ⟨by omega, by simp only [List.length_cons]; omega, ?_⟩
     rw [show i - k = (i - (k + 1)) + 1 by omega]; simpa using h3
theorem getD_mem {l : List Bk} {k : Nat} (hk : k < l.length) : l.getD k default ∈ l := by
 rw [List.getD_eq_getElem?_getD, List.getElem?_eq_getElem hk]; exact List.getElem_mem hk
theorem fitN_mem {n : Int} {l : List Bk} {i : Nat} (h : i ∈ fitN n l) : i < l.length /\ fitB n (l.getD i default) = true /\ (∀ b ∈ l, fitB n b = true -> (l.getD i default).s <= b.s) /\ (l.getD i default).s = tgS n 0 l := by
 obtain ⟨g1, g2, _⟩ := tgS_spec n l 0 (Int.le_refl _)
 rw [fitN] at h
 split at h
 . cases h
 . rename_i h0
   obtain ⟨_, h2, h3⟩ := plS_mem h
   rw [Nat.sub_zero] at h2 h3
   obtain ⟨hu, hs⟩ := hasS_iff.1 h3
   refine ⟨h2, ?_, fun b hb hf => by rw [hs]; exact (g2 b hb hf).2, hs⟩
   rcases g1 with g | ⟨b, hb, hf, e⟩
   . exact absurd g h0
   . obtain ⟨_, q1, q2⟩ := fitB_iff.1 hf
     exact fitB_iff.2 ⟨hu, q1, by omega⟩
def wrN (cs : List Int) (a : Int) : Int := if a < 0 then 0 else cs.getD (a / 32).toNat 0
def ahd (cs : List Int) (x y : Int) : Bool := if wrN cs x = wrN cs y then decide (x < y) else decide (wrN cs x < wrN cs y)
theorem ahd_iff {cs : List Int} {x y : Int} : ahd cs x y = true ↔ wrN cs x < wrN cs y \/ wrN cs x = wrN cs y /\ x < y := by
 unfold ahd
 split <;> simp <;> omega
def atL (l : List Bk) (i : Nat) : Int := (l.getD i default).a
def chO (cs : List Int) (l : List Bk) : Option Nat -> List Nat -> Option Nat
 | c, [] => c
 | none, i :: r => chO cs l (some i) r
 | some c, i :: r => chO cs l (if ahd cs (atL l i) (atL l c) = true then some i else some c) r
def oi : Option Nat -> Int
 | none => -1
 | some i => i
def chN (n : Int) (cs : List Int) (l : List Bk) : Option Nat := chO cs l none (fitN n l)
theorem chO_none {cs : List Int} {l : List Bk} {i : Nat} {r : List Nat} : chO cs l none (i :: r) = chO cs l (some i) r := by rw [chO]
theorem chO_spec {cs : List Int} {l : List Bk} : ∀ (f : List Nat) (c : Nat), ∃ d, chO cs l (some c) f = some d /\ (d = c \/ d ∈ f) /\ ahd cs (atL l c) (atL l d) = false /\ ∀ i ∈ f, ahd cs (atL l i) (atL l d) = false
 | [], c => ⟨c, rfl, .inl rfl, by rw [Bool.eq_false_iff, Ne, ahd_iff]; omega, fun _ h => (List.not_mem_nil h).elim⟩
 | i :: r, c => by
   rw [chO]
   split
   . rename_i h
     obtain ⟨d, e, h1, h2, h3⟩ := chO_spec r i
     refine ⟨d, e, .inr (by rcases h1 with rfl | h1; exact List.mem_cons_self ..; exact List.mem_cons_of_mem _ h1), ?_, fun j hj => ?_⟩
     . rw [Bool.eq_false_iff, Ne, ahd_iff] at h2 ⊢
       rw [ahd_iff] at h
       omega
     . rcases List.mem_cons.1 hj with rfl | hj
       . exact h2
       . exact h3 j hj
   . rename_i h
     obtain ⟨d, e, h1, h2, h3⟩ := chO_spec r c
     refine ⟨d, e, h1.imp id (List.mem_cons_of_mem _), h2, fun j hj => ?_⟩
     rcases List.mem_cons.1 hj with rfl | hj
     . rw [Bool.eq_false_iff, Ne, ahd_iff] at h2 ⊢
       rw [ahd_iff] at h
       omega
     . exact h3 j hj
theorem chN_none {n : Int} {cs : List Int} {l : List Bk} (h : fitN n l = []) : chN n cs l = none := by rw [chN, h, chO]
theorem chN_some {n : Int} {cs : List Int} {l : List Bk} (h : fitN n l ≠ []) : ∃ d, chN n cs l = some d /\ d ∈ fitN n l /\ ∀ i ∈ fitN n l, wrN cs (atL l d) <= wrN cs (atL l i) := by
 unfold chN
 cases hf : fitN n l with
 | nil => exact absurd hf h
 | cons i r =>
   obtain ⟨d, e, h1, h2, h3⟩ := chO_spec (cs := cs) (l := l) r i
   refine ⟨d, by rw [chO_none, e], by rcases h1 with rfl | h1; exact List.mem_cons_self ..; exact List.mem_cons_of_mem _ h1, fun j hj => ?_⟩
   have : ahd cs (atL l j) (atL l d) = false := by
    rcases List.mem_cons.1 hj with rfl | hj
    . exact h2
    . exact h3 j hj
   rw [Bool.eq_false_iff, Ne, ahd_iff] at this
   omega
structure Ed where
 w : Int
 v : Int
instance : Inhabited Ed := ⟨⟨0, 0⟩⟩
def rise : Int -> List Int -> List Ed
 | _, [] => []
 | a, v :: r => ⟨a, v⟩ :: rise (a + 1) r
theorem rise_length : ∀ (vs : List Int) (a : Int), (rise a vs).length = vs.length
 | [], _ => rfl
 | _ :: r, a => by rw [rise, List.length_cons, rise_length r, List.length_cons]
theorem rise_app : ∀ (p q : List Int) (a : Int), rise a (p ++ q) = rise a p ++ rise (a + p.length) q
 | [], q, a => by simp [rise]
 | v :: p, q, a => by
   rw [List.cons_append, rise, rise_app p q, rise, List.cons_append, List.length_cons]
   congr 3
   push_cast
   omega
def appF : List Int -> List Ed -> List Int
 | w, [] => w
 | w, e :: r => appF (if 0 <= e.w /\ e.w < w.length then w.set e.w.toNat e.v else w) r
theorem appF_length : ∀ (l : List Ed) (w : List Int), (appF w l).length = w.length
 | [], _ => rfl
 | e :: r, w => by
   rw [appF, appF_length r]
   split
   . rw [List.length_set]
   . rfl
theorem appF_app : ∀ (p q : List Ed) (w : List Int), appF w (p ++ q) = appF (appF w p) q
 | [], _, _ => rfl
 | e :: p, q, w => by rw [List.cons_append, appF, appF_app p q, appF]
theorem appF_rise : ∀ (vs : List Int) (w : List Int) (a j : Nat), a + vs.length <= w.length -> (appF w (rise a vs)).getD j 0 = if a <= j /\ j < a + vs.length then vs.getD (j - a) 0 else w.getD j 0
 | [], w, a, j, _ => by
   rw [rise, appF, if_neg]
   simp only [List.length_nil]
   omega
 | v :: r, w, a, j, h => by
   rw [List.length_cons] at h
   have e : (a : Int) + 1 = ((a + 1 : Nat) : Int) := rfl
   rw [rise, appF, if_pos (by simp only; omega), e, appF_rise r _ (a + 1) j (by rw [List.length_set]; omega), List.length_cons]
   simp only [Int.toNat_natCast]
   by_cases h1 : j = a
   . subst h1
     rw [if_neg (by omega), if_pos (by omega), Nat.sub_self]
     simp only [List.getD_eq_getElem?_getD]
     rw [List.getElem?_set_self (by omega)]
     rfl
   . by_cases h2 : a + 1 <= j /\ j < a + 1 + r.length
     . rw [if_pos h2, if_pos (by omega)]
       have e2 : j - a = (j - (a + 1)) + 1 := by omega
       rw [e2, List.getD_cons_succ]
     . rw [if_neg h2, if_neg (by omega)]
       simp only [List.getD_eq_getElem?_getD]
       rw [List.getElem?_set_ne (by omega)]
def mayS (l : List Bk) : Bool := mayL (szs l) l
theorem mayL_szs {n : Int} {l : List Bk} (h : mayL n l = true) : n = szs l := by
 have := (mayF_end (mayL_yes.1 h).2).1
 omega
theorem mayL_mayS {n : Int} {l : List Bk} (h : mayL n l = true) : mayS l = true := by
 have e := mayL_szs h
 subst e; exact h
theorem mayL_sum {n : Int} {l : List Bk} (h : mayS l = true -> n = szs l) : mayL n l = mayS l := by
 cases e : mayS l
 . cases e2 : mayL n l
   . rfl
   . rw [mayL_mayS e2] at e; cases e
 . rw [h e]; exact e
def bAt (l : List Bk) (i : Int) : Bk := l.getD i.toNat default
def canC (l : List Bk) (i n : Int) : Bool := mayS l && decide (0 <= i /\ i < l.length /\ (bAt l i).u = false /\ takN (bAt l i).s n ≠ 0)
def prtB (b : Bk) (n : Int) : List Bk := if takN b.s n = b.s then [⟨b.a, b.s, true⟩] else [⟨b.a, takN b.s n, true⟩, ⟨b.a + takN b.s n, b.s - takN b.s n, false⟩]
def crvF (l : List Bk) (i n : Int) : List Bk := if canC l i n = true then l.take i.toNat ++ (prtB (bAt l i) n ++ l.drop (i.toNat + 1)) else []
def edV (b : Bk) : List Int := hdB b.s b.u :: (if b.u = true then List.replicate (b.s - 1).toNat 0 else [])
def edB (b : Bk) : List Ed := rise b.a (edV b)
def edF (p : List Bk) : List Ed := p.flatMap edB
def cedF (l : List Bk) (i n : Int) : List Ed := if canC l i n = true then edF (prtB (bAt l i) n) else []
def offB (a : Int) : Int := if 0 <= a /\ a <= 512 then (a + 1) * 8 else 0
theorem takN_some {s n : Int} (h : takN s n ≠ 0) : 2 <= n /\ n <= takN s n /\ takN s n <= s /\ (takN s n = s \/ takN s n = n /\ 2 <= s - n) := by
 have h1 : 2 <= n /\ n <= s := by
  by_cases c : 2 <= n /\ n <= s
  . exact c
  . exact absurd (takN_zero.2 c) h
 unfold takN
 rw [if_pos h1]
 split <;> omega
theorem canC_yes {l : List Bk} {i n : Int} : canC l i n = true ↔ mayS l = true /\ 0 <= i /\ i < l.length /\ (bAt l i).u = false /\ takN (bAt l i).s n ≠ 0 := by
 simp [canC]
theorem bAt_split {l : List Bk} {i : Int} (h0 : 0 <= i) (h1 : i < l.length) : l = l.take i.toNat ++ bAt l i :: l.drop (i.toNat + 1) := getD_split (by omega)
theorem bAt_mem {l : List Bk} {i : Int} (h0 : 0 <= i) (h1 : i < l.length) : bAt l i ∈ l := by
 have : i.toNat < l.length := by omega
 rw [bAt, List.getD_eq_getElem?_getD, List.getElem?_eq_getElem this]; exact List.getElem_mem _
theorem mayF_less {n a : Int} {l : List Bk} (h : mayF n a true l = true) : mayF n a false l = true := by
 cases l with
 | nil => exact h
 | cons b r =>
   obtain ⟨h1, h2, _, h4⟩ := mayF_cons.1 h
   exact mayF_cons.2 ⟨h1, h2, (fun q => by cases q.1), h4⟩
theorem mayF_repl {n : Int} {b : Bk} {q r : List Bk} (hq : ∀ f, mayF n b.a f (b :: r) = true -> mayF n b.a f (q ++ r) = true) : ∀ (p : List Bk) (a : Int) (f : Bool), mayF n a f (p ++ b :: r) = true -> mayF n a f (p ++ (q ++ r)) = true
 | [], a, f, h => by
   have e := (mayF_cons.1 h).1
   subst e
   exact hq f h
 | c :: p, a, f, h => by
   obtain ⟨h1, h2, h3, h4⟩ := mayF_cons.1 h
   exact mayF_cons.2 ⟨h1, h2, h3, mayF_repl hq p _ _ h4⟩
theorem mayL_crv {m i n : Int} {l : List Bk} (h : mayL m l = true) (hc : canC l i n = true) : mayL m (crvF l i n) = true := by
 obtain ⟨_, h0, h1, hu, ht⟩ := canC_yes.1 hc
 rw [crvF, if_pos hc]
 obtain ⟨hm, hf⟩ := mayL_yes.1 h
 refine mayL_yes.2 ⟨hm, ?_⟩
 rw [bAt_split h0 h1] at hf
 obtain ⟨t1, t2, t3, t4⟩ := takN_some ht
 refine mayF_repl (fun f g => ?_) _ _ _ hf
 obtain ⟨_, hs, _, g⟩ := mayF_cons.1 g
 rw [hu] at g
 obtain ⟨s1, s2⟩ := hs
 unfold prtB
 split
 . rename_i e
   refine mayF_cons.2 ⟨rfl, ⟨s1, s2⟩, (fun q => by cases q.2), mayF_less g⟩
 . rename_i e
   have t5 := t4.resolve_left e
   refine mayF_cons.2 ⟨rfl, ⟨by simp only; omega, by simp only; omega⟩, (fun q => by cases q.2), ?_⟩
   refine mayF_cons.2 ⟨rfl, ⟨by simp only; omega, by simp only; omega⟩, (fun q => by cases q.1), ?_⟩
   have e2 : (bAt l i).a + takN (bAt l i).s n + ((bAt l i).s - takN (bAt l i).s n) = (bAt l i).a + (bAt l i).s := by omega
   simp only [e2]
   exact g
theorem edF_nil : edF [] = [] := rfl
theorem edF_cons (b : Bk) (r : List Bk) : edF (b :: r) = edB b ++ edF r := by rw [edF, List.flatMap_cons]; rfl
theorem edB_used (b : Bk) (h : b.u = true) : edB b = ⟨b.a, hdB b.s b.u⟩ :: rise (b.a + 1) (List.replicate (b.s - 1).toNat 0) := by rw [edB, edV, if_pos h, rise]
theorem edB_free (b : Bk) (h : b.u = false) : edB b = [⟨b.a, hdB b.s b.u⟩] := by rw [edB, edV, if_neg (by rw [h]; decide), rise, rise]
def takV (b : Bk) (n : Int) : List Int := hdB (takN b.s n) true :: (List.replicate (takN b.s n - 1).toNat 0 ++ (if takN b.s n = b.s then [] else [hdB (b.s - takN b.s n) false]))
theorem takV_length {b : Bk} {n : Int} (h : takN b.s n ≠ 0) : ((takV b n).length : Int) = takN b.s n + (if takN b.s n = b.s then 0 else 1) := by
 obtain ⟨t1, t2, t3, t4⟩ := takN_some h
 rw [takV, List.length_cons, List.length_append, List.length_replicate]
 split <;> simp <;> omega
theorem edF_prt {b : Bk} {n : Int} (h : takN b.s n ≠ 0) : edF (prtB b n) = rise b.a (takV b n) := by
 obtain ⟨t1, t2, t3, t4⟩ := takN_some h
 unfold prtB takV
 split
 . rename_i e
   rw [edF_cons, edF_nil, List.append_nil, List.append_nil, edB, edV, if_pos rfl]
   simp only [e]
 . rw [edF_cons, edF_cons, edF_nil, List.append_nil, edB, edV, if_pos rfl, edB_free _ rfl]
   rw [<- List.cons_append, rise_app, rise]
   congr 1
   simp only [rise, List.length_cons, List.length_replicate]
   congr 2
   push_cast
   omega
theorem takV_at {b : Bk} {n : Int} (h : takN b.s n ≠ 0) (k : Nat) : (takV b n).getD k 0 = if k = 0 then hdB (takN b.s n) true else if (k : Int) < takN b.s n then 0 else if (k : Int) = takN b.s n /\ takN b.s n ≠ b.s then hdB (b.s - takN b.s n) false else 0 := by
 obtain ⟨t1, t2, t3, t4⟩ := takN_some h
 rw [takV]
 cases k with
 | zero => simp
 | succ k =>
   rw [List.getD_cons_succ, if_neg (show ¬ k + 1 = 0 by omega)]
   simp only [List.getD_eq_getElem?_getD]
   by_cases c : ((k + 1 : Nat) : Int) < takN b.s n
   . rw [if_pos c, List.getElem?_append_left (by rw [List.length_replicate]; omega), List.getElem?_replicate]
     split <;> rfl
   . rw [if_neg c, List.getElem?_append_right (by rw [List.length_replicate]; omega), List.length_replicate]
     by_cases d : takN b.s n = b.s
     . rw [if_pos d, if_neg (show ¬ (((k + 1 : Nat) : Int) = takN b.s n /\ takN b.s n ≠ b.s) from fun q => q.2 d)]; rfl
     . rw [if_neg d]
       by_cases e : ((k + 1 : Nat) : Int) = takN b.s n
       . rw [if_pos ⟨e, d⟩]
         have e2 : k - (takN b.s n - 1).toNat = 0 := by omega
         rw [e2]; rfl
       . rw [if_neg (show ¬ (((k + 1 : Nat) : Int) = takN b.s n /\ takN b.s n ≠ b.s) from fun q => e q.1)]
         have e2 : k - (takN b.s n - 1).toNat = (k - (takN b.s n - 1).toNat - 1) + 1 := by omega
         rw [e2]; rfl
theorem blkF_of {v : List Int} {l : List Bk} (h : mayL v.length l = true) (hv : ∀ b ∈ l, v.getD b.a.toNat 0 = hdB b.s b.u) : blkF v = some l := by
 obtain ⟨k, hk, hf, hz, hm⟩ := mayL_fuel h
 have := rdF_pre (v := v) (r := []) k l 0 false (by rw [List.append_nil]; exact hf) hv
 rw [blkF, hk, this, rdF_end (by omega), Option.map_some, List.append_nil]
 rw [<- hk]
 simp only [Option.bind_some]
 rw [if_pos h]
theorem szs_app : ∀ p r : List Bk, szs (p ++ r) = szs p + szs r
 | [], r => by simp [szs]
 | b :: p, r => by rw [List.cons_append, szs, szs, szs_app p r, Int.add_assoc]
theorem crv_length {l : List Bk} {i n : Int} (hc : canC l i n = true) : (crvF l i n).length = l.length + (if takN (bAt l i).s n = (bAt l i).s then 0 else 1) := by
 obtain ⟨_, h0, h1, hu, ht⟩ := canC_yes.1 hc
 rw [crvF, if_pos hc, List.length_append, List.length_append, List.length_take, List.length_drop, prtB]
 split <;> simp <;> omega
theorem crv_at {l : List Bk} {i n : Int} (hc : canC l i n = true) : bAt (crvF l i n) i = ⟨(bAt l i).a, takN (bAt l i).s n, true⟩ := by
 obtain ⟨_, h0, h1, hu, ht⟩ := canC_yes.1 hc
 have e : (l.take i.toNat).length = i.toNat := by rw [List.length_take]; omega
 rw [bAt, crvF, if_pos hc, List.getD_eq_getElem?_getD, List.getElem?_append_right (by omega), e, Nat.sub_self, prtB]
 split
 . rename_i q
   rw [q]; rfl
 . rfl
theorem offB_in {n : Int} {l : List Bk} {b : Bk} (h : mayL n l = true) (hb : b ∈ l) : 0 <= b.a /\ b.a <= 512 /\ offB b.a = b.a * 8 + 8 := by
 obtain ⟨⟨_, h5, _⟩, hf⟩ := mayL_yes.1 h
 obtain ⟨⟨h1, _⟩, h2, h3⟩ := mayF_sizes hf b hb
 refine ⟨h2, by omega, ?_⟩
 rw [offB, if_pos (by omega)]
 omega
def uv (x : Int) : Value := .int .u64 x
def Whole (w : World) (g : Nat) (t : TypeId) (cs : Array Value) : Prop := w.heap[g]? = some (.cells cs t (0, 0))
theorem Whole.lt {w : World} {g : Nat} {t : TypeId} {cs : Array Value} (h : Whole w g t cs) : g < w.heap.size := (Array.getElem?_eq_some_iff.1 h).1
theorem Whole.at_ {w : World} {g : Nat} {t : TypeId} {cs : Array Value} (h : Whole w g t cs) (i : Nat) : w.cell? ⟨g, i, none⟩ = cs[i]? := cell_of_row w g i cs t (0, 0) h
theorem Whole.free {w : World} {g : Nat} {t : TypeId} {cs : Array Value} (h : Whole w g t cs) (i : Nat) : w.frozen? ⟨g, i, none⟩ = false := by
 have e : w.heap[g]? = some (.cells cs t (0, 0)) := h
 simp [World.frozen?, e]
theorem Whole.set_ {w : World} {g : Nat} {t : TypeId} {cs : Array Value} (h : Whole w g t cs) (i : Nat) (u : Value) : Whole (w.setCell ⟨g, i, none⟩ u) g t (cs.setIfInBounds i u) := by
 have e : w.heap[g]? = some (.cells cs t (0, 0)) := h
 unfold Whole
 simp [World.setCell, Array.getElem?_modify, e]
theorem Whole.grown {w w' : World} {g : Nat} {t : TypeId} {cs : Array Value} (h : Whole w g t cs) {row : Option Nat} (hg : w.grownBy w' row) (hne : some g ≠ row) : Whole w' g t cs := (hg.block g h.lt hne).trans h
theorem Whole.other {w : World} {g : Nat} {t : TypeId} {cs : Array Value} (h : Whole w g t cs) {p : Addr} (hp : g ≠ p.block) (u : Value) : Whole (w.setCell p u) g t cs := (Below.heap_setCell w p u g hp).trans h
theorem Whole.alloc {w : World} {g : Nat} {t : TypeId} {cs : Array Value} (h : Whole w g t cs) (o : Obj) : Whole (w.alloc o) g t cs := (Below.heap_alloc w o g h.lt).trans h
theorem below_drewN {B : Nat} {w w1 : World} (h : Below B w w1) (n : Nat) : Below B w (w1.drewN n) := h.trans ⟨rfl, rfl, rfl, Nat.le_refl _, fun _ _ => rfl⟩
theorem bal {w w1 : World} {o : Obj} (h : Below w.heap.size w w1) : Below w.heap.size w (w1.alloc o) := h.alloc h.size o
theorem cell_kept {w : World} {p : Addr} {u : Value} (h : w.cell? p = some u) (o : Obj) : (w.alloc o).cell? p = some u := (World.cell?_alloc_lt w o p (World.block_lt_of_cell? w _ h)).trans h
structure Chg (D : List Nat) (w w' : World) : Prop where
 os : w'.os = w.os
 tape : w'.tape = w.tape
 output : w'.output = w.output
 size : w.heap.size <= w'.heap.size
 block : ∀ k, k < w.heap.size -> k ∉ D -> w'.heap[k]? = w.heap[k]?
theorem Chg.refl (D : List Nat) (w : World) : Chg D w w := ⟨rfl, rfl, rfl, Nat.le_refl _, fun _ _ _ => rfl⟩
theorem Chg.trans {D : List Nat} {w w1 w2 : World} (h : Chg D w w1) (h2 : Chg D w1 w2) : Chg D w w2 :=
 ⟨h2.os.trans h.os, h2.tape.trans h.tape, h2.output.trans h.output, Nat.le_trans h.size h2.size, fun k hk hD => (h2.block k (Nat.lt_of_lt_of_le hk h.size) hD).trans (h.block k hk hD)⟩
theorem Chg.mono {D D' : List Nat} {w w1 : World} (h : Chg D w w1) (hD : ∀ k ∈ D, k ∈ D') : Chg D' w w1 := ⟨h.os, h.tape, h.output, h.size, fun k hk hn => h.block k hk fun hx => hn (hD k hx)⟩
theorem Chg.drewN {D : List Nat} {w w1 : World} (h : Chg D w w1) (n : Nat) : Chg D w (w1.drewN n) := ⟨h.os, h.tape, h.output, h.size, h.block⟩
theorem Chg.drew {D : List Nat} {w w1 : World} (h : Chg D w w1) : Chg D w w1.drew := ⟨h.os, h.tape, h.output, h.size, h.block⟩
theorem Chg.from_drew {D : List Nat} {w w1 : World} (h : Chg D w.drew w1) : Chg D w w1 := ⟨h.os, h.tape, h.output, h.size, h.block⟩
theorem Chg.alloc {D : List Nat} {w w1 : World} (h : Chg D w w1) (o : Obj) : Chg D w (w1.alloc o) :=
 ⟨h.os, h.tape, h.output, Nat.le_trans h.size (by simp), fun k hk hn => (Below.heap_alloc w1 o k (Nat.lt_of_lt_of_le hk h.size)).trans (h.block k hk hn)⟩
theorem Chg.setCell {D : List Nat} {w w1 : World} (h : Chg D w w1) {p : Addr} (hp : p.block ∈ D \/ w.heap.size <= p.block) (u : Value) : Chg D w (w1.setCell p u) :=
 ⟨h.os, h.tape, h.output, by simpa [World.setCell] using h.size, fun k hk hn => (Below.heap_setCell w1 p u k (by rcases hp with hp | hp; exact fun e => hn (e ▸ hp); omega)).trans (h.block k hk hn)⟩
theorem Chg.setCells {D : List Nat} {w : World} {b : Nat} (hp : b ∈ D \/ w.heap.size <= b) : ∀ (vs : List Value) (o : Nat) (w1 : World), Chg D w w1 -> Chg D w (w1.setCells b o vs)
 | [], _, _, h => h
 | v :: r, o, w1, h => by
   rw [World.setCells]
   exact Chg.setCells hp r (o + 1) _ (h.setCell (p := ⟨b, o, none⟩) hp v)
theorem Chg.setRow {D : List Nat} {w w1 : World} (h : Chg D w w1) {g : Nat} (hp : g ∈ D \/ w.heap.size <= g) (c : Array Value) : Chg D w (w1.setRow g c) := by
 refine ⟨h.os, h.tape, h.output, by simpa using h.size, fun k hk hn => ?_⟩
 rw [setRow_other w1 g k c (by rcases hp with hp | hp; exact fun e => hn (e ▸ hp); omega)]
 exact h.block k hk hn
theorem Chg.of_below {w w1 : World} (h : Below w.heap.size w w1) (D : List Nat) : Chg D w w1 := ⟨h.os, h.tape, h.output, h.size, fun k hk _ => h.block k hk⟩
theorem Chg.below {D : List Nat} {B : Nat} {w0 w w1 : World} (h : Chg D w w1) (h0 : Below B w0 w) (hB : B <= w.heap.size) (hD : ∀ k ∈ D, B <= k) : Below B w0 w1 :=
 h0.trans ⟨h.os, h.tape, h.output, h.size, fun k hk => h.block k (Nat.lt_of_lt_of_le hk hB) fun hx => by have := hD k hx; omega⟩
theorem Chg.whole {D : List Nat} {w w1 : World} (h : Chg D w w1) {g : Nat} {t : TypeId} {cs : Array Value} (hw : Whole w g t cs) (hg : g ∉ D) : Whole w1 g t cs := (h.block g hw.lt hg).trans hw
theorem Whole.setCells {g : Nat} {t : TypeId} : ∀ (vs : List Value) (o : Nat) (w : World) (cs : Array Value), Whole w g t cs →
 ∃ cs', Whole (w.setCells g o vs) g t cs' /\ cs'.size = cs.size /\ ∀ j, cs'[j]? = if o <= j /\ j < o + vs.length /\ j < cs.size then vs[j - o]? else cs[j]?
 | [], o, w, cs, h => ⟨cs, h, rfl, fun j => by rw [if_neg (by simp; omega)]⟩
 | v :: r, o, w, cs, h => by
   obtain ⟨cs', h1, h2, h3⟩ := Whole.setCells r (o + 1) _ _ (h.set_ o v)
   refine ⟨cs', by rw [World.setCells]; exact h1, h2.trans (by simp), fun j => ?_⟩
   rw [h3 j]
   simp only [Array.size_setIfInBounds, List.length_cons]
   by_cases hj : o = j
   . subst hj
     rw [if_neg (by omega)]
     by_cases hs : o < cs.size
     . rw [if_pos (by omega)]; simp [hs]
     . rw [if_neg (by omega), Array.getElem?_setIfInBounds]; simp [hs]
   . have e : (cs.setIfInBounds o v)[j]? = cs[j]? := by rw [Array.getElem?_setIfInBounds, if_neg hj]
     rw [e]
     by_cases hin : o + 1 <= j /\ j < o + 1 + r.length /\ j < cs.size
     . rw [if_pos hin, if_pos (by omega)]
       have : j - o = (j - (o + 1)) + 1 := by omega
       rw [this, List.getElem?_cons_succ]
     . rw [if_neg hin, if_neg (by omega)]
structure Elm (P : Program) (α : Type) [Inhabited α] where
 t : TypeId
 e : TypeId
 size : Nat
 bytes : Nat
 z : Value
 enc : α -> List Value
 ok : α -> Prop
 ht : P.underlying t = some (.slice e)
 hi : (P.info? e).map (fun i => (i.zero, i.size, i.bytes)) = some (some z, size, bytes)
 hzs : z.cells.size = size
 pos : 0 < size
 bpos : 0 < bytes
 len : ∀ a, ok a -> (enc a).length = size
 one : ∀ a, ok a -> ∀ u ∈ enc a, u.oneCell' = true
section
variable {P : Program} {α : Type} [Inhabited α]
def AllOk (E : Elm P α) (l : List α) : Prop := ∀ x ∈ l, E.ok x
theorem AllOk.at_ {E : Elm P α} {l : List α} (h : AllOk E l) {k : Nat} (hk : k < l.length) : E.ok (l.getD k default) := h _ (by
 rw [List.getD_eq_getElem?_getD, List.getElem?_eq_getElem hk]; exact List.getElem_mem hk)
theorem flat_length (E : Elm P α) : ∀ (l : List α), AllOk E l -> (l.flatMap E.enc).length = l.length * E.size
 | [], _ => by simp
 | x :: l, h => by
   rw [List.flatMap_cons, List.length_append, flat_length E l (fun y hy => h y (List.mem_cons_of_mem _ hy)), E.len x (h x (List.mem_cons_self ..)), List.length_cons, Nat.add_mul, Nat.one_mul, Nat.add_comm]
theorem flat_get (E : Elm P α) : ∀ (l : List α), AllOk E l -> ∀ (k j : Nat), k < l.length -> j < E.size -> (l.flatMap E.enc)[k * E.size + j]? = (E.enc (l.getD k default))[j]?
 | [], _, k, _, hk, _ => by simp at hk
 | x :: l, h, 0, j, _, hj => by
   rw [List.flatMap_cons, Nat.zero_mul, Nat.zero_add, List.getElem?_append_left (by rw [E.len x (h x (List.mem_cons_self ..))]; exact hj)]
   rfl
 | x :: l, h, k + 1, j, hk, hj => by
   have hx := E.len x (h x (List.mem_cons_self ..))
   rw [List.flatMap_cons, List.getElem?_append_right (by rw [hx, Nat.add_mul]; omega), hx]
   have e : (k + 1) * E.size + j - E.size = k * E.size + j := by rw [Nat.add_mul]; omega
   rw [e, flat_get E l (fun y hy => h y (List.mem_cons_of_mem _ hy)) k j (by simpa using hk) hj]
   rfl
theorem flat_one (E : Elm P α) {l : List α} (h : AllOk E l) : ∀ u ∈ l.flatMap E.enc, u.oneCell' = true := by
 intro u hu
 obtain ⟨x, hx, hu⟩ := List.mem_flatMap.1 hu
 exact E.one x (h x hx) u hu
theorem flat_ext (E : Elm P α) {l : List α} (h : AllOk E l) {ys : List Value} (hl : ys.length = l.length * E.size) (hy : ∀ k j, k < l.length -> j < E.size -> ys[k * E.size + j]? = (E.enc (l.getD k default))[j]?) : ys = l.flatMap E.enc := by
 refine List.ext_getElem? fun q => ?_
 have hp := E.pos
 by_cases hq : q < l.length * E.size
 . have hk : q / E.size < l.length := Nat.div_lt_of_lt_mul (by rw [Nat.mul_comm]; exact hq)
   have hj := Nat.mod_lt q hp
   have e : q / E.size * E.size + q % E.size = q := Nat.div_add_mod' q E.size
   rw [<- e, hy _ _ hk hj, flat_get E l h _ _ hk hj]
 . rw [List.getElem?_eq_none (by omega), List.getElem?_eq_none (by rw [flat_length E l h]; omega)]
def RA (E : Elm P α) (w : World) (v : Value) (l : List α) : Prop :=
 ∃ p cap, v = .slice p l.length cap /\ l.length <= cap /\ cap <= maxLen /\ AllOk E l /\ (l = [] \/ ∃ b off, p = some ⟨b, off, none⟩ /\ b < w.heap.size /\ w.rangeAt b off (l.flatMap E.enc))
theorem ra_below {E : Elm P α} {w w' : World} {v : Value} {l : List α} (h : RA E w v l) (hb : Below w.heap.size w w') : RA E w' v l := by
 obtain ⟨p, cap, rfl, h1, h2, h3, h | ⟨b, off, rfl, hlt, hc⟩⟩ := h
 . exact ⟨p, cap, rfl, h1, h2, h3, .inl h⟩
 . exact ⟨_, cap, rfl, h1, h2, h3, .inr ⟨b, off, rfl, Nat.lt_of_lt_of_le hlt hb.size, fun j u hj => (hb.cell (p := ⟨b, off + j, none⟩) hlt).trans (hc j u hj)⟩⟩
theorem ra_chg {E : Elm P α} {D : List Nat} {w w' : World} {v : Value} {l : List α} (h : RA E w v l) (hc : Chg D w w') (hD : ∀ g, v.ownBlock = some g -> g ∉ D) : RA E w' v l := by
 obtain ⟨p, cap, rfl, h1, h2, h3, h | ⟨b, off, rfl, hlt, hr⟩⟩ := h
 . exact ⟨p, cap, rfl, h1, h2, h3, .inl h⟩
 . refine ⟨_, cap, rfl, h1, h2, h3, .inr ⟨b, off, rfl, Nat.lt_of_lt_of_le hlt hc.size, fun j u hj => ?_⟩⟩
   have e := hc.block b hlt (hD b rfl)
   rw [<- hr j u hj]
   simp only [World.cell?, e]
theorem ra_shape {E : Elm P α} {w : World} {v : Value} {l : List α} (h : RA E w v l) : ∃ p cap, v = .slice p l.length cap /\ l.length <= cap /\ cap <= maxLen := by
 obtain ⟨p, cap, e, h1, h2, _⟩ := h
 exact ⟨p, cap, e, h1, h2⟩
theorem ra_ok {E : Elm P α} {w : World} {v : Value} {l : List α} (h : RA E w v l) : AllOk E l := by obtain ⟨_, _, _, _, _, h, _⟩ := h; exact h
theorem ra_nil (E : Elm P α) (w : World) : RA E w (.slice none 0 0) [] := ⟨none, 0, rfl, Nat.le_refl _, Nat.zero_le _, (fun _ h => by cases h), .inl rfl⟩
theorem ra_at {E : Elm P α} {w : World} {p : Option Addr} {n cap : Nat} {l : List α} (h : RA E w (.slice p n cap) l) (h0 : 0 < l.length) :
 ∃ b off, p = some ⟨b, off, none⟩ /\ b < w.heap.size /\ ∀ k, k < l.length -> w.rangeAt b (off + k * E.size) (E.enc (l.getD k default)) := by
 obtain ⟨q, c, e, _, _, hok, rfl | ⟨b, off, rfl, hb, hr⟩⟩ := h
 . simp at h0
 . cases e
   refine ⟨b, off, rfl, hb, fun k hk j u hj => ?_⟩
   have hj' : j < E.size := by rw [<- E.len _ (hok.at_ hk)]; exact (List.getElem?_eq_some_iff.1 hj).1
   have := hr (k * E.size + j) u (by rw [flat_get E l hok k j hk hj']; exact hj)
   rwa [<- Nat.add_assoc] at this
theorem ra_take {E : Elm P α} {w : World} {p : Option Addr} {n cap : Nat} {l : List α} (h : RA E w (.slice p n cap) l) (k : Nat) : RA E w (.slice p (min k l.length) cap) (l.take k) := by
 obtain ⟨q, c, e, h1, h2, hok, hr⟩ := h
 cases e
 refine ⟨_, _, by rw [List.length_take], by rw [List.length_take]; omega, h2, fun x hx => hok x (List.mem_of_mem_take hx), ?_⟩
 rcases hr with rfl | ⟨b, off, rfl, hb, hr⟩
 . exact .inl (by simp)
 . refine .inr ⟨b, off, rfl, hb, fun j u hj => hr j u ?_⟩
   rw [<- List.take_append_drop k l, List.flatMap_append]
   rw [List.getElem?_append_left (List.getElem?_eq_some_iff.1 hj).1]; exact hj
theorem ra_drop {E : Elm P α} {w : World} {b off n cap : Nat} {l : List α} (h : RA E w (.slice (some ⟨b, off, none⟩) n cap) l) {k : Nat} (hk : k < l.length) : RA E w (.slice (some ⟨b, off + k * E.size, none⟩) (n - k) (cap - k)) (l.drop k) := by
 obtain ⟨q, c, e, h1, h2, hok, hr⟩ := h
 cases e
 refine ⟨_, _, by rw [List.length_drop], by rw [List.length_drop]; omega, by omega, fun x hx => hok x (List.mem_of_mem_drop hx), ?_⟩
 rcases hr with rfl | ⟨b', off', e, hb, hr⟩
 . simp at hk
 . cases e
   refine .inr ⟨b, _, rfl, hb, fun j u hj => ?_⟩
   have hlen : (l.take k).length = k := by rw [List.length_take]; omega
   have := hr (k * E.size + j) u (by
    rw [<- List.take_append_drop k l, List.flatMap_append]
    rw [List.getElem?_append_right (by rw [flat_length E _ (fun x hx => hok x (List.mem_of_mem_take hx)), hlen]; omega), flat_length E _ (fun x hx => hok x (List.mem_of_mem_take hx)), hlen, show k * E.size + j - k * E.size = j by omega]
    exact hj)
   rwa [<- Nat.add_assoc] at this
theorem elems_in {H : Type} {enc : TypeId × Value -> H} {W : World} {n0 : Nat} {sp : Nat -> Bool} {held : Bool} {cs : List Value} {x : DataW H × List MemPlace} (E : Elm P α)
 (hf : DataW.trod enc P W 0 sp held n0 E.t cs = some x) (hin : ∀ (n : Nat) (c : List Value) y, DataW.trod enc P W 0 sp held n E.e c = some y -> c.length = E.size -> ∃ a, c = E.enc a /\ E.ok a) :
 ∃ (v : Value) (l : List α), cs = [v] /\ RA E W v l := by
 obtain ⟨i0, hi0, _, hs0, _⟩ := info_parts E.hi
 have hce : P.cellsOf E.e = E.size := by unfold Program.cellsOf; rw [hi0]; exact hs0
 rcases Go.Deep.open_slice E.ht hf with ⟨hcs, _⟩ | ⟨a, vl, vc, m, n, D, Pl, hcs, _, hl, hm, hmm, hdx, hx⟩
 . exact ⟨_, [], hcs, ra_nil E W⟩
 . have hle : vl <= m := by rw [hmm]; split <;> omega
   rw [hce] at hx
   have pick : ∀ i, ∃ c : α, i < vl -> W.cells? 0 (a.add (i * E.size)) E.size = some (E.enc c) /\ E.ok c := by
    intro i
    by_cases hi : i < vl
    . obtain ⟨cs', h1, h2⟩ := hx i (by omega)
      obtain ⟨c, rfl, hw⟩ := hin _ _ _ h2 (World.cells?_some h1).2.1
      exact ⟨c, fun _ => ⟨h1, hw⟩⟩
    . exact ⟨default, fun h => absurd h hi⟩
   obtain ⟨f, hfp⟩ := Classical.axiomOfChoice pick
   have hgd : ∀ k, k < vl -> ((List.range vl).map f).getD k default = f k := fun k hk => by simp [hk]
   have hok : AllOk E ((List.range vl).map f) := fun y hy => by
    obtain ⟨i, hi, rfl⟩ := List.mem_map.1 hy
    exact (hfp i (List.mem_range.1 hi)).2
   by_cases h0 : vl = 0
   . subst h0
     exact ⟨_, [], hcs, some a, vc, rfl, Nat.zero_le _, hm, (fun _ h => by cases h), .inl rfl⟩
   . obtain ⟨b, off, spot⟩ := a
     have hpos := E.pos
     have e0 := (World.cells?_some (hfp 0 (by omega)).1).2.2 0 hpos
     rw [List.getElem?_eq_getElem (by rw [E.len _ (hfp 0 (by omega)).2]; exact hpos)] at e0
     have hspot : spot = none := by
      have := World.cell?_spot e0
      simpa [Addr.add] using this
     subst hspot
     refine ⟨_, (List.range vl).map f, hcs, _, vc, by simp, by simpa using hl, hm, hok, .inr ⟨b, off, rfl, ?_, fun q u hq => ?_⟩⟩
     . simpa [Addr.add] using World.block_lt_of_cell? W _ e0
     . have hql : q < vl * E.size := by
        have := (List.getElem?_eq_some_iff.1 hq).1
        rw [flat_length E _ hok] at this
        simpa using this
       have hk : q / E.size < vl := Nat.div_lt_of_lt_mul (by rw [Nat.mul_comm]; exact hql)
       have hj := Nat.mod_lt q hpos
       have e : q / E.size * E.size + q % E.size = q := Nat.div_add_mod' q E.size
       rw [<- e, flat_get E _ hok _ _ (by simpa using hk) hj, hgd _ hk] at hq
       obtain ⟨_, _, hcell⟩ := World.cells?_some (hfp _ hk).1
       have := hcell _ hj
       rw [hq, add_plain, add_plain] at this
       rw [<- e, <- Nat.add_assoc]; exact this
def OwnA (E : Elm P α) (B : Nat) (w : World) (v : Value) (l : List α) : Prop := w.ownsRow B E.e E.size v l.length (l.flatMap E.enc) /\ AllOk E l
theorem OwnA.ra {E : Elm P α} {B : Nat} {w : World} {v : Value} {l : List α} (h : OwnA E B w v l) : RA E w v l := by
 obtain ⟨h, hok⟩ := h
 have h' := h
 obtain ⟨_, ⟨rfl, h0⟩ | ⟨g, cap, cur, rfl, _, hg, h1, h2, _⟩⟩ := h
 . rw [List.eq_nil_of_length_eq_zero h0]; exact ra_nil E w
 . refine ⟨_, cap, rfl, h1, h2, hok, .inr ⟨g, 0, rfl, (Array.getElem?_eq_some_iff.1 hg).1, fun j u hj => ?_⟩⟩
   have := h'.cells (g := g) rfl j u hj
   have e : (⟨g, 0, none⟩ : Addr).add j = ⟨g, 0 + j, none⟩ := Go.WideShapes.add_plain ..
   rw [e] at this; exact this
theorem OwnA.shape {E : Elm P α} {B : Nat} {w : World} {v : Value} {l : List α} (h : OwnA E B w v l) : ∃ p c, v = .slice p l.length c /\ l.length <= c /\ c <= maxLen := ra_shape h.ra
theorem OwnA.below {E : Elm P α} {B : Nat} {w w' : World} {v : Value} {l : List α} (h : OwnA E B w v l) (hb : Below w.heap.size w w') : OwnA E B w' v l := by
 refine ⟨⟨h.1.1, h.1.2.imp id ?_⟩, h.2⟩
 rintro ⟨g, cap, cur, hv, h1, hg, r⟩
 exact ⟨g, cap, cur, hv, h1, (hb.block g (Array.getElem?_eq_some_iff.1 hg).1).trans hg, r⟩
theorem OwnA.chg {E : Elm P α} {D : List Nat} {B : Nat} {w w' : World} {v : Value} {l : List α} (h : OwnA E B w v l) (hc : Chg D w w') (hD : ∀ g, v.ownBlock = some g -> g ∉ D) : OwnA E B w' v l := by
 refine ⟨⟨h.1.1, h.1.2.imp id ?_⟩, h.2⟩
 rintro ⟨g, cap, cur, hv, h1, hg, r⟩
 subst hv
 exact ⟨g, cap, cur, rfl, h1, (hc.block g (Array.getElem?_eq_some_iff.1 hg).1 (hD g rfl)).trans hg, r⟩
theorem OwnA.mono {E : Elm P α} {B B' : Nat} {w : World} {v : Value} {l : List α} (h : OwnA E B w v l) (hb : B' <= B) : OwnA E B' w v l :=
 ⟨⟨h.1.1, h.1.2.imp id fun ⟨g, cap, cur, hv, hg, r⟩ => ⟨g, cap, cur, hv, Nat.le_trans hb hg, r⟩⟩, h.2⟩
theorem own_nil_a (E : Elm P α) (B : Nat) (w : World) : OwnA E B w (.slice none 0 0) [] := ⟨World.ownsRow_nil _ _ _ _, fun _ h => by cases h⟩
theorem own_lit_a (E : Elm P α) (w : World) {l : List α} (hok : AllOk E l) (hl : l.length <= maxLen) : OwnA E w.heap.size (w.alloc (.cells (l.flatMap E.enc).toArray E.e)) (.slice (some ⟨w.heap.size, 0, none⟩) l.length l.length) l := by
 have h := World.ownsRow_lit (e := E.e) (size := E.size) (base := w.heap.size) w (l.flatMap E.enc).toArray l.length (Nat.le_refl _) hl (by simpa using flat_length E l hok)
 exact ⟨by simpa using h, hok⟩
theorem made_flat (E : Elm P α) {n : Nat} {x : α} (hx : E.ok x) (hz : E.enc x = E.z.cells.toList) : (madeCells E.z.cells (n * E.size)).toList = (List.replicate n x).flatMap E.enc := by
 have hok : AllOk E (List.replicate n x) := fun y hy => by rw [(List.mem_replicate.1 hy).2]; exact hx
 refine flat_ext E hok (by simp [madeCells]) fun k j hk hj => ?_
 have hk' : k < n := by simpa using hk
 have hlt : k * E.size + j < n * E.size := by
  have : (k + 1) * E.size <= n * E.size := Nat.mul_le_mul_right _ hk'
  rw [Nat.add_mul] at this; omega
 have em : (k * E.size + j) % E.size = j := by rw [Nat.add_comm, Nat.add_mul_mod_self_right]; exact Nat.mod_eq_of_lt hj
 have hjz : j < E.z.cells.size := by rw [E.hzs]; exact hj
 have eg : (List.replicate n x).getD k default = x := by simp [hk']
 rw [eg, hz, Array.getElem?_toList, Array.getElem?_toList, madeCells]
 rw [Array.getElem?_map, Array.getElem?_range, if_pos hlt, Option.map_some, E.hzs, em]
 rw [getElem!_pos E.z.cells j hjz, Array.getElem?_eq_getElem hjz]
theorem own_made_a (E : Elm P α) (w : World) (n : Nat) (hn : n <= maxLen) {x : α} (hx : E.ok x) (hz : E.enc x = E.z.cells.toList) : OwnA E w.heap.size (w.alloc (.cells (madeCells E.z.cells (n * E.size)) E.e)) (.slice (some ⟨w.heap.size, 0, none⟩) n n) (List.replicate n x) := by
 have hok : AllOk E (List.replicate n x) := fun y hy => by rw [(List.mem_replicate.1 hy).2]; exact hx
 have e := made_flat E (n := n) hx hz
 refine ⟨⟨flat_length E _ hok, .inr ⟨w.heap.size, n, _, by simp, Nat.le_refl _, heap_alloc_new w _, by simp, hn, size_madeCells _ _, ?_⟩⟩, hok⟩
 rw [List.length_replicate, <- e, List.take_of_length_le (by rw [Array.length_toList, size_madeCells]; exact Nat.le_refl _)]
theorem OwnA.setCell {E : Elm P α} {B g n c : Nat} {w : World} {l : List α} (h : OwnA E B w (.slice (some ⟨g, 0, none⟩) n c) l) {k j : Nat} {x : α} {u : Value} (hk : k < l.length) (hj : j < E.size) (hx : E.ok x) (he : E.enc x = (E.enc (l.getD k default)).set j u) :
 OwnA E B (w.setCell ⟨g, k * E.size + j, none⟩ u) (.slice (some ⟨g, 0, none⟩) n c) (l.set k x) := by
 have hn : n = l.length := by
  obtain ⟨p, c', e, _⟩ := h.shape
  cases e; rfl
 subst hn
 have hs := (World.ownsRow.stored (g := g) (cap := c) h.1 (k * E.size + j) u).1
 have hok : AllOk E (l.set k x) := fun y hy => by
  rcases List.mem_or_eq_of_mem_set hy with hy | rfl
  . exact h.2 y hy
  . exact hx
 have e : (l.flatMap E.enc).set (k * E.size + j) u = (l.set k x).flatMap E.enc := by
  refine flat_ext E hok (by rw [List.length_set, List.length_set]; exact flat_length E l h.2) fun k' j' hk' hj' => ?_
  rw [List.length_set] at hk'
  rw [List.getElem?_set, flat_get E l h.2 _ _ hk' hj', flat_length E l h.2]
  have hlt : k * E.size + j < l.length * E.size := by
   have : (k + 1) * E.size <= l.length * E.size := Nat.mul_le_mul_right _ hk
   rw [Nat.add_mul] at this; omega
  by_cases hkk : k = k'
  . subst hkk
    have eg : (l.set k x).getD k default = x := by simp [hk]
    rw [eg, he, List.getElem?_set, E.len _ (h.2.at_ hk)]
    by_cases hjj : j = j'
    . subst hjj; rw [if_pos rfl, if_pos rfl, if_pos hlt, if_pos hj]
    . rw [if_neg (by omega), if_neg hjj]
  . have eg : (l.set k x).getD k' default = l.getD k' default := by simp [hkk]
    rw [eg, if_neg fun q => hkk ?_]
    have a := congrArg (· / E.size) q
    rw [Nat.mul_comm k, Nat.mul_comm k', Nat.mul_add_div E.pos, Nat.mul_add_div E.pos, Nat.div_eq_of_lt hj, Nat.div_eq_of_lt hj'] at a
    omega
 exact ⟨by rw [List.length_set, <- e]; exact hs, hok⟩
theorem OwnA.setElem {E : Elm P α} {B g n c : Nat} {w : World} {l : List α} (h : OwnA E B w (.slice (some ⟨g, 0, none⟩) n c) l) {k : Nat} {x : α} (hk : k < l.length) (hx : E.ok x) :
 OwnA E B (w.setCells g (k * E.size) (E.enc x)) (.slice (some ⟨g, 0, none⟩) n c) (l.set k x) := by
 have hok : AllOk E (l.set k x) := fun y hy => by
  rcases List.mem_or_eq_of_mem_set hy with hy | rfl
  . exact h.2 y hy
  . exact hx
 obtain ⟨⟨hl, h0 | ⟨g', cap, cur, e, hb, hg, hnc, hcm, hsz, htk⟩⟩, hal⟩ := h
 . cases h0.1
 cases e
 have hl2 := E.len x hx
 obtain ⟨cur', w1, w2, w3⟩ := Whole.setCells (E.enc x) (k * E.size) w cur (show Whole w g E.e cur from hg)
 have hlt : (k + 1) * E.size <= l.length * E.size := Nat.mul_le_mul_right _ hk
 have hcap : l.length * E.size <= c * E.size := Nat.mul_le_mul_right _ hnc
 have hcur : cur'.toList.length = c * E.size := by rw [Array.length_toList, w2, hsz]
 rw [Nat.add_mul] at hlt
 refine ⟨⟨by rw [flat_length E _ hok], .inr ⟨g, c, cur', by rw [List.length_set], hb, w1, by rw [List.length_set]; exact hnc, hcm, by rw [w2]; exact hsz, ?_⟩⟩, hok⟩
 rw [List.length_set]
 refine flat_ext E hok (by rw [List.length_take, hcur, List.length_set]; omega) fun k' j' hk' hj' => ?_
 rw [List.length_set] at hk'
 have hlt' : (k' + 1) * E.size <= l.length * E.size := Nat.mul_le_mul_right _ hk'
 rw [Nat.add_mul] at hlt'
 rw [List.getElem?_take, if_pos (by omega), Array.getElem?_toList, w3, hl2]
 by_cases hkk : k = k'
 . subst hkk
   rw [if_pos (by omega)]
   have eg : (l.set k x).getD k default = x := by simp [hk]
   rw [eg, show k * E.size + j' - k * E.size = j' by omega]
 . have eg : (l.set k x).getD k' default = l.getD k' default := by simp [hkk]
   have hap : ¬ (k * E.size <= k' * E.size + j' /\ k' * E.size + j' < k * E.size + E.size /\ k' * E.size + j' < cur.size) := by
    intro q
    rcases Nat.lt_or_gt_of_ne hkk with h1 | h1
    . have : (k + 1) * E.size <= k' * E.size := Nat.mul_le_mul_right _ h1
      rw [Nat.add_mul] at this; omega
    . have : (k' + 1) * E.size <= k * E.size := Nat.mul_le_mul_right _ h1
      rw [Nat.add_mul] at this; omega
   rw [if_neg hap, eg, <- flat_get E l hal _ _ hk' hj', <- htk, List.getElem?_take, if_pos (by omega), Array.getElem?_toList]
theorem OwnA.free {E : Elm P α} {B g n c : Nat} {w : World} {l : List α} (h : OwnA E B w (.slice (some ⟨g, 0, none⟩) n c) l) (j : Nat) : w.frozen? ⟨g, j, none⟩ = false := by
 have hn : n = l.length := by
  obtain ⟨p, c', e, _⟩ := h.shape
  cases e; rfl
 subst hn
 exact World.ownsRow.frozenAt (g := g) (cap := c) h.1 j
theorem run_app_nil {P : Program} (w : World) (base : Nat) (t ty e : TypeId) (i : TypeInfo) (size : Nat) (ht : P.underlying t = some (.slice e)) (hi : P.info? e = some i)
 (v : Value) (n : Nat) (xs : List Value) (hown : w.ownsRow base e size v n xs) (c : Nat) : (Builtin.append_ #[t, t] ty #[v, .slice none 0 c]).run P w = .ok v w := by
 obtain ⟨_, ⟨rfl, rfl⟩ | ⟨g, cap, cur, rfl, _, _, hc, _⟩⟩ := hown <;> simp [Builtin.append_, run_underlying ht, sizeOf, typeInfo, Builtin.lenOf, Builtin.firstCells, storeCells, *]
theorem run_app (E : Elm P α) (B : Nat) (v : Value) (l : List α) (w : World) (hown : OwnA E B w v l) (u : Value) (r : List α) (hr : RA E w u r) (hlen : (l.length + r.length) * E.bytes <= 140737488355328) (hB : B <= w.heap.size) (ty : TypeId) :
 ∃ v' w', (Builtin.append_ #[E.t, E.t] ty #[v, u]).run P w = .ok v' w' /\ OwnA E B w' v' (l ++ r) /\ w.grownBy w' v.ownBlock /\ (v'.ownBlock = v.ownBlock \/ v'.ownBlock = some w.heap.size) := by
 obtain ⟨i0, hi, hz0, hz1, hz2⟩ := info_parts E.hi
 obtain ⟨A, c, rfl, h1, h2, hok, h3⟩ := hr
 have hok2 : AllOk E (l ++ r) := fun x hx => (List.mem_append.1 hx).elim (hown.2 x) (hok x)
 have fin : ∀ w' v', w'.ownsRow B E.e E.size v' (l.length + r.length) (l.flatMap E.enc ++ r.flatMap E.enc) -> OwnA E B w' v' (l ++ r) := fun w' v' h =>
  ⟨by rw [List.length_append, List.flatMap_append]; exact h, hok2⟩
 cases A with
 | none =>
   have hr0 : r = [] := by
    rcases h3 with h3 | ⟨b, off, h, _⟩
    . exact h3
    . cases h
   subst hr0
   exact ⟨v, w, run_app_nil w B _ ty _ i0 E.size E.ht hi v _ _ hown.1 c, by simpa using hown, World.grownBy.refl w _, .inl rfl⟩
 | some ad =>
   have hc : ∀ j u, (r.flatMap E.enc)[j]? = some u -> w.cell? (ad.add j) = some u := by
    intro j u hu
    rcases h3 with h3 | ⟨b, off, h, _, hc⟩
    . subst h3; simp at hu
    . cases h
      have e : (⟨b, off, none⟩ : Addr).add j = ⟨b, off + j, none⟩ := Go.WideShapes.add_plain ..
      rw [e]; exact hc j u hu
   have hbb : l.length + r.length <= (l.length + r.length) * E.bytes := Nat.le_mul_of_pos_right _ E.bpos
   obtain ⟨v', w', hrun, g1, g2, _, g4⟩ := run_append_own_at (P := P) w B E.t ty E.e i0 E.z E.size E.bytes E.ht hi hz0 hz1 hz2 E.hzs E.pos v l.length (l.flatMap E.enc) hown.1 ad r.length c (r.flatMap E.enc) (flat_length E r hok) hc (flat_one E hok) (by unfold maxLen; omega) hlen hB
   exact ⟨v', w', hrun, fin _ _ g1, g2, g4⟩
variable {ops : Array Oper} {rest : List Oper} {o : Oper} {a : Act} {w : World} {Q : Exit -> Act -> World -> Prop} {K : Act -> World -> Prop}
theorem wp_app (E : Elm P α) (s x : Operand) (ho : o.op = .call { callee := .builtin .append, args := #[s, x], argTypes := #[E.t, E.t] }) (B : Nat) (v : Value) (l : List α) (hs : a.eval s = v) (hown : OwnA E B w v l)
 (u : Value) (r : List α) (hx : a.eval x = u) (hr : RA E w u r) (hlen : (l.length + r.length) * E.bytes <= 140737488355328) (hB : B <= w.heap.size)
 (h : ∀ v' w', OwnA E B w' v' (l ++ r) -> w.grownBy w' v.ownBlock -> (v'.ownBlock = v.ownBlock \/ v'.ownBlock = some w.heap.size) -> K (a.put o.dst v') w') : o.wp P a w K Q := by
 obtain ⟨v', w', hrun, h2, h3, h4⟩ := run_app E B v l w hown u r hr hlen hB o.type
 unfold Oper.wp execOp
 simp only [ho, resolve, invoke, builtin, Sem.run_bind, Sem.run_pure, Result.andThen_ok, List.map_toArray, List.map_cons, List.map_nil, hs, hx, hrun]
 exact h v' w' h2 h3 h4
theorem list_app (E : Elm P α) (hgd : o.guard = none) (s x : Operand) (ho : o.op = .call { callee := .builtin .append, args := #[s, x], argTypes := #[E.t, E.t] }) (B : Nat) (v : Value) (l : List α) (hs : a.eval s = v) (hown : OwnA E B w v l)
 (u : Value) (r : List α) (hx : a.eval x = u) (hr : RA E w u r) (hlen : (l.length + r.length) * E.bytes <= 140737488355328) (hB : B <= w.heap.size)
 (h : ∀ v' w', OwnA E B w' v' (l ++ r) -> w.grownBy w' v.ownBlock -> (v'.ownBlock = v.ownBlock \/ v'.ownBlock = some w.heap.size) -> wpList P ops Q rest (a.put o.dst v') w') : wpList P ops Q (o :: rest) a w :=
 wpList_plain hgd fun _ hK => wp_app E s x ho B v l hs hown u r hx hr hlen hB fun v' w' h2 h3 h4 => hK _ _ (h v' w' h2 h3 h4)
theorem step_app (E : Elm P α) {F : Prop} (hgd : o.guard = none) (s x : Operand) (ho : o.op = .call { callee := .builtin .append, args := #[s, x], argTypes := #[E.t, E.t] }) (B : Nat) (v : Value) (l : List α) (hs : a.eval s = v) (hown : OwnA E B w v l)
 (u : Value) (r : List α) (hx : a.eval x = u) (hr : RA E w u r) (hlen : (l.length + r.length) * E.bytes <= 140737488355328) (hB : B <= w.heap.size)
 (h : ∀ v' w', OwnA E B w' v' (l ++ r) -> w.grownBy w' v.ownBlock -> (v'.ownBlock = v.ownBlock \/ v'.ownBlock = some w.heap.size) -> K (a.put o.dst v') w') : if Region.wanted o (yielded ops a.tmps) = true then o.wp P a w K Q else F := by
 rw [if_pos (by simp [Region.wanted, hgd])]
 exact wp_app E s x ho B v l hs hown u r hx hr hlen hB h
theorem OwnA.lt {E : Elm P α} {B : Nat} {w : World} {v : Value} {l : List α} (h : OwnA E B w v l) : ∀ k, v.ownBlock = some k -> B <= k /\ k < w.heap.size := World.ownsRow.lt h.1
theorem OwnA.alloc {E : Elm P α} {B : Nat} {w : World} {v : Value} {l : List α} (h : OwnA E B w v l) (o : Obj) : OwnA E B (w.alloc o) v l := ⟨h.1.alloc o, h.2⟩
theorem below_app {E : Elm P α} {B : Nat} {w w1 w2 : World} {v : Value} {l : List α} (h : Below B w w1) (hB : B <= w1.heap.size) (ho : OwnA E B w1 v l) (hg : w1.grownBy w2 v.ownBlock) : Below B w w2 := h.grown hg hB (fun k hk => (ho.lt k hk).1)
def RAs (E : Elm P α) (R : Elm P Value) (w : World) (v : Value) (l : List (List α)) : Prop := ∃ vs, RA R w v vs /\ vs.length = l.length /\ ∀ k, k < l.length -> RA E w (vs.getD k default) (l.getD k [])
theorem ras_below {E : Elm P α} {R : Elm P Value} {w w' : World} {v : Value} {l : List (List α)} (h : RAs E R w v l) (hb : Below w.heap.size w w') : RAs E R w' v l := by
 obtain ⟨vs, h1, h2, h3⟩ := h
 exact ⟨vs, ra_below h1 hb, h2, fun k hk => ra_below (h3 k hk) hb⟩
theorem ras_shape {E : Elm P α} {R : Elm P Value} {w : World} {v : Value} {l : List (List α)} (h : RAs E R w v l) : ∃ p cap, v = .slice p l.length cap /\ l.length <= cap /\ cap <= maxLen := by
 obtain ⟨vs, h1, h2, _⟩ := h
 rw [<- h2]; exact ra_shape h1
theorem ras_at {E : Elm P α} {R : Elm P Value} {w : World} {p : Option Addr} {n cap : Nat} {l : List (List α)} (hR : R.enc = fun v => [v]) (hs : R.size = 1) (h : RAs E R w (.slice p n cap) l) (h0 : 0 < l.length) :
 ∃ b off, p = some ⟨b, off, none⟩ /\ b < w.heap.size /\ ∀ k, k < l.length -> ∃ u, w.cell? ⟨b, off + k, none⟩ = some u /\ RA E w u (l.getD k []) := by
 obtain ⟨vs, h1, h2, h3⟩ := h
 obtain ⟨b, off, rfl, hb, hr⟩ := ra_at h1 (by omega)
 refine ⟨b, off, rfl, hb, fun k hk => ⟨_, ?_, h3 k hk⟩⟩
 have := hr k (by omega) 0 (vs.getD k default) (by rw [hR]; rfl)
 rw [hs, Nat.mul_one, Nat.add_zero] at this
 exact this
end
def Bk.cells (b : Bk) : List Value := [.int .i64 b.a, .int .i64 b.s, .bool b.u]
def bc (b : Bk) : Array Value := b.cells.toArray
structure Bk.Wf (b : Bk) : Prop where
 wa : (Lit.int .i64 b.a).wf = true
 ws : (Lit.int .i64 b.s).wf = true
theorem Bk.wf_of {b : Bk} (h1 : -9223372036854775808 <= b.a) (h2 : b.a <= 9223372036854775807) (h3 : -9223372036854775808 <= b.s) (h4 : b.s <= 9223372036854775807) : b.Wf := ⟨i64_of h1 h2, i64_of h3 h4⟩
theorem info_block : (Tryz.prog.info? 124).map (·.size) = some 3 := by kernel_rfl
def blkE : Elm Tryz.prog Bk where
 t := 47
 e := 124
 size := 3
 bytes := 24
 z := .agg #[.int .i64 0, .int .i64 0, .bool false]
 enc := Bk.cells
 ok := Bk.Wf
 ht := Tryz.underlying47
 hi := by kernel_rfl
 hzs := rfl
 pos := by decide
 bpos := by decide
 len := fun _ _ => rfl
 one := fun a _ u hu => by
  simp only [Bk.cells, List.mem_cons, List.not_mem_nil, or_false] at hu
  rcases hu with rfl | rfl | rfl <;> rfl
@[go_sem] theorem bc_ne (b : Bk) : (bc b = #[]) = False := by simp [bc, Bk.cells]
theorem bc_one (b : Bk) : (bc b).all (·.oneCell') = true := by simp [bc, Bk.cells, Value.oneCell']
theorem bc_size (b : Bk) : (bc b).size = 3 := rfl
def Bv (w : World) (g : Nat) (b : Bk) : Prop := Whole w g 124 (bc b)
section
variable {w w' : World} {g : Nat} {b : Bk}
theorem Bv.lt (h : Bv w g b) : g < w.heap.size := Whole.lt h
theorem Bv.below (h : Bv w g b) (hb : Below w.heap.size w w') : Bv w' g b := (hb.block g (Whole.lt h)).trans h
theorem Bv.chg {D : List Nat} (h : Bv w g b) (hb : Chg D w w') (hg : g ∉ D) : Bv w' g b := hb.whole h hg
theorem Bv.new (w : World) (b : Bk) : Bv (w.alloc (.cells (bc b) 124)) w.heap.size b := heap_alloc_new w _
theorem Bv.c0 (h : Bv w g b) : w.cell? ⟨g, 0, none⟩ = some (.int .i64 b.a) := Whole.at_ h 0
theorem Bv.c1 (h : Bv w g b) : w.cell? ⟨g, 1, none⟩ = some (.int .i64 b.s) := Whole.at_ h 1
theorem Bv.c2 (h : Bv w g b) : w.cell? ⟨g, 2, none⟩ = some (.bool b.u) := Whole.at_ h 2
end
def blkLoad (p : Value) : Sem Value := Instr.loadAt 124 p
def blkStore (p v : Value) : Sem Unit := Instr.storeAt 124 p v
@[go_sem ↓] theorem loadAt_blk (p : Value) : Instr.loadAt 124 p = blkLoad p := rfl
@[go_sem ↓] theorem storeAt_blk (p v : Value) : Instr.storeAt 124 p v = blkStore p v := rfl
theorem run_blkLoad {w : World} {b o : Nat} {c : Bk} (h : w.rangeAt b o c.cells) : (blkLoad (.pointer (some ⟨b, o, none⟩))).run Tryz.prog w = .ok (.agg (bc c)) w :=
 run_loadAt_mid (P := Tryz.prog) w b o 124 c.cells _ h Tryz.underlying124 rfl info_block
theorem Bv.load {w : World} {g : Nat} {b : Bk} (h : Bv w g b) : (blkLoad (.pointer (some ⟨g, 0, none⟩))).run Tryz.prog w = .ok (.agg (bc b)) w :=
 run_blkLoad fun j u hj => by rw [Whole.at_ h, Nat.zero_add, <- hj]; simp [bc]
theorem run_blkStore (w : World) {z : Array Value} (hz : z.size = 3) (c : Bk) :
 (blkStore (.pointer (some ⟨w.heap.size, 0, none⟩)) (.agg (bc c))).run Tryz.prog (w.alloc (.cells z 124)) = .ok () (w.alloc (.cells (bc c) 124)) := by
 unfold blkStore
 simp only [Instr.storeAt, Instr.sureAddr, Sem.run_bind, Sem.run_pure, Result.andThen]
 rw [run_storeVar_row _ _ 124 124 z (bc c) (heap_alloc_new w _) (by rw [info_block, bc_size]) (by rw [hz, bc_size]) (bc_one c), World.setRow_alloc_new]
@[go_sem] theorem blk_store_new (w : World) (c : Bk) :
   (blkStore (.pointer (some ⟨w.heap.size, 0, none⟩)) (.agg (bc c))).run Tryz.prog (w.alloc (.cells #[.int .i64 0, .int .i64 0, .bool false] 124)) = .ok () (w.alloc (.cells (bc c) 124)) :=
  run_blkStore w rfl c
theorem blk_at {w : World} {p : Option Addr} {n cap : Nat} {l : List Bk} (h : RA blkE w (.slice p n cap) l) (h0 : 0 < l.length) :
 ∃ b off, p = some ⟨b, off, none⟩ /\ b < w.heap.size /\ ∀ k, k < l.length -> (blkLoad (.pointer (some ⟨b, off + k * 3, none⟩))).run Tryz.prog w = .ok (.agg (bc (l.getD k default))) w ∧
  w.cell? ⟨b, off + k * 3, none⟩ = some (.int .i64 (l.getD k default).a) /\ w.cell? ⟨b, off + k * 3 + 1, none⟩ = some (.int .i64 (l.getD k default).s) /\ w.cell? ⟨b, off + k * 3 + 2, none⟩ = some (.bool (l.getD k default).u) /\ (l.getD k default).Wf := by
 obtain ⟨b, off, e, hb, hr⟩ := ra_at h h0
 refine ⟨b, off, e, hb, fun k hk => ?_⟩
 have hk2 := hr k hk
 exact ⟨run_blkLoad hk2, hk2 0 _ rfl, hk2 1 _ rfl, hk2 2 _ rfl, (ra_ok h).at_ hk⟩
theorem blk_boxed (w : World) (c : Bk) : ∃ W, w.alloc (.cells (bc c) 124) = W /\ Hid (Bv W w.heap.size c /\ Below w.heap.size w W) :=
 ⟨_, rfl, jz ⟨Bv.new w c, bal (Below.refl _ _)⟩⟩
theorem built_blk3 (a s : Int) (u : Bool) : Tryz.prog.built 124 [(0, .int .i64 a), (1, .int .i64 s), (2, .bool u)] = some (bc ⟨a, s, u⟩) := by kernel_rfl
theorem built_blk1 (s : Int) : Tryz.prog.built 124 [(1, .int .i64 s)] = some (bc ⟨0, s, false⟩) := by kernel_rfl
def blkBuild (ps : Array (Nat × Value)) : Sem Value := Instr.build 124 ps
@[go_sem ↓] theorem build_blk (ps : Array (Nat × Value)) : Instr.build 124 ps = blkBuild ps := rfl
@[go_sem] theorem run_blkBuild3 (w : World) (a s : Int) (u : Bool) : (blkBuild #[(0, .int .i64 a), (1, .int .i64 s), (2, .bool u)]).run Tryz.prog w = .ok (.agg (bc ⟨a, s, u⟩)) w := run_build w _ _ _ (built_blk3 a s u)
@[go_sem] theorem run_blkBuild1 (w : World) (s : Int) : (blkBuild #[(1, .int .i64 s)]).run Tryz.prog w = .ok (.agg (bc ⟨0, s, false⟩)) w := run_build w _ _ _ (built_blk1 s)
theorem built_blk2 (a s : Int) : Tryz.prog.built 124 [(0, .int .i64 a), (1, .int .i64 s)] = some (bc ⟨a, s, false⟩) := by kernel_rfl
@[go_sem] theorem run_blkBuild2 (w : World) (a s : Int) : (blkBuild #[(0, .int .i64 a), (1, .int .i64 s)]).run Tryz.prog w = .ok (.agg (bc ⟨a, s, false⟩)) w := run_build w _ _ _ (built_blk2 a s)
theorem built_blks2 (w : World) (a s a' s' : Int) (u u' : Bool) : (Instr.buildSlice 47 2 #[(0, .agg #[.int .i64 a, .int .i64 s, .bool u]), (1, .agg #[.int .i64 a', .int .i64 s', .bool u'])]).run Tryz.prog w = .ok (.slice (some ⟨w.heap.size, 0, none⟩) 2 2) (w.alloc (.cells #[.int .i64 a, .int .i64 s, .bool u, .int .i64 a', .int .i64 s', .bool u'] 124)) := by
 unfold Instr.buildSlice
 simp [run_underlying Tryz.underlying47, Instr.fill, go_sem]
theorem built_blks0 (w : World) : (Instr.buildSlice 47 0 #[]).run Tryz.prog w = .ok (.slice (some ⟨w.heap.size, 0, none⟩) 0 0) (w.alloc (.cells #[] 124)) := by
 simp [Instr.buildSlice, run_underlying Tryz.underlying47, Instr.fill, go_sem]
theorem built_blks1 (w : World) (a s : Int) (u : Bool) : (Instr.buildSlice 47 1 #[(0, .agg #[.int .i64 a, .int .i64 s, .bool u])]).run Tryz.prog w = .ok (.slice (some ⟨w.heap.size, 0, none⟩) 1 1) (w.alloc (.cells #[.int .i64 a, .int .i64 s, .bool u] 124)) := by
 simp [Instr.buildSlice, run_underlying Tryz.underlying47, Instr.fill, go_sem]
def blkSlice (n : Nat) (ps : Array (Nat × Value)) : Sem Value := Instr.buildSlice 47 n ps
@[go_sem ↓] theorem slice_blk (n : Nat) (ps : Array (Nat × Value)) : Instr.buildSlice 47 n ps = blkSlice n ps := rfl
@[go_sem] theorem run_blkSlice0 (w : World) : (blkSlice 0 #[]).run Tryz.prog w = .ok (.slice (some ⟨w.heap.size, 0, none⟩) 0 0) (w.alloc (.cells #[] 124)) := built_blks0 w
@[go_sem] theorem run_blkSlice1 (w : World) (c : Bk) : (blkSlice 1 #[(0, .agg (bc c))]).run Tryz.prog w = .ok (.slice (some ⟨w.heap.size, 0, none⟩) 1 1) (w.alloc (.cells (bc c) 124)) := built_blks1 w c.a c.s c.u
theorem blk_one (w : World) {c : Bk} (h : c.Wf) : OwnA blkE w.heap.size (w.alloc (.cells (bc c) 124)) (.slice (some ⟨w.heap.size, 0, none⟩) 1 1) [c] := by
 have := own_lit_a blkE w (l := [c]) (fun x hx => by rw [List.mem_singleton.1 hx]; exact h) (by unfold maxLen; simp)
 simpa [blkE, bc] using this
def bc2 (x y : Bk) : Array Value := #[.int .i64 x.a, .int .i64 x.s, .bool x.u, .int .i64 y.a, .int .i64 y.s, .bool y.u]
@[go_sem] theorem run_blkSlice2 (w : World) (x y : Bk) : (blkSlice 2 #[(0, .agg (bc x)), (1, .agg (bc y))]).run Tryz.prog w = .ok (.slice (some ⟨w.heap.size, 0, none⟩) 2 2) (w.alloc (.cells (bc2 x y) 124)) := built_blks2 w x.a x.s y.a y.s x.u y.u
theorem blk_two (w : World) {x y : Bk} (hx : x.Wf) (hy : y.Wf) : OwnA blkE w.heap.size (w.alloc (.cells (bc2 x y) 124)) (.slice (some ⟨w.heap.size, 0, none⟩) 2 2) [x, y] := by
 have := own_lit_a blkE w (l := [x, y]) (fun z hz => by
  simp only [List.mem_cons, List.not_mem_nil, or_false] at hz
  rcases hz with rfl | rfl
  . exact hx
  . exact hy) (by unfold maxLen; simp)
 exact this
def eqB (x y : Bk) : Bool := x.a == y.a && (x.s == y.s && x.u == y.u)
theorem fields_blk : Tryz.prog.underlying 124 = some (.struct (Tryz.prog.fieldsOf 124)) := by kernel_rfl
theorem stood_blk : Tryz.prog.stoodInHeld 124 = false := by kernel_rfl
theorem part_i (w : World) (b : Bk) : (part 3 (bc b) 0).run Tryz.prog w = .ok (.int .i64 b.a) w /\ (part 3 (bc b) 1).run Tryz.prog w = .ok (.int .i64 b.s) w /\ (part 4 (bc b) 2).run Tryz.prog w = .ok (.bool b.u) w := by
 refine ⟨?_, ?_, ?_⟩ <;> simp [part, isAgg, run_underlying Tryz.underlying3, run_underlying Tryz.underlying4, bc, Bk.cells]
@[go_sem high] theorem run_eqB (w : World) (x y : Bk) : (Op.equalIn 10000 124 (.agg (bc x)) (.agg (bc y))).run Tryz.prog w = .ok (eqB x y) w := by
  obtain ⟨p0, p1, p2⟩ := part_i w x
  obtain ⟨q0, q1, q2⟩ := part_i w y
  have a0 := run_equalIn_int (P := Tryz.prog) w 9998 3 .i64 .i64 x.a y.a Tryz.underlying3
  have a1 := run_equalIn_int (P := Tryz.prog) w 9998 3 .i64 .i64 x.s y.s Tryz.underlying3
  have a2 := run_equalIn_bool (P := Tryz.prog) w 9998 4 x.u y.u Tryz.underlying4
  rw [run_equalIn_struct w 9999 124 (bc x) (bc y) fields_blk stood_blk, Program.fieldsOf, Tryz.underlying124]
  simp only [Op.eqFields, Sem.run_bind, Sem.run_ite, p0, p1, p2, q0, q1, q2, a0, a1, a2, Result.andThen_ok, Sem.run_pure]
  unfold eqB
  cases (x.a == y.a) <;> cases (x.s == y.s) <;> cases (x.u == y.u) <;> simp
section
variable {ops : Array Oper} {rest : List Oper} {o : Oper} {a : Act} {w : World} {Q : Exit -> Act -> World -> Prop}
theorem app_blk (hgd : o.guard = none) (s x : Operand) (ho : o.op = .call { callee := .builtin .append, args := #[s, x], argTypes := #[47, 47] }) (B : Nat) (v : Value) (l : List Bk) (hs : a.eval s = v) (hown : OwnA blkE B w v l)
 (u : Value) (r : List Bk) (hx : a.eval x = u) (hr : RA blkE w u r) (hlen : Hid (l.length + r.length <= 2000)) (hB : B <= w.heap.size)
 (h : ∀ v' w', OwnA blkE B w' v' (l ++ r) -> w.grownBy w' v.ownBlock -> (v'.ownBlock = v.ownBlock \/ v'.ownBlock = some w.heap.size) -> wpList Tryz.prog ops Q rest (a.put o.dst v') w') : wpList Tryz.prog ops Q (o :: rest) a w :=
 list_app blkE hgd s x ho B v l hs hown u r hx hr (by have := hlen.out; show _ * 24 <= _; omega) hB h
end
theorem mayw_is (n : Int) (w : World) : Calls Tryz.prog 51 #[.int .i64 n] w fun e w' => e = .returned (.bool (decide (Mw n))) /\ w = w' := by
 by_cases h1 : n >= 8
 . by_cases h2 : n <= 512
   . have h3 : n.tmod 8 = n % 8 := Int.tmod_eq_emod_of_nonneg (by omega)
     by_cases h4 : n % 8 = 0
     . rw [h4] at h3
       rw [decide_eq_true (show Mw n from ⟨h1, h2, h4⟩)]
       clear h4
       go_enter Tryz.func51, Tryz.ntmps51
       go_wp2_with fail
       go_ret
       exact ⟨rfl, rfl⟩
     . have h6 : (n % 8 == 0) = false := beq_eq_false_iff_ne.2 h4
       rw [decide_eq_false (show ¬ Mw n from fun h => h4 h.2.2)]
       go_enter Tryz.func51, Tryz.ntmps51
       go_wp2_with fail
       go_ret
       exact ⟨rfl, rfl⟩
   . rw [decide_eq_false (show ¬ Mw n from fun h => h2 h.2.1)]
     go_enter Tryz.func51, Tryz.ntmps51
     go_wp2_with fail
     go_ret
     exact ⟨rfl, rfl⟩
 . rw [decide_eq_false (show ¬ Mw n from fun h => h1 h.1)]
   go_enter Tryz.func51, Tryz.ntmps51
   go_wp2_with fail
   go_ret
   exact ⟨rfl, rfl⟩
theorem may_is (n : Int) (l : List Bk) (v : Value) (r : Bool) (w : World) (hv : RA blkE w v l) (hl : l.length <= 1000) (hr : mayL n l = r) :
 Calls Tryz.prog 102 #[v, .int .i64 n] w fun e w' => e = .returned (.bool r) /\ Below w.heap.size w w' := by
 obtain ⟨p, cap, rfl, hlc, hcm⟩ := ra_shape hv
 unfold maxLen at hcm
 have C := jz (mayw_is n w)
 by_cases hm : Mw n
 . rw [decide_eq_true hm] at C
   have HR : Hid (mayF n 0 false l = r) := jz (by rw [<- hr, mayL, decide_eq_true hm, Bool.true_and])
   have HL := jz hl
   have HM := jz hcm
   have HC := jz hlc
   have HV := jz hv
   clear hr hm hl hcm hlc hv
   go_enter Tryz.func102, Tryz.ntmps102
   go_wp2_with fail
   refine (C.out).mono ?_; rintro e w' ⟨rfl, rfl⟩
   go_wp2
   go_loopw [5, 6, 14] (fun a f i wr => ∃ (k z : Nat) (g : Bool), k <= l.length /\ i = .int .i64 k /\ a = .int .i64 z /\ f = .bool g /\ z <= 512 * k /\ Hid (mayF n z g (l.drop k) = r /\ Below w.heap.size w wr)) (fun _ _ i _ => l.length - (intOf i).toNat)
   case atStart => exact ⟨0, 0, false, Nat.zero_le _, rfl, rfl, rfl, Nat.zero_le _, jz ⟨HR.out, Below.refl _ _⟩⟩
   case round =>
    obtain ⟨k, z, g, hk, rfl, rfl, rfl, hz, H⟩ := hrel
    by_cases hlt : k < l.length
    . obtain ⟨b, off, rfl, hb, hx⟩ := blk_at (ra_below HV.out H.out.2) (by omega)
      obtain ⟨hld, _, _, _, _⟩ := hx k hlt
      have hF := H.out.1
      rw [getD_cut hlt] at hF
      generalize l.getD k default = x at *
      obtain ⟨xa, xs, xu⟩ := x
      obtain ⟨W, hW, HW⟩ := blk_boxed wr ⟨xa, xs, xu⟩
      have c0 : W.cell? ⟨wr.heap.size, 0, none⟩ = some (.int .i64 xa) := HW.out.1.c0
      have c1 : W.cell? ⟨wr.heap.size, 1, none⟩ = some (.int .i64 xs) := HW.out.1.c1
      have c2 : W.cell? ⟨wr.heap.size, 2, none⟩ = some (.bool xu) := HW.out.1.c2
      have HB := jz (below_more H.out.2 HW.out.2)
      have i0 : (0 : Int) <= (k : Int) := by omega
      have i1 : (k : Int) < (l.length : Int) := by omega
      have i2 : ¬ (k : Int) < 0 := by omega
      have i3 : IntKind.i64.wrap ((k : Int) + 1) = ((k + 1 : Nat) : Int) := by rw [show (k : Int) + 1 = ((k + 1 : Nat) : Int) by omega]; exact i64_nat _ (by have := HL.out; omega)
      have HF := jz hF
      have HK := jz hlt
      have HL2 := jz hz
      clear hx hF hk hb hz
      by_cases ha : xa = (z : Int)
      . subst ha
        by_cases hs : MayB xs
        . have M := jz (mayb_yes xs hs W)
          obtain ⟨xn, rfl⟩ : ∃ m : Nat, xs = m := ⟨xs.toNat, by obtain ⟨h, _⟩ := hs; omega⟩
          have HS : Hid (xn <= 512) := jz (by obtain ⟨_, h⟩ := hs; omega)
          have j0 : IntKind.i64.wrap ((z : Int) + (xn : Int)) = ((z + xn : Nat) : Int) := by rw [show (z : Int) + (xn : Int) = ((z + xn : Nat) : Int) by omega]; exact i64_nat _ (by have := HL2.out; have := HS.out; have := HL.out; have := HK.out; omega)
          by_cases hg : g = true /\ xu = false
          . obtain ⟨rfl, rfl⟩ := hg
            obtain rfl : r = false := by cases r; rfl; exact absurd ⟨rfl, rfl⟩ (mayF_cons.1 HF.out).2.2.1
            clear j0
            go_wp2_with fail
            refine (M.out).mono ?_; rintro e w' ⟨rfl, rfl⟩
            go_wp2
            go_ret
            exact ⟨rfl, HB.out⟩
          . have HN : Hid (mayF n ((z + xn : Nat) : Int) (!xu) (l.drop (k + 1)) = r) := jz (by
             have := HF.out
             rw [mayF, decide_eq_true (show (Bk.mk (z : Int) (xn : Int) xu).a = (z : Int) from rfl), decide_eq_true (show MayB (Bk.mk (z : Int) (xn : Int) xu).s from hs)] at this
             have e : (g && !xu) = false := by cases g <;> cases xu <;> simp_all
             rw [show (g && !(Bk.mk (z : Int) (xn : Int) xu).u) = false from e] at this
             rw [<- this]
             simp)
            clear hs
            cases xu with
            | true =>
              clear hg
              cases g <;>
              . go_wp2_with fail
                refine (M.out).mono ?_; rintro e w' ⟨rfl, rfl⟩
                go_wp2
                go_roundw
                case rel => exact ⟨k + 1, z + xn, false, by have := HK.out; omega, by go_num, rfl, rfl, by have := HL2.out; have := HS.out; omega, jz ⟨HN.out, HB.out⟩⟩
                case measure => have := HK.out; simp [intOf]; omega
            | false =>
              obtain rfl : g = false := by cases g; rfl; exact absurd ⟨rfl, rfl⟩ hg
              clear hg
              go_wp2_with fail
              refine (M.out).mono ?_; rintro e w' ⟨rfl, rfl⟩
              go_wp2
              go_roundw
              case rel => exact ⟨k + 1, z + xn, true, by have := HK.out; omega, by go_num, rfl, rfl, by have := HL2.out; have := HS.out; omega, jz ⟨HN.out, HB.out⟩⟩
              case measure => have := HK.out; simp [intOf]; omega
        . have M := jz (mayb_no xs hs W)
          obtain rfl : r = false := by cases r; rfl; exact absurd (mayF_cons.1 HF.out).2.1 hs
          clear hs
          go_wp2_with fail
          refine (M.out).mono ?_; rintro e w' ⟨rfl, rfl⟩
          go_wp2
          go_ret
          exact ⟨rfl, HB.out⟩
      . obtain rfl : r = false := by cases r; rfl; exact absurd (mayF_cons.1 HF.out).1 ha
        have hb0 : (xa == (z : Int)) = false := beq_eq_false_iff_ne.2 ha
        go_wp2
        go_ret
        exact ⟨rfl, HB.out⟩
    . obtain rfl : k = l.length := by omega
      have hF := H.out.1
      rw [List.drop_length, mayF] at hF
      by_cases hn : (z : Int) = n
      . rw [decide_eq_true hn] at hF
        subst hF
        subst hn
        go_wp2
        go_ret
        exact ⟨rfl, H.out.2⟩
      . rw [decide_eq_false hn] at hF
        subst hF
        have hb0 : ((z : Int) == n) = false := beq_eq_false_iff_ne.2 hn
        go_wp2
        go_ret
        exact ⟨rfl, H.out.2⟩
 . rw [decide_eq_false hm] at C
   obtain rfl : r = false := by rw [<- hr, mayL, decide_eq_false hm, Bool.false_and]
   clear hr hm
   go_enter Tryz.func102, Tryz.ntmps102
   go_wp2_with fail
   refine (C.out).mono ?_; rintro e w' ⟨rfl, rfl⟩
   go_wp2_with fail
   go_ret
   exact ⟨rfl, Below.refl _ _⟩
def allB (l : List Bk) : Bool := l.all fun b => decide (MayB b.s)
theorem allB_cons (b : Bk) (r : List Bk) : allB (b :: r) = (decide (MayB b.s) && allB r) := rfl
def iv (x : Int) : Value := .int .i64 x
def RI (w : World) (v : Value) (l : List Int) : Prop :=
 ∃ p cap, v = .slice p l.length cap /\ l.length <= cap /\ cap <= maxLen /\ (l = [] \/ ∃ b off, p = some ⟨b, off, none⟩ /\ ∀ i, i < l.length -> w.cell? ⟨b, off + i, none⟩ = some (.int .i64 (l.getD i 0)))
theorem ri_same {w w' : World} {v : Value} {l : List Int} (h : RI w v l) (hb : ∀ p : Addr, p.block < w.heap.size -> w'.cell? p = w.cell? p) : RI w' v l := by
 obtain ⟨p, cap, rfl, h1, h2, h | ⟨b, off, rfl, hc⟩⟩ := h
 . exact ⟨p, cap, rfl, h1, h2, .inl h⟩
 . refine ⟨_, cap, rfl, h1, h2, .inr ⟨b, off, rfl, fun i hi => ?_⟩⟩
   have := hc i hi
   rw [hb _ (World.block_lt_of_cell? w _ this)]; exact this
theorem ri_below {w w' : World} {v : Value} {l : List Int} (h : RI w v l) (hb : Below w.heap.size w w') : RI w' v l := ri_same h fun _ hp => hb.cell hp
theorem ri_in {w : World} {v : Value} {l : List Int} (h : IntsIn .i64 w v l) : RI w v l := by
 obtain ⟨p, cap, rfl, h1, h2, _, ⟨rfl, _⟩ | ⟨b, off, rfl, _, hc⟩⟩ := h
 . exact ⟨p, cap, rfl, h1, h2, .inl rfl⟩
 . exact ⟨_, cap, rfl, h1, h2, .inr ⟨b, off, rfl, hc⟩⟩
theorem ri_nil (w : World) : RI w (.slice none 0 0) [] := ⟨none, 0, rfl, Nat.le_refl _, Nat.zero_le _, .inl rfl⟩
theorem ri_some {w : World} {p : Option Addr} {n cap : Nat} {l : List Int} (h : RI w (.slice p n cap) l) (h0 : 0 < l.length) : ∃ b off, p = some ⟨b, off, none⟩ /\ b < w.heap.size /\ ∀ i, i < l.length -> w.cell? ⟨b, off + i, none⟩ = some (.int .i64 (l.getD i 0)) := by
 obtain ⟨p', cap', e, _, _, h | ⟨b, off, rfl, hc⟩⟩ := h
 . subst h; cases h0
 . cases e; exact ⟨b, off, rfl, World.block_lt_of_cell? w _ (hc 0 h0), hc⟩
def OwnI (B : Nat) (w : World) (v : Value) (l : List Int) : Prop := w.ownsRow B 3 1 v l.length (l.map iv)
theorem OwnI.ri {B : Nat} {w : World} {v : Value} {l : List Int} (h : OwnI B w v l) : RI w v l := by
 have h' : w.ownsRow B 3 1 v l.length (l.map iv) := h
 obtain ⟨_, ⟨rfl, h0⟩ | ⟨g, cap, cur, rfl, _, _, h1, h2, _⟩⟩ := h
 . rw [List.eq_nil_of_length_eq_zero h0]; exact ri_nil w
 . refine ⟨_, cap, rfl, h1, h2, .inr ⟨g, 0, rfl, fun i hi => ?_⟩⟩
   have := h'.cells (g := g) rfl i (iv (l.getD i 0)) (by simp [hi])
   have e : (⟨g, 0, none⟩ : Addr).add i = ⟨g, 0 + i, none⟩ := Go.WideShapes.add_plain ..
   rw [e] at this; exact this
theorem OwnI.shape {B : Nat} {w : World} {v : Value} {l : List Int} (h : OwnI B w v l) : ∃ p c, v = .slice p l.length c := by
 obtain ⟨p, c, h, _⟩ := h.ri; exact ⟨p, c, h⟩
theorem OwnI.mono {B B' : Nat} {w : World} {v : Value} {l : List Int} (h : OwnI B w v l) (hb : B' <= B) : OwnI B' w v l :=
 ⟨h.1, h.2.imp id fun ⟨g, cap, cur, hv, hg, r⟩ => ⟨g, cap, cur, hv, Nat.le_trans hb hg, r⟩⟩
theorem info_int : (Tryz.prog.info? 3).map (fun i => (i.zero, i.size, i.bytes)) = some (some (.int .i64 0), 1, 8) := by kernel_rfl
theorem iv_one (l : List Int) : ∀ u ∈ l.map iv, u.oneCell' = true := by
 intro u hu; obtain ⟨x, _, rfl⟩ := List.mem_map.1 hu; rfl
theorem run_app_none {P : Program} (w : World) (base : Nat) (t ty e : TypeId) (i : TypeInfo) (size : Nat) (ht : P.underlying t = some (.slice e)) (hi : P.info? e = some i)
 (v : Value) (n : Nat) (xs : List Value) (hown : w.ownsRow base e size v n xs) (c : Nat) : (Builtin.append_ #[t, t] ty #[v, .slice none 0 c]).run P w = .ok v w := by
 obtain ⟨_, ⟨rfl, rfl⟩ | ⟨g, cap, cur, rfl, _, _, hc, _⟩⟩ := hown <;> simp [Builtin.append_, run_underlying ht, sizeOf, typeInfo, Builtin.lenOf, Builtin.firstCells, storeCells, *]
theorem run_app_int (B : Nat) (v : Value) (l : List Int) (w : World) (hown : OwnI B w v l) (u : Value) (r : List Int) (hr : RI w u r) (hlen : l.length + r.length <= 1000000) (hB : B <= w.heap.size) (ty : TypeId) :
 ∃ v' w', (Builtin.append_ #[24, 24] ty #[v, u]).run Tryz.prog w = .ok v' w' /\ OwnI B w' v' (l ++ r) /\ w.grownBy w' v.ownBlock /\ (v'.ownBlock = v.ownBlock \/ v'.ownBlock = some w.heap.size) := by
 obtain ⟨i0, hi, hz0, hz1, hz2⟩ := info_parts info_int
 obtain ⟨A, c, rfl, h1, h2, h3⟩ := hr
 have fin : ∀ w' v', w'.ownsRow B 3 1 v' (l.length + r.length) (l.map iv ++ r.map iv) -> OwnI B w' v' (l ++ r) := fun w' v' h => by
  unfold OwnI; rw [List.length_append, List.map_append]; exact h
 cases A with
 | none =>
   have hr0 : r = [] := by
    rcases h3 with h3 | ⟨b, off, h, _⟩
    . exact h3
    . cases h
   subst hr0
   exact ⟨v, w, run_app_none w B _ ty _ i0 1 Tryz.underlying24 hi v _ _ hown c, by simpa using hown, World.grownBy.refl w _, .inl rfl⟩
 | some ad =>
   have hc : ∀ j u, (r.map iv)[j]? = some u -> w.cell? (ad.add j) = some u := by
    intro j u hu
    rcases h3 with h3 | ⟨b, off, h, hc⟩
    . subst h3; simp at hu
    . cases h
      have hj : j < r.length := by have := (List.getElem?_eq_some_iff.1 hu).1; simpa using this
      have e : (⟨b, off, none⟩ : Addr).add j = ⟨b, off + j, none⟩ := Go.WideShapes.add_plain ..
      rw [e, hc j hj]
      simp [hj] at hu
      rw [<- hu]; simp [iv, hj]
   obtain ⟨v', w', hrun, g1, g2, _, g4⟩ := run_append_own_at (P := Tryz.prog) w B 24 ty 3 i0 (.int .i64 0) 1 8 Tryz.underlying24 hi hz0 hz1 hz2 rfl (by decide) v l.length (l.map iv) hown ad r.length c (r.map iv) (by simp) hc (iv_one r) (by unfold maxLen; omega) (by omega) hB
   exact ⟨v', w', hrun, fin _ _ g1, g2, g4⟩
section
variable {ops : Array Oper} {rest : List Oper} {o : Oper} {a : Act} {w : World} {Q : Exit -> Act -> World -> Prop} {K : Act -> World -> Prop}
theorem wp_app_int (s x : Operand) (ho : o.op = .call { callee := .builtin .append, args := #[s, x], argTypes := #[24, 24] }) (B : Nat) (v : Value) (l : List Int) (hs : a.eval s = v) (hown : OwnI B w v l)
 (u : Value) (r : List Int) (hx : a.eval x = u) (hr : RI w u r) (hlen : l.length + r.length <= 1000000) (hB : B <= w.heap.size)
 (h : ∀ v' w', OwnI B w' v' (l ++ r) -> w.grownBy w' v.ownBlock -> (v'.ownBlock = v.ownBlock \/ v'.ownBlock = some w.heap.size) -> K (a.put o.dst v') w') : o.wp Tryz.prog a w K Q := by
 obtain ⟨v', w', hrun, h2, h3, h4⟩ := run_app_int B v l w hown u r hr hlen hB o.type
 unfold Oper.wp execOp
 simp only [ho, resolve, invoke, builtin, Sem.run_bind, Sem.run_pure, Result.andThen_ok, List.map_toArray, List.map_cons, List.map_nil, hs, hx, hrun]
 exact h v' w' h2 h3 h4
theorem list_app_int (hgd : o.guard = none) (s x : Operand) (ho : o.op = .call { callee := .builtin .append, args := #[s, x], argTypes := #[24, 24] }) (B : Nat) (v : Value) (l : List Int) (hs : a.eval s = v) (hown : OwnI B w v l)
 (u : Value) (r : List Int) (hx : a.eval x = u) (hr : RI w u r) (hlen : l.length + r.length <= 1000000) (hB : B <= w.heap.size)
 (h : ∀ v' w', OwnI B w' v' (l ++ r) -> w.grownBy w' v.ownBlock -> (v'.ownBlock = v.ownBlock \/ v'.ownBlock = some w.heap.size) -> wpList Tryz.prog ops Q rest (a.put o.dst v') w') : wpList Tryz.prog ops Q (o :: rest) a w :=
 wpList_plain hgd fun _ hK => wp_app_int s x ho B v l hs hown u r hx hr hlen hB fun v' w' h2 h3 h4 => hK _ _ (h v' w' h2 h3 h4)
end
theorem own_lit (w : World) (l : List Int) (hl : l.length <= maxLen) : OwnI w.heap.size (w.alloc (.cells (l.map iv).toArray 3)) (.slice (some ⟨w.heap.size, 0, none⟩) l.length l.length) l := by
 have h := World.ownsRow_lit (e := 3) (size := 1) (base := w.heap.size) w (l.map iv).toArray l.length (Nat.le_refl _) hl (by simp)
 simpa [OwnI] using h
theorem ri_one (w : World) (x : Int) : RI (w.alloc (.cells #[.int .i64 x] 3)) (.slice (some ⟨w.heap.size, 0, none⟩) 1 1) [x] := (own_lit w [x] (by unfold maxLen; simp)).ri
theorem need_is (n : Int) (w : World) : Calls Tryz.prog 65 #[.int .i64 n] w fun e w' => e = .returned (.int .i64 (needN n)) /\ w = w' := by
 by_cases h1 : n < 1
 . rw [needN, if_neg (by omega)]
   go_enter Tryz.func65, Tryz.ntmps65
   go_wp2_with fail
   go_ret
   exact ⟨rfl, rfl⟩
 . by_cases h2 : n > 448
   . rw [needN, if_neg (by omega)]
     go_enter Tryz.func65, Tryz.ntmps65
     go_wp2_with fail
     go_ret
     exact ⟨rfl, rfl⟩
   . rw [needN, if_pos (by omega)]
     obtain ⟨k, rfl⟩ : ∃ k : Nat, n = k := ⟨n.toNat, by omega⟩
     have j1 : IntKind.i64.wrap ((k : Int) + 8) = ((k + 8 : Nat) : Int) := by rw [show (k : Int) + 8 = ((k + 8 : Nat) : Int) by omega]; exact i64_nat _ (by omega)
     have j2 : IntKind.i64.wrap (((k + 8 : Nat) : Int) - 1) = ((k + 7 : Nat) : Int) := by rw [show ((k + 8 : Nat) : Int) - 1 = ((k + 7 : Nat) : Int) by omega]; exact i64_nat _ (by omega)
     obtain ⟨q, hq⟩ : ∃ q, (k + 7) / 8 = q := ⟨_, rfl⟩
     have j3 : ((k + 7 : Nat) : Int).tdiv 8 = (q : Int) := by rw [<- hq]; exact tdiv_nat (k + 7) 8
     have j4 : IntKind.i64.wrap (q : Int) = (q : Int) := i64_nat _ (by omega)
     have j5 : IntKind.i64.wrap ((q : Int) + 1) = ((q + 1 : Nat) : Int) := by rw [show (q : Int) + 1 = ((q + 1 : Nat) : Int) by omega]; exact i64_nat _ (by omega)
     have e : ((k : Int) + 7) / 8 + 1 = ((q + 1 : Nat) : Int) := by omega
     rw [e]
     obtain ⟨a, ha⟩ : ∃ a, k + 8 = a := ⟨_, rfl⟩
     obtain ⟨b, hb⟩ : ∃ a, k + 7 = a := ⟨_, rfl⟩
     obtain ⟨c, hc⟩ : ∃ a, q + 1 = a := ⟨_, rfl⟩
     rw [ha] at j1 j2
     rw [hb] at j2 j3
     rw [hc] at j5 ⊢
     clear ha hb hc hq e
     go_enter Tryz.func65, Tryz.ntmps65
     go_wp2_with fail
     go_ret
     exact ⟨rfl, rfl⟩
theorem takes_is (s n t : Int) (hs : (Lit.int .i64 s).wf = true) (ht : takN s n = t) (w : World) : Calls Tryz.prog 107 #[.int .i64 s, .int .i64 n] w fun e w' => e = .returned (.int .i64 t) /\ w = w' := by
 obtain ⟨s1, s2⟩ := i64_wf hs
 subst ht
 clear hs
 by_cases h1 : n < 2
 . rw [takN, if_neg (by omega)]
   go_enter Tryz.func107, Tryz.ntmps107
   go_wp2_with fail
   go_ret
   exact ⟨rfl, rfl⟩
 . by_cases h2 : n > s
   . rw [takN, if_neg (by omega)]
     go_enter Tryz.func107, Tryz.ntmps107
     go_wp2_with fail
     go_ret
     exact ⟨rfl, rfl⟩
   . rw [takN, if_pos (by omega)]
     obtain ⟨d, hd⟩ : ∃ d, s - n = d := ⟨_, rfl⟩
     have j1 : IntKind.i64.wrap (s - n) = d := by rw [hd]; exact IntWalk.i64_in _ (by omega)
     rw [hd]
     clear hd s1 s2
     by_cases h3 : d < 2
     . rw [if_pos h3]
       go_enter Tryz.func107, Tryz.ntmps107
       go_wp2_with fail
       go_ret
       exact ⟨rfl, rfl⟩
     . rw [if_neg h3]
       go_enter Tryz.func107, Tryz.ntmps107
       go_wp2_with fail
       go_ret
       exact ⟨rfl, rfl⟩
theorem wrn_is (a : Int) (cs : List Int) (v : Value) (x : Int) (w : World) (hv : RI w v cs) (ha : (Lit.int .i64 a).wf = true) (hx : wrN cs a = x) : Calls Tryz.prog 182 #[.int .i64 a, v] w fun e w' => e = .returned (.int .i64 x) /\ w = w' := by
 obtain ⟨a1, a2⟩ := i64_wf ha
 subst hx
 have hv' := hv
 obtain ⟨p, c, rfl, _, hc, _⟩ := hv'
 unfold maxLen at hc
 by_cases h1 : a < 0
 . rw [wrN, if_pos h1]
   clear hv hc ha a1
   go_enter Tryz.func182, Tryz.ntmps182
   go_wp2_with fail
   go_ret
   exact ⟨rfl, rfl⟩
 . rw [wrN, if_neg h1]
   obtain ⟨k, rfl⟩ : ∃ k : Nat, a = k := ⟨a.toNat, by omega⟩
   obtain ⟨q, hq⟩ : ∃ q, k / 32 = q := ⟨_, rfl⟩
   have j3 : (k : Int).tdiv 32 = (q : Int) := by rw [<- hq]; exact tdiv_nat k 32
   have j4 : IntKind.i64.wrap (q : Int) = (q : Int) := i64_nat _ (by omega)
   have e : ((k : Int) / 32).toNat = q := by omega
   rw [e]
   by_cases h2 : q < cs.length
   . obtain ⟨b, off, rfl, _, hr⟩ := ri_some hv (by omega)
     have c1 := hr q h2
     have h3 : ¬ (q : Int) >= (cs.length : Int) := by omega
     have h4 : ¬ (cs.length : Int) <= (q : Int) := by omega
     have h5 : ¬ (q : Int) < 0 := by omega
     have h6 : (q : Int) < (cs.length : Int) := by omega
     generalize cs.getD q 0 = y at *
     generalize cs.length = L at *
     clear hv hc ha hr hq e a1 a2
     go_enter Tryz.func182, Tryz.ntmps182
     go_wp2_with fail
     go_ret
     exact ⟨rfl, rfl⟩
   . have h3 : (q : Int) >= (cs.length : Int) := by omega
     have e0 : cs.getD q 0 = 0 := by rw [List.getD_eq_getElem?_getD, List.getElem?_eq_none (by omega)]; rfl
     rw [e0]
     generalize cs.length = L at *
     clear hv hc ha hq e e0 a1 a2
     go_enter Tryz.func182, Tryz.ntmps182
     go_wp2_with fail
     go_ret
     exact ⟨rfl, rfl⟩
theorem wrn_q {cs : List Int} {v : Value} {w : World} (hv : RI w v cs) : ∀ n a x, (Lit.int .i64 a).wf = true -> wrN cs a = x -> Calls Tryz.prog 182 #[.int .i64 a, v] (w.drewN n) fun e w' => e = .returned (.int .i64 x) /\ ∃ k, w' = (w.drewN n).drewN k :=
 fun n a x ha hx => (wrn_is a cs v x _ (ri_below hv (below_drewN (Below.refl _ _) n)) ha hx).mono fun _ _ h => ⟨h.1, 0, h.2.symm⟩
theorem ahead_is (x y : Bk) (cs : List Int) (v : Value) (w : World) (hv : RI w v cs) (hx : x.Wf) (hy : y.Wf) (r : Bool) (hr : ahd cs x.a y.a = r) :
 Calls Tryz.prog 171 #[.agg (bc x), .agg (bc y), v] w fun e w' => e = .returned (.bool r) /\ Below w.heap.size w w' := by
 obtain ⟨W, hW, HW⟩ := blk_boxed w x
 obtain ⟨V, hV, HV⟩ := blk_boxed W y
 have B := jz (below_more HW.out.2 HV.out.2)
 have X := HW.out.1.below HV.out.2
 obtain ⟨p, c, rfl, _, _, _⟩ := id hv
 have C := jz (wrn_q (ri_below hv B.out))
 subst hr
 unfold ahd
 obtain ⟨⟨xa, xs, xu⟩, hxa⟩ : ∃ z, x = z := ⟨x, rfl⟩
 obtain ⟨⟨ya, ys, yu⟩, hya⟩ : ∃ z, y = z := ⟨y, rfl⟩
 subst hxa hya
 have c0 : V.cell? ⟨w.heap.size, 0, none⟩ = some (.int .i64 xa) := X.c0
 have d0 : V.cell? ⟨W.heap.size, 0, none⟩ = some (.int .i64 ya) := HV.out.1.c0
 have hx1 : (Lit.int .i64 xa).wf = true := hx.wa
 have hy1 : (Lit.int .i64 ya).wf = true := hy.wa
 simp only at hW hV ⊢
 obtain ⟨a, ha⟩ : ∃ a, wrN cs xa = a := ⟨_, rfl⟩
 obtain ⟨b, hb⟩ : ∃ a, wrN cs ya = a := ⟨_, rfl⟩
 rw [ha, hb]
 generalize cs.length = L at *
 clear hv hx hy X
 have BN : Hid (∀ n, Below w.heap.size w (V.drewN n)) := jz (below_drewN B.out)
 by_cases h : a = b
 . rw [if_pos h]
   have n1 : (a != b) = false := by rw [h]; simp
   have n2 : (a == b) = true := by rw [h]; simp
   clear h
   go_enter Tryz.func171, Tryz.ntmps171
   go_wp2_with fail
   go_quiet (refine Calls.quiet_of (C.out _ _ _ (by assumption) (by assumption)))
   go_wp2
   go_ret
   exact ⟨rfl, BN.out _⟩
 . rw [if_neg h]
   have n1 : (a != b) = true := bne_iff_ne.2 h
   have n2 : (a == b) = false := beq_eq_false_iff_ne.2 h
   clear h
   go_enter Tryz.func171, Tryz.ntmps171
   go_wp2_with fail
   go_quiet (refine Calls.quiet_of (C.out _ _ _ (by assumption) (by assumption)))
   go_wp2
   go_ret
   exact ⟨rfl, BN.out _⟩
theorem mayS_all {l : List Bk} (h : mayS l = true) : allB l = true := by
 have := mayF_sizes (mayL_yes.1 h).2
 exact List.all_eq_true.2 fun b hb => decide_eq_true (this b hb).1
def szW (l : List Bk) : Int := if allB l = true then szs l else 0
theorem may_szW (l : List Bk) : mayL (szW l) l = mayS l := mayL_sum fun h => by rw [szW, if_pos (mayS_all h)]
theorem words_is (l : List Bk) (v : Value) (w : World) (hv : RA blkE w v l) (hl : l.length <= 1000) :
 Calls Tryz.prog 183 #[v] w fun e w' => e = .returned (.int .i64 (szW l)) /\ Below w.heap.size w w' := by
 obtain ⟨p, cap, rfl, hlc, hcm⟩ := ra_shape hv
 obtain ⟨r, hr⟩ : ∃ r, szW l = r := ⟨_, rfl⟩
 rw [hr]
 have HL := jz hl
 have HV := jz hv
 have HR : Hid ((if allB l = true then szs l else 0) = r) := jz hr
 clear hr hcm hlc hv hl
 go_enter Tryz.func183, Tryz.ntmps183
 go_wp2
 go_loopw [3, 5, 8] (fun z x i wr => ∃ k z' : Nat, k <= l.length /\ i = .int .i64 k /\ z = .int .i64 z' /\ z' <= 512 * k /\ Hid ((if allB (l.drop k) = true then (z' : Int) + szs (l.drop k) else 0) = r /\ Below w.heap.size w wr)) (fun _ _ i _ => l.length - (intOf i).toNat)
 case atStart => exact ⟨0, 0, Nat.zero_le _, rfl, rfl, Nat.zero_le _, jz ⟨by rw [List.drop_zero]; simpa using HR.out, Below.refl _ _⟩⟩
 case round =>
  obtain ⟨k, z, hk, rfl, rfl, hz, H⟩ := hrel
  by_cases hlt : k < l.length
  . obtain ⟨b, off, rfl, hb, hx⟩ := blk_at (ra_below HV.out H.out.2) (by omega)
    obtain ⟨hld, _, _, _, hwf⟩ := hx k hlt
    have hF := H.out.1
    rw [getD_cut hlt, allB_cons, szs] at hF
    generalize l.getD k default = y at *
    obtain ⟨a, s, u⟩ := y
    obtain ⟨W, hW, HW⟩ := blk_boxed wr ⟨a, s, u⟩
    have c1 : W.cell? ⟨wr.heap.size, 1, none⟩ = some (.int .i64 s) := HW.out.1.c1
    have C := jz (mayb_is s W)
    have HB := jz (below_more H.out.2 HW.out.2)
    have i0 : (0 : Int) <= (k : Int) := by omega
    have i1 : (k : Int) < (l.length : Int) := by omega
    have i2 : ¬ (k : Int) < 0 := by omega
    have i3 : IntKind.i64.wrap ((k : Int) + 1) = ((k + 1 : Nat) : Int) := by rw [show (k : Int) + 1 = ((k + 1 : Nat) : Int) by omega]; exact i64_nat _ (by have := HL.out; omega)
    have HK := jz hlt
    have HZ := jz hz
    simp only at hF
    by_cases hs : MayB s
    . rw [decide_eq_true hs] at C hF
      rw [Bool.true_and] at hF
      obtain ⟨sn, rfl⟩ : ∃ m : Nat, s = m := ⟨s.toNat, by obtain ⟨h, _⟩ := hs; omega⟩
      have HS : Hid (sn <= 512) := jz (by obtain ⟨_, h⟩ := hs; omega)
      have i4 : IntKind.i64.wrap ((z : Int) + (sn : Int)) = ((z + sn : Nat) : Int) := by rw [show (z : Int) + (sn : Int) = ((z + sn : Nat) : Int) by omega]; exact i64_nat _ (by have := HL.out; have := HS.out; omega)
      have HF : Hid ((if allB (l.drop (k + 1)) = true then ((z + sn : Nat) : Int) + szs (l.drop (k + 1)) else 0) = r) := jz (by rw [<- hF]; push_cast; rw [Int.add_assoc])
      clear hx hk hb hwf hz hs hF
      go_wp2_with fail
      refine (C.out).mono ?_; rintro e w' ⟨rfl, rfl⟩
      go_wp2
      go_roundw
      case rel => exact ⟨k + 1, z + sn, by have := HK.out; omega, by go_num, rfl, by have := HZ.out; have := HS.out; omega, jz ⟨HF.out, HB.out⟩⟩
      case measure => have := HK.out; simp [intOf]; omega
    . rw [decide_eq_false hs] at C hF
      rw [Bool.false_and, if_neg Bool.false_ne_true] at hF
      subst hF
      clear hx hk hb hwf hz hs
      go_wp2_with fail
      refine (C.out).mono ?_; rintro e w' ⟨rfl, rfl⟩
      go_wp2
      go_ret
      exact ⟨rfl, HB.out⟩
  . obtain rfl : k = l.length := by omega
    have hF := H.out.1
    rw [List.drop_length, szs, Int.add_zero, if_pos (show allB [] = true from rfl)] at hF
    subst hF
    go_wp2
    go_ret
    exact ⟨rfl, H.out.2⟩
theorem mwords_is (l : List Bk) (v : Value) (w : World) (hv : RA blkE w v l) (hl : l.length <= 1000) :
 Calls Tryz.prog 189 #[v] w fun e w' => e = .returned (.int .i64 (szW l)) /\ Below w.heap.size w w' := by
 obtain ⟨p, cap, rfl, hlc, hcm⟩ := ra_shape hv
 obtain ⟨r, hr⟩ : ∃ r, szW l = r := ⟨_, rfl⟩
 rw [hr]
 have HL := jz hl
 have HV := jz hv
 have HR : Hid ((if allB l = true then szs l else 0) = r) := jz hr
 clear hr hcm hlc hv hl
 go_enter Tryz.func189, Tryz.ntmps189
 go_wp2
 go_loopw [3, 5, 8] (fun z x i wr => ∃ k z' : Nat, k <= l.length /\ i = .int .i64 k /\ z = .int .i64 z' /\ z' <= 512 * k /\ Hid ((if allB (l.drop k) = true then (z' : Int) + szs (l.drop k) else 0) = r /\ Below w.heap.size w wr)) (fun _ _ i _ => l.length - (intOf i).toNat)
 case atStart => exact ⟨0, 0, Nat.zero_le _, rfl, rfl, Nat.zero_le _, jz ⟨by rw [List.drop_zero]; simpa using HR.out, Below.refl _ _⟩⟩
 case round =>
  obtain ⟨k, z, hk, rfl, rfl, hz, H⟩ := hrel
  by_cases hlt : k < l.length
  . obtain ⟨b, off, rfl, hb, hx⟩ := blk_at (ra_below HV.out H.out.2) (by omega)
    obtain ⟨hld, _, _, _, hwf⟩ := hx k hlt
    have hF := H.out.1
    rw [getD_cut hlt, allB_cons, szs] at hF
    generalize l.getD k default = y at *
    obtain ⟨a, s, u⟩ := y
    obtain ⟨W, hW, HW⟩ := blk_boxed wr ⟨a, s, u⟩
    have c1 : W.cell? ⟨wr.heap.size, 1, none⟩ = some (.int .i64 s) := HW.out.1.c1
    have C := jz (mayb_is s W)
    have HB := jz (below_more H.out.2 HW.out.2)
    have i0 : (0 : Int) <= (k : Int) := by omega
    have i1 : (k : Int) < (l.length : Int) := by omega
    have i2 : ¬ (k : Int) < 0 := by omega
    have i3 : IntKind.i64.wrap ((k : Int) + 1) = ((k + 1 : Nat) : Int) := by rw [show (k : Int) + 1 = ((k + 1 : Nat) : Int) by omega]; exact i64_nat _ (by have := HL.out; omega)
    have HK := jz hlt
    have HZ := jz hz
    simp only at hF
    by_cases hs : MayB s
    . rw [decide_eq_true hs] at C hF
      rw [Bool.true_and] at hF
      obtain ⟨sn, rfl⟩ : ∃ m : Nat, s = m := ⟨s.toNat, by obtain ⟨h, _⟩ := hs; omega⟩
      have HS : Hid (sn <= 512) := jz (by obtain ⟨_, h⟩ := hs; omega)
      have i4 : IntKind.i64.wrap ((z : Int) + (sn : Int)) = ((z + sn : Nat) : Int) := by rw [show (z : Int) + (sn : Int) = ((z + sn : Nat) : Int) by omega]; exact i64_nat _ (by have := HL.out; have := HS.out; omega)
      have HF : Hid ((if allB (l.drop (k + 1)) = true then ((z + sn : Nat) : Int) + szs (l.drop (k + 1)) else 0) = r) := jz (by rw [<- hF]; push_cast; rw [Int.add_assoc])
      clear hx hk hb hwf hz hs hF
      go_wp2_with fail
      refine (C.out).mono ?_; rintro e w' ⟨rfl, rfl⟩
      go_wp2
      go_roundw
      case rel => exact ⟨k + 1, z + sn, by have := HK.out; omega, by go_num, rfl, by have := HZ.out; have := HS.out; omega, jz ⟨HF.out, HB.out⟩⟩
      case measure => have := HK.out; simp [intOf]; omega
    . rw [decide_eq_false hs] at C hF
      rw [Bool.false_and, if_neg Bool.false_ne_true] at hF
      subst hF
      clear hx hk hb hwf hz hs
      go_wp2_with fail
      refine (C.out).mono ?_; rintro e w' ⟨rfl, rfl⟩
      go_wp2
      go_ret
      exact ⟨rfl, HB.out⟩
  . obtain rfl : k = l.length := by omega
    have hF := H.out.1
    rw [List.drop_length, szs, Int.add_zero, if_pos (show allB [] = true from rfl)] at hF
    subst hF
    go_wp2
    go_ret
    exact ⟨rfl, H.out.2⟩
theorem off_is (b : Bk) (x : Int) (hx : offB b.a = x) (w : World) : Calls Tryz.prog 74 #[.agg (bc b)] w fun e w' => e = .returned (.int .i64 x) /\ Below w.heap.size w w' := by
 obtain ⟨⟨a, s, u⟩, hb⟩ : ∃ c, c = b := ⟨b, rfl⟩
 subst hb
 obtain ⟨W, hW, HW⟩ := blk_boxed w ⟨a, s, u⟩
 have c0 : W.cell? ⟨w.heap.size, 0, none⟩ = some (.int .i64 a) := HW.out.1.c0
 subst hx
 simp only
 by_cases h0 : a < 0
 . rw [offB, if_neg (by omega)]
   go_enter Tryz.func74, Tryz.ntmps74
   go_wp2_with fail
   go_ret
   exact ⟨rfl, HW.out.2⟩
 . by_cases h1 : a > 512
   . rw [offB, if_neg (by omega)]
     go_enter Tryz.func74, Tryz.ntmps74
     go_wp2_with fail
     go_ret
     exact ⟨rfl, HW.out.2⟩
   . rw [offB, if_pos (by omega)]
     have j1 : IntKind.i64.wrap (a + 1) = a + 1 := IntWalk.i64_in _ (by omega)
     have j2 : IntKind.i64.wrap ((a + 1) * 8) = (a + 1) * 8 := IntWalk.i64_in _ (by omega)
     go_enter Tryz.func74, Tryz.ntmps74
     go_wp2_with fail
     go_ret
     exact ⟨rfl, HW.out.2⟩

def Ed.cells (b : Ed) : List Value := [.int .i64 b.w, .int .u64 b.v]
def ec (b : Ed) : Array Value := b.cells.toArray
structure Ed.Wf (b : Ed) : Prop where
 ww : (Lit.int .i64 b.w).wf = true
 wv : (Lit.int .u64 b.v).wf = true
theorem u64_of {a : Int} (h1 : 0 <= a) (h2 : a <= 18446744073709551615) : (Lit.int .u64 a).wf = true := by simp [Lit.wf, IntKind.min, IntKind.max, IntKind.signed, IntKind.bits, h1, h2]
theorem Ed.wf_of {b : Ed} (h1 : -9223372036854775808 <= b.w) (h2 : b.w <= 9223372036854775807) (h3 : 0 <= b.v) (h4 : b.v <= 18446744073709551615) : b.Wf := ⟨i64_of h1 h2, u64_of h3 h4⟩
theorem info_edit : (Tryz.prog.info? 195).map (·.size) = some 2 := by kernel_rfl
def edE : Elm Tryz.prog Ed where
 t := 164
 e := 195
 size := 2
 bytes := 16
 z := .agg #[.int .i64 0, .int .u64 0]
 enc := Ed.cells
 ok := Ed.Wf
 ht := Tryz.underlying164
 hi := by kernel_rfl
 hzs := rfl
 pos := by decide
 bpos := by decide
 len := fun _ _ => rfl
 one := fun a _ u hu => by
  simp only [Ed.cells, List.mem_cons, List.not_mem_nil, or_false] at hu
  rcases hu with rfl | rfl <;> rfl
@[go_sem] theorem ec_ne (b : Ed) : (ec b = #[]) = False := by simp [ec, Ed.cells]
theorem ec_one (b : Ed) : (ec b).all (·.oneCell') = true := by simp [ec, Ed.cells, Value.oneCell']
theorem ec_size (b : Ed) : (ec b).size = 2 := rfl
def Ev (w : World) (g : Nat) (b : Ed) : Prop := Whole w g 195 (ec b)
section
variable {w w' : World} {g : Nat} {b : Ed}
theorem Ev.lt (h : Ev w g b) : g < w.heap.size := Whole.lt h
theorem Ev.below (h : Ev w g b) (hb : Below w.heap.size w w') : Ev w' g b := (hb.block g (Whole.lt h)).trans h
theorem Ev.new (w : World) (b : Ed) : Ev (w.alloc (.cells (ec b) 195)) w.heap.size b := heap_alloc_new w _
theorem Ev.c0 (h : Ev w g b) : w.cell? ⟨g, 0, none⟩ = some (.int .i64 b.w) := Whole.at_ h 0
theorem Ev.c1 (h : Ev w g b) : w.cell? ⟨g, 1, none⟩ = some (.int .u64 b.v) := Whole.at_ h 1
end
def edLoad (p : Value) : Sem Value := Instr.loadAt 195 p
def edStore (p v : Value) : Sem Unit := Instr.storeAt 195 p v
@[go_sem ↓] theorem loadAt_ed (p : Value) : Instr.loadAt 195 p = edLoad p := rfl
@[go_sem ↓] theorem storeAt_ed (p v : Value) : Instr.storeAt 195 p v = edStore p v := rfl
theorem run_edLoad {w : World} {b o : Nat} {c : Ed} (h : w.rangeAt b o c.cells) : (edLoad (.pointer (some ⟨b, o, none⟩))).run Tryz.prog w = .ok (.agg (ec c)) w :=
 run_loadAt_mid (P := Tryz.prog) w b o 195 c.cells _ h Tryz.underlying195 rfl info_edit
theorem run_edStore (w : World) {z : Array Value} (hz : z.size = 2) (c : Ed) :
 (edStore (.pointer (some ⟨w.heap.size, 0, none⟩)) (.agg (ec c))).run Tryz.prog (w.alloc (.cells z 195)) = .ok () (w.alloc (.cells (ec c) 195)) := by
 unfold edStore
 simp only [Instr.storeAt, Instr.sureAddr, Sem.run_bind, Sem.run_pure, Result.andThen]
 rw [run_storeVar_row _ _ 195 195 z (ec c) (heap_alloc_new w _) (by rw [info_edit, ec_size]) (by rw [hz, ec_size]) (ec_one c), World.setRow_alloc_new]
@[go_sem] theorem ed_store_new (w : World) (c : Ed) :
   (edStore (.pointer (some ⟨w.heap.size, 0, none⟩)) (.agg (ec c))).run Tryz.prog (w.alloc (.cells #[.int .i64 0, .int .u64 0] 195)) = .ok () (w.alloc (.cells (ec c) 195)) :=
  run_edStore w rfl c
theorem ed_at {w : World} {p : Option Addr} {n cap : Nat} {l : List Ed} (h : RA edE w (.slice p n cap) l) (h0 : 0 < l.length) :
 ∃ b off, p = some ⟨b, off, none⟩ /\ b < w.heap.size /\ ∀ k, k < l.length -> (edLoad (.pointer (some ⟨b, off + k * 2, none⟩))).run Tryz.prog w = .ok (.agg (ec (l.getD k default))) w ∧
  w.cell? ⟨b, off + k * 2, none⟩ = some (.int .i64 (l.getD k default).w) /\ w.cell? ⟨b, off + k * 2 + 1, none⟩ = some (.int .u64 (l.getD k default).v) /\ (l.getD k default).Wf := by
 obtain ⟨b, off, e, hb, hr⟩ := ra_at h h0
 refine ⟨b, off, e, hb, fun k hk => ?_⟩
 have hk2 := hr k hk
 exact ⟨run_edLoad hk2, hk2 0 _ rfl, hk2 1 _ rfl, (ra_ok h).at_ hk⟩
theorem ed_boxed (w : World) (c : Ed) : ∃ W, w.alloc (.cells (ec c) 195) = W /\ Hid (Ev W w.heap.size c /\ Below w.heap.size w W) :=
 ⟨_, rfl, jz ⟨Ev.new w c, bal (Below.refl _ _)⟩⟩
theorem built_ed2 (a s : Int) : Tryz.prog.built 195 [(0, .int .i64 a), (1, .int .u64 s)] = some (ec ⟨a, s⟩) := by kernel_rfl
theorem built_ed1 (a : Int) : Tryz.prog.built 195 [(0, .int .i64 a)] = some (ec ⟨a, 0⟩) := by kernel_rfl
def edBuild (ps : Array (Nat × Value)) : Sem Value := Instr.build 195 ps
@[go_sem ↓] theorem build_ed (ps : Array (Nat × Value)) : Instr.build 195 ps = edBuild ps := rfl
@[go_sem] theorem run_edBuild2 (w : World) (a s : Int) : (edBuild #[(0, .int .i64 a), (1, .int .u64 s)]).run Tryz.prog w = .ok (.agg (ec ⟨a, s⟩)) w := run_build w _ _ _ (built_ed2 a s)
@[go_sem] theorem run_edBuild1 (w : World) (a : Int) : (edBuild #[(0, .int .i64 a)]).run Tryz.prog w = .ok (.agg (ec ⟨a, 0⟩)) w := run_build w _ _ _ (built_ed1 a)
theorem built_eds1 (w : World) (a s : Int) : (Instr.buildSlice 164 1 #[(0, .agg #[.int .i64 a, .int .u64 s])]).run Tryz.prog w = .ok (.slice (some ⟨w.heap.size, 0, none⟩) 1 1) (w.alloc (.cells #[.int .i64 a, .int .u64 s] 195)) := by
 simp [Instr.buildSlice, run_underlying Tryz.underlying164, Instr.fill, go_sem]
def edSlice (n : Nat) (ps : Array (Nat × Value)) : Sem Value := Instr.buildSlice 164 n ps
@[go_sem ↓] theorem slice_ed (n : Nat) (ps : Array (Nat × Value)) : Instr.buildSlice 164 n ps = edSlice n ps := rfl
@[go_sem] theorem run_edSlice1 (w : World) (c : Ed) : (edSlice 1 #[(0, .agg (ec c))]).run Tryz.prog w = .ok (.slice (some ⟨w.heap.size, 0, none⟩) 1 1) (w.alloc (.cells (ec c) 195)) := built_eds1 w c.w c.v
theorem ed_one (w : World) {c : Ed} (h : c.Wf) : OwnA edE w.heap.size (w.alloc (.cells (ec c) 195)) (.slice (some ⟨w.heap.size, 0, none⟩) 1 1) [c] := by
 have := own_lit_a edE w (l := [c]) (fun x hx => by rw [List.mem_singleton.1 hx]; exact h) (by unfold maxLen; simp)
 simpa [edE, ec] using this
def eqE (x y : Ed) : Bool := x.w == y.w && x.v == y.v
theorem fields_ed : Tryz.prog.underlying 195 = some (.struct (Tryz.prog.fieldsOf 195)) := by kernel_rfl
theorem stood_ed : Tryz.prog.stoodInHeld 195 = false := by kernel_rfl
theorem part_e (w : World) (b : Ed) : (part 3 (ec b) 0).run Tryz.prog w = .ok (.int .i64 b.w) w /\ (part 50 (ec b) 1).run Tryz.prog w = .ok (.int .u64 b.v) w := by
 refine ⟨?_, ?_⟩ <;> simp [part, isAgg, run_underlying Tryz.underlying3, run_underlying Tryz.underlying50, ec, Ed.cells]
@[go_sem high] theorem run_eqE (w : World) (x y : Ed) : (Op.equalIn 10000 195 (.agg (ec x)) (.agg (ec y))).run Tryz.prog w = .ok (eqE x y) w := by
  obtain ⟨p0, p1⟩ := part_e w x
  obtain ⟨q0, q1⟩ := part_e w y
  have a0 := run_equalIn_int (P := Tryz.prog) w 9998 3 .i64 .i64 x.w y.w Tryz.underlying3
  have a1 := run_equalIn_int (P := Tryz.prog) w 9998 50 .u64 .u64 x.v y.v Tryz.underlying50
  rw [run_equalIn_struct w 9999 195 (ec x) (ec y) fields_ed stood_ed, Program.fieldsOf, Tryz.underlying195]
  simp only [Op.eqFields, Sem.run_bind, Sem.run_ite, p0, p1, q0, q1, a0, a1, Result.andThen_ok, Sem.run_pure]
  unfold eqE
  cases (x.w == y.w) <;> cases (x.v == y.v) <;> simp
section
variable {ops : Array Oper} {rest : List Oper} {o : Oper} {a : Act} {w : World} {Q : Exit -> Act -> World -> Prop} {K : Act -> World -> Prop}
theorem app_ed (hgd : o.guard = none) (s x : Operand) (ho : o.op = .call { callee := .builtin .append, args := #[s, x], argTypes := #[164, 164] }) (B : Nat) (v : Value) (l : List Ed) (hs : a.eval s = v) (hown : OwnA edE B w v l)
 (u : Value) (r : List Ed) (hx : a.eval x = u) (hr : RA edE w u r) (hlen : Hid (l.length + r.length <= 4000)) (hB : B <= w.heap.size)
 (h : ∀ v' w', OwnA edE B w' v' (l ++ r) -> w.grownBy w' v.ownBlock -> (v'.ownBlock = v.ownBlock \/ v'.ownBlock = some w.heap.size) -> wpList Tryz.prog ops Q rest (a.put o.dst v') w') : wpList Tryz.prog ops Q (o :: rest) a w :=
 list_app edE hgd s x ho B v l hs hown u r hx hr (by have := hlen.out; show _ * 16 <= _; omega) hB h
theorem step_ed {F : Prop} (hgd : o.guard = none) (s x : Operand) (ho : o.op = .call { callee := .builtin .append, args := #[s, x], argTypes := #[164, 164] }) (B : Nat) (v : Value) (l : List Ed) (hs : a.eval s = v) (hown : OwnA edE B w v l)
 (u : Value) (r : List Ed) (hx : a.eval x = u) (hr : RA edE w u r) (hlen : Hid (l.length + r.length <= 4000)) (hB : B <= w.heap.size)
 (h : ∀ v' w', OwnA edE B w' v' (l ++ r) -> w.grownBy w' v.ownBlock -> (v'.ownBlock = v.ownBlock \/ v'.ownBlock = some w.heap.size) -> K (a.put o.dst v') w') : if Region.wanted o (yielded ops a.tmps) = true then o.wp Tryz.prog a w K Q else F :=
 step_app edE hgd s x ho B v l hs hown u r hx hr (by have := hlen.out; show _ * 16 <= _; omega) hB h
end
theorem canC_no {l : List Bk} {i n : Int} (h : canC l i n = false) : mayS l = false \/ i < 0 \/ (l.length : Int) <= i \/ (0 <= i /\ i < l.length /\ ((bAt l i).u = true \/ takN (bAt l i).s n = 0)) := by
 by_cases h1 : mayS l = true
 . by_cases h2 : i < 0
   . exact .inr (.inl h2)
   . by_cases h3 : (l.length : Int) <= i
     . exact .inr (.inr (.inl h3))
     . refine .inr (.inr (.inr ⟨by omega, by omega, ?_⟩))
       by_cases h4 : (bAt l i).u = true
       . exact .inl h4
       . refine .inr ?_
         by_cases h5 : takN (bAt l i).s n = 0
         . exact h5
         . rw [canC_yes.2 ⟨h1, by omega, by omega, by simpa using h4, h5⟩] at h
           cases h
 . exact .inl (by simpa using h1)
theorem parts_no (l : List Bk) (i n : Int) (v : Value) (w : World) (hv : RA blkE w v l) (hl : l.length <= 1000) (h : canC l i n = false) :
 Calls Tryz.prog 172 #[v, .int .i64 i, .int .i64 n] w fun e w' => e = .returned (.slice none 0 0) /\ Below w.heap.size w w' := by
 have C1 := jz (words_is l v w hv hl)
 have C2 := jz (fun (w' : World) (hb : Below w.heap.size w w') => may_is (szW l) l v (mayS l) w' (ra_below hv hb) hl (may_szW l))
 have H0 := jz (fun (w' : World) (hb : Below w.heap.size w w') => ra_below hv hb)
 obtain ⟨p, cap, rfl, hlc, hcm⟩ := ra_shape hv
 generalize szW l = z at *
 rcases canC_no h with h | h | h | ⟨h0, h1, h⟩
 . rw [h] at C2
   generalize l.length = L at *
   clear hv hl h hlc hcm
   go_enter Tryz.func172, Tryz.ntmps172
   go_wp2_with fail
   refine (C1.out).mono ?_; rintro e w1 ⟨rfl, b1⟩
   have D1 := jz b1
   go_wp2_with fail
   refine (C2.out w1 D1.out).mono ?_; rintro e w2 ⟨rfl, b2⟩
   have D2 := jz (below_more D1.out b2)
   clear b1 b2
   go_wp2_with fail
   go_ret
   exact ⟨rfl, D2.out⟩
 all_goals
  cases hm : mayS l
  . rw [hm] at C2
    generalize l.length = L at *
    clear hv hl h hlc hcm
    go_enter Tryz.func172, Tryz.ntmps172
    go_wp2_with fail
    refine (C1.out).mono ?_; rintro e w1 ⟨rfl, b1⟩
    have D1 := jz b1
    go_wp2_with fail
    refine (C2.out w1 D1.out).mono ?_; rintro e w2 ⟨rfl, b2⟩
    have D2 := jz (below_more D1.out b2)
    clear b1 b2
    go_wp2_with fail
    go_ret
    exact ⟨rfl, D2.out⟩
  rw [hm] at C2
 . generalize l.length = L at *
   clear hv hl hm hlc hcm
   go_enter Tryz.func172, Tryz.ntmps172
   go_wp2_with fail
   refine (C1.out).mono ?_; rintro e w1 ⟨rfl, b1⟩
   have D1 := jz b1
   go_wp2_with fail
   refine (C2.out w1 D1.out).mono ?_; rintro e w2 ⟨rfl, b2⟩
   have D2 := jz (below_more D1.out b2)
   clear b1 b2
   go_wp2_with fail
   go_ret
   exact ⟨rfl, D2.out⟩
 . have h2 : ¬ i < 0 := by omega
   have h3 : i >= (l.length : Int) := h
   generalize l.length = L at *
   clear hv hl hm hlc hcm h
   go_enter Tryz.func172, Tryz.ntmps172
   go_wp2_with fail
   refine (C1.out).mono ?_; rintro e w1 ⟨rfl, b1⟩
   have D1 := jz b1
   go_wp2_with fail
   refine (C2.out w1 D1.out).mono ?_; rintro e w2 ⟨rfl, b2⟩
   have D2 := jz (below_more D1.out b2)
   clear b1 b2
   go_wp2_with fail
   go_ret
   exact ⟨rfl, D2.out⟩
 . obtain ⟨k, rfl⟩ : ∃ k : Nat, i = k := ⟨i.toNat, by omega⟩
   have h2 : ¬ (k : Int) < 0 := by omega
   have h3 : ¬ (k : Int) >= (l.length : Int) := by omega
   have h4 : ¬ (l.length : Int) <= (k : Int) := by omega
   have hk : k < l.length := by omega
   have HX := jz (fun (w' : World) (hb : Below w.heap.size w w') => blk_at (H0.out w' hb) (Nat.lt_of_le_of_lt (Nat.zero_le _) hk))
   have hwf := (ra_ok hv).at_ hk
   have HK := jz hk
   have hB : bAt l (k : Int) = l.getD k default := by rw [bAt, Int.toNat_natCast]
   rw [hB] at h
   obtain ⟨⟨a, s, u⟩, hb⟩ : ∃ c, l.getD k default = c := ⟨_, rfl⟩
   rw [hb] at h hwf
   simp only at h
   have HB := jz hb
   have HW := jz hwf
   clear hv hl hm hlc hcm hk h0 hB hb hwf
   go_enter Tryz.func172, Tryz.ntmps172
   go_wp2_with fail
   refine (C1.out).mono ?_; rintro e w1 ⟨rfl, b1⟩
   have D1 := jz b1
   go_wp2_with fail
   refine (C2.out w1 D1.out).mono ?_; rintro e w2 ⟨rfl, b2⟩
   have D2 := jz (below_more D1.out b2)
   clear b1 b2
   obtain ⟨b, off, rfl, _, hx⟩ := HX.out w2 D2.out
   obtain ⟨hld, _, _, hu, _⟩ := hx k HK.out
   rw [HB.out] at hld hu
   have hu : w2.cell? ⟨b, off + k * 3 + 2, none⟩ = some (.bool u) := hu
   clear hx
   obtain ⟨W, hW, HWW⟩ := blk_boxed w2 ⟨a, s, u⟩
   have c1 : W.cell? ⟨w2.heap.size, 1, none⟩ = some (.int .i64 s) := HWW.out.1.c1
   cases u with
   | true =>
     clear h
     generalize l.length = L at *
     go_wp2_with fail
     go_ret
     exact ⟨rfl, D2.out⟩
   | false =>
     have h : takN s n = 0 := by
      rcases h with h | h
      . cases h
      . exact h
     have C3 := jz (takes_is s n 0 HW.out.ws h W)
     have D3 := jz (below_more D2.out HWW.out.2)
     clear h
     generalize l.length = L at *
     go_wp2_with fail
     refine (C3.out).mono ?_; rintro e w' ⟨rfl, rfl⟩
     go_wp2_with fail
     go_ret
     exact ⟨rfl, D3.out⟩
theorem parts_yes (l : List Bk) (i n : Int) (v : Value) (w : World) (hv : RA blkE w v l) (hl : l.length <= 1000) (h : canC l i n = true) :
 Calls Tryz.prog 172 #[v, .int .i64 i, .int .i64 n] w fun e w' => (∃ u, e = .returned u /\ OwnA blkE w.heap.size w' u (prtB (bAt l i) n)) /\ Below w.heap.size w w' := by
 have C1 := jz (words_is l v w hv hl)
 have C2 := jz (fun (w' : World) (hb : Below w.heap.size w w') => may_is (szW l) l v (mayS l) w' (ra_below hv hb) hl (may_szW l))
 have H0 := jz (fun (w' : World) (hb : Below w.heap.size w w') => ra_below hv hb)
 obtain ⟨p, cap, rfl, hlc, hcm⟩ := ra_shape hv
 obtain ⟨hm, h0, h1, hu, ht⟩ := canC_yes.1 h
 have hz := mayF_sizes (mayL_yes.1 hm).2 _ (bAt_mem h0 h1)
 have hz2 := (mayL_yes.1 hm).1
 rw [hm] at C2
 generalize szW l = z at *
 obtain ⟨k, rfl⟩ : ∃ k : Nat, i = k := ⟨i.toNat, by omega⟩
 have h2 : ¬ (k : Int) < 0 := by omega
 have h3 : ¬ (k : Int) >= (l.length : Int) := by omega
 have h4 : ¬ (l.length : Int) <= (k : Int) := by omega
 have hk : k < l.length := by omega
 have HX := jz (fun (w' : World) (hb : Below w.heap.size w w') => blk_at (H0.out w' hb) (Nat.lt_of_le_of_lt (Nat.zero_le _) hk))
 have HK := jz hk
 have hB : bAt l (k : Int) = l.getD k default := by rw [bAt, Int.toNat_natCast]
 have hwf := (ra_ok hv).at_ hk
 rw [hB] at hu ht hz ⊢
 obtain ⟨⟨a, s, u⟩, hb⟩ : ∃ c, l.getD k default = c := ⟨_, rfl⟩
 rw [hb] at hu ht hwf hz ⊢
 simp only at hu ht hz
 subst hu
 obtain ⟨⟨s1, s2⟩, a1, a2⟩ := hz
 obtain ⟨q1, q2, q3⟩ := hz2
 obtain ⟨t, hte⟩ : ∃ t, takN s n = t := ⟨_, rfl⟩
 obtain ⟨t1, t2, t3, t4⟩ := takN_some ht
 rw [hte] at ht t2 t3 t4
 have HB := jz hb
 have HS : Hid (2 <= s /\ s <= 512 /\ 0 <= a /\ a <= 512) := jz ⟨s1, s2, a1, by omega⟩
 have C3 := jz (takes_is s n t hwf.ws hte)
 have n1 : (t == 0) = false := beq_eq_false_iff_ne.2 ht
 have HT := jz hte
 clear hv hl hlc hcm hk h0 hB hb hwf s1 s2 a1 a2 q1 q2 q3 h hm h1
 go_enter Tryz.func172, Tryz.ntmps172
 go_wp2_with fail
 refine (C1.out).mono ?_; rintro e w1 ⟨rfl, b1⟩
 have D1 := jz b1
 go_wp2_with fail
 refine (C2.out w1 D1.out).mono ?_; rintro e w2 ⟨rfl, b2⟩
 have D2 := jz (below_more D1.out b2)
 clear b1 b2
 obtain ⟨b, off, rfl, _, hx⟩ := HX.out w2 D2.out
 obtain ⟨hld, _, _, hu, _⟩ := hx k HK.out
 rw [HB.out] at hld hu
 have hu : w2.cell? ⟨b, off + k * 3 + 2, none⟩ = some (.bool false) := hu
 clear hx
 obtain ⟨W, hW, HWW⟩ := blk_boxed w2 ⟨a, s, false⟩
 have c1 : W.cell? ⟨w2.heap.size, 1, none⟩ = some (.int .i64 s) := HWW.out.1.c1
 have c0 : W.cell? ⟨w2.heap.size, 0, none⟩ = some (.int .i64 a) := HWW.out.1.c0
 have D3 := jz (below_more D2.out HWW.out.2)
 obtain ⟨V, hV, HV⟩ := blk_boxed W ⟨a, t, true⟩
 have D4 := jz (below_more D3.out HV.out.2)
 have XV := HWW.out.1.below HV.out.2
 have d1 : V.cell? ⟨w2.heap.size, 1, none⟩ = some (.int .i64 s) := XV.c1
 have d0 : V.cell? ⟨w2.heap.size, 0, none⟩ = some (.int .i64 a) := XV.c0
 have hl2 := HV.out.1.load
 generalize l.length = L at *
 by_cases e : t = s
 . have n2 : (t == s) = true := by rw [e]; simp
   have O : Hid (OwnA blkE w.heap.size (V.alloc (.cells (bc ⟨a, t, true⟩) 124)) (.slice (some ⟨V.heap.size, 0, none⟩) 1 1) (prtB ⟨a, s, false⟩ n)) := jz (by
    rw [prtB, if_pos (by rw [HT.out]; exact e)]
    subst e
    exact (blk_one V (c := ⟨a, t, true⟩) (Bk.wf_of (by have := HS.out; simp only; omega) (by have := HS.out; simp only; omega) (by have := HS.out; simp only; omega) (by have := HS.out; simp only; omega))).mono D4.out.size)
   have D5 := jz (bal (o := .cells (bc ⟨a, t, true⟩) 124) D4.out)
   clear e XV t1 t2 t3 t4 ht
   go_wp2_with fail
   refine (C3.out W).mono ?_; rintro e w' ⟨rfl, rfl⟩
   go_wp2_with fail
   go_ret
   exact ⟨⟨_, rfl, O.out⟩, D5.out⟩
 . have n2 : (t == s) = false := beq_eq_false_iff_ne.2 e
   have O : Hid (OwnA blkE w.heap.size (V.alloc (.cells (bc2 ⟨a, t, true⟩ ⟨a + t, s - t, false⟩) 124)) (.slice (some ⟨V.heap.size, 0, none⟩) 2 2) (prtB ⟨a, s, false⟩ n)) := jz (by
    rw [prtB, if_neg (by rw [HT.out]; exact e)]
    simp only [HT.out]
    exact (blk_two V (x := ⟨a, t, true⟩) (y := ⟨a + t, s - t, false⟩) (Bk.wf_of (by have := HS.out; simp only; omega) (by have := HS.out; simp only; omega) (by have := HS.out; simp only; omega) (by have := HS.out; simp only; omega)) (Bk.wf_of (by have := HS.out; simp only; omega) (by have := HS.out; simp only; omega) (by have := HS.out; simp only; omega) (by have := HS.out; simp only; omega))).mono D4.out.size)
   have D5 := jz (bal (o := .cells (bc2 ⟨a, t, true⟩ ⟨a + t, s - t, false⟩) 124) D4.out)
   have j1 : IntKind.i64.wrap (a + t) = a + t := IntWalk.i64_in _ (by have := HS.out; omega)
   have j2 : IntKind.i64.wrap (s - t) = s - t := IntWalk.i64_in _ (by have := HS.out; omega)
   clear e XV t1 t2 t3 t4 ht
   go_wp2_with fail
   refine (C3.out W).mono ?_; rintro e w' ⟨rfl, rfl⟩
   go_wp2_with fail
   go_ret
   exact ⟨⟨_, rfl, O.out⟩, D5.out⟩
theorem rise_more (a : Int) (k : Nat) (x : Int) : rise a (List.replicate (k + 1) x) = rise a (List.replicate k x) ++ [⟨a + k, x⟩] := by
 rw [List.replicate_succ', rise_app, List.length_replicate]
 rfl
theorem noughts_is (b : Bk) (w : World) (h1 : 0 <= b.a) (h2 : b.a <= 512) (h3 : 2 <= b.s) (h4 : b.s <= 512) :
 Calls Tryz.prog 173 #[.agg (bc b)] w fun e w' => (∃ u, e = .returned u /\ OwnA edE w.heap.size w' u (rise (b.a + 1) (List.replicate (b.s - 1).toNat 0))) /\ Below w.heap.size w w' := by
 obtain ⟨⟨a, s, u⟩, hb⟩ : ∃ c, c = b := ⟨b, rfl⟩
 subst hb
 obtain ⟨W, hW, HW⟩ := blk_boxed w ⟨a, s, u⟩
 have c0 : W.cell? ⟨w.heap.size, 0, none⟩ = some (.int .i64 a) := HW.out.1.c0
 simp only at h1 h2 h3 h4 ⊢
 obtain ⟨z, rfl⟩ : ∃ z : Nat, a = z := ⟨a.toNat, by omega⟩
 obtain ⟨n, rfl⟩ : ∃ n : Nat, s = ((n + 1 : Nat) : Int) := ⟨(s - 1).toNat, by omega⟩
 have en : (((n + 1 : Nat) : Int) - 1).toNat = n := by omega
 rw [en]
 have HZ : Hid (z <= 512 /\ n + 1 <= 512) := jz (by omega)
 have j0 : IntKind.i64.wrap ((z : Int) + 1) = ((z + 1 : Nat) : Int) := by rw [show (z : Int) + 1 = ((z + 1 : Nat) : Int) by omega]; exact i64_nat _ (by omega)
 have j1 : IntKind.i64.wrap ((z : Int) + ((n + 1 : Nat) : Int)) = ((z + (n + 1) : Nat) : Int) := by rw [show (z : Int) + ((n + 1 : Nat) : Int) = ((z + (n + 1) : Nat) : Int) by omega]; exact i64_nat _ (by omega)
 clear h1 h2 h3 h4 en
 obtain ⟨Z, hZ⟩ : ∃ Z, z + 1 = Z := ⟨_, rfl⟩
 obtain ⟨M, hM⟩ : ∃ M, n + 1 = M := ⟨_, rfl⟩
 rw [hZ] at j0
 rw [hM] at j1 hW HW
 obtain ⟨E, hE⟩ : ∃ E, z + M = E := ⟨_, rfl⟩
 rw [hE] at j1
 have eZ : (z : Int) + 1 = (Z : Int) := by omega
 rw [hM, eZ]
 have HM : Hid (z + 1 = Z /\ n + 1 = M /\ z + M = E) := jz ⟨hZ, hM, hE⟩
 clear hZ hM hE eZ
 go_enter Tryz.func173, Tryz.ntmps173
 go_wp2
 go_loopw [3, 4] (fun e x wr => ∃ k : Nat, k <= n /\ x = .int .i64 ((Z + k : Nat) : Int) /\ Hid (OwnA edE (w.heap.size + 1) wr e (rise (Z : Int) (List.replicate k 0)) /\ Bv wr w.heap.size ⟨z, M, u⟩ /\ Below w.heap.size w wr)) (fun _ x _ => E - (intOf x).toNat)
 case atStart => exact ⟨0, Nat.zero_le _, rfl, jz ⟨own_nil_a _ _ _, HW.out⟩⟩
 case round =>
  obtain ⟨k, hk, rfl, H⟩ := hrel
  have d0 : wr.cell? ⟨w.heap.size, 0, none⟩ = some (.int .i64 z) := H.out.2.1.c0
  have d1 : wr.cell? ⟨w.heap.size, 1, none⟩ = some (.int .i64 M) := H.out.2.1.c1
  by_cases hlt : k < n
  . have i1 : ((Z + k : Nat) : Int) < (E : Int) := by have := HM.out; omega
    have i3 : IntKind.i64.wrap (((Z + k : Nat) : Int) + 1) = ((Z + (k + 1) : Nat) : Int) := by rw [show ((Z + k : Nat) : Int) + 1 = ((Z + (k + 1) : Nat) : Int) by omega]; exact i64_nat _ (by have := HZ.out; have := HM.out; omega)
    obtain ⟨x, hx⟩ : ∃ x, Z + k = x := ⟨_, rfl⟩
    obtain ⟨y, hy⟩ : ∃ x, Z + (k + 1) = x := ⟨_, rfl⟩
    rw [hx] at i1 i3 ⊢
    rw [hy] at i3
    obtain ⟨W2, hW2, HW2⟩ := ed_boxed wr ⟨x, 0⟩
    have hB2 := jz (below_more H.out.2.2 HW2.out.2)
    have O2 := jz (H.out.1.below HW2.out.2)
    have V2 := jz (H.out.2.1.below HW2.out.2)
    have R2 : Hid (RA edE W2 (.slice (some ⟨wr.heap.size, 0, none⟩) 1 1) [⟨x, 0⟩]) := jz (by rw [<- hW2]; exact (ed_one wr (c := ⟨x, 0⟩) (Ed.wf_of (by simp only; omega) (by have := HZ.out; have := HM.out; simp only; omega) (by simp only; omega) (by simp only; omega))).ra)
    have hlen : Hid ((rise (Z : Int) (List.replicate k 0)).length + [(⟨x, 0⟩ : Ed)].length <= 4000) := jz (by rw [rise_length, List.length_replicate]; simp; have := HZ.out; omega)
    have hR := rise_more (Z : Int) k 0
    rw [show (Z : Int) + k = (x : Int) by omega] at hR
    have HR := jz hR
    have HK := jz (And.intro hlt (And.intro hx hy))
    clear hlt hk hx hy hR
    go_wp2_with (at_builtin; refine app_ed rfl _ _ rfl _ _ _ rfl O2.out _ [⟨x, 0⟩] rfl R2.out hlen V2.out.lt ?_)
    intro v' w' ho hg hx
    have HN : Hid (OwnA edE (w.heap.size + 1) w' v' (rise (Z : Int) (List.replicate (k + 1) 0)) /\ Bv w' w.heap.size ⟨z, M, u⟩ /\ Below w.heap.size w w') := jz ⟨by rw [HR.out]; exact ho, (hg.block _ V2.out.lt (fun e => by have := (O2.out.lt _ e.symm).1; omega)).trans V2.out, below_app hB2.out hB2.out.size (O2.out.mono (Nat.le_succ _)) hg⟩
    clear ho hg hx
    go_wp2
    go_roundw
    case rel => exact ⟨k + 1, by have := HK.out; omega, by have := HK.out; go_num, HN⟩
    case measure => have := HK.out; have := HM.out; simp [intOf]; omega
  . obtain rfl : k = n := by omega
    have i1 : ¬ ((Z + k : Nat) : Int) < (E : Int) := by have := HM.out; omega
    generalize Z + k = x at *
    go_wp2
    go_ret
    exact ⟨⟨_, rfl, H.out.1.mono (Nat.le_succ _)⟩, H.out.2.2⟩
@[go_sem] theorem eql_nil_nil (w : World) : (binOp .eql 47 (.slice none 0 0) (.slice none 0 0)).run Tryz.prog w = .ok (.bool true) w := Lib.run_eql_slice_nil_nil w _ _ Tryz.underlying47
@[go_sem] theorem eql_some_nil (w : World) (a : Addr) (n c : Nat) : (binOp .eql 47 (.slice (some a) n c) (.slice none 0 0)).run Tryz.prog w = .ok (.bool false) w := Lib.run_eql_slice_some_nil w _ _ _ Tryz.underlying47
theorem cedF_no {l : List Bk} {i n : Int} (h : canC l i n = false) : cedF l i n = [] := by rw [cedF, h]; rfl

def RU (w : World) (v : Value) (l : List Int) : Prop :=
 ∃ p cap, v = .slice p l.length cap /\ l.length <= cap /\ cap <= maxLen /\ (l = [] \/ ∃ b off, p = some ⟨b, off, none⟩ /\ ∀ i, i < l.length -> w.cell? ⟨b, off + i, none⟩ = some (.int .u64 (l.getD i 0)))
theorem ru_same {w w' : World} {v : Value} {l : List Int} (h : RU w v l) (hb : ∀ p : Addr, p.block < w.heap.size -> w'.cell? p = w.cell? p) : RU w' v l := by
 obtain ⟨p, cap, rfl, h1, h2, h | ⟨b, off, rfl, hc⟩⟩ := h
 . exact ⟨p, cap, rfl, h1, h2, .inl h⟩
 . refine ⟨_, cap, rfl, h1, h2, .inr ⟨b, off, rfl, fun i hi => ?_⟩⟩
   have := hc i hi
   rw [hb _ (World.block_lt_of_cell? w _ this)]; exact this
theorem ru_below {w w' : World} {v : Value} {l : List Int} (h : RU w v l) (hb : Below w.heap.size w w') : RU w' v l := ru_same h fun _ hp => hb.cell hp
theorem ru_nil (w : World) : RU w (.slice none 0 0) [] := ⟨none, 0, rfl, Nat.le_refl _, Nat.zero_le _, .inl rfl⟩
theorem ru_some {w : World} {p : Option Addr} {n cap : Nat} {l : List Int} (h : RU w (.slice p n cap) l) (h0 : 0 < l.length) : ∃ b off, p = some ⟨b, off, none⟩ /\ b < w.heap.size /\ ∀ i, i < l.length -> w.cell? ⟨b, off + i, none⟩ = some (.int .u64 (l.getD i 0)) := by
 obtain ⟨p', cap', e, _, _, h | ⟨b, off, rfl, hc⟩⟩ := h
 . subst h; cases h0
 . cases e; exact ⟨b, off, rfl, World.block_lt_of_cell? w _ (hc 0 h0), hc⟩
def OwnU (B : Nat) (w : World) (v : Value) (l : List Int) : Prop := w.ownsRow B 50 1 v l.length (l.map uv)
theorem OwnU.ru {B : Nat} {w : World} {v : Value} {l : List Int} (h : OwnU B w v l) : RU w v l := by
 have h' : w.ownsRow B 50 1 v l.length (l.map uv) := h
 obtain ⟨_, ⟨rfl, h0⟩ | ⟨g, cap, cur, rfl, _, _, h1, h2, _⟩⟩ := h
 . rw [List.eq_nil_of_length_eq_zero h0]; exact ru_nil w
 . refine ⟨_, cap, rfl, h1, h2, .inr ⟨g, 0, rfl, fun i hi => ?_⟩⟩
   have := h'.cells (g := g) rfl i (uv (l.getD i 0)) (by simp [hi])
   have e : (⟨g, 0, none⟩ : Addr).add i = ⟨g, 0 + i, none⟩ := Go.WideShapes.add_plain ..
   rw [e] at this; exact this
theorem OwnU.shape {B : Nat} {w : World} {v : Value} {l : List Int} (h : OwnU B w v l) : ∃ p c, v = .slice p l.length c := by
 obtain ⟨p, c, h, _⟩ := h.ru; exact ⟨p, c, h⟩
theorem OwnU.mono {B B' : Nat} {w : World} {v : Value} {l : List Int} (h : OwnU B w v l) (hb : B' <= B) : OwnU B' w v l :=
 ⟨h.1, h.2.imp id fun ⟨g, cap, cur, hv, hg, r⟩ => ⟨g, cap, cur, hv, Nat.le_trans hb hg, r⟩⟩
theorem info_u64 : (Tryz.prog.info? 50).map (fun i => (i.zero, i.size, i.bytes)) = some (some (.int .u64 0), 1, 8) := by kernel_rfl
theorem uv_one (l : List Int) : ∀ u ∈ l.map uv, u.oneCell' = true := by
 intro u hu; obtain ⟨x, _, rfl⟩ := List.mem_map.1 hu; rfl
theorem run_app_none_u {P : Program} (w : World) (base : Nat) (t ty e : TypeId) (i : TypeInfo) (size : Nat) (ht : P.underlying t = some (.slice e)) (hi : P.info? e = some i)
 (v : Value) (n : Nat) (xs : List Value) (hown : w.ownsRow base e size v n xs) (c : Nat) : (Builtin.append_ #[t, t] ty #[v, .slice none 0 c]).run P w = .ok v w := by
 obtain ⟨_, ⟨rfl, rfl⟩ | ⟨g, cap, cur, rfl, _, _, hc, _⟩⟩ := hown <;> simp [Builtin.append_, run_underlying ht, sizeOf, typeInfo, Builtin.lenOf, Builtin.firstCells, storeCells, *]
theorem run_app_u64 (B : Nat) (v : Value) (l : List Int) (w : World) (hown : OwnU B w v l) (u : Value) (r : List Int) (hr : RU w u r) (hlen : l.length + r.length <= 1000000) (hB : B <= w.heap.size) (ty : TypeId) :
 ∃ v' w', (Builtin.append_ #[65, 65] ty #[v, u]).run Tryz.prog w = .ok v' w' /\ OwnU B w' v' (l ++ r) /\ w.grownBy w' v.ownBlock /\ (v'.ownBlock = v.ownBlock \/ v'.ownBlock = some w.heap.size) := by
 obtain ⟨i0, hi, hz0, hz1, hz2⟩ := info_parts info_u64
 obtain ⟨A, c, rfl, h1, h2, h3⟩ := hr
 have fin : ∀ w' v', w'.ownsRow B 50 1 v' (l.length + r.length) (l.map uv ++ r.map uv) -> OwnU B w' v' (l ++ r) := fun w' v' h => by
  unfold OwnU; rw [List.length_append, List.map_append]; exact h
 cases A with
 | none =>
   have hr0 : r = [] := by
    rcases h3 with h3 | ⟨b, off, h, _⟩
    . exact h3
    . cases h
   subst hr0
   exact ⟨v, w, run_app_none_u w B _ ty _ i0 1 Tryz.underlying65 hi v _ _ hown c, by simpa using hown, World.grownBy.refl w _, .inl rfl⟩
 | some ad =>
   have hc : ∀ j u, (r.map uv)[j]? = some u -> w.cell? (ad.add j) = some u := by
    intro j u hu
    rcases h3 with h3 | ⟨b, off, h, hc⟩
    . subst h3; simp at hu
    . cases h
      have hj : j < r.length := by have := (List.getElem?_eq_some_iff.1 hu).1; simpa using this
      have e : (⟨b, off, none⟩ : Addr).add j = ⟨b, off + j, none⟩ := Go.WideShapes.add_plain ..
      rw [e, hc j hj]
      simp [hj] at hu
      rw [<- hu]; simp [uv, hj]
   obtain ⟨v', w', hrun, g1, g2, _, g4⟩ := run_append_own_at (P := Tryz.prog) w B 65 ty 50 i0 (.int .u64 0) 1 8 Tryz.underlying65 hi hz0 hz1 hz2 rfl (by decide) v l.length (l.map uv) hown ad r.length c (r.map uv) (by simp) hc (uv_one r) (by unfold maxLen; omega) (by omega) hB
   exact ⟨v', w', hrun, fin _ _ g1, g2, g4⟩
section
variable {ops : Array Oper} {rest : List Oper} {o : Oper} {a : Act} {w : World} {Q : Exit -> Act -> World -> Prop} {K : Act -> World -> Prop}
theorem wp_app_u64 (s x : Operand) (ho : o.op = .call { callee := .builtin .append, args := #[s, x], argTypes := #[65, 65] }) (B : Nat) (v : Value) (l : List Int) (hs : a.eval s = v) (hown : OwnU B w v l)
 (u : Value) (r : List Int) (hx : a.eval x = u) (hr : RU w u r) (hlen : l.length + r.length <= 1000000) (hB : B <= w.heap.size)
 (h : ∀ v' w', OwnU B w' v' (l ++ r) -> w.grownBy w' v.ownBlock -> (v'.ownBlock = v.ownBlock \/ v'.ownBlock = some w.heap.size) -> K (a.put o.dst v') w') : o.wp Tryz.prog a w K Q := by
 obtain ⟨v', w', hrun, h2, h3, h4⟩ := run_app_u64 B v l w hown u r hr hlen hB o.type
 unfold Oper.wp execOp
 simp only [ho, resolve, invoke, builtin, Sem.run_bind, Sem.run_pure, Result.andThen_ok, List.map_toArray, List.map_cons, List.map_nil, hs, hx, hrun]
 exact h v' w' h2 h3 h4
theorem list_app_u64 (hgd : o.guard = none) (s x : Operand) (ho : o.op = .call { callee := .builtin .append, args := #[s, x], argTypes := #[65, 65] }) (B : Nat) (v : Value) (l : List Int) (hs : a.eval s = v) (hown : OwnU B w v l)
 (u : Value) (r : List Int) (hx : a.eval x = u) (hr : RU w u r) (hlen : l.length + r.length <= 1000000) (hB : B <= w.heap.size)
 (h : ∀ v' w', OwnU B w' v' (l ++ r) -> w.grownBy w' v.ownBlock -> (v'.ownBlock = v.ownBlock \/ v'.ownBlock = some w.heap.size) -> wpList Tryz.prog ops Q rest (a.put o.dst v') w') : wpList Tryz.prog ops Q (o :: rest) a w :=
 wpList_plain hgd fun _ hK => wp_app_u64 s x ho B v l hs hown u r hx hr hlen hB fun v' w' h2 h3 h4 => hK _ _ (h v' w' h2 h3 h4)
end
theorem OwnU.block {B : Nat} {w : World} {v : Value} {l : List Int} (h : OwnU B w v l) (h0 : 0 < l.length) : ∃ g c, v = .slice (some ⟨g, 0, none⟩) l.length c /\ B <= g /\ g < w.heap.size /\ l.length <= c /\ c <= maxLen := by
 obtain ⟨_, ⟨rfl, h1⟩ | ⟨g, cap, cur, rfl, hb, hg, h1, h2, _⟩⟩ := h
 . omega
 . exact ⟨g, cap, rfl, hb, (Array.getElem?_eq_some_iff.1 hg).1, h1, h2⟩
theorem OwnU.stored {B g c : Nat} {w : World} {n : Nat} {l : List Int} (h : OwnU B w (.slice (some ⟨g, 0, none⟩) n c) l) (j : Nat) (x : Int) : OwnU B (w.setCell ⟨g, j, none⟩ (.int .u64 x)) (.slice (some ⟨g, 0, none⟩) n c) (l.set j x) := by
 have hn : n = l.length := by
  obtain ⟨p, c', e⟩ := h.shape
  cases e; rfl
 subst hn
 have := World.ownsRow.stored (g := g) (cap := c) h j (uv x)
 unfold OwnU
 rw [List.length_set, List.map_set]
 exact this.1
theorem OwnU.cells {B : Nat} {w : World} {g n c : Nat} {l : List Int} (h : OwnU B w (.slice (some ⟨g, 0, none⟩) n c) l) {j : Nat} (hj : j < l.length) : w.cell? ⟨g, j, none⟩ = some (.int .u64 (l.getD j 0)) /\ w.frozen? ⟨g, j, none⟩ = false := by
 have hn : n = l.length := by
  obtain ⟨p, c', e⟩ := h.shape
  cases e; rfl
 subst hn
 refine ⟨?_, World.ownsRow.frozenAt (g := g) (cap := c) h j⟩
 rw [World.ownsRow.cellAt (g := g) (cap := c) h j (by omega)]
 simp [hj, uv]
theorem OwnU.below {B : Nat} {w w' : World} {v : Value} {l : List Int} (h : OwnU B w v l) (hb : Below w.heap.size w w') : OwnU B w' v l := by
 refine ⟨h.1, h.2.imp id ?_⟩
 rintro ⟨g, cap, cur, hv, h1, hg, r⟩
 exact ⟨g, cap, cur, hv, h1, (hb.block g (Array.getElem?_eq_some_iff.1 hg).1).trans hg, r⟩
theorem OwnU.drew {B : Nat} {w : World} {v : Value} {l : List Int} (h : OwnU B w v l) : OwnU B w.drew v l := h
theorem own_nil_u (B : Nat) (w : World) : OwnU B w (.slice none 0 0) [] := World.ownsRow_nil _ _ _ _
theorem own_made_u (w : World) (n : Nat) (hn : n <= maxLen) : OwnU w.heap.size (w.alloc (.cells (madeCells #[.int .u64 0] n) 50)) (.slice (some ⟨w.heap.size, 0, none⟩) n n) (List.replicate n 0) := by
 have e : (madeCells #[.int .u64 0] n).toList = (List.replicate n 0).map uv := by rw [toList_madeCells_one]; simp [uv]
 refine ⟨by simp, .inr ⟨w.heap.size, n, madeCells #[.int .u64 0] n, by simp, Nat.le_refl _, heap_alloc_new w _, by simp, hn, by rw [<- Array.length_toList, e]; simp, by rw [e]; simp⟩⟩
theorem below_app_u {B : Nat} {w w1 w2 : World} {v : Value} {l : List Int} (h : Below B w w1) (hB : B <= w1.heap.size) (ho : OwnU B w1 v l) (hg : w1.grownBy w2 v.ownBlock) : Below B w w2 := h.grown hg hB (fun k hk => (World.ownsRow.lt ho k hk).1)

def firstL (n : Int) : List Int := if Mw n then (List.replicate n.toNat 0).set 0 (n * 2) else []
theorem firstL_no {n : Int} (h : ¬ Mw n) : firstL n = [] := if_neg h
theorem firstL_yes {n : Nat} (h : Mw n) : firstL n = (List.replicate n 0).set 0 ((n : Int) * 2) := by rw [firstL, if_pos h, Int.toNat_natCast]
theorem Mw.mayB {n : Int} (h : Mw n) : MayB n := by obtain ⟨h1, h2, _⟩ := h; exact ⟨by omega, h2⟩
theorem first_is (n : Int) (w : World) : Calls Tryz.prog 23 #[.int .i64 n] w fun e w' => (∃ v, e = .returned v /\ OwnU w.heap.size w' v (firstL n)) /\ Below w.heap.size w w' := by
 have C := jz (mayw_is n w)
 by_cases hm : Mw n
 . rw [decide_eq_true hm] at C
   have hm2 := hm
   obtain ⟨h1, h2, _⟩ := hm2
   obtain ⟨k, rfl⟩ : ∃ k : Nat, n = k := ⟨n.toNat, by omega⟩
   rw [firstL_yes hm]
   have hmk := run_make_row' (P := Tryz.prog) 65 50 (.int .u64 0) 8 Tryz.underlying65 info_u64 rfl .i64 .i64 k (by omega) (by omega)
   obtain ⟨W, hW⟩ : ∃ W, w.alloc (.cells (madeCells #[.int .u64 0] k) 50) = W := ⟨_, rfl⟩
   have O := own_made_u w k (by unfold maxLen; omega)
   have B := bal (o := .cells (madeCells #[.int .u64 0] k) 50) (Below.refl w.heap.size w)
   rw [hW] at O B
   obtain ⟨c1, f1⟩ := OwnU.cells O (j := 0) (by simp; omega)
   have own2 := OwnU.stored O 0 ((k : Int) * 2)
   have B2 := B.setCell (p := ⟨w.heap.size, 0, none⟩) (Nat.le_refl _) (.int .u64 ((k : Int) * 2))
   have HO := jz own2
   have HB := jz B2
   have C2 := jz (wordb_is (k : Int) false W)
   rw [hdB_yes hm.mayB, show useB false = 0 from rfl, Int.add_zero] at C2
   have k1 : 0 < k := by omega
   generalize (List.replicate k (0 : Int)).getD 0 0 = y at c1
   clear O B own2 B2 hm h1 h2
   go_enter Tryz.func23, Tryz.ntmps23
   go_wp2_with fail
   refine (C.out).mono ?_; rintro e w' ⟨rfl, rfl⟩
   go_wp2_with fail
   refine (C2.out).mono ?_; rintro e w' ⟨rfl, rfl⟩
   go_wp2_with fail
   go_ret
   exact ⟨⟨_, rfl, HO.out⟩, HB.out⟩
 . rw [decide_eq_false hm] at C
   rw [firstL_no hm]
   clear hm
   go_enter Tryz.func23, Tryz.ntmps23
   go_wp2_with fail
   refine (C.out).mono ?_; rintro e w' ⟨rfl, rfl⟩
   go_wp2_with fail
   go_ret
   exact ⟨⟨_, rfl, own_nil_u _ _⟩, Below.refl _ _⟩

def WordsOk (l : List Int) : Prop := ∀ j, j < l.length -> 0 <= l.getD j 0 /\ l.getD j 0 <= 18446744073709551615
theorem reads_of (x : Int) (h : MayB (x / 2)) : Reads x (x / 2) (decide (x % 2 = 1)) true := by
 refine .inl ⟨rfl, h, ?_⟩
 by_cases c : x % 2 = 1
 . rw [decide_eq_true c]; simp only [useB, if_true]; omega
 . rw [decide_eq_false c]; simp [useB]; omega
theorem ru_at {w : World} {p : Option Addr} {n cap : Nat} {l : List Int} (h : RU w (.slice p n cap) l) (h0 : 0 < l.length) : ∃ b off, p = some ⟨b, off, none⟩ /\ ∀ i, i < l.length -> w.cell? ⟨b, off + i, none⟩ = some (.int .u64 (l.getD i 0)) := by
 obtain ⟨p', cap', e, _, _, h | ⟨b, off, rfl, hc⟩⟩ := h
 . subst h; simp at h0
 . cases e; exact ⟨b, off, rfl, hc⟩
structure Rd (l : List Int) (w0 w : World) (v : Value) (a : Nat) (R : Option (List Bk)) : Prop where
 ex : ∃ p k, OwnA blkE w0.heap.size w v p /\ (rdF l k a).map (p ++ ·) = R /\ l.length <= a + k /\ 2 * p.length <= a
 up : Below w0.heap.size w0 w
theorem Rd.start (l : List Int) (w : World) : Rd l w w (.slice none 0 0) 0 (rdF l l.length 0) :=
 ⟨⟨[], l.length, own_nil_a _ _ _, by simp, by omega, by simp⟩, Below.refl _ _⟩
theorem Rd.none_ {l : List Int} {w0 w : World} {v : Value} {a : Nat} {R : Option (List Bk)} (h : Rd l w0 w v a R) (ha : a < l.length) (hx : ¬ MayB (l.getD a 0 / 2)) : R = none := by
 obtain ⟨p, k, _, h2, _⟩ := h.ex
 rw [<- h2, rdF_no ha hx]; rfl
theorem Rd.end_ {l : List Int} {w0 w : World} {v : Value} {a : Nat} {R : Option (List Bk)} (h : Rd l w0 w v a R) (ha : l.length <= a) : ∃ p, OwnA blkE w0.heap.size w v p /\ R = some p /\ 2 * p.length <= a := by
 obtain ⟨p, k, h1, h2, _, h4⟩ := h.ex
 exact ⟨p, h1, by rw [<- h2, rdF_end ha, Option.map_some, List.append_nil], h4⟩
theorem Rd.more {l : List Int} {w0 w W : World} {v : Value} {a n : Nat} {u : Bool} {R : Option (List Bk)} (h : Rd l w0 w v a R) (hl : l.length <= 1000) (ha : a < l.length) (hn : l.getD a 0 / 2 = n) (hm : MayB n) (hu : decide (l.getD a 0 % 2 = 1) = u)
 (hW : w.alloc (.cells (bc ⟨a, n, u⟩) 124) = W) :
 ∃ p, OwnA blkE w0.heap.size W v p /\ RA blkE W (.slice (some ⟨w.heap.size, 0, none⟩) 1 1) [⟨a, n, u⟩] /\ Hid (p.length + [(⟨a, n, u⟩ : Bk)].length <= 2000) /\ w0.heap.size <= W.heap.size ∧
  ∀ v' w', OwnA blkE w0.heap.size w' v' (p ++ [⟨a, n, u⟩]) -> W.grownBy w' v.ownBlock -> Rd l w0 w' v' (a + n) R := by
 obtain ⟨p, k, h1, h2, h3, h4⟩ := h.ex
 have hB : Below w0.heap.size w0 W := by rw [<- hW]; exact bal h.up
 have hO : OwnA blkE w0.heap.size W v p := by rw [<- hW]; exact h1.alloc _
 have hm2 := hm
 obtain ⟨n1, n2⟩ := hm2
 refine ⟨p, hO, ?_, jz (by simp; omega), hB.size, fun v' w' ho hg => ⟨⟨p ++ [⟨a, n, u⟩], k - 1, ho, ?_, by omega, by simp; omega⟩, below_app hB hB.size hO hg⟩⟩
 . rw [<- hW]; exact (blk_one w (c := ⟨a, n, u⟩) (Bk.wf_of (by simp only; omega) (by simp only; omega) (by simp only; omega) (by simp only; omega))).ra
 . obtain ⟨j, rfl⟩ : ∃ j, k = j + 1 := ⟨k - 1, by omega⟩
   rw [<- h2, Nat.add_sub_cancel, rdF, if_pos ha, hn, if_pos hm, hu, Int.toNat_natCast, Option.map_map]
   congr 1
   funext r
   simp
theorem blocks_main (l : List Int) (v : Value) (R : Option (List Bk)) (w : World) (hv : RU w v l) (hl : l.length <= 1000) (hw : WordsOk l) (hr : blkF l = R) (hm : Mw l.length) :
 Calls Tryz.prog 60 #[v] w fun e w' => (∃ u, e = .returned (.tuple #[u, .bool R.isSome]) /\ OwnA blkE w.heap.size w' u (R.getD [])) /\ Below w.heap.size w w' := by
 have C0 := jz (mayw_is l.length w)
 rw [decide_eq_true hm] at C0
 clear hm
 have HV := jz hv
 obtain ⟨p, cap, rfl, hlc, hcm, _⟩ := hv
 have HL := jz hl
 have HW := jz hw
 have HR := jz hr
 clear hl hw hr hlc hcm
 go_enter Tryz.func60, Tryz.ntmps60
 go_wp2_with fail
 refine (C0.out).mono ?_; rintro e w' ⟨rfl, rfl⟩
 go_wp2
 go_loopw [4, 5] (fun y a wr => ∃ (z : Nat) (lv : Value), y = lv /\ a = .int .i64 z /\ z <= l.length + 512 /\ Hid (Rd l w wr lv z (rdF l l.length 0))) (fun _ a _ => l.length - (intOf a).toNat)
 case atStart => exact ⟨0, _, rfl, rfl, Nat.zero_le _, jz (Rd.start l w)⟩
 case round =>
  obtain ⟨z, lv, rfl, rfl, hz, H⟩ := hrel
  by_cases hlt : z < l.length
  . obtain ⟨b, off, rfl, hx⟩ := ru_at (ru_below HV.out H.out.up) (by omega)
    have c1 := hx z hlt
    obtain ⟨x0, x1⟩ := HW.out z hlt
    have i0 : (0 : Int) <= (z : Int) := by omega
    have i1 : (z : Int) < (l.length : Int) := by omega
    have i2 : ¬ (z : Int) < 0 := by omega
    have HK := jz hlt
    have HZ := jz hz
    by_cases hm : MayB (l.getD z 0 / 2)
    . have P := jz (fun w => parse_is (l.getD z 0) _ _ _ (reads_of _ hm) x0 x1 w)
      obtain ⟨n, hn⟩ : ∃ n : Nat, l.getD z 0 / 2 = n := ⟨(l.getD z 0 / 2).toNat, by obtain ⟨h, _⟩ := hm; omega⟩
      obtain ⟨u, hu⟩ : ∃ u, decide (l.getD z 0 % 2 = 1) = u := ⟨_, rfl⟩
      obtain ⟨W, hW⟩ : ∃ W, wr.alloc (.cells (bc ⟨z, n, u⟩) 124) = W := ⟨_, rfl⟩
      obtain ⟨pre, o1, r1, hlen, hB, hmore⟩ := H.out.more HL.out hlt hn (hn ▸ hm) hu hW
      rw [hn, hu] at P
      have HN : Hid (2 <= n /\ n <= 512) := jz (by rw [hn] at hm; obtain ⟨a, b⟩ := hm; omega)
      have j0 : IntKind.i64.wrap ((z : Int) + (n : Int)) = ((z + n : Nat) : Int) := by rw [show (z : Int) + (n : Int) = ((z + n : Nat) : Int) by omega]; exact i64_nat _ (by have := HL.out; have := HN.out; omega)
      have O1 := jz o1
      have R1 := jz r1
      have HB := jz hB
      have HM := jz hmore
      clear hx hm hn hu x0 x1 hz o1 r1 hB hmore
      generalize l.getD z 0 = x at *
      go_wp2_with fail
      refine (P.out _).mono ?_; rintro e w' ⟨rfl, rfl⟩
      go_wp2_with (at_builtin; refine app_blk (o := ⟨some 34, _, _, _, _, _⟩) rfl (.tmp 28) (.tmp 33) rfl w.heap.size _ pre rfl O1.out _ [⟨z, n, u⟩] rfl R1.out hlen HB.out ?_)
      intro v' w2 o2 g2 _
      have HN2 := jz (HM.out v' w2 o2 g2)
      clear o2 g2
      go_wp2
      go_roundw
      case rel => exact ⟨z + n, _, rfl, rfl, by have := HK.out; have := HN.out; omega, HN2⟩
      case measure => have := HK.out; have := HN.out; simp [intOf]; omega
    . have P := jz (fun w => parse_no (l.getD z 0) x0 x1 hm w)
      have hR : R = none := by rw [<- HR.out, blkF, H.out.none_ hlt hm]; rfl
      subst hR
      have HB := jz H.out.up
      clear hx hm x0 x1 hz
      generalize l.getD z 0 = x at *
      go_wp2_with fail
      refine (P.out _).mono ?_; rintro e w' ⟨rfl, rfl⟩
      go_wp2
      go_ret2
      exact ⟨⟨_, rfl, own_nil_a _ _ _⟩, HB.out⟩
  . obtain ⟨pre, o1, hp, hlen⟩ := H.out.end_ (by omega)
    have M := jz (may_is l.length pre _ _ wr o1.ra (by have := HL.out; omega) rfl)
    have i3 : ¬ (z : Int) < (l.length : Int) := by omega
    have HB := jz H.out.up
    have hR := HR.out
    rw [blkF, hp, Option.bind_some] at hR
    have O1 := jz o1
    clear hp o1 hz hlen
    cases hmm : mayL l.length pre
    . rw [hmm] at M
      rw [hmm, if_neg Bool.false_ne_true] at hR
      subst hR
      clear hmm
      go_wp2_with fail
      refine (M.out).mono ?_; rintro e w2 ⟨rfl, hb⟩
      have HB2 := jz (below_more HB.out hb)
      clear hb
      go_wp2
      go_ret2
      exact ⟨⟨_, rfl, own_nil_a _ _ _⟩, HB2.out⟩
    . rw [hmm] at M
      rw [hmm, if_pos rfl] at hR
      subst hR
      clear hmm
      go_wp2_with fail
      refine (M.out).mono ?_; rintro e w2 ⟨rfl, hb⟩
      have O2 := jz (O1.out.below hb)
      have HB2 := jz (below_more HB.out hb)
      clear hb
      go_wp2
      go_ret2
      exact ⟨⟨_, rfl, O2.out⟩, HB2.out⟩
theorem blkF_no {l : List Int} (h : ¬ Mw l.length) : blkF l = none := by
 rw [blkF]
 cases rdF l l.length 0 with
 | none => rfl
 | some p => rw [Option.bind_some, if_neg]; intro k; exact h (mayL_yes.1 k).1
theorem blocks_is (l : List Int) (v : Value) (R : Option (List Bk)) (w : World) (hv : RU w v l) (hl : l.length <= 1000) (hw : WordsOk l) (hr : blkF l = R) :
 Calls Tryz.prog 60 #[v] w fun e w' => (∃ u, e = .returned (.tuple #[u, .bool R.isSome]) /\ OwnA blkE w.heap.size w' u (R.getD [])) /\ Below w.heap.size w w' := by
 by_cases hm : Mw l.length
 . exact blocks_main l v R w hv hl hw hr hm
 . have C := jz (mayw_is l.length w)
   rw [decide_eq_false hm] at C
   obtain rfl : R = none := by rw [<- hr, blkF_no hm]
   obtain ⟨p, cap, rfl, hlc, hcm, _⟩ := hv
   clear hm hr hw hl hlc hcm
   go_enter Tryz.func60, Tryz.ntmps60
   go_wp2_with fail
   refine (C.out).mono ?_; rintro e w' ⟨rfl, rfl⟩
   go_wp2_with fail
   go_ret2
   exact ⟨⟨_, rfl, own_nil_a _ _ _⟩, Below.refl _ _⟩


theorem set_ok {l : List Int} (h : WordsOk l) {j : Nat} {x : Int} (h0 : 0 <= x) (h1 : x <= 18446744073709551615) : WordsOk (l.set j x) := fun i hi => by
 rw [List.length_set] at hi
 have := h i hi
 rw [List.getD_eq_getElem?_getD] at this ⊢
 by_cases e : j = i
 . subst e
   rw [List.getElem?_set_self hi]
   exact ⟨h0, h1⟩
 . rw [List.getElem?_set_ne e]; exact this
theorem hdB_in (n : Int) (u : Bool) : 0 <= hdB n u /\ hdB n u <= 18446744073709551615 := by
 by_cases h : MayB n
 . rw [hdB_yes h]
   obtain ⟨h1, h2⟩ := h
   rcases useB_or u with ⟨_, e⟩ | ⟨_, e⟩ <;> omega
 . rw [hdB_no h]; decide
def EdOk (P : List Bk) : Prop := ∀ b ∈ P, 0 <= b.a /\ b.a <= 512 /\ 2 <= b.s /\ b.s <= 512
theorem edF_take {P : List Bk} {k : Nat} (h : k < P.length) : edF (P.take (k + 1)) = edF (P.take k) ++ edB (P.getD k default) := by
 rw [List.take_add_one, List.getElem?_eq_getElem h, List.getD_eq_getElem?_getD, List.getElem?_eq_getElem h]
 simp only [edF, Option.toList_some, List.flatMap_append, List.flatMap_cons, List.flatMap_nil, List.append_nil, Option.getD_some]
theorem edB_length {b : Bk} (h : b.s <= 512) : (edB b).length <= 513 := by
 rw [edB, rise_length, edV, List.length_cons]
 split
 . rw [List.length_replicate]; omega
 . simp
theorem edF_length {P : List Bk} (h : EdOk P) : ∀ k, k <= P.length -> (edF (P.take k)).length <= 513 * k
 | 0, _ => by simp [edF]
 | k + 1, hk => by
   have h1 := edF_length h k (by omega)
   have h2 := h (P.getD k default) (by rw [List.getD_eq_getElem?_getD, List.getElem?_eq_getElem (by omega)]; exact List.getElem_mem _)
   have h3 := edB_length h2.2.2.2
   rw [edF_take (by omega), List.length_append]
   omega
theorem edOk_prt {l : List Bk} {i n : Int} (h : canC l i n = true) : EdOk (prtB (bAt l i) n) := by
 obtain ⟨hm, h0, h1, hu, ht⟩ := canC_yes.1 h
 have hz := mayF_sizes (mayL_yes.1 hm).2 _ (bAt_mem h0 h1)
 obtain ⟨g1, g2, g3⟩ := (mayL_yes.1 hm).1
 obtain ⟨⟨s1, s2⟩, a1, a2⟩ := hz
 obtain ⟨t1, t2, t3, t4⟩ := takN_some ht
 intro b hb
 unfold prtB at hb
 split at hb
 . obtain rfl := List.mem_singleton.1 hb
   exact ⟨a1, by simp only; omega, s1, s2⟩
 . simp only [List.mem_cons, List.not_mem_nil, or_false] at hb
   rcases hb with rfl | rfl
   . refine ⟨a1, ?_, ?_, ?_⟩ <;> simp only <;> omega
   . refine ⟨?_, ?_, ?_, ?_⟩ <;> simp only <;> omega
theorem cedits_is (l : List Bk) (i n : Int) (v : Value) (w : World) (hv : RA blkE w v l) (hl : l.length <= 1000) :
 Calls Tryz.prog 149 #[v, .int .i64 i, .int .i64 n] w fun e w' => (∃ u, e = .returned u /\ OwnA edE w.heap.size w' u (cedF l i n)) /\ Below w.heap.size w w' := by
 cases h : canC l i n with
 | false =>
   have C1 := jz (parts_no l i n v w hv hl h)
   rw [cedF_no h]
   obtain ⟨p, cap, rfl, _⟩ := ra_shape hv
   generalize l.length = L at *
   clear hv hl h
   go_enter Tryz.func149, Tryz.ntmps149
   go_wp2_with fail
   refine (C1.out).mono ?_; rintro e w1 ⟨rfl, b1⟩
   have D1 := jz b1
   clear b1
   go_wp2
   go_loopw [7, 9, 15] (fun e x i wr => e = .slice none 0 0 /\ i = .int .i64 0 /\ wr = w1) (fun _ _ i _ => 0)
   case atStart => exact ⟨rfl, rfl, rfl⟩
   case round =>
    obtain ⟨rfl, rfl, rfl⟩ := hrel
    go_wp2
    go_ret
    exact ⟨⟨_, rfl, own_nil_a _ _ _⟩, D1.out⟩
 | true =>
   have C1 := jz (parts_yes l i n v w hv hl h)
   have hok := edOk_prt h
   have hc : cedF l i n = edF (prtB (bAt l i) n) := by rw [cedF, if_pos h]
   rw [hc]
   have hp : (prtB (bAt l i) n).length <= 2 := by
    unfold prtB
    split <;> simp
   obtain ⟨p, cap, rfl, _⟩ := ra_shape hv
   generalize l.length = L at *
   have HOK := jz hok
   have HQ := jz hp
   clear hv hl h hc hp hok
   generalize prtB (bAt l i) n = P at *
   go_enter Tryz.func149, Tryz.ntmps149
   go_wp2_with fail
   refine (C1.out).mono ?_; rintro e w1 ⟨⟨u1, rfl, o1⟩, b1⟩
   have D1 := jz b1
   have O1 := jz o1
   obtain ⟨g, d, rfl, _, _⟩ := o1.shape
   clear b1 C1 o1
   go_wp2
   go_loopw [7, 9, 15] (fun e x i wr => ∃ k : Nat, k <= P.length /\ i = .int .i64 k /\ Hid (OwnA edE w1.heap.size wr e (edF (P.take k)) /\ Below w1.heap.size w1 wr)) (fun _ _ i _ => P.length - (intOf i).toNat)
   case atStart => exact ⟨0, Nat.zero_le _, rfl, jz ⟨own_nil_a _ _ _, Below.refl _ _⟩⟩
   case round =>
    obtain ⟨k, hk, rfl, H⟩ := hrel
    by_cases hlt : k < P.length
    . obtain ⟨b, off, rfl, hb, hx⟩ := blk_at (ra_below O1.out.ra H.out.2) (by omega)
      obtain ⟨hld, _, _, _, hwf⟩ := hx k hlt
      have hF := edF_take hlt
      have hy : P.getD k default ∈ P := by rw [List.getD_eq_getElem?_getD, List.getElem?_eq_getElem hlt]; exact List.getElem_mem _
      have hY := HOK.out _ hy
      have hlen := edF_length HOK.out k hk
      have hlen2 := edB_length hY.2.2.2
      generalize P.getD k default = y at *
      obtain ⟨a, s, u⟩ := y
      simp only at hY
      obtain ⟨W, hW, HW⟩ := blk_boxed wr ⟨a, s, u⟩
      have c0 : W.cell? ⟨wr.heap.size, 0, none⟩ = some (.int .i64 a) := HW.out.1.c0
      have c1 : W.cell? ⟨wr.heap.size, 1, none⟩ = some (.int .i64 s) := HW.out.1.c1
      have c2 : W.cell? ⟨wr.heap.size, 2, none⟩ = some (.bool u) := HW.out.1.c2
      have C2 := jz (fun w => wordb_is s u w)
      obtain ⟨hd, hhd⟩ : ∃ x, hdB s u = x := ⟨_, rfl⟩
      have hin := hdB_in s u
      rw [hhd] at C2 hin
      have hB1 := below_more H.out.2 HW.out.2
      have hB2 : Below w1.heap.size w1 (W.alloc (.cells (ec ⟨a, hd⟩) 195)).drew := (bal hB1).drew
      have hB3 : Below wr.heap.size wr (W.alloc (.cells (ec ⟨a, hd⟩) 195)).drew := (bal HW.out.2).drew
      have O2 := jz (H.out.1.below hB3)
      have R2 : Hid (RA edE (W.alloc (.cells (ec ⟨a, hd⟩) 195)).drew (.slice (some ⟨W.heap.size, 0, none⟩) 1 1) [⟨a, hd⟩]) := jz (by
       have := (ed_one W (c := ⟨a, hd⟩) (Ed.wf_of (by simp only; omega) (by simp only; omega) hin.1 hin.2)).ra
       exact ra_below this ((Below.refl _ _).drew))
      have V2 := jz (HW.out.1.below ((bal (o := .cells (ec ⟨a, hd⟩) 195) (Below.refl _ _)).drew))
      have L2 : Hid ((edF (P.take k)).length + [(⟨a, hd⟩ : Ed)].length <= 4000) := jz (by simp; have := HQ.out; omega)
      obtain ⟨RR, hRR⟩ : ∃ R, rise (a + 1) (List.replicate (s - 1).toNat 0) = R := ⟨_, rfl⟩
      have L3 : Hid ((edF (P.take k) ++ [(⟨a, hd⟩ : Ed)]).length + RR.length <= 4000) := jz (by rw [<- hRR, List.length_append, rise_length, List.length_replicate]; simp; have := HQ.out; omega)
      have C3 : Hid (∀ w, Calls Tryz.prog 173 #[.agg (bc ⟨a, s, u⟩)] w fun e w' => (∃ x, e = .returned x /\ OwnA edE w.heap.size w' x RR) /\ Below w.heap.size w w') := jz fun w => by rw [<- hRR]; exact noughts_is ⟨a, s, u⟩ w hY.1 hY.2.1 hY.2.2.1 hY.2.2.2
      have HB2 := jz hB2
      have HBW := jz (Nat.le_trans D1.out.size hB2.size)
      have LT : Hid (wr.heap.size < (W.alloc (.cells (ec ⟨a, hd⟩) 195)).drew.heap.size) := jz V2.out.lt
      have HU : Hid ((u = true -> edF (P.take (k + 1)) = edF (P.take k) ++ ⟨a, hd⟩ :: RR) /\ (u = false -> edF (P.take (k + 1)) = edF (P.take k) ++ [⟨a, hd⟩])) := jz ⟨fun e => by
       rw [hF, edB_used _ e]
       simp only
       rw [hhd, hRR], fun e => by
       rw [hF, edB_free _ e]
       simp only
       rw [hhd]⟩
      have i0 : (0 : Int) <= (k : Int) := by omega
      have i1 : (k : Int) < (P.length : Int) := by omega
      have i2 : ¬ (k : Int) < 0 := by omega
      have i3 : IntKind.i64.wrap ((k : Int) + 1) = ((k + 1 : Nat) : Int) := by rw [show (k : Int) + 1 = ((k + 1 : Nat) : Int) by omega]; exact i64_nat _ (by have := HQ.out; omega)
      have HK := jz hlt
      have HY := jz hY
      have WR : Hid (w.heap.size <= wr.heap.size) := jz (Nat.le_trans D1.out.size H.out.2.size)
      clear hx hF hy hY hlen hlen2 hhd hin hB1 hB2 hB3 hwf hk hlt hb HW hRR
      go_wp2_with fail
      go_region_law (first
       | (go_simp; go_at_call 52; refine (C2.out _).mono ?_; rintro e wq ⟨rfl, rfl⟩)
       | (refine step_ed (o := ⟨some 29, _, _, _, _, _⟩) rfl (.tmp 19) (.tmp 28) rfl w1.heap.size _ (edF (P.take k)) (by simp [Act.eval]) O2.out (.slice (some ⟨W.heap.size, 0, none⟩) 1 1) [⟨a, hd⟩] (by simp [Act.eval]) R2.out L2.out HB2.out.size ?_
          intro vb wb ob gb _
          have OB := jz ob
          have GB := jz (below_app HB2.out HB2.out.size O2.out gb)
          have VB : Hid (Bv wb wr.heap.size ⟨a, s, u⟩) := jz ((gb.block _ LT.out (fun e => by have := (H.out.1.lt _ e.symm).2; omega)).trans V2.out)
          clear ob))
      all_goals
       have v2 : wb.cell? ⟨wr.heap.size, 2, none⟩ = some (.bool u) := VB.out.c2
       have hl2 := VB.out.load
       cases u with
       | false =>
         rw [<- HU.out.2 rfl] at OB
         go_wp2
         go_roundw
         case rel => exact ⟨k + 1, by have := HK.out; omega, by go_num, jz ⟨OB.out, GB.out⟩⟩
         case measure => have := HK.out; simp [intOf]; omega
       | true =>
         have hu := HU.out.1 rfl
         have HU2 := jz hu
         clear hu
         go_wp2_with fail
         refine (C3.out _).mono ?_; rintro e wc ⟨⟨uc, rfl, oc⟩, bc'⟩
         have RC := jz oc.ra
         have OC := jz (OB.out.below bc')
         have GC := jz (below_more GB.out bc')
         clear oc bc'
         obtain ⟨pc, cc, rfl, _⟩ := ra_shape RC.out
         obtain ⟨Y, hY⟩ : ∃ Y, RR.length = Y := ⟨_, rfl⟩
         rw [hY] at RC
         rw [hY]
         clear hY
         go_wp2_with (at_builtin; refine app_ed rfl _ _ rfl _ _ _ rfl OC.out _ RR rfl RC.out L3 GC.out.size ?_)
         intro vd wd od gd _
         have HN : Hid (OwnA edE w1.heap.size wd vd (edF (P.take (k + 1))) /\ Below w1.heap.size w1 wd) := jz ⟨by rw [HU2.out]; exact od, below_app GC.out GC.out.size OC.out gd⟩
         clear od gd
         go_wp2
         go_roundw
         case rel => exact ⟨k + 1, by have := HK.out; omega, by go_num, HN⟩
         case measure => have := HK.out; simp [intOf]; omega
    . obtain rfl : k = P.length := by omega
      have hF := H.out.1
      rw [List.take_length] at hF
      have HF := jz hF
      have DD := jz (below_more D1.out H.out.2)
      clear hF
      go_wp2
      go_ret
      exact ⟨⟨_, rfl, HF.out.mono D1.out.size⟩, DD.out⟩

theorem bAt_nat (l : List Bk) (k : Nat) : bAt l (k : Int) = l.getD k default := by rw [bAt, Int.toNat_natCast]
theorem can_at {n : Int} {l : List Bk} (h : mayL n l = true) {k : Nat} (hk : k < l.length) {N : Int} (hN : 2 <= N) : canC l k N = (!(l.getD k default).u && decide (N <= (l.getD k default).s)) := by
 have hm := mayL_mayS h
 have hb := bAt_nat l k
 cases hu : (l.getD k default).u
 . by_cases c : N <= (l.getD k default).s
   . rw [decide_eq_true c]
     exact canC_yes.2 ⟨hm, by omega, by omega, by rw [hb]; exact hu, by rw [hb]; exact fun e => takN_zero.1 e ⟨hN, c⟩⟩
   . rw [decide_eq_false c]
     cases e : canC l k N
     . rfl
     . obtain ⟨_, _, _, _, ht⟩ := canC_yes.1 e
       rw [hb] at ht
       exact absurd (takN_zero.2 (by omega)) ht
 . cases e : canC l k N
   . rfl
   . obtain ⟨_, _, _, hu', _⟩ := canC_yes.1 e
     rw [hb, hu] at hu'
     cases hu'
theorem at_in {n : Int} {l : List Bk} (h : mayL n l = true) {k : Nat} (hk : k < l.length) : MayB (l.getD k default).s /\ 0 <= (l.getD k default).a /\ (l.getD k default).a + (l.getD k default).s <= n :=
 mayF_sizes (mayL_yes.1 h).2 _ (by rw [List.getD_eq_getElem?_getD, List.getElem?_eq_getElem hk]; exact List.getElem_mem hk)
def canM (l : List Bk) (i : Int) : Bool := mayS l && decide (0 <= i /\ i < l.length /\ (bAt l i).u = true)
def frm (l : List Bk) (k : Nat) : Nat := if 0 < k /\ (l.getD (k - 1) default).u = false then k - 1 else k
def too (l : List Bk) (k : Nat) : Nat := if k + 1 < l.length /\ (l.getD (k + 1) default).u = false then k + 2 else k + 1
def midB (l : List Bk) (k : Nat) : List Bk := (l.take (too l k)).drop (frm l k)
def oneB (l : List Bk) (k : Nat) : Bk := ⟨(l.getD (frm l k) default).a, szs (midB l k), false⟩
def mrgF (l : List Bk) (i : Int) : List Bk := if canM l i = true then l.take (frm l i.toNat) ++ (oneB l i.toNat :: l.drop (too l i.toNat)) else []
def medF (l : List Bk) (i : Int) : Ed := if canM l i = true then ⟨(oneB l i.toNat).a, hdB (oneB l i.toNat).s false⟩ else ⟨0, 0⟩
theorem canM_yes {l : List Bk} {i : Int} : canM l i = true ↔ mayS l = true /\ 0 <= i /\ i < l.length /\ (bAt l i).u = true := by simp [canM]
theorem canM_no {l : List Bk} {i : Int} (h : canM l i = false) : mayS l = false \/ i < 0 \/ (l.length : Int) <= i \/ (0 <= i /\ i < l.length /\ (bAt l i).u = false) := by
 by_cases h1 : mayS l = true
 . by_cases h2 : i < 0
   . exact .inr (.inl h2)
   . by_cases h3 : (l.length : Int) <= i
     . exact .inr (.inr (.inl h3))
     . refine .inr (.inr (.inr ⟨by omega, by omega, ?_⟩))
       cases h4 : (bAt l i).u
       . rfl
       . rw [canM_yes.2 ⟨h1, by omega, by omega, h4⟩] at h
         cases h
 . exact .inl (by simpa using h1)
theorem medF_no {l : List Bk} {i : Int} (h : canM l i = false) : medF l i = ⟨0, 0⟩ := by rw [medF, h]; rfl
theorem frm_or (l : List Bk) (k : Nat) : (frm l k = k /\ (k = 0 \/ (l.getD (k - 1) default).u = true)) \/ (0 < k /\ frm l k = k - 1 /\ (l.getD (k - 1) default).u = false) := by
 by_cases c : 0 < k /\ (l.getD (k - 1) default).u = false
 . exact .inr ⟨c.1, by rw [frm, if_pos c], c.2⟩
 . refine .inl ⟨by rw [frm, if_neg c], ?_⟩
   by_cases d : k = 0
   . exact .inl d
   . refine .inr ?_
     cases e : (l.getD (k - 1) default).u
     . exact absurd ⟨by omega, e⟩ c
     . rfl
theorem too_or (l : List Bk) (k : Nat) : (too l k = k + 1 /\ (l.length <= k + 1 \/ (l.getD (k + 1) default).u = true)) \/ (k + 1 < l.length /\ too l k = k + 2 /\ (l.getD (k + 1) default).u = false) := by
 by_cases c : k + 1 < l.length /\ (l.getD (k + 1) default).u = false
 . exact .inr ⟨c.1, by rw [too, if_pos c], c.2⟩
 . refine .inl ⟨by rw [too, if_neg c], ?_⟩
   by_cases d : l.length <= k + 1
   . exact .inl d
   . refine .inr ?_
     cases e : (l.getD (k + 1) default).u
     . exact absurd ⟨by omega, e⟩ c
     . rfl
theorem frm_too {l : List Bk} {k : Nat} (h : k < l.length) : frm l k <= k /\ k < too l k /\ too l k <= l.length /\ k <= frm l k + 1 /\ too l k <= k + 2 := by
 rcases frm_or l k with ⟨e, _⟩ | ⟨_, e, _⟩ <;> rcases too_or l k with ⟨e', _⟩ | ⟨_, e', _⟩ <;> omega
def lastF (f : Bool) : List Bk -> Bool
 | [] => f
 | b :: r => lastF (!b.u) r
theorem lastF_take : ∀ (l : List Bk) (f : Bool) (j : Nat), j < l.length -> lastF f (l.take (j + 1)) = !(l.getD j default).u
 | b :: r, f, 0, _ => by rw [List.take_succ_cons, List.take_zero]; rfl
 | b :: r, f, j + 1, h => by rw [List.take_succ_cons, lastF, lastF_take r _ j (by simpa using h), List.getD_cons_succ]
theorem mayF_flag {n : Int} : ∀ {p q : List Bk} {a : Int} {f : Bool}, mayF n a f (p ++ q) = true -> mayF n (a + szs p) (lastF f p) q = true
 | [], q, a, f, h => by simpa [szs, lastF] using h
 | b :: p, q, a, f, h => by
   obtain ⟨_, _, _, h⟩ := mayF_cons.1 h
   rw [szs, lastF, <- Int.add_assoc]
   exact mayF_flag h
theorem mayF_swap {n : Int} {q' : List Bk} : ∀ {p q : List Bk} {a : Int} {f : Bool}, mayF n a f (p ++ q) = true -> mayF n (a + szs p) (lastF f p) q' = true -> mayF n a f (p ++ q') = true
 | [], q, a, f, _, h => by simpa [szs, lastF] using h
 | b :: p, q, a, f, h, h' => by
   obtain ⟨h1, h2, h3, h⟩ := mayF_cons.1 h
   rw [szs, lastF, <- Int.add_assoc] at h'
   exact mayF_cons.2 ⟨h1, h2, h3, mayF_swap h h'⟩
theorem mid_split {l : List Bk} {k : Nat} (h : k < l.length) : l = l.take (frm l k) ++ (midB l k ++ l.drop (too l k)) := by
 obtain ⟨h1, h2, h3, _⟩ := frm_too h
 have e : l.take (frm l k) = (l.take (too l k)).take (frm l k) := by rw [List.take_take, Nat.min_eq_left (by omega)]
 rw [midB, e, <- List.append_assoc, List.take_append_drop, List.take_append_drop]
theorem mid_is {l : List Bk} {k : Nat} (h : k < l.length) : midB l k = (if frm l k = k then [] else [l.getD (k - 1) default]) ++ (l.getD k default :: (if too l k = k + 1 then [] else [l.getD (k + 1) default])) := by
 have t1 : ∀ j, j < too l k -> j < l.length := fun j hj => by have := frm_too h; omega
 rw [midB, List.drop_take]
 rcases frm_or l k with ⟨e, _⟩ | ⟨e0, e, _⟩ <;> rcases too_or l k with ⟨e', _⟩ | ⟨e0', e', _⟩ <;> rw [e, e']
 . rw [if_pos rfl, if_pos rfl, show k + 1 - k = 1 by omega, getD_cut h]
   rfl
 . rw [if_pos rfl, if_neg (by omega), show k + 2 - k = 2 by omega, getD_cut h, getD_cut e0']
   rfl
 . rw [if_neg (by omega), if_pos rfl, show k + 1 - (k - 1) = 2 by omega, getD_cut (l := l) (k := k - 1) (by omega), show k - 1 + 1 = k by omega, getD_cut h]
   rfl
 . rw [if_neg (by omega), if_neg (by omega), show k + 2 - (k - 1) = 3 by omega, getD_cut (l := l) (k := k - 1) (by omega), show k - 1 + 1 = k by omega, getD_cut h, getD_cut e0']
   rfl
theorem mid_cons {l : List Bk} {k : Nat} (h : k < l.length) : ∃ r, midB l k = l.getD (frm l k) default :: r := by
 rw [mid_is h]
 rcases frm_or l k with ⟨e, _⟩ | ⟨e0, e, _⟩
 . rw [if_pos e, e]; exact ⟨_, rfl⟩
 . rw [if_neg (by omega), e]; exact ⟨_, rfl⟩
theorem mid_in {l : List Bk} {k : Nat} (h : k < l.length) : ∀ b ∈ midB l k, b ∈ l := fun b hb => by
 rw [mid_split h]
 exact List.mem_append.2 (.inr (List.mem_append.2 (.inl hb)))
theorem one_ok {n : Int} {l : List Bk} {k : Nat} (h : mayF n 0 false l = true) (hn : n <= 512) (hk : k < l.length) (hu : (l.getD k default).u = true) :
 mayF n (szs (l.take (frm l k))) (lastF false (l.take (frm l k))) (oneB l k :: l.drop (too l k)) = true /\ (oneB l k).a = szs (l.take (frm l k)) := by
 have hs := h
 rw [mid_split hk] at hs
 have h1 := mayF_flag hs
 rw [Int.zero_add] at h1
 obtain ⟨r, hr⟩ := mid_cons hk
 have h3 := mayF_app h1
 rw [hr, List.cons_append] at h1
 obtain ⟨a1, a2, a3, a4⟩ := mayF_cons.1 h1
 obtain ⟨g, h3, h4⟩ := h3
 have he := mayF_end h3
 have h5 := (mayF_app a4)
 obtain ⟨_, h5, h6⟩ := h5
 have hz : szs (midB l k) = (l.getD (frm l k) default).s + szs r := by rw [hr, szs]
 have hp : 0 <= szs (l.take (frm l k)) := (mayF_app hs).elim fun _ x => x.2
 have ho : (oneB l k).a = szs (l.take (frm l k)) := a1
 refine ⟨mayF_cons.2 ⟨ho, ?_, ?_, ?_⟩, ho⟩
 . obtain ⟨b1, b2⟩ := a2
   show MayB (szs (midB l k))
   exact ⟨by omega, by omega⟩
 . rintro ⟨c1, _⟩
   rcases frm_or l k with ⟨e, c⟩ | ⟨e0, e, c⟩
   . rw [e] at c1
     rcases c with c | c
     . subst c
       cases c1
     . obtain ⟨j, rfl⟩ : ∃ j, k = j + 1 := by
        cases k with
        | zero => cases c1
        | succ j => exact ⟨j, rfl⟩
       rw [lastF_take l _ j (by omega)] at c1
       rw [Nat.add_sub_cancel] at c
       rw [c] at c1
       cases c1
   . rw [e] at a3 c1
     exact a3 ⟨c1, c⟩
 . show mayF n (szs (l.take (frm l k)) + szs (midB l k)) true (l.drop (too l k)) = true
   have hs2 := h
   rw [<- List.take_append_drop (too l k) l] at hs2
   have h7 := mayF_flag hs2
   have e2 : szs (l.take (too l k)) = szs (l.take (frm l k)) + szs (midB l k) := by
    have := frm_too hk
    have e : l.take (frm l k) = (l.take (too l k)).take (frm l k) := by rw [List.take_take, Nat.min_eq_left (by omega)]
    rw [midB, e, <- szs_app, List.take_append_drop]
   rw [Int.zero_add, e2] at h7
   rcases too_or l k with ⟨e, c⟩ | ⟨e0, e, c⟩
   . rcases c with c | c
     . rw [e, List.drop_eq_nil_of_le (by omega)] at h7 ⊢
       exact mayF_nil.2 (mayF_nil.1 h7)
     . by_cases d : l.length <= k + 1
       . rw [e, List.drop_eq_nil_of_le d] at h7 ⊢
         exact mayF_nil.2 (mayF_nil.1 h7)
       . rw [e] at h7 ⊢
         rw [getD_cut (by omega)] at h7 ⊢
         obtain ⟨d1, d2, d3, d4⟩ := mayF_cons.1 h7
         exact mayF_cons.2 ⟨d1, d2, (fun q => by rw [c] at q; cases q.2), d4⟩
   . rw [e] at h7 ⊢
     rw [lastF_take l _ (k + 1) e0, c] at h7
     exact h7
theorem mrgF_yes {l : List Bk} {k : Nat} (h : canM l k = true) : mrgF l k = l.take (frm l k) ++ (oneB l k :: l.drop (too l k)) := by rw [mrgF, if_pos h, Int.toNat_natCast]
theorem medF_yes {l : List Bk} {k : Nat} (h : canM l k = true) : medF l k = ⟨(oneB l k).a, hdB (oneB l k).s false⟩ := by rw [medF, if_pos h, Int.toNat_natCast]
theorem canM_nat {l : List Bk} {k : Nat} (h : canM l k = true) : mayS l = true /\ k < l.length /\ (l.getD k default).u = true := by
 obtain ⟨h1, _, h3, h4⟩ := canM_yes.1 h
 rw [bAt_nat] at h4
 exact ⟨h1, by omega, h4⟩
theorem canM_at {n : Int} {l : List Bk} (h : mayL n l = true) {k : Nat} (hk : k < l.length) : canM l k = (l.getD k default).u := by
 have hm := mayL_mayS h
 unfold canM
 rw [hm, Bool.true_and, bAt_nat]
 cases hu : (l.getD k default).u
 . exact decide_eq_false fun q => by cases q.2.2
 . exact decide_eq_true ⟨by omega, by omega, rfl⟩
theorem mayL_mrg {n : Int} {l : List Bk} {k : Nat} (h : mayL n l = true) (hc : canM l k = true) : mayL n (mrgF l k) = true := by
 obtain ⟨_, hk, hu⟩ := canM_nat hc
 obtain ⟨hm, hf⟩ := mayL_yes.1 h
 obtain ⟨h1, _⟩ := one_ok hf hm.2.1 hk hu
 have hs := hf
 rw [mid_split hk] at hs
 rw [mrgF_yes hc]
 exact mayL_yes.2 ⟨hm, mayF_swap hs (by rw [Int.zero_add]; exact h1)⟩
theorem one_in {n : Int} {l : List Bk} {k : Nat} (h : mayL n l = true) (hc : canM l k = true) : MayB (oneB l k).s /\ 0 <= (oneB l k).a /\ (oneB l k).a + (oneB l k).s <= n :=
 mayF_sizes (mayL_yes.1 (mayL_mrg h hc)).2 _ (by rw [mrgF_yes hc]; simp)
def isF (o : Int) : Nat -> List Bk -> Option Nat
 | _, [] => none
 | k, b :: r => if b.u = true /\ offB b.a = o then some k else isF o (k + 1) r
def isN (o : Int) (l : List Bk) : Option Nat := isF o 0 l
theorem isF_some {o : Int} : ∀ {l : List Bk} {k j : Nat}, isF o k l = some j -> k <= j /\ j - k < l.length /\ (l.getD (j - k) default).u = true /\ offB (l.getD (j - k) default).a = o
 | [], _, _, h => by cases h
 | b :: r, k, j, h => by
   rw [isF] at h
   split at h
   . rename_i hb
     cases h
     simpa using hb
   . obtain ⟨h1, h2, h3, h4⟩ := isF_some h
     refine ⟨by omega, by rw [List.length_cons]; omega, ?_⟩
     rw [show j - k = (j - (k + 1)) + 1 by omega, List.getD_cons_succ]
     exact ⟨h3, h4⟩
theorem isN_some {o : Int} {l : List Bk} {j : Nat} (h : isN o l = some j) : j < l.length /\ (l.getD j default).u = true /\ offB (l.getD j default).a = o := by
 obtain ⟨_, h1, h2, h3⟩ := isF_some h
 rw [Nat.sub_zero] at h1 h2 h3
 exact ⟨h1, h2, h3⟩
theorem isF_none {o : Int} : ∀ {l : List Bk} {k : Nat}, isF o k l = none -> ∀ b ∈ l, ¬ (b.u = true /\ offB b.a = o)
 | [], _, _, b, hb => by cases hb
 | c :: r, k, h, b, hb => by
   rw [isF] at h
   split at h
   . cases h
   . rename_i hc
     rcases List.mem_cons.1 hb with rfl | hb
     . exact hc
     . exact isF_none h b hb
theorem isN_none {o : Int} {l : List Bk} (h : isN o l = none) : ∀ b ∈ l, ¬ (b.u = true /\ offB b.a = o) := isF_none h
theorem mayF_apart {n : Int} : ∀ {l : List Bk} {a : Int} {f : Bool}, mayF n a f l = true -> ∀ i j, i < j -> j < l.length -> (l.getD i default).a + (l.getD i default).s <= (l.getD j default).a
 | [], _, _, _, i, j, _, hj => by simp at hj
 | b :: r, a, f, h, 0, j + 1, _, hj => by
   obtain ⟨h1, h2, _, h4⟩ := mayF_cons.1 h
   rw [List.getD_cons_zero, List.getD_cons_succ]
   have := (mayF_sizes h4 _ (getD_mem (l := r) (k := j) (by simpa using hj))).2.1
   omega
 | b :: r, a, f, h, i + 1, j + 1, hij, hj => by
   obtain ⟨_, _, _, h4⟩ := mayF_cons.1 h
   rw [List.getD_cons_succ, List.getD_cons_succ]
   exact mayF_apart h4 i j (by omega) (by simpa using hj)
theorem apart_a {n : Int} {l : List Bk} (h : mayL n l = true) {i j : Nat} (hi : i < l.length) (hj : j < l.length) (e : (l.getD i default).a = (l.getD j default).a) : i = j := by
 have hf := (mayL_yes.1 h).2
 have := (at_in h hi).1.1
 have := (at_in h hj).1.1
 rcases Nat.lt_trichotomy i j with c | c | c
 . have := mayF_apart hf i j c hj
   omega
 . exact c
 . have := mayF_apart hf j i c hi
   omega
theorem offB_at {a : Int} (h0 : 0 <= a) (h1 : a <= 512) : offB a = (a + 1) * 8 := if_pos ⟨h0, h1⟩
theorem isN_at {n : Int} {l : List Bk} (h : mayL n l = true) {k : Nat} (hk : k < l.length) (hu : (l.getD k default).u = true) : isN (offB (l.getD k default).a) l = some k := by
 have hn := (mayL_yes.1 h).1.2.1
 cases e : isN (offB (l.getD k default).a) l with
 | none => exact absurd ⟨hu, rfl⟩ (isN_none e _ (getD_mem hk))
 | some j =>
   obtain ⟨h1, h2, h3⟩ := isN_some e
   obtain ⟨⟨a1, _⟩, a2, a3⟩ := at_in h hk
   obtain ⟨⟨b1, _⟩, b2, b3⟩ := at_in h h1
   rw [offB_at a2 (by omega), offB_at b2 (by omega)] at h3
   rw [apart_a h h1 hk (by omega)]
def inW (o n : Int) (b : Bk) : Bool := b.u && decide (offB b.a <= o /\ o <= (b.a + b.s) * 8 - n)
def inL (o n : Int) (l : List Bk) : Bool := decide (0 <= n /\ n <= 448) && l.any (inW o n)
theorem inW_yes {o n : Int} {b : Bk} : inW o n b = true ↔ b.u = true /\ offB b.a <= o /\ o <= (b.a + b.s) * 8 - n := by simp [inW]
theorem inL_yes {o n : Int} {l : List Bk} : inL o n l = true ↔ (0 <= n /\ n <= 448) /\ ∃ b ∈ l, b.u = true /\ offB b.a <= o /\ o <= (b.a + b.s) * 8 - n := by
 simp only [inL, Bool.and_eq_true, decide_eq_true_eq, List.any_eq_true, inW_yes]
theorem inL_no {o n : Int} {l : List Bk} (h : ∀ b ∈ l, b.u = true -> ¬ (offB b.a <= o /\ o <= (b.a + b.s) * 8 - n)) : inL o n l = false := by
 rw [Bool.eq_false_iff, Ne, inL_yes]
 rintro ⟨_, b, hb, hu, h1⟩
 exact h b hb hu h1
def refF (wl : List Int) (o n : Int) : Int := match blkF wl with
 | none => 6
 | some l => if inL o n l = true then 0 else 1
def alR (wl : List Int) (n : Int) (cs : List Int) : List Ed × Int × Int :=
 if needN n = 0 then ([], 0, 1) else match blkF wl with
 | none => ([], 0, 6)
 | some l => match chN (needN n) cs l with
   | none => ([], 0, 4)
   | some d => (cedF l d (needN n), offB (atL l d), 0)
def frR (wl : List Int) (o : Int) : List Ed × Int := match blkF wl with
 | none => ([], 6)
 | some l => match isN o l with
   | none => ([], 1)
   | some k => ([medF l k], 0)
theorem refF_cases (wl : List Int) (o n : Int) : refF wl o n = 0 \/ refF wl o n = 1 \/ refF wl o n = 6 := by
 unfold refF
 split
 . exact .inr (.inr rfl)
 . split
   . exact .inl rfl
   . exact .inr (.inl rfl)
theorem blkF_some {wl : List Int} {l : List Bk} (h : blkF wl = some l) : mayL wl.length l = true := by
 unfold blkF at h
 cases hr : rdF wl wl.length 0 with
 | none => rw [hr] at h; cases h
 | some m =>
   rw [hr, Option.bind_some] at h
   split at h
   . rename_i hm
     cases h
     exact hm
   . cases h
theorem blkF_len {wl : List Int} {l : List Bk} (h : blkF wl = some l) : l.length <= 256 /\ wl.length <= 512 := by
 obtain ⟨hm, hf⟩ := mayL_yes.1 (blkF_some h)
 obtain ⟨_, h2, _⟩ := hm
 have := mayF_end hf
 omega
theorem chN_can {n : Int} {cs : List Int} {l : List Bk} {m : Int} (hm : mayL m l = true) {d : Nat} (h : chN n cs l = some d) (hn : 2 <= n) : d < l.length /\ canC l d n = true /\ (l.getD d default).u = false /\ n <= (l.getD d default).s /\ d ∈ fitN n l := by
 have hd : d ∈ fitN n l := by
  by_cases hf : fitN n l = []
  . rw [chN_none hf] at h; cases h
  . obtain ⟨e, he, hd, _⟩ := chN_some (cs := cs) hf
    rw [he] at h
    cases h
    exact hd
 obtain ⟨h1, h2, _⟩ := fitN_mem hd
 obtain ⟨hu, h3, h4⟩ := fitB_iff.1 h2
 refine ⟨h1, ?_, hu, h4, hd⟩
 rw [can_at hm h1 hn, hu, decide_eq_true h4]
 rfl
theorem isN_can {wl : List Int} {l : List Bk} (h : blkF wl = some l) {o : Int} {k : Nat} (hk : isN o l = some k) : canM l k = true := by
 obtain ⟨h1, h2, _⟩ := isN_some hk
 rw [canM_at (blkF_some h) h1, h2]
theorem canM_neg (l : List Bk) : canM l (-1) = false := by
 rw [Bool.eq_false_iff, Ne, canM_yes]
 omega
theorem made_own_i (w : World) (n : Nat) (hn : n <= maxLen) : OwnI w.heap.size (w.alloc (.cells (madeCells #[.int .i64 0] n) 3)) (.slice (some ⟨w.heap.size, 0, none⟩) n n) (List.replicate n 0) := by
 have e : (madeCells #[.int .i64 0] n).toList = (List.replicate n 0).map iv := by rw [toList_madeCells_one]; simp [iv]
 refine ⟨by simp, .inr ⟨w.heap.size, n, madeCells #[.int .i64 0] n, by simp, Nat.le_refl _, heap_alloc_new w _, by simp, hn, by rw [<- Array.length_toList, e]; simp, by rw [e]; simp⟩⟩
theorem own_stored_i {B g c : Nat} {w : World} {n : Nat} {l : List Int} (h : OwnI B w (.slice (some ⟨g, 0, none⟩) n c) l) (j : Nat) (x : Int) : OwnI B (w.setCell ⟨g, j, none⟩ (.int .i64 x)) (.slice (some ⟨g, 0, none⟩) n c) (l.set j x) := by
 have hn : n = l.length := by
  obtain ⟨p, c', e⟩ := h.shape
  cases e; rfl
 subst hn
 have := World.ownsRow.stored (g := g) (cap := c) h j (iv x)
 unfold OwnI
 rw [List.length_set, List.map_set]
 exact this.1
theorem own_cell_i {B : Nat} {w : World} {g n c : Nat} {l : List Int} (h : OwnI B w (.slice (some ⟨g, 0, none⟩) n c) l) {j : Nat} (hj : j < l.length) : w.cell? ⟨g, j, none⟩ = some (.int .i64 (l.getD j 0)) /\ w.frozen? ⟨g, j, none⟩ = false := by
 have hn : n = l.length := by
  obtain ⟨p, c', e⟩ := h.shape
  cases e; rfl
 subst hn
 refine ⟨?_, World.ownsRow.frozenAt (g := g) (cap := c) h j⟩
 rw [World.ownsRow.cellAt (g := g) (cap := c) h j (by omega)]
 simp [hj, iv]
theorem own_below_i {B : Nat} {w w' : World} {v : Value} {l : List Int} (h : OwnI B w v l) (hb : Below w.heap.size w w') : OwnI B w' v l := by
 refine ⟨h.1, h.2.imp id ?_⟩
 rintro ⟨g, cap, cur, hv, h1, hg, r⟩
 exact ⟨g, cap, cur, hv, h1, (hb.block g (Array.getElem?_eq_some_iff.1 hg).1).trans hg, r⟩
def byF (n : Nat) (f : Nat -> Int) : List Int := (List.range n).map f
theorem byF_length (n : Nat) (f : Nat -> Int) : (byF n f).length = n := by simp [byF]
theorem byF_getD {n k : Nat} (f : Nat -> Int) (h : k < n) : (byF n f).getD k 0 = f k := by simp [byF, h]
theorem byF_zero (n : Nat) {f : Nat -> Int} (h : ∀ k, f k = 0) : List.replicate n 0 = byF n f := by
 refine List.ext_getElem (by simp [byF]) fun i h1 h2 => ?_
 simp [byF, h]
theorem byF_set {n s : Nat} {f f' : Nat -> Int} {x : Int} (h : x = f' s) (ho : ∀ k, k ≠ s -> f' k = f k) : (byF n f).set s x = byF n f' := by
 refine List.ext_getElem (by simp [byF]) fun i h1 h2 => ?_
 rw [List.getElem_set]
 split
 . rename_i e; subst e; simp [byF, h]
 . rename_i e; simp [byF, ho i (fun q => e q.symm)]
theorem appF_ok : ∀ (e : List Ed) (w : List Int), (∀ x ∈ e, 0 <= x.v /\ x.v <= 18446744073709551615) -> WordsOk w -> WordsOk (appF w e)
 | [], _, _, h => h
 | x :: r, w, he, h => by
   rw [appF]
   refine appF_ok r _ (fun y hy => he y (List.mem_cons_of_mem _ hy)) ?_
   split
   . exact set_ok h (he x (List.mem_cons_self ..)).1 (he x (List.mem_cons_self ..)).2
   . exact h
theorem rise_mem : ∀ (vs : List Int) (a : Int), ∀ x ∈ rise a vs, x.v ∈ vs
 | [], _, x, h => by cases h
 | v :: r, a, x, h => by
   rw [rise] at h
   rcases List.mem_cons.1 h with rfl | h
   . exact List.mem_cons_self ..
   . exact List.mem_cons_of_mem _ (rise_mem r _ x h)
theorem takV_in (b : Bk) (n : Int) : ∀ v ∈ takV b n, 0 <= v /\ v <= 18446744073709551615 := fun v hv => by
 rw [takV] at hv
 rcases List.mem_cons.1 hv with rfl | hv
 . exact hdB_in _ _
 . rcases List.mem_append.1 hv with hv | hv
   . rw [(List.mem_replicate.1 hv).2]; decide
   . split at hv
     . cases hv
     . rw [List.mem_singleton.1 hv]; exact hdB_in _ _
theorem mayF_behind {n a : Int} {f : Bool} {p r : List Bk} {b : Bk} (h : mayF n a f (p ++ b :: r) = true) : ∀ c ∈ r, b.a + b.s <= c.a := fun c hc => by
 obtain ⟨g, h, _⟩ := mayF_app h
 obtain ⟨h1, _, _, h⟩ := mayF_cons.1 h
 have := (mayF_sizes h c hc).2.1
 omega
theorem mayF_ahead {n a : Int} {f : Bool} {p r : List Bk} {b : Bk} (h : mayF n a f (p ++ b :: r) = true) : ∀ c ∈ p, c.a + c.s <= b.a := fun c hc => by
 obtain ⟨p1, p2, rfl⟩ := List.append_of_mem hc
 rw [List.append_assoc, List.cons_append] at h
 exact mayF_behind h b (List.mem_append.2 (.inr (List.mem_cons_self ..)))
def bt (x : Int) (k : Nat) : Int := x / 256 ^ k % 256
def sb (x : Int) (k : Nat) (c : Int) : Int := x + (c - bt x k) * 256 ^ k
def Wd (x : Int) : Prop := 0 <= x /\ x < 18446744073709551616
def By (x : Int) : Prop := 0 <= x /\ x < 256
theorem bt_by (x : Int) (k : Nat) : By (bt x k) := by unfold By bt; omega
theorem pw_pos (k : Nat) : (0 : Int) < 256 ^ k := Int.pow_pos (by decide)
theorem bt_sb {x c : Int} {k : Nat} (hc : By c) (j : Nat) : bt (sb x k c) j = if j = k then c else bt x j := by
 have hp := pw_pos k
 obtain ⟨c0, c1⟩ := hc
 have hq : sb x k c / 256 ^ k = x / 256 ^ k + (c - bt x k) := by unfold sb; exact Int.add_mul_ediv_right _ _ (by omega)
 split
 . rename_i e
   subst e
   rw [bt, hq, bt]; omega
 . rename_i hne
   rcases Nat.lt_or_gt_of_ne hne with h | h
   . obtain ⟨d, rfl⟩ : ∃ d, k = j + 1 + d := ⟨k - j - 1, by omega⟩
     have hj := pw_pos j
     unfold sb
     generalize c - bt x (j + 1 + d) = M
     have e : M * (256 : Int) ^ (j + 1 + d) = (M * 256 ^ d * 256) * 256 ^ j := by
      rw [Int.pow_add, Int.pow_succ]
      ac_rfl
     rw [e, bt, Int.add_mul_ediv_right _ _ (by omega), bt]
     generalize M * 256 ^ d = K
     omega
   . obtain ⟨d, rfl⟩ : ∃ d, j = k + 1 + d := ⟨j - k - 1, by omega⟩
     have e : ∀ y : Int, y / 256 ^ (k + 1 + d) = y / 256 ^ k / 256 / 256 ^ d := fun y => by
      rw [Int.pow_add, Int.pow_succ, <- Int.ediv_ediv_of_nonneg (by omega), <- Int.ediv_ediv_of_nonneg (by omega)]
     rw [bt, bt, e, e, hq]
     have : (x / 256 ^ k + (c - bt x k)) / 256 = x / 256 ^ k / 256 := by unfold bt; omega
     rw [this]
theorem pw8 : (256 : Int) ^ 8 = 18446744073709551616 := by decide
theorem sb_wd {x c : Int} {k : Nat} (hx : Wd x) (hc : By c) (hk : k < 8) : Wd (sb x k c) := by
 obtain ⟨c0, c1⟩ := hc
 obtain ⟨x0, x1⟩ := hx
 rcases (by omega : k = 0 \/ k = 1 \/ k = 2 \/ k = 3 \/ k = 4 \/ k = 5 \/ k = 6 \/ k = 7) with rfl | rfl | rfl | rfl | rfl | rfl | rfl | rfl
 all_goals
  simp only [sb, bt, Wd, Int.reducePow]
  omega
theorem bt_mod : ∀ (k : Nat) {x y : Int}, (∀ j, j < k -> bt x j = bt y j) -> x % 256 ^ k = y % 256 ^ k
 | 0, x, y, _ => by simp [Int.emod_one]
 | k + 1, x, y, h => by
   have ih := bt_mod k (fun j hj => h j (by omega))
   have e : ∀ z : Int, z % 256 ^ (k + 1) = 256 ^ k * bt z k + z % 256 ^ k := fun z => by
    have hp := pw_pos k
    have a := Int.mul_ediv_add_emod z (256 ^ k)
    have b := Int.mul_ediv_add_emod (z / 256 ^ k) 256
    have r0 := Int.emod_nonneg z (show (256 : Int) ^ k ≠ 0 by omega)
    have r1 := Int.emod_lt_of_pos z hp
    have s0 : 0 <= bt z k := (bt_by z k).1
    have s1 : bt z k <= 255 := by have := (bt_by z k).2; omega
    have m0 := Int.mul_nonneg (Int.le_of_lt hp) s0
    have m1 : (256 : Int) ^ k * bt z k <= 256 ^ k * 255 := Int.mul_le_mul_of_nonneg_left s1 (Int.le_of_lt hp)
    have ez : z = (256 ^ k * bt z k + z % 256 ^ k) + 256 ^ (k + 1) * (z / 256 ^ k / 256) := by
     rw [Int.pow_succ, Int.mul_assoc]
     unfold bt
     rw [Int.add_right_comm, <- Int.mul_add, Int.add_comm (z / 256 ^ k % 256), b, a]
    have := Int.add_mul_emod_self_left (256 ^ k * bt z k + z % 256 ^ k) (256 ^ (k + 1)) (z / 256 ^ k / 256)
    rw [<- ez] at this
    rw [this]
    refine Int.emod_eq_of_lt (by omega) ?_
    rw [Int.pow_succ]; omega
   rw [e, e, ih, h k (by omega)]
theorem wd_ext {x y : Int} (hx : Wd x) (hy : Wd y) (h : ∀ k, k < 8 -> bt x k = bt y k) : x = y := by
 have := bt_mod 8 h
 rw [pw8, Int.emod_eq_of_lt hx.1 hx.2, Int.emod_eq_of_lt hy.1 hy.2] at this
 exact this
def bAt_ (w : List Int) (p : Nat) : Int := bt (w.getD (p / 8) 0) (p % 8)
def rdB (w : List Int) : Nat -> Nat -> List Int
 | _, 0 => []
 | o, n + 1 => bAt_ w o :: rdB w (o + 1) n
theorem rdB_length (w : List Int) : ∀ (n o : Nat), (rdB w o n).length = n
 | 0, _ => rfl
 | n + 1, o => by rw [rdB, List.length_cons, rdB_length w n]
theorem rdB_app (w : List Int) : ∀ (n m o : Nat), rdB w o (n + m) = rdB w o n ++ rdB w (o + n) m
 | 0, m, o => by simp [rdB]
 | n + 1, m, o => by rw [Nat.add_right_comm, rdB, rdB, rdB_app w n m, List.cons_append, show o + 1 + n = o + (n + 1) by omega]
theorem rdB_snoc (w : List Int) (n o : Nat) : rdB w o (n + 1) = rdB w o n ++ [bAt_ w (o + n)] := by rw [rdB_app]; rfl
theorem rdB_getD (w : List Int) : ∀ (n o k : Nat), k < n -> (rdB w o n).getD k 0 = bAt_ w (o + k)
 | n + 1, o, 0, _ => rfl
 | n + 1, o, k + 1, h => by rw [rdB, List.getD_cons_succ, rdB_getD w n (o + 1) k (by omega), show o + 1 + k = o + (k + 1) by omega]
structure Pc where
 w : Nat
 f : Nat
 n : Nat
instance : Inhabited Pc := ⟨⟨0, 0, 0⟩⟩
def pcK (o n : Nat) : Nat := min (8 - o % 8) n
def pcs (o n : Nat) : List Pc := if n = 0 then [] else ⟨o / 8, o % 8, pcK o n⟩ :: pcs (o + pcK o n) (n - pcK o n)
termination_by n
decreasing_by unfold pcK; omega
theorem pcs_zero (o : Nat) : pcs o 0 = [] := by rw [pcs, if_pos rfl]
theorem pcs_more {o n : Nat} (h : n ≠ 0) : pcs o n = ⟨o / 8, o % 8, pcK o n⟩ :: pcs (o + pcK o n) (n - pcK o n) := by rw [pcs, if_neg h]
def cnt (o n : Nat) : Nat := if n = 0 then 0 else (o + n - 1) / 8 - o / 8 + 1
theorem pcs_length : ∀ (n o : Nat), (pcs o n).length = cnt o n := by
 intro n
 induction n using Nat.strongRecOn with
 | ind n ih =>
   intro o
   by_cases h : n = 0
   . subst h; rw [pcs_zero, cnt, if_pos rfl]; rfl
   . have hk : pcK o n = min (8 - o % 8) n := rfl
     rw [pcs_more h, List.length_cons, ih _ (by omega)]
     unfold cnt
     by_cases h1 : n - pcK o n = 0
     . rw [if_pos h1, if_neg h]; omega
     . rw [if_neg h1, if_neg h]; omega
theorem pcs_step {o n k a m : Nat} (h : (pcs o n).drop k = pcs a m) (hk : k < (pcs o n).length) : m ≠ 0 /\ (pcs o n).getD k default = ⟨a / 8, a % 8, pcK a m⟩ /\ (pcs o n).drop (k + 1) = pcs (a + pcK a m) (m - pcK a m) := by
 have hm : m ≠ 0 := by
  rintro rfl
  rw [pcs_zero] at h
  have := congrArg List.length h
  rw [List.length_drop] at this
  simp at this; omega
 rw [pcs_more hm] at h
 refine ⟨hm, ?_, ?_⟩
 . have := congrArg (·.getD 0 default) h
   simpa [List.getD_eq_getElem?_getD] using this
 . have := congrArg (·.drop 1) h
   simpa [List.drop_drop] using this
theorem pcK_le {a m : Nat} (h : m ≠ 0) : 1 <= pcK a m /\ pcK a m <= m /\ a % 8 + pcK a m <= 8 /\ (pcK a m = m \/ (a + pcK a m) % 8 = 0) := by unfold pcK; omega
def tgt (w : List Int) (o n : Nat) (c : Nat -> Int) (p : Nat) : Int := if o <= p /\ p < o + n then c (p - o) else bAt_ w p
structure IsE (w : List Int) (o n : Nat) (c : Nat -> Int) (L : List Ed) : Prop where
 len : L.length = cnt o n
 at_ : ∀ j, j < L.length -> (L.getD j default).w = ((o / 8 + j : Nat) : Int) /\ Wd (L.getD j default).v /\ ∀ k, k < 8 -> bt (L.getD j default).v k = tgt w o n c (8 * (o / 8 + j) + k)
theorem IsE.one {w : List Int} {o n : Nat} {c c' : Nat -> Int} {L L' : List Ed} (h : IsE w o n c L) (h' : IsE w o n c' L') (hc : ∀ k, k < n -> c k = c' k) : L = L' := by
 refine List.ext_getElem (h.len.trans h'.len.symm) fun j h1 h2 => ?_
 obtain ⟨a1, a2, a3⟩ := h.at_ j h1
 obtain ⟨b1, b2, b3⟩ := h'.at_ j h2
 have e1 : L.getD j default = L[j] := by simp [h1]
 have e2 : L'.getD j default = L'[j] := by simp [h2]
 rw [e1] at a1 a2 a3
 rw [e2] at b1 b2 b3
 have hw : L[j].w = L'[j].w := a1.trans b1.symm
 have hv : L[j].v = L'[j].v := wd_ext a2 b2 fun k hk => by
  rw [a3 k hk, b3 k hk]
  unfold tgt
  split
  . exact hc _ (by omega)
  . rfl
 cases hx : L[j]; cases hy : L'[j]
 rw [hx, hy] at hw hv
 simp only at hw hv
 rw [hw, hv]
theorem IsE.none (w : List Int) (o : Nat) (c : Nat -> Int) : IsE w o 0 c [] := ⟨by simp [cnt], fun j h => by simp at h⟩
theorem getD_snoc {L : List Ed} {e : Ed} (j : Nat) : (L ++ [e]).getD j default = if j = L.length then e else L.getD j default := by
 rw [List.getD_eq_getElem?_getD, List.getD_eq_getElem?_getD, List.getElem?_append]
 split
 . rw [if_neg (by omega)]
 . split
   . rename_i h; subst h; simp
   . rw [List.getElem?_eq_none (l := [e]) (by simp; omega), List.getElem?_eq_none (l := L) (by omega)]
theorem IsE.more {w : List Int} {o n k : Nat} {c : Nat -> Int} {L : List Ed} {v : Int} (h : IsE w o n c L) (h0 : n = 0 \/ (o + n) % 8 = 0) (h1 : 1 <= k) (h2 : (o + n) % 8 + k <= 8) (hv : Wd v)
 (hb : ∀ j, j < 8 -> bt v j = if (o + n) % 8 <= j /\ j < (o + n) % 8 + k then c (n + j - (o + n) % 8) else bt (w.getD ((o + n) / 8) 0) j) : IsE w o (n + k) c (L ++ [⟨(((o + n) / 8 : Nat) : Int), v⟩]) := by
 have hl := h.len
 have hq : o / 8 + L.length = (o + n) / 8 := by rw [hl]; unfold cnt; split <;> omega
 refine ⟨by rw [List.length_append, List.length_singleton, hl]; unfold cnt; rw [if_neg (show n + k ≠ 0 by omega)]; split <;> omega, fun j hj => ?_⟩
 rw [List.length_append, List.length_singleton] at hj
 rw [getD_snoc]
 by_cases hjl : j = L.length
 . rw [if_pos hjl]
   subst hjl
   rw [hq]
   refine ⟨rfl, hv, fun i hi => ?_⟩
   rw [hb i hi]
   unfold tgt bAt_
   have e1 : (8 * ((o + n) / 8) + i) / 8 = (o + n) / 8 := by omega
   have e2 : (8 * ((o + n) / 8) + i) % 8 = i := by omega
   rw [e1, e2]
   by_cases hin : (o + n) % 8 <= i /\ i < (o + n) % 8 + k
   . rw [if_pos hin, if_pos (by omega)]
     congr 1; omega
   . rw [if_neg hin, if_neg (by omega)]
 . rw [if_neg hjl]
   obtain ⟨a1, a2, a3⟩ := h.at_ j (by omega)
   refine ⟨a1, a2, fun i hi => ?_⟩
   rw [a3 i hi]
   unfold tgt
   have : o / 8 + j < (o + n) / 8 := by omega
   by_cases hin : o <= 8 * (o / 8 + j) + i /\ 8 * (o / 8 + j) + i < o + n
   . rw [if_pos hin, if_pos (by omega)]
   . rw [if_neg hin, if_neg (by omega)]
def puB : Int -> Nat -> List Int -> Int
 | x, _, [] => x
 | x, f, c :: r => puB (sb x f c) (f + 1) r
theorem puB_snoc : ∀ (l : List Int) (x c : Int) (f : Nat), puB x f (l ++ [c]) = sb (puB x f l) (f + l.length) c
 | [], _, _, _ => rfl
 | a :: l, x, c, f => by rw [List.cons_append, puB, puB_snoc l, puB, List.length_cons, show f + 1 + l.length = f + (l.length + 1) by omega]
theorem puB_wd : ∀ (l : List Int) (x : Int) (f : Nat), Wd x -> (∀ c ∈ l, By c) -> f + l.length <= 8 -> Wd (puB x f l)
 | [], _, _, h, _, _ => h
 | a :: l, x, f, h, hl, hf => by
   rw [List.length_cons] at hf
   exact puB_wd l _ _ (sb_wd h (hl a (List.mem_cons_self ..)) (by omega)) (fun c hc => hl c (List.mem_cons_of_mem _ hc)) (by omega)
theorem bt_puB : ∀ (l : List Int) (x : Int) (f j : Nat), (∀ c ∈ l, By c) -> bt (puB x f l) j = if f <= j /\ j < f + l.length then l.getD (j - f) 0 else bt x j
 | [], x, f, j, _ => by rw [puB, if_neg]; simp only [List.length_nil]; omega
 | a :: l, x, f, j, hl => by
   rw [puB, bt_puB l _ _ _ (fun c hc => hl c (List.mem_cons_of_mem _ hc)), List.length_cons, bt_sb (hl a (List.mem_cons_self ..))]
   by_cases h1 : j = f
   . subst h1
     rw [if_neg (by omega), if_pos rfl, if_pos (by omega), Nat.sub_self]; rfl
   . rw [if_neg h1]
     by_cases h2 : f + 1 <= j /\ j < f + 1 + l.length
     . rw [if_pos h2, if_pos (by omega), show j - f = (j - (f + 1)) + 1 by omega, List.getD_cons_succ]
     . rw [if_neg h2, if_neg (by omega)]
theorem appF_isE {w : List Int} {o n : Nat} {c : Nat -> Int} {L : List Ed} (h : IsE w o n c L) (hw : ∀ x ∈ w, Wd x) (hn : o + n <= 8 * w.length) : (∀ x ∈ appF w L, Wd x) /\ ∀ p, p < 8 * w.length -> bAt_ (appF w L) p = tgt w o n c p := by
 have key : ∀ (k : Nat), k <= L.length -> ∀ q, q < w.length -> (appF w (L.take k)).getD q 0 = if o / 8 <= q /\ q < o / 8 + k then (L.getD (q - o / 8) default).v else w.getD q 0 := by
  intro k
  induction k with
  | zero =>
    intro _ q _
    rw [List.take_zero, appF, if_neg (by omega)]
  | succ k ih =>
    intro hk q hq
    have ih := ih (by omega)
    obtain ⟨a1, _, _⟩ := h.at_ k (by omega)
    have hl := h.len
    have hin : o / 8 + k < w.length := by
     unfold cnt at hl
     split at hl <;> omega
    have e1 : L.getD k default = L[k] := by rw [List.getD_eq_getElem?_getD, List.getElem?_eq_getElem (show k < L.length by omega)]; rfl
    rw [List.take_add_one, appF_app, List.getElem?_eq_getElem (show k < L.length by omega)]
    show (appF (appF w (L.take k)) [L[k]]).getD q 0 = _
    rw [appF, appF, appF_length, <- e1, a1, if_pos (by omega), Int.toNat_natCast]
    rw [List.getD_eq_getElem?_getD, List.getElem?_set, appF_length]
    by_cases he : o / 8 + k = q
    . rw [if_pos he, if_pos (by omega), if_pos (by omega), show q - o / 8 = k by omega]; rfl
    . rw [if_neg he, <- List.getD_eq_getElem?_getD, ih q hq]
      by_cases h2 : o / 8 <= q /\ q < o / 8 + k
      . rw [if_pos h2, if_pos (by omega)]
      . rw [if_neg h2, if_neg (by omega)]
 have key' := key L.length (Nat.le_refl _)
 rw [List.take_length] at key'
 have hwq : ∀ q, q < w.length -> Wd (w.getD q 0) := fun q hq => by
  rw [List.getD_eq_getElem?_getD, List.getElem?_eq_getElem hq]; exact hw _ (List.getElem_mem hq)
 refine ⟨fun x hx => ?_, fun p hp => ?_⟩
 . obtain ⟨q, hq, rfl⟩ := List.getElem_of_mem hx
   have hq' : q < w.length := by rw [appF_length] at hq; exact hq
   have e : (appF w L)[q] = (appF w L).getD q 0 := by rw [List.getD_eq_getElem?_getD, List.getElem?_eq_getElem hq]; rfl
   rw [e, key' q hq']
   split
   . exact (h.at_ _ (by omega)).2.1
   . exact hwq q hq'
 . unfold bAt_
   rw [key' (p / 8) (by omega)]
   by_cases hin : o / 8 <= p / 8 /\ p / 8 < o / 8 + L.length
   . rw [if_pos hin, (h.at_ _ (by omega)).2.2 _ (Nat.mod_lt _ (by decide))]
     congr 1; omega
   . rw [if_neg hin]
     have hl := h.len
     unfold tgt
     rw [if_neg]
     . rfl
     . unfold cnt at hl
       split at hl <;> omega
theorem words_ext {w v : List Int} (hl : w.length = v.length) (hw : ∀ x ∈ w, Wd x) (hv : ∀ x ∈ v, Wd x) (h : ∀ p, p < 8 * w.length -> bAt_ w p = bAt_ v p) : w = v := by
 refine List.ext_getElem hl fun i h1 h2 => wd_ext (hw _ (List.getElem_mem h1)) (hv _ (List.getElem_mem h2)) fun k hk => ?_
 have a := h (8 * i + k) (by omega)
 unfold bAt_ at a
 rw [show (8 * i + k) / 8 = i by omega, show (8 * i + k) % 8 = k by omega] at a
 simpa [List.getD_eq_getElem?_getD, h1, h2] using a
def byE : Elm Tryz.prog Int where
 t := 39
 e := 5
 size := 1
 bytes := 1
 z := .int .u8 0
 enc := fun x => [.int .u8 x]
 ok := By
 ht := Tryz.underlying39
 hi := by kernel_rfl
 hzs := rfl
 pos := by decide
 bpos := by decide
 len := fun _ _ => rfl
 one := fun a _ u hu => by rw [List.mem_singleton.1 hu]; rfl
theorem byte_at {w : World} {p : Option Addr} {n cap : Nat} {l : List Int} (h : RA byE w (.slice p n cap) l) (h0 : 0 < l.length) :
 ∃ b off, p = some ⟨b, off, none⟩ /\ b < w.heap.size /\ ∀ k, k < l.length -> w.cell? ⟨b, off + k, none⟩ = some (.int .u8 (l.getD k 0)) /\ By (l.getD k 0) := by
 obtain ⟨b, off, e, hb, hr⟩ := ra_at h h0
 refine ⟨b, off, e, hb, fun k hk => ?_⟩
 have := hr k hk 0 _ rfl
 exact ⟨by simpa [byE] using this, (ra_ok h).at_ hk⟩
def strConv (v : Value) : Sem Value := convert 39 9 v
@[go_sem ↓] theorem convert_str (v : Value) : convert 39 9 v = strConv v := rfl
theorem run_strConv {w : World} {v : Value} {l : List Int} (h : RA byE w v l) : (strConv v).run Tryz.prog w = .ok (.string (strOfNums l)) w := by
 obtain ⟨p, cap, rfl, h1, h2, hok, rfl | ⟨b, off, rfl, hb, hr⟩⟩ := h
 . cases p with
   | none =>
     have := run_convert_bytes_nil (P := Tryz.prog) w 39 5 Tryz.underlying39 Tryz.underlying5 0 cap 9 Tryz.underlying9
     unfold strConv
     rw [List.length_nil, this]; rfl
   | some a =>
     obtain ⟨b, off, s⟩ := a
     unfold strConv
     rw [run_convert_bytes_string w 39 9 5 _ _ cap Tryz.underlying39 Tryz.underlying5 Tryz.underlying9, List.length_nil, run_bytesToString w _ 0 cap [] (by simpa using run_loadCells_list (P := Tryz.prog) w ⟨b, off, s⟩ [] (fun j v hj => by simp at hj))]
     rfl
 . unfold strConv
   refine run_convert_bytes_arg (P := Tryz.prog) w 39 5 Tryz.underlying39 Tryz.underlying5 b off l.length cap l rfl (fun i hi => ?_) 9 Tryz.underlying9
   have h' : RA byE w (.slice (some ⟨b, off, none⟩) l.length cap) l := ⟨_, cap, rfl, h1, h2, hok, .inr ⟨b, off, rfl, hb, hr⟩⟩
   obtain ⟨_, _, e, _, hx⟩ := byte_at h' (by omega)
   cases e
   exact (hx i hi).1
theorem built_by1 (w : World) (c : Int) : (Instr.buildSlice 39 1 #[(0, .int .u8 c)]).run Tryz.prog w = .ok (.slice (some ⟨w.heap.size, 0, none⟩) 1 1) (w.alloc (.cells #[.int .u8 c] 5)) := by
 simp [Instr.buildSlice, run_underlying Tryz.underlying39, Instr.fill, go_sem]
def bySlice (n : Nat) (ps : Array (Nat × Value)) : Sem Value := Instr.buildSlice 39 n ps
@[go_sem ↓] theorem slice_by (n : Nat) (ps : Array (Nat × Value)) : Instr.buildSlice 39 n ps = bySlice n ps := rfl
@[go_sem] theorem run_bySlice1 (w : World) (c : Int) : (bySlice 1 #[(0, .int .u8 c)]).run Tryz.prog w = .ok (.slice (some ⟨w.heap.size, 0, none⟩) 1 1) (w.alloc (.cells #[.int .u8 c] 5)) := built_by1 w c
theorem by_one (w : World) {c : Int} (h : By c) : OwnA byE w.heap.size (w.alloc (.cells #[.int .u8 c] 5)) (.slice (some ⟨w.heap.size, 0, none⟩) 1 1) [c] := by
 have := own_lit_a byE w (l := [c]) (fun x hx => by rw [List.mem_singleton.1 hx]; exact h) (by unfold maxLen; simp)
 simpa [byE] using this
section
variable {ops : Array Oper} {rest : List Oper} {o : Oper} {a : Act} {w : World} {Q : Exit -> Act -> World -> Prop} {K : Act -> World -> Prop}
theorem app_by (hgd : o.guard = none) (s x : Operand) (ho : o.op = .call { callee := .builtin .append, args := #[s, x], argTypes := #[39, 39] }) (B : Nat) (v : Value) (l : List Int) (hs : a.eval s = v) (hown : OwnA byE B w v l)
 (u : Value) (r : List Int) (hx : a.eval x = u) (hr : RA byE w u r) (hlen : Hid (l.length + r.length <= 4000)) (hB : B <= w.heap.size)
 (h : ∀ v' w', OwnA byE B w' v' (l ++ r) -> w.grownBy w' v.ownBlock -> (v'.ownBlock = v.ownBlock \/ v'.ownBlock = some w.heap.size) -> wpList Tryz.prog ops Q rest (a.put o.dst v') w') : wpList Tryz.prog ops Q (o :: rest) a w :=
 list_app byE hgd s x ho B v l hs hown u r hx hr (by have := hlen.out; show _ * 1 <= _; omega) hB h
end
theorem ofNat_inj {x y : Int} (hx : By x) (hy : By y) (h : UInt8.ofNat x.toNat = UInt8.ofNat y.toNat) : x = y := by
 obtain ⟨x0, x1⟩ := hx
 obtain ⟨y0, y1⟩ := hy
 have := congrArg UInt8.toNat h
 rw [UInt8.toNat_ofNat', UInt8.toNat_ofNat'] at this
 omega
theorem map_inj_by : ∀ {l m : List Int}, (∀ x ∈ l, By x) -> (∀ x ∈ m, By x) -> (l.map fun n => UInt8.ofNat n.toNat) = (m.map fun n => UInt8.ofNat n.toNat) -> l = m
 | [], [], _, _, _ => rfl
 | [], _ :: _, _, _, h => by simp at h
 | _ :: _, [], _, _, h => by simp at h
 | x :: l, y :: m, hl, hm, h => by
   rw [List.map_cons, List.map_cons, List.cons.injEq] at h
   rw [ofNat_inj (hl x (List.mem_cons_self ..)) (hm y (List.mem_cons_self ..)) h.1, map_inj_by (fun z hz => hl z (List.mem_cons_of_mem _ hz)) (fun z hz => hm z (List.mem_cons_of_mem _ hz)) h.2]
theorem strOf_inj {l m : List Int} (hl : ∀ x ∈ l, By x) (hm : ∀ x ∈ m, By x) (h : (strOfNums l).toList = (strOfNums m).toList) : l = m := by
 unfold strOfNums at h
 rw [ByteArray.toList_mk, ByteArray.toList_mk] at h
 exact map_inj_by hl hm h
theorem pow_256 (k : Nat) : (256 : Int) ^ k = 2 ^ (8 * k) := by
 rw [show (256 : Int) = 2 ^ 8 by decide, <- Int.pow_mul]
theorem and_bt {x : Int} {k : Nat} (hx : Wd x) : bits .and .u64 (x / 2 ^ (8 * k)) 255 = bt x k := by
 obtain ⟨h0, h1⟩ := hx
 have hp : (0 : Int) < 2 ^ (8 * k) := Int.pow_pos (by decide)
 have a0 : 0 <= x / 2 ^ (8 * k) := Int.ediv_nonneg h0 (by omega)
 have a1 : x / 2 ^ (8 * k) <= x := Int.ediv_le_self _ h0
 rw [u64_and _ _ a0 (by omega) (by omega) (by omega)]
 have e : (x / 2 ^ (8 * k)).toNat &&& (255 : Int).toNat = (x / 2 ^ (8 * k)).toNat % 256 := Nat.and_two_pow_sub_one_eq_mod _ 8
 rw [e, bt, pow_256]
 omega
theorem sget_is (x : Int) (k : Nat) (hx : Wd x) (hk : k < 8) (w : World) : Calls Tryz.prog 116 #[.int .u64 x, .int .i64 k] w fun e w' => e = .returned (.int .u8 (bt x k)) /\ w = w' := by
 obtain ⟨d, hd⟩ : ∃ d : Nat, 8 * k = d := ⟨_, rfl⟩
 have e1 : IntKind.i64.wrap (8 * (k : Int)) = (d : Int) := by rw [<- hd, show 8 * (k : Int) = ((8 * k : Nat) : Int) by omega]; exact i64_nat _ (by omega)
 have e2 : min d 64 = d := by omega
 have e3 := and_bt (k := k) hx
 rw [hd] at e3
 have e4 : IntKind.u8.wrap (bt x k) = bt x k := by have := bt_by x k; unfold By at this; rw [IntKind.wrap_u8']; omega
 clear hd hx hk
 generalize bt x k = y at *
 go_enter Tryz.func116, Tryz.ntmps116
 go_wp2_with fail
 go_ret
 exact ⟨rfl, rfl⟩
theorem nat_put (X c k : Nat) (hX : X < 2 ^ 64) (hc : c < 2 ^ 8) (hk : k < 8) : (X &&& (2 ^ 64 - (255 * 2 ^ (8 * k) + 1))) ||| (c * 2 ^ (8 * k)) = 2 ^ (8 * k) * (2 ^ 8 * (X / 2 ^ (8 * k) / 2 ^ 8) + c) + X % 2 ^ (8 * k) := by
 have hM : 255 * 2 ^ (8 * k) < 2 ^ 64 := by
  have : 2 ^ (8 * k) <= 2 ^ 56 := Nat.pow_le_pow_right (by decide) (by omega)
  omega
 have hp : 0 < 2 ^ (8 * k) := Nat.two_pow_pos _
 refine Nat.eq_of_testBit_eq fun i => ?_
 rw [Nat.testBit_or, Nat.testBit_and, Nat.testBit_two_pow_sub_succ hM, Nat.testBit_mul_two_pow, Nat.testBit_mul_two_pow, Nat.testBit_two_pow_mul_add _ (Nat.mod_lt _ hp), Nat.testBit_two_pow_mul_add _ hc,
  Nat.testBit_div_two_pow, Nat.testBit_div_two_pow, Nat.testBit_mod_two_pow, show (255 : Nat) = 2 ^ 8 - 1 by decide, Nat.testBit_two_pow_sub_one]
 by_cases h1 : i < 8 * k
 . rw [if_pos h1]
   simp [h1, show ¬ 8 * k <= i by omega, show i < 64 by omega]
 . rw [if_neg h1]
   by_cases h2 : i - 8 * k < 8
   . rw [if_pos h2]
     simp [show 8 * k <= i by omega, h2]
   . rw [if_neg h2]
     have e : i - 8 * k - 8 + 8 + 8 * k = i := by omega
     have hcc : c.testBit (i - 8 * k) = false := Nat.testBit_lt_two_pow (Nat.lt_of_lt_of_le hc (Nat.pow_le_pow_right (by decide) (by omega)))
     rw [e, hcc]
     by_cases h3 : i < 64
     . simp [show 8 * k <= i by omega, h2, h3]
     . have hx : X.testBit i = false := Nat.testBit_lt_two_pow (Nat.lt_of_lt_of_le hX (Nat.pow_le_pow_right (by decide) (by omega)))
       simp [hx]
theorem sb_nat (X c k : Nat) : sb X k c = ((2 ^ (8 * k) * (2 ^ 8 * (X / 2 ^ (8 * k) / 2 ^ 8) + c) + X % 2 ^ (8 * k) : Nat) : Int) := by
 unfold sb bt
 have e : (256 : Int) ^ k = ((2 ^ (8 * k) : Nat) : Int) := by rw [pow_256]; simp
 rw [e]
 generalize 2 ^ (8 * k) = P
 have a := Nat.div_add_mod X P
 have b := Nat.div_add_mod (X / P) 256
 have e1 : ((X : Int) / (P : Int)) % 256 = ((X / P % 256 : Nat) : Int) := by simp
 rw [e1]
 have e2 : (X : Int) = (P : Int) * ((256 : Int) * ((X / P / 256 : Nat) : Int) + ((X / P % 256 : Nat) : Int)) + ((X % P : Nat) : Int) := by
  have : X = P * (256 * (X / P / 256) + X / P % 256) + X % P := by rw [b, a]
  have h := congrArg (fun n : Nat => (n : Int)) this
  simpa using h
 generalize X / P / 256 = H at *
 generalize X / P % 256 = R at *
 generalize X % P = Q at *
 rw [e2]
 push_cast
 rw [Int.mul_comm ((c : Int) - R), Int.mul_sub, Int.mul_add, Int.mul_add]
 omega
theorem put_nums {x c : Int} {k d : Nat} (hx : Wd x) (hc : By c) (hk : k < 8) (hd : 8 * k = d) :
 ∃ M C z, IntKind.u64.wrap c = c /\ IntKind.u64.wrap (255 * 2 ^ d) = M /\ IntKind.u64.wrap (c * 2 ^ d) = C /\ bits .andNot .u64 x M = z /\ bits .or .u64 z C = sb x k c := by
 subst hd
 obtain ⟨X, rfl⟩ : ∃ X : Nat, x = X := ⟨x.toNat, by have := hx.1; omega⟩
 obtain ⟨c', rfl⟩ : ∃ c' : Nat, c = c' := ⟨c.toNat, by have := hc.1; omega⟩
 have hX : X < 2 ^ 64 := by have := hx.2; omega
 have hC : c' < 2 ^ 8 := by have := hc.2; omega
 have h56 : 2 ^ (8 * k) <= 2 ^ 56 := Nat.pow_le_pow_right (by decide) (by omega)
 have hcp : c' * 2 ^ (8 * k) <= 255 * 2 ^ (8 * k) := Nat.mul_le_mul_right _ (by omega)
 have e2 : ((2 : Int) ^ (8 * k)) = ((2 ^ (8 * k) : Nat) : Int) := by simp
 have hput := nat_put X c' k hX hC hk
 have hs := sb_nat X c' k
 refine ⟨((255 * 2 ^ (8 * k) : Nat) : Int), ((c' * 2 ^ (8 * k) : Nat) : Int), ((X &&& (2 ^ 64 - (255 * 2 ^ (8 * k) + 1)) : Nat) : Int), ?_, ?_, ?_, ?_, ?_⟩
 . rw [IntKind.wrap_u64]; omega
 . rw [e2, IntKind.wrap_u64]; omega
 . rw [e2, IntKind.wrap_u64, <- Int.natCast_mul]; omega
 . rw [u64_andNot_nat _ _ (by omega) (by omega)]
   congr 2
   omega
 . have hz : X &&& (2 ^ 64 - (255 * 2 ^ (8 * k) + 1)) < 18446744073709551616 := Nat.lt_of_le_of_lt Nat.and_le_left (by omega)
   rw [u64_or_nat _ _ hz (by omega), hput, hs]
theorem sput_is {v : Value} {l : List Int} {w : World} (x : Int) (f : Nat) (hx : Wd x) (hv : RA byE w v l) (hf : f + l.length <= 8) : Calls Tryz.prog 170 #[.int .u64 x, .int .i64 f, v] w fun e w' => e = .returned (.int .u64 (puB x f l)) /\ ∃ n, w' = w.drewN n := by
 obtain ⟨p, c, rfl, hlc, hcm⟩ := ra_shape hv
 have HS : Hid (∀ wr, (∃ n, wr = w.drewN n) -> ∀ j, j < l.length -> ∃ b off, p = some ⟨b, off, none⟩ /\ By (l.getD j 0) /\ wr.cell? ⟨b, off + j, none⟩ = some (.int .u8 (l.getD j 0))) := jz fun wr hwr j hj => by
  obtain ⟨n, rfl⟩ := hwr
  obtain ⟨b, off, rfl, _, hq⟩ := byte_at hv (by omega)
  exact ⟨b, off, rfl, (hq j hj).2, (hq j hj).1⟩
 have HL := jz hf
 have HO := jz (ra_ok hv)
 have HX := jz hx
 clear hv hlc hcm hf hx
 go_enter Tryz.func170, Tryz.ntmps170
 go_wp2
 go_loopw [0, 12] (fun y i wr => ∃ k : Nat, k <= l.length /\ i = .int .i64 k /\ y = .int .u64 (puB x f (l.take k)) /\ Hid (∃ n, wr = w.drewN n)) (fun _ i _ => l.length - (intOf i).toNat)
 case atStart => exact ⟨0, Nat.zero_le _, rfl, rfl, jz ⟨0, rfl⟩⟩
 case round =>
  obtain ⟨k, hk, rfl, rfl, HD⟩ := hrel
  by_cases hlt : k < l.length
  . obtain ⟨b, off, rfl, hby, hc⟩ := HS.out wr HD.out k hlt
    have hL := HL.out
    have j0 : IntKind.i64.wrap ((k : Int) + 1) = ((k + 1 : Nat) : Int) := by rw [show (k : Int) + 1 = ((k + 1 : Nat) : Int) by omega]; exact i64_nat _ (by omega)
    have i0 : (0 : Int) <= (k : Int) := by omega
    have i1 : (k : Int) < (l.length : Int) := by omega
    have i2 : ¬ (k : Int) < 0 := by omega
    have hw : Wd (puB x f (l.take k)) := puB_wd _ _ _ HX.out (fun c hc => HO.out c (List.mem_of_mem_take hc)) (by rw [List.length_take]; omega)
    have hn : puB x f (l.take (k + 1)) = sb (puB x f (l.take k)) (f + k) (l.getD k 0) := by
     have e1 : l.getD k 0 = l[k] := by simp [hlt]
     rw [e1, <- List.take_append_getElem hlt, puB_snoc, List.length_take, Nat.min_eq_left hk]
    have HN := jz hn
    obtain ⟨d, hd⟩ : ∃ d : Nat, 8 * (f + k) = d := ⟨_, rfl⟩
    obtain ⟨M, C, z, n1, n2, n3, n4, n5⟩ := put_nums (k := f + k) hw hby (by omega) hd
    have a1 : IntKind.i64.wrap ((f : Int) + (k : Int)) = ((f + k : Nat) : Int) := by rw [<- Int.natCast_add]; exact i64_nat _ (by omega)
    have a2 : IntKind.i64.wrap (8 * ((f + k : Nat) : Int)) = (d : Int) := by rw [<- hd, show 8 * ((f + k : Nat) : Int) = ((8 * (f + k) : Nat) : Int) by omega]; exact i64_nat _ (by omega)
    have a3 : min d 64 = d := by omega
    have hk' := jz hlt
    obtain ⟨fk, hfk⟩ : ∃ fk, f + k = fk := ⟨_, rfl⟩
    rw [hfk] at a1 a2 n5 hn
    rw [<- hn] at n5
    clear HS hw hd hn hL
    generalize l.getD k 0 = y at *
    generalize puB x f (l.take k) = X at *
    obtain ⟨X', hX'⟩ : ∃ X', puB x f (l.take (k + 1)) = X' := ⟨_, rfl⟩
    rw [hX'] at n5
    go_wp2_with fail
    go_quiet (fail)
    go_wp2
    exact ⟨⟨k + 1, by have := hk'.out; omega, by go_num, by rw [hX'], jz (by obtain ⟨n, e⟩ := HD.out; subst e; exact ⟨_, World.drewN_drewN ..⟩)⟩, by have := hk'.out; simp [intOf]; omega⟩
  . obtain rfl : k = l.length := by omega
    rw [List.take_length]
    go_wp2
    go_ret
    exact ⟨rfl, HD.out⟩
def Pc.cells (b : Pc) : List Value := [.int .i64 b.w, .int .i64 b.f, .int .i64 b.n]
def pc (b : Pc) : Array Value := b.cells.toArray
theorem info_pc : (Tryz.prog.info? 162).map (·.size) = some 3 := by kernel_rfl
def pcE : Elm Tryz.prog Pc where
 t := 159
 e := 162
 size := 3
 bytes := 24
 z := .agg #[.int .i64 0, .int .i64 0, .int .i64 0]
 enc := Pc.cells
 ok := fun _ => True
 ht := Tryz.underlying159
 hi := by kernel_rfl
 hzs := rfl
 pos := by decide
 bpos := by decide
 len := fun _ _ => rfl
 one := fun a _ u hu => by
  simp only [Pc.cells, List.mem_cons, List.not_mem_nil, or_false] at hu
  rcases hu with rfl | rfl | rfl <;> rfl
@[go_sem] theorem pc_ne (b : Pc) : (pc b = #[]) = False := by simp [pc, Pc.cells]
theorem pc_one (b : Pc) : (pc b).all (·.oneCell') = true := by simp [pc, Pc.cells, Value.oneCell']
theorem pc_size (b : Pc) : (pc b).size = 3 := rfl
def Pv (w : World) (g : Nat) (b : Pc) : Prop := Whole w g 162 (pc b)
section
variable {w w' : World} {g : Nat} {b : Pc}
theorem Pv.lt (h : Pv w g b) : g < w.heap.size := Whole.lt h
theorem Pv.below (h : Pv w g b) (hb : Below w.heap.size w w') : Pv w' g b := (hb.block g (Whole.lt h)).trans h
theorem Pv.new (w : World) (b : Pc) : Pv (w.alloc (.cells (pc b) 162)) w.heap.size b := heap_alloc_new w _
theorem Pv.c0 (h : Pv w g b) : w.cell? ⟨g, 0, none⟩ = some (.int .i64 b.w) := Whole.at_ h 0
theorem Pv.c1 (h : Pv w g b) : w.cell? ⟨g, 1, none⟩ = some (.int .i64 b.f) := Whole.at_ h 1
theorem Pv.c2 (h : Pv w g b) : w.cell? ⟨g, 2, none⟩ = some (.int .i64 b.n) := Whole.at_ h 2
end
def pcLoad (p : Value) : Sem Value := Instr.loadAt 162 p
def pcStore (p v : Value) : Sem Unit := Instr.storeAt 162 p v
@[go_sem ↓] theorem loadAt_pc (p : Value) : Instr.loadAt 162 p = pcLoad p := rfl
@[go_sem ↓] theorem storeAt_pc (p v : Value) : Instr.storeAt 162 p v = pcStore p v := rfl
theorem run_pcLoad {w : World} {b o : Nat} {c : Pc} (h : w.rangeAt b o c.cells) : (pcLoad (.pointer (some ⟨b, o, none⟩))).run Tryz.prog w = .ok (.agg (pc c)) w :=
 run_loadAt_mid (P := Tryz.prog) w b o 162 c.cells _ h Tryz.underlying162 rfl info_pc
theorem run_pcStore (w : World) {z : Array Value} (hz : z.size = 3) (c : Pc) :
 (pcStore (.pointer (some ⟨w.heap.size, 0, none⟩)) (.agg (pc c))).run Tryz.prog (w.alloc (.cells z 162)) = .ok () (w.alloc (.cells (pc c) 162)) := by
 unfold pcStore
 simp only [Instr.storeAt, Instr.sureAddr, Sem.run_bind, Sem.run_pure, Result.andThen]
 rw [run_storeVar_row _ _ 162 162 z (pc c) (heap_alloc_new w _) (by rw [info_pc, pc_size]) (by rw [hz, pc_size]) (pc_one c), World.setRow_alloc_new]
@[go_sem] theorem pc_store_new (w : World) (c : Pc) :
   (pcStore (.pointer (some ⟨w.heap.size, 0, none⟩)) (.agg (pc c))).run Tryz.prog (w.alloc (.cells #[.int .i64 0, .int .i64 0, .int .i64 0] 162)) = .ok () (w.alloc (.cells (pc c) 162)) :=
  run_pcStore w rfl c
theorem pc_at {w : World} {p : Option Addr} {n cap : Nat} {l : List Pc} (h : RA pcE w (.slice p n cap) l) (h0 : 0 < l.length) :
 ∃ b off, p = some ⟨b, off, none⟩ /\ b < w.heap.size /\ ∀ k, k < l.length -> (pcLoad (.pointer (some ⟨b, off + k * 3, none⟩))).run Tryz.prog w = .ok (.agg (pc (l.getD k default))) w ∧
  w.cell? ⟨b, off + k * 3, none⟩ = some (.int .i64 (l.getD k default).w) /\ w.cell? ⟨b, off + k * 3 + 1, none⟩ = some (.int .i64 (l.getD k default).f) /\ w.cell? ⟨b, off + k * 3 + 2, none⟩ = some (.int .i64 (l.getD k default).n) := by
 obtain ⟨b, off, e, hb, hr⟩ := ra_at h h0
 refine ⟨b, off, e, hb, fun k hk => ?_⟩
 have hk2 := hr k hk
 exact ⟨run_pcLoad hk2, hk2 0 _ rfl, hk2 1 _ rfl, hk2 2 _ rfl⟩
theorem pc_boxed (w : World) (c : Pc) : ∃ W, w.alloc (.cells (pc c) 162) = W /\ Hid (Pv W w.heap.size c /\ Below w.heap.size w W) :=
 ⟨_, rfl, jz ⟨Pv.new w c, bal (Below.refl _ _)⟩⟩
theorem built_pc3 (a b c : Int) : Tryz.prog.built 162 [(0, .int .i64 a), (1, .int .i64 b), (2, .int .i64 c)] = some #[.int .i64 a, .int .i64 b, .int .i64 c] := by kernel_rfl
theorem built_pc12 (b c : Int) : Tryz.prog.built 162 [(1, .int .i64 b), (2, .int .i64 c)] = some #[.int .i64 0, .int .i64 b, .int .i64 c] := by kernel_rfl
theorem built_pc02 (a c : Int) : Tryz.prog.built 162 [(0, .int .i64 a), (2, .int .i64 c)] = some #[.int .i64 a, .int .i64 0, .int .i64 c] := by kernel_rfl
def pcBuild (ps : Array (Nat × Value)) : Sem Value := Instr.build 162 ps
@[go_sem ↓] theorem build_pc (ps : Array (Nat × Value)) : Instr.build 162 ps = pcBuild ps := rfl
@[go_sem] theorem run_pcBuild3 (w : World) (a b c : Nat) : (pcBuild #[(0, .int .i64 a), (1, .int .i64 b), (2, .int .i64 c)]).run Tryz.prog w = .ok (.agg (pc ⟨a, b, c⟩)) w := run_build w _ _ _ (built_pc3 a b c)
@[go_sem] theorem run_pcBuild12 (w : World) : (pcBuild #[(1, .int .i64 6), (2, .int .i64 2)]).run Tryz.prog w = .ok (.agg (pc ⟨0, 6, 2⟩)) w := run_build w _ _ _ (built_pc12 6 2)
@[go_sem] theorem run_pcBuild02 (w : World) : (pcBuild #[(0, .int .i64 1), (2, .int .i64 2)]).run Tryz.prog w = .ok (.agg (pc ⟨1, 0, 2⟩)) w := run_build w _ _ _ (built_pc02 1 2)
theorem built_pcs1 (w : World) (a b c : Int) : (Instr.buildSlice 159 1 #[(0, .agg #[.int .i64 a, .int .i64 b, .int .i64 c])]).run Tryz.prog w = .ok (.slice (some ⟨w.heap.size, 0, none⟩) 1 1) (w.alloc (.cells #[.int .i64 a, .int .i64 b, .int .i64 c] 162)) := by
 simp [Instr.buildSlice, run_underlying Tryz.underlying159, Instr.fill, go_sem]
def pcSlice (n : Nat) (ps : Array (Nat × Value)) : Sem Value := Instr.buildSlice 159 n ps
@[go_sem ↓] theorem slice_pc (n : Nat) (ps : Array (Nat × Value)) : Instr.buildSlice 159 n ps = pcSlice n ps := rfl
@[go_sem] theorem run_pcSlice1 (w : World) (c : Pc) : (pcSlice 1 #[(0, .agg (pc c))]).run Tryz.prog w = .ok (.slice (some ⟨w.heap.size, 0, none⟩) 1 1) (w.alloc (.cells (pc c) 162)) := built_pcs1 w c.w c.f c.n
theorem pc_oneA (w : World) (c : Pc) : OwnA pcE w.heap.size (w.alloc (.cells (pc c) 162)) (.slice (some ⟨w.heap.size, 0, none⟩) 1 1) [c] := by
 have := own_lit_a pcE w (l := [c]) (fun x _ => trivial) (by unfold maxLen; simp)
 simpa [pcE, pc] using this
def eqP (x y : Pc) : Bool := ((x.w : Int) == y.w && (x.f : Int) == y.f) && (x.n : Int) == y.n
theorem fields_pc : Tryz.prog.underlying 162 = some (.struct (Tryz.prog.fieldsOf 162)) := by kernel_rfl
theorem stood_pc : Tryz.prog.stoodInHeld 162 = false := by kernel_rfl
theorem part_p (w : World) (b : Pc) : (part 3 (pc b) 0).run Tryz.prog w = .ok (.int .i64 b.w) w /\ (part 3 (pc b) 1).run Tryz.prog w = .ok (.int .i64 b.f) w /\ (part 3 (pc b) 2).run Tryz.prog w = .ok (.int .i64 b.n) w := by
 refine ⟨?_, ?_, ?_⟩ <;> simp [part, isAgg, run_underlying Tryz.underlying3, pc, Pc.cells]
@[go_sem high] theorem run_eqP (w : World) (x y : Pc) : (Op.equalIn 10000 162 (.agg (pc x)) (.agg (pc y))).run Tryz.prog w = .ok (eqP x y) w := by
  obtain ⟨p0, p1, p2⟩ := part_p w x
  obtain ⟨q0, q1, q2⟩ := part_p w y
  have a0 := run_equalIn_int (P := Tryz.prog) w 9998 3 .i64 .i64 x.w y.w Tryz.underlying3
  have a1 := run_equalIn_int (P := Tryz.prog) w 9998 3 .i64 .i64 x.f y.f Tryz.underlying3
  have a2 := run_equalIn_int (P := Tryz.prog) w 9998 3 .i64 .i64 x.n y.n Tryz.underlying3
  rw [run_equalIn_struct w 9999 162 (pc x) (pc y) fields_pc stood_pc, Program.fieldsOf, Tryz.underlying162]
  simp only [Op.eqFields, Sem.run_bind, Sem.run_ite, p0, p1, p2, q0, q1, q2, a0, a1, a2, Result.andThen_ok, Sem.run_pure]
  unfold eqP
  cases ((x.w : Int) == y.w) <;> cases ((x.f : Int) == y.f) <;> cases ((x.n : Int) == y.n) <;> simp
section
variable {ops : Array Oper} {rest : List Oper} {o : Oper} {a : Act} {w : World} {Q : Exit -> Act -> World -> Prop} {K : Act -> World -> Prop}
theorem app_pc (hgd : o.guard = none) (s x : Operand) (ho : o.op = .call { callee := .builtin .append, args := #[s, x], argTypes := #[159, 159] }) (B : Nat) (v : Value) (l : List Pc) (hs : a.eval s = v) (hown : OwnA pcE B w v l)
 (u : Value) (r : List Pc) (hx : a.eval x = u) (hr : RA pcE w u r) (hlen : Hid (l.length + r.length <= 4000)) (hB : B <= w.heap.size)
 (h : ∀ v' w', OwnA pcE B w' v' (l ++ r) -> w.grownBy w' v.ownBlock -> (v'.ownBlock = v.ownBlock \/ v'.ownBlock = some w.heap.size) -> wpList Tryz.prog ops Q rest (a.put o.dst v') w') : wpList Tryz.prog ops Q (o :: rest) a w :=
 list_app pcE hgd s x ho B v l hs hown u r hx hr (by have := hlen.out; show _ * 24 <= _; omega) hB h
end
def InB (L : Nat) (o n : Int) : Prop := 0 <= o /\ 0 <= n /\ n <= 448 /\ o + n <= 8 * L
instance (L : Nat) (o n : Int) : Decidable (InB L o n) := inferInstanceAs (Decidable (_ /\ _))
theorem InB.nat {L : Nat} {o n : Int} (h : InB L o n) : ∃ a b : Nat, o = a /\ n = b /\ b <= 448 /\ a + b <= 8 * L := by
 obtain ⟨h1, h2, h3, h4⟩ := h
 exact ⟨o.toNat, n.toNat, by omega, by omega, by omega, by omega⟩
theorem mayn_yes (n : Int) (h : 0 <= n /\ n <= 448) (w : World) : Calls Tryz.prog 146 #[.int .i64 n] w fun e w' => e = .returned (.bool true) /\ w = w' := by
 obtain ⟨h1, h2⟩ := h
 have h3 : n >= 0 := h1
 go_enter Tryz.func146, Tryz.ntmps146
 go_wp2_with fail
 go_ret
 exact ⟨rfl, rfl⟩
theorem mayn_no (n : Int) (h : ¬ (0 <= n /\ n <= 448)) (w : World) : Calls Tryz.prog 146 #[.int .i64 n] w fun e w' => e = .returned (.bool false) /\ w = w' := by
 by_cases h1 : n >= 0
 . have h2 : ¬ n <= 448 := fun k => h ⟨h1, k⟩
   clear h
   go_enter Tryz.func146, Tryz.ntmps146
   go_wp2_with fail
   go_ret
   exact ⟨rfl, rfl⟩
 . clear h
   go_enter Tryz.func146, Tryz.ntmps146
   go_wp2_with fail
   go_ret
   exact ⟨rfl, rfl⟩
theorem withinb_yes (o n L c : Nat) (p : Option Addr) (h1 : n <= 448) (h2 : o + n <= 8 * L) (hL : L <= 1000) (w : World) : Calls Tryz.prog 114 #[.slice p L c, .int .i64 o, .int .i64 n] w fun e w' => e = .returned (.bool true) /\ w = w' := by
 have C := jz (mayn_yes n (by omega) w)
 have e1 : IntKind.i64.wrap (8 * (L : Int)) = ((8 * L : Nat) : Int) := by rw [show 8 * (L : Int) = ((8 * L : Nat) : Int) by omega]; exact i64_nat _ (by omega)
 have e2 : IntKind.i64.wrap (((8 * L : Nat) : Int) - (n : Int)) = ((8 * L - n : Nat) : Int) := by rw [show ((8 * L : Nat) : Int) - (n : Int) = ((8 * L - n : Nat) : Int) by omega]; exact i64_nat _ (by omega)
 have q1 : (n : Int) <= ((8 * L : Nat) : Int) := by omega
 have q2 : (o : Int) >= 0 := by omega
 have q3 : (o : Int) <= ((8 * L - n : Nat) : Int) := by omega
 clear h1 h2 hL
 generalize 8 * L - n = M at *
 generalize 8 * L = N at *
 have r1 : n <= N := by omega
 have r3 : o <= M := by omega
 go_enter Tryz.func114, Tryz.ntmps114
 go_wp2_with fail
 refine (C.out).mono ?_; rintro e w' ⟨rfl, rfl⟩
 go_wp2_with fail
 go_ret
 exact ⟨rfl, rfl⟩
theorem withinb_no (o n : Int) (L c : Nat) (p : Option Addr) (hn : -9223372036854775808 <= n /\ n <= 9223372036854775807) (h : ¬ InB L o n) (hL : L <= 1000) (w : World) : Calls Tryz.prog 114 #[.slice p L c, .int .i64 o, .int .i64 n] w fun e w' => e = .returned (.bool false) /\ w = w' := by
 obtain ⟨K, hK⟩ : ∃ K, 8 * (L : Int) = K := ⟨_, rfl⟩
 have e1 : IntKind.i64.wrap (8 * (L : Int)) = K := by rw [<- hK]; exact IntWalk.i64_in _ (by omega)
 obtain ⟨J, hJ⟩ : ∃ J, K - n = J := ⟨_, rfl⟩
 by_cases h0 : 0 <= n /\ n <= 448
 . have C := jz (mayn_yes n h0 w)
   have e2 : IntKind.i64.wrap (K - n) = J := by rw [<- hJ]; exact IntWalk.i64_in _ (by omega)
   by_cases h1 : n <= K
   . by_cases h2 : o >= 0
     . have h3 : ¬ o <= J := fun k => h ⟨h2, h0.1, h0.2, by omega⟩
       clear h h0 hn hL hK hJ
       go_enter Tryz.func114, Tryz.ntmps114
       go_wp2_with fail
       refine (C.out).mono ?_; rintro e w' ⟨rfl, rfl⟩
       go_wp2_with fail
       go_ret
       exact ⟨by simp [h3], rfl⟩
     . clear h h0 hn hL e2 hK hJ
       go_enter Tryz.func114, Tryz.ntmps114
       go_wp2_with fail
       refine (C.out).mono ?_; rintro e w' ⟨rfl, rfl⟩
       go_wp2_with fail
       go_ret
       exact ⟨rfl, rfl⟩
   . clear h h0 hn hL e2 hK hJ
     go_enter Tryz.func114, Tryz.ntmps114
     go_wp2_with fail
     refine (C.out).mono ?_; rintro e w' ⟨rfl, rfl⟩
     go_wp2_with fail
     go_ret
     exact ⟨rfl, rfl⟩
 . have C := jz (mayn_no n h0 w)
   clear h h0 hn hL hK hJ
   go_enter Tryz.func114, Tryz.ntmps114
   go_wp2_with fail
   refine (C.out).mono ?_; rintro e w' ⟨rfl, rfl⟩
   go_wp2_with fail
   go_ret
   exact ⟨rfl, rfl⟩
structure Pt (o n : Nat) (w wr : World) (lv : Value) (a m : Nat) : Prop where
 sum : a + m = o + n
 ex : ∃ P, OwnA pcE w.heap.size wr lv P /\ P.length + m <= n /\ pcs o n = P ++ pcs a m
 below : Below w.heap.size w wr
theorem Pt.step {o n : Nat} {w wr w' : World} {P : List Pc} {lv v' : Value} {a m : Nat} (hP : Pt o n w wr lv a m) (h : OwnA pcE w.heap.size w' v' (P ++ [⟨a / 8, a % 8, pcK a m⟩])) (hl : P.length + m <= n) (he : pcs o n = P ++ pcs a m) (hm : m ≠ 0) (hb : Below w.heap.size w w') : Pt o n w w' v' (a + pcK a m) (m - pcK a m) := by
 have hk := pcK_le (a := a) hm
 refine ⟨by have := hP.sum; omega, ⟨_, h, by rw [List.length_append, List.length_singleton]; omega, ?_⟩, hb⟩
 rw [he, pcs_more hm, List.append_assoc]; rfl
theorem parts_is (o n : Nat) (ho : o <= 10000000) (hn : n <= 448) (w : World) : Calls Tryz.prog 115 #[.int .i64 o, .int .i64 n] w fun e w' => (∃ v, e = .returned v /\ OwnA pcE w.heap.size w' v (pcs o n)) /\ Below w.heap.size w w' := by
 have HL := jz (And.intro ho hn)
 clear ho hn
 go_enter Tryz.func115, Tryz.ntmps115
 go_wp2
 go_loopw [0, 1, 5] (fun x y z wr => ∃ (a m : Nat) (lv : Value), x = .int .i64 a /\ y = .int .i64 m /\ z = lv /\ Hid (Pt o n w wr lv a m)) (fun _ y _ _ => (intOf y).toNat)
 case atStart => exact ⟨o, n, _, rfl, rfl, rfl, jz ⟨rfl, ⟨[], own_nil_a _ _ _, by simp, rfl⟩, Below.refl _ _⟩⟩
 case round =>
  obtain ⟨a, m, lv, rfl, rfl, rfl, HP⟩ := hrel
  by_cases hm : 0 < m
  . obtain ⟨P, O1, l1, q1⟩ := HP.out.ex
    have hs := HP.out.sum
    obtain ⟨b1, b2⟩ := HL.out
    obtain ⟨k1, k2, k3, k4⟩ := pcK_le (a := a) (m := m) (by omega)
    have hK : pcK a m = min (8 - a % 8) m := rfl
    obtain ⟨Q, hQ⟩ : ∃ Q, a / 8 = Q := ⟨_, rfl⟩
    obtain ⟨F, hF⟩ : ∃ F, a % 8 = F := ⟨_, rfl⟩
    obtain ⟨G, hG⟩ : ∃ G, 8 - F = G := ⟨_, rfl⟩
    obtain ⟨N, hN⟩ : ∃ N, pcK a m = N := ⟨_, rfl⟩
    obtain ⟨A, hA⟩ : ∃ A, a + N = A := ⟨_, rfl⟩
    obtain ⟨M, hM⟩ : ∃ M, m - N = M := ⟨_, rfl⟩
    have m0 : (m : Int) > 0 := by omega
    have m1 : (a : Int) % 8 = (F : Int) := by omega
    have m2 : IntKind.i64.wrap ((a : Int) / 8) = (Q : Int) := by rw [show (a : Int) / 8 = (Q : Int) by omega]; exact i64_nat _ (by omega)
    have m3 : IntKind.i64.wrap (8 - (F : Int)) = (G : Int) := by rw [show 8 - (F : Int) = (G : Int) by omega]; exact i64_nat _ (by omega)
    have m4 : IntKind.i64.wrap ((a : Int) + (N : Int)) = (A : Int) := by rw [show (a : Int) + (N : Int) = (A : Int) by omega]; exact i64_nat _ (by omega)
    have m5 : IntKind.i64.wrap ((m : Int) - (N : Int)) = (M : Int) := by rw [show (m : Int) - (N : Int) = (M : Int) by omega]; exact i64_nat _ (by omega)
    have hm' := jz (And.intro hm (And.intro k1 k2))
    have KK := jz (And.intro l1 q1)
    have KE := jz (And.intro hQ (And.intro hF (And.intro hN (And.intro hA hM))))
    have HO1 := jz O1
    have B1 : Hid (Below w.heap.size w wr) := jz HP.out.below
    have HH := HP
    by_cases hc : m < G
    . have eN : N = m := by omega
      have hM0 : Hid (M = 0) := jz (by omega)
      have c1 : (m : Int) < (G : Int) := by omega
      clear hs b1 b2 k1 k2 k3 k4 hK O1 l1 q1 hQ hF hG hA hM hm HP hN
      subst eN
      obtain ⟨W2, hW2, HW2⟩ := pc_boxed wr ⟨Q, F, N⟩
      have hB2 := jz (below_more B1.out HW2.out.2)
      have O2 := jz (HO1.out.below HW2.out.2)
      have R2 : Hid (RA pcE W2 (.slice (some ⟨wr.heap.size, 0, none⟩) 1 1) [⟨Q, F, N⟩]) := jz (by rw [<- hW2]; exact (pc_oneA wr ⟨Q, F, N⟩).ra)
      have hlen : Hid (P.length + [(⟨Q, F, N⟩ : Pc)].length <= 4000) := jz (by have := KK.out.1; have := HL.out; simp only [List.length_singleton]; omega)
      go_wp2_with (at_builtin; refine app_pc rfl _ _ rfl _ _ _ rfl O2.out _ [⟨Q, F, N⟩] rfl R2.out hlen hB2.out.size ?_)
      intro v' w' ho hg hx
      have HN := jz (Pt.step HH.out (by obtain ⟨x1, x2, x3, x4, x5⟩ := KE.out; rw [x1, x2, x3]; exact ho) KK.out.1 KK.out.2 (by have := hm'.out; omega) (below_app hB2.out hB2.out.size O2.out hg))
      rw [KE.out.2.2.1, KE.out.2.2.2.1, KE.out.2.2.2.2] at HN
      clear ho hg hx
      go_wp2
      go_roundw
      case rel => exact ⟨A, M, _, by go_num, by first | go_num | (have := hM0.out; go_num), rfl, HN⟩
      case measure => have := hm'.out; have := KE.out; simp [intOf]; omega
    . have eN : N = G := by omega
      have c1 : ¬ (m : Int) < (G : Int) := by omega
      clear hs b1 b2 k1 k2 k3 k4 hK O1 l1 q1 hQ hF hG hA hM hm HP hN
      subst eN
      obtain ⟨W2, hW2, HW2⟩ := pc_boxed wr ⟨Q, F, N⟩
      have hB2 := jz (below_more B1.out HW2.out.2)
      have O2 := jz (HO1.out.below HW2.out.2)
      have R2 : Hid (RA pcE W2 (.slice (some ⟨wr.heap.size, 0, none⟩) 1 1) [⟨Q, F, N⟩]) := jz (by rw [<- hW2]; exact (pc_oneA wr ⟨Q, F, N⟩).ra)
      have hlen : Hid (P.length + [(⟨Q, F, N⟩ : Pc)].length <= 4000) := jz (by have := KK.out.1; have := HL.out; simp only [List.length_singleton]; omega)
      go_wp2_with (at_builtin; refine app_pc rfl _ _ rfl _ _ _ rfl O2.out _ [⟨Q, F, N⟩] rfl R2.out hlen hB2.out.size ?_)
      intro v' w' ho hg hx
      have HN := jz (Pt.step HH.out (by obtain ⟨x1, x2, x3, x4, x5⟩ := KE.out; rw [x1, x2, x3]; exact ho) KK.out.1 KK.out.2 (by have := hm'.out; omega) (below_app hB2.out hB2.out.size O2.out hg))
      rw [KE.out.2.2.1, KE.out.2.2.2.1, KE.out.2.2.2.2] at HN
      clear ho hg hx
      go_wp2
      go_roundw
      case rel => exact ⟨A, M, _, by go_num, by first | go_num | (have := hM0.out; go_num), rfl, HN⟩
      case measure => have := hm'.out; have := KE.out; simp [intOf]; omega
  . obtain rfl : m = 0 := by omega
    obtain ⟨P, O1, l1, q1⟩ := HP.out.ex
    rw [pcs_zero, List.append_nil] at q1
    subst q1
    have HO1 := jz O1
    have B1 := jz HP.out.below
    clear O1
    go_wp2
    go_ret
    exact ⟨⟨_, rfl, HO1.out⟩, B1.out⟩
def OkP (o n : Int) : Prop := 0 <= o /\ o <= 1000000 /\ 0 <= n /\ n <= 448
instance (o n : Int) : Decidable (OkP o n) := inferInstanceAs (Decidable (_ /\ _))
theorem rdF_hd {w : List Int} : ∀ (k a : Nat) {l : List Bk}, rdF w k a = some l -> ∀ b ∈ l, w.getD b.a.toNat 0 = hdB b.s b.u
 | 0, a, l, h, b, hb => by
   rw [rdF] at h
   split at h
   . cases h
   . cases h
     cases hb
 | k + 1, a, l, h, b, hb => by
   rw [rdF] at h
   split at h
   . split at h
     . rename_i hm
       cases hr : rdF w k (a + (w.getD a 0 / 2).toNat) with
       | none => rw [hr] at h; cases h
       | some r =>
         rw [hr, Option.map_some] at h
         cases h
         rcases List.mem_cons.1 hb with rfl | hb
         . simp only [Int.toNat_natCast]
           rw [hdB_yes hm]
           rcases useB_or (decide (w.getD a 0 % 2 = 1)) with ⟨e, e2⟩ | ⟨e, e2⟩
           . have := of_decide_eq_true e
             omega
           . have := of_decide_eq_false e
             omega
         . exact rdF_hd k _ hr b hb
     . cases h
   . cases h
     cases hb
theorem blkF_hd {w : List Int} {l : List Bk} (h : blkF w = some l) : ∀ b ∈ l, w.getD b.a.toNat 0 = hdB b.s b.u := by
 unfold blkF at h
 cases hr : rdF w w.length 0 with
 | none => rw [hr] at h; cases h
 | some m =>
   rw [hr, Option.bind_some] at h
   split at h
   . cases h
     exact rdF_hd _ _ hr
   . cases h
structure Took (X V : List Int) (z t m : Nat) : Prop where
 len : V.length = X.length
 ok : WordsOk V
 nul : ∀ j, z < j -> j < z + t -> V.getD j 0 = 0
 far : ∀ j, j < z \/ z + m <= j -> V.getD j 0 = X.getD j 0
theorem taken {X : List Int} {l : List Bk} {d : Nat} {N : Int} (h : blkF X = some l) (hok : WordsOk X) (hc : canC l d N = true) :
 blkF (appF X (cedF l d N)) = some (crvF l d N) /\ ∃ z t m : Nat, l.getD d default = ⟨z, m, false⟩ /\ takN m N = t /\ t <= m /\ (crvF l d N).getD d default = ⟨z, t, true⟩ /\ Took X (appF X (cedF l d N)) z t m := by
 have hL := blkF_some h
 obtain ⟨_, h0, h1, hu, hne⟩ := canC_yes.1 hc
 obtain ⟨hmw, hf⟩ := mayL_yes.1 hL
 have hsp := bAt_split h0 h1
 have hin := mayF_sizes hf _ (bAt_mem h0 h1)
 have hat := crv_at hc
 rw [bAt_nat, bAt_nat] at hat
 rw [bAt_nat] at hsp hin hu hne
 obtain ⟨⟨s1, s2⟩, s3, s4⟩ := hin
 obtain ⟨⟨a, s, u⟩, hb⟩ : ∃ b, l.getD d default = b := ⟨_, rfl⟩
 rw [hb] at hsp hu hne s1 s2 s3 s4 hat
 simp only at hu hne s1 s2 s3 s4
 subst hu
 obtain ⟨z, rfl⟩ : ∃ z : Nat, a = z := ⟨a.toNat, by omega⟩
 obtain ⟨m, rfl⟩ : ∃ z : Nat, s = z := ⟨s.toNat, by omega⟩
 obtain ⟨t1, t2, t3, t4⟩ := takN_some hne
 obtain ⟨t, ht⟩ : ∃ t : Nat, takN m N = t := ⟨(takN m N).toNat, by omega⟩
 rw [ht] at t2 t3 t4 hne
 simp only [ht] at hat
 have hcd : cedF l d N = rise (z : Int) (takV ⟨z, m, false⟩ N) := by
  rw [cedF, if_pos hc, bAt_nat, hb]
  exact edF_prt (by simp only; rw [ht]; exact hne)
 have hvl := takV_length (b := ⟨z, m, false⟩) (n := N) (by simp only; rw [ht]; exact hne)
 have hva := takV_at (b := ⟨z, m, false⟩) (n := N) (by simp only; rw [ht]; exact hne)
 simp only [ht] at hvl hva
 have hML : (takV ⟨z, m, false⟩ N).length = t + (if t < m then 1 else 0) := by
  split at hvl <;> split <;> omega
 have hTM : t + (if t < m then 1 else 0) <= m := by split <;> omega
 have hXh := blkF_hd h
 rw [hcd]
 have hv : ∀ j, (appF X (rise (z : Int) (takV ⟨z, m, false⟩ N))).getD j 0 = if z <= j /\ j < z + (takV ⟨z, m, false⟩ N).length then (takV ⟨z, m, false⟩ N).getD (j - z) 0 else X.getD j 0 := fun j => appF_rise _ _ _ _ (by rw [hML]; omega)
 rw [hML] at hv
 have hlen : (appF X (rise (z : Int) (takV ⟨z, m, false⟩ N))).length = X.length := by rw [appF_length]
 have hokv : WordsOk (appF X (rise (z : Int) (takV ⟨z, m, false⟩ N))) := appF_ok _ _ (fun x hx => takV_in _ _ _ (rise_mem _ _ x hx)) hok
 generalize hV : appF X (rise (z : Int) (takV ⟨z, m, false⟩ N)) = V at *
 refine ⟨blkF_of (by rw [hlen]; exact mayL_crv hL hc) fun b hbm => ?_, z, t, m, hb, ht, by omega, hat, hlen, hokv, fun k k1 k2 => ?_, fun k k1 => ?_⟩
 . rw [crvF, if_pos hc, bAt_nat, hb, Int.toNat_natCast] at hbm
   rw [Int.toNat_natCast] at hsp
   rw [hsp] at hf
   have ha := mayF_ahead hf
   have hbh := mayF_behind hf
   rcases List.mem_append.1 hbm with hbm | hbm
   . have hbl : b ∈ l := List.mem_of_mem_take hbm
     have g := ha b hbm
     obtain ⟨⟨g1, _⟩, g2, _⟩ := mayF_sizes (mayL_yes.1 hL).2 b hbl
     rw [hv, if_neg (by simp only at g; omega), hXh b hbl]
   . rcases List.mem_append.1 hbm with hbm | hbm
     . unfold prtB at hbm
       simp only [ht] at hbm
       split at hbm
       . rename_i e
         obtain rfl := List.mem_singleton.1 hbm
         rw [Int.toNat_natCast, hv, if_pos (by omega), Nat.sub_self, hva, if_pos rfl, e]
       . rename_i e
         simp only [List.mem_cons, List.not_mem_nil, or_false] at hbm
         rcases hbm with rfl | rfl
         . simp only [Int.toNat_natCast]
           rw [hv, if_pos (by omega), Nat.sub_self, hva, if_pos rfl]
         . simp only
           have e2 : ((z : Int) + (t : Int)).toNat = z + t := by omega
           have e3 : z + t - z = t := by omega
           have e4 : t < m := by omega
           rw [e2, hv, if_pos e4, if_pos (by omega), e3, hva, if_neg (show ¬ t = 0 by omega), if_neg (show ¬ (t : Int) < t by omega), if_pos ⟨rfl, e⟩]
     . have hbl : b ∈ l := List.mem_of_mem_drop hbm
       have g := hbh b hbm
       simp only at g
       rw [hv, if_neg (by omega), hXh b hbl]
 . rw [hv, if_pos (by split <;> omega), hva, if_neg (show ¬ k - z = 0 by omega), if_pos (by omega)]
 . rw [hv, if_neg (by omega)]
theorem given {X : List Int} {l : List Bk} {k : Nat} (h : blkF X = some l) (hok : WordsOk X) (hc : canM l k = true) :
 blkF (appF X [medF l k]) = some (mrgF l k) /\ (appF X [medF l k]).length = X.length /\ WordsOk (appF X [medF l k]) /\ ∃ i, i < l.length /\ (i = k \/ (l.getD i default).u = false) /\ ∀ j : Nat, (j : Int) ≠ (l.getD i default).a -> (appF X [medF l k]).getD j 0 = X.getD j 0 := by
 have hL := blkF_some h
 have hm := mayL_mrg hL hc
 obtain ⟨h1, h2, h3⟩ := one_in hL hc
 obtain ⟨h4, _⟩ := id h1
 obtain ⟨_, hf⟩ := mayL_yes.1 hL
 have hlen : (appF X [medF l k]).length = X.length := appF_length ..
 have hW := blkF_hd h
 have happ : appF X [medF l k] = X.set (oneB l k).a.toNat (hdB (oneB l k).s false) := by
  rw [medF_yes hc, appF, appF, if_pos (by simp only; omega)]
 obtain ⟨_, hk, _⟩ := canM_nat hc
 have hft := frm_too hk
 refine ⟨blkF_of (by rw [hlen]; exact hm) fun b hb => ?_, hlen, appF_ok _ _ (fun x hx => ?_) hok, frm l k, by omega, ?_, fun j hj => ?_⟩
 . rw [happ]
   rw [mrgF_yes hc] at hb hm
   have hf2 := (mayL_yes.1 hm).2
   have ha := mayF_ahead hf2
   have hbh := mayF_behind hf2
   simp only [List.getD_eq_getElem?_getD]
   rcases List.mem_append.1 hb with hb | hb
   . have g := ha b hb
     have hbl : b ∈ l := List.mem_of_mem_take hb
     obtain ⟨⟨g1, _⟩, g2, _⟩ := mayF_sizes hf b hbl
     rw [List.getElem?_set_ne (by omega), <- List.getD_eq_getElem?_getD]
     exact hW b hbl
   . rcases List.mem_cons.1 hb with rfl | hb
     . rw [List.getElem?_set_self (by omega)]
       rfl
     . have g := hbh b hb
       have hbl : b ∈ l := List.mem_of_mem_drop hb
       rw [List.getElem?_set_ne (by omega), <- List.getD_eq_getElem?_getD]
       exact hW b hbl
 . rw [List.mem_singleton.1 hx, medF_yes hc]
   exact hdB_in _ _
 . rcases frm_or l k with ⟨e, _⟩ | ⟨_, e, e2⟩
   . exact .inl e
   . rw [e]; exact .inr e2
 . have ha : (oneB l k).a = (l.getD (frm l k) default).a := rfl
   rw [<- ha] at hj
   rw [happ, List.getD_eq_getElem?_getD, List.getElem?_set_ne (by omega), <- List.getD_eq_getElem?_getD]
theorem ced_len {l : List Bk} {d : Nat} {N m : Int} (hm : mayL m l = true) (hc : canC l d N = true) : (cedF l d N).length <= 600 := by
 obtain ⟨_, h0, h1, _, hne⟩ := canC_yes.1 hc
 have hin := (mayF_sizes (mayL_yes.1 hm).2 _ (bAt_mem h0 h1)).1.2
 rw [cedF, if_pos hc, edF_prt hne, rise_length]
 have := takV_length hne
 obtain ⟨_, _, t3, _⟩ := takN_some hne
 split at this <;> omega
theorem alR_none {wl : List Int} {l : List Bk} {n : Int} {cs : List Int} (hB : blkF wl = some l) (h : needN n ≠ 0) (hc : chN (needN n) cs l = none) : alR wl n cs = ([], 0, 4) := by
 rw [alR, if_neg h, hB]
 simp only [hc]
theorem alR_some {wl : List Int} {l : List Bk} {n : Int} {cs : List Int} {d : Nat} (hB : blkF wl = some l) (h : needN n ≠ 0) (hc : chN (needN n) cs l = some d) : alR wl n cs = (cedF l d (needN n), offB (atL l d), 0) := by
 rw [alR, if_neg h, hB]
 simp only [hc]
theorem frR_none {wl : List Int} {l : List Bk} {o : Int} (hB : blkF wl = some l) (h : isN o l = none) : frR wl o = ([], 1) := by
 rw [frR, hB]
 simp only [h]
theorem frR_some {wl : List Int} {l : List Bk} {o : Int} {k : Nat} (hB : blkF wl = some l) (h : isN o l = some k) : frR wl o = ([medF l k], 0) := by
 rw [frR, hB]
 simp only [h]
theorem need_two {n : Int} (h : needN n ≠ 0) : 2 <= needN n /\ needN n <= 57 := by
 unfold needN at h ⊢
 split
 . omega
 . rename_i c
   rw [if_neg c] at h
   exact absurd rfl h
theorem crv_keeps {l : List Bk} {d : Nat} {N : Int} (hc : canC l d N = true) {b : Bk} (hb : b ∈ l) (hu : b.u = true) : b ∈ crvF l d N := by
 obtain ⟨_, h0, h1, hu0, _⟩ := canC_yes.1 hc
 rw [crvF, if_pos hc]
 rw [bAt_split h0 h1] at hb
 rcases List.mem_append.1 hb with hb | hb
 . exact List.mem_append.2 (.inl hb)
 . rcases List.mem_cons.1 hb with rfl | hb
   . rw [hu0] at hu
     cases hu
   . exact List.mem_append.2 (.inr (List.mem_append.2 (.inr hb)))
theorem mrg_keeps {l : List Bk} {k : Nat} (hc : canM l k = true) {b : Bk} (hb : b ∈ l) (hu : b.u = true) (hne : b.a ≠ (l.getD k default).a) : b ∈ mrgF l k := by
 obtain ⟨_, hk, _⟩ := canM_nat hc
 rw [mrgF_yes hc]
 rw [mid_split hk] at hb
 rcases List.mem_append.1 hb with hb | hb
 . exact List.mem_append.2 (.inl hb)
 . rcases List.mem_append.1 hb with hb | hb
   . exfalso
     rw [mid_is hk] at hb
     rcases List.mem_append.1 hb with hb | hb
     . rcases frm_or l k with ⟨e, _⟩ | ⟨_, e, e2⟩
       . rw [if_pos e] at hb
         cases hb
       . rw [if_neg (by omega), List.mem_singleton] at hb
         rw [hb, e2] at hu
         cases hu
     . rcases List.mem_cons.1 hb with rfl | hb
       . exact hne rfl
       . rcases too_or l k with ⟨e, _⟩ | ⟨_, e, e2⟩
         . rw [if_pos e] at hb
           cases hb
         . rw [if_neg (by omega), List.mem_singleton] at hb
           rw [hb, e2] at hu
           cases hu
   . exact List.mem_append.2 (.inr (List.mem_cons_of_mem _ hb))
theorem mrg_from {n : Int} {l : List Bk} {k : Nat} (h : mayL n l = true) (hc : canM l k = true) {b : Bk} (hb : b ∈ mrgF l k) (hu : b.u = true) : b ∈ l /\ b.a ≠ (l.getD k default).a := by
 obtain ⟨_, hk, _⟩ := canM_nat hc
 have hf := (mayL_yes.1 h).2
 have hft := frm_too hk
 have hkk : (l.getD k default).s >= 2 := (at_in h hk).1.1
 rw [mrgF_yes hc] at hb
 have key : ∀ j, j < l.length -> j ≠ k -> (l.getD j default).a ≠ (l.getD k default).a := fun j hj hne e => hne (apart_a h hj hk e)
 rcases List.mem_append.1 hb with hb | hb
 . obtain ⟨j, hj, rfl⟩ := List.getElem_of_mem hb
   rw [List.length_take] at hj
   rw [List.getElem_take]
   refine ⟨List.getElem_mem _, ?_⟩
   have := key j (by omega) (by omega)
   rwa [List.getD_eq_getElem?_getD, List.getElem?_eq_getElem (by omega)] at this
 . rcases List.mem_cons.1 hb with rfl | hb
   . cases hu
   . obtain ⟨j, hj, rfl⟩ := List.getElem_of_mem hb
     rw [List.length_drop] at hj
     rw [List.getElem_drop]
     refine ⟨List.getElem_mem _, ?_⟩
     have := key (too l k + j) (by omega) (by omega)
     rwa [List.getD_eq_getElem?_getD, List.getElem?_eq_getElem (by omega)] at this
theorem used_at {n : Int} {l : List Bk} (h : mayL n l = true) {b : Bk} (hb : b ∈ l) (hu : b.u = true) : ∃ k, isN (offB b.a) l = some k /\ k < l.length /\ l.getD k default = b := by
 obtain ⟨k, hk, rfl⟩ := List.getElem_of_mem hb
 have e : l.getD k default = l[k] := by rw [List.getD_eq_getElem?_getD, List.getElem?_eq_getElem hk]; rfl
 have := isN_at h hk (by rw [e]; exact hu)
 rw [e] at this
 exact ⟨k, this, hk, e⟩
theorem first_blk {n : Nat} (hm : Mw n) : blkF (firstL n) = some [⟨0, n, false⟩] /\ (firstL n).length = n /\ WordsOk (firstL n) := by
 have h8 := hm.1
 have hl : (firstL n).length = n := by rw [firstL_yes hm, List.length_set, List.length_replicate]
 have hmay : mayL n [⟨0, n, false⟩] = true := mayL_yes.2 ⟨hm, mayF_cons.2 ⟨rfl, hm.mayB, (fun q => by cases q.1), mayF_nil.2 (by simp)⟩⟩
 refine ⟨blkF_of (by rw [hl]; exact hmay) fun b hb => ?_, hl, fun j hj => ?_⟩
 . rw [List.mem_singleton.1 hb, firstL_yes hm, hdB_yes hm.mayB]
   simp only [List.getD_eq_getElem?_getD]
   rw [show (0 : Int).toNat = 0 from rfl, List.getElem?_set_self (by rw [List.length_replicate]; omega)]
   simp [useB]
 . rw [hl] at hj
   obtain ⟨_, h5, _⟩ := id hm
   rw [firstL_yes hm, List.getD_eq_getElem?_getD, List.getElem?_set, List.getElem?_replicate]
   split
   . split
     . simp only [Option.getD_some]; omega
     . simp
   . simp
theorem used_is (o : Int) (l : List Bk) (v : Value) (R : Option Nat) (w : World) (hv : RA blkE w v l) (hR : isN o l = R) :
 Calls Tryz.prog 140 #[v, .int .i64 o] w fun e w' => e = .returned (.int .i64 (oi R)) /\ Below w.heap.size w w' := by
 obtain ⟨p, cap, rfl, hlc, hcm⟩ := ra_shape hv
 unfold maxLen at hcm
 have HL : Hid (l.length <= 9223372036854775807) := jz (by omega)
 have HV := jz hv
 have HR : Hid (isF o 0 l = R) := jz hR
 clear hR hcm hlc hv
 go_enter Tryz.func140, Tryz.ntmps140
 go_wp2
 go_loopw [9] (fun i wr => ∃ k : Nat, k <= l.length /\ i = .int .i64 k /\ Hid (isF o k (l.drop k) = R /\ Below w.heap.size w wr)) (fun i _ => l.length - (intOf i).toNat)
 case atStart => exact ⟨0, Nat.zero_le _, rfl, jz ⟨HR.out, Below.refl _ _⟩⟩
 case round =>
  obtain ⟨k, hk, rfl, H⟩ := hrel
  by_cases hlt : k < l.length
  . obtain ⟨b, off, rfl, hb, hx⟩ := blk_at (ra_below HV.out H.out.2) (by omega)
    obtain ⟨hld, _, _, _, hwf⟩ := hx k hlt
    have hF := H.out.1
    rw [getD_cut hlt, isF] at hF
    generalize l.getD k default = y at *
    obtain ⟨a, s, u⟩ := y
    obtain ⟨W, hW, HW⟩ := blk_boxed wr ⟨a, s, u⟩
    have l0 := HW.out.1.load
    have c2 : W.cell? ⟨wr.heap.size, 2, none⟩ = some (.bool u) := HW.out.1.c2
    obtain ⟨x, hx2⟩ : ∃ x, offB a = x := ⟨_, rfl⟩
    have C := jz (off_is ⟨a, s, u⟩ x hx2 W)
    have HB := jz (below_more H.out.2 HW.out.2)
    have i0 : (0 : Int) <= (k : Int) := by omega
    have i1 : (k : Int) < (l.length : Int) := by omega
    have i2 : ¬ (k : Int) < 0 := by omega
    have i3 : IntKind.i64.wrap ((k : Int) + 1) = ((k + 1 : Nat) : Int) := by rw [show (k : Int) + 1 = ((k + 1 : Nat) : Int) by omega]; exact i64_nat _ (by have := HL.out; omega)
    have HK := jz hlt
    simp only [hx2] at hF
    clear hx hk hb hwf hx2
    cases u
    . rw [if_neg (by simp)] at hF
      have HF := jz hF
      clear hF C
      go_wp2
      go_roundw
      case rel => exact ⟨k + 1, by have := HK.out; omega, by go_num, jz ⟨HF.out, HB.out⟩⟩
      case measure => have := HK.out; simp [intOf]; omega
    . by_cases he : x = o
      . rw [if_pos ⟨rfl, he⟩] at hF
        subst hF
        have e1 : (x == o) = true := by rw [he]; simp
        clear he i3
        go_wp2_with fail
        refine (C.out).mono ?_; rintro e w' ⟨rfl, hb⟩
        have HB2 := jz (below_more HB.out hb)
        clear hb
        go_wp2
        go_ret
        exact ⟨rfl, HB2.out⟩
      . rw [if_neg (fun h => he h.2)] at hF
        have e1 : (x == o) = false := beq_eq_false_iff_ne.2 he
        have HF := jz hF
        clear he hF
        go_wp2_with fail
        refine (C.out).mono ?_; rintro e w' ⟨rfl, hb⟩
        have HB2 := jz (below_more HB.out hb)
        clear hb
        go_wp2
        go_roundw
        case rel => exact ⟨k + 1, by have := HK.out; omega, by go_num, jz ⟨HF.out, HB2.out⟩⟩
        case measure => have := HK.out; simp [intOf]; omega
  . obtain rfl : k = l.length := by omega
    have hF := H.out.1
    rw [List.drop_length, isF] at hF
    subst hF
    go_wp2
    go_ret
    exact ⟨rfl, H.out.2⟩
def Sm (b : Bk) : Prop := 0 <= b.a /\ 0 <= b.s /\ b.a + b.s <= 512
theorem sm_of {wl : List Int} {l : List Bk} (h : blkF wl = some l) : ∀ b ∈ l, Sm b := fun b hb => by
 obtain ⟨hm, hf⟩ := mayL_yes.1 (blkF_some h)
 obtain ⟨⟨h1, _⟩, h2, h3⟩ := mayF_sizes hf b hb
 obtain ⟨_, h4, _⟩ := hm
 exact ⟨by omega, by omega, by omega⟩
theorem ends_of {b : Bk} (h : Sm b) {n : Int} (h0 : 0 <= n) (h1 : n <= 448) : ∃ S E D X : Int, IntKind.i64.wrap (b.a + b.s) = S /\ IntKind.i64.wrap (S * 8) = E /\ IntKind.i64.wrap (E - n) = D /\ E = (b.a + b.s) * 8 /\ D = (b.a + b.s) * 8 - n /\ offB b.a = X /\ 8 <= X /\ E <= 4096 := by
 obtain ⟨g1, g2, g3⟩ := h
 refine ⟨b.a + b.s, (b.a + b.s) * 8, (b.a + b.s) * 8 - n, _, ?_, ?_, ?_, rfl, rfl, rfl, ?_, ?_⟩
 . exact IntWalk.i64_in _ (by omega)
 . exact IntWalk.i64_in _ (by omega)
 . exact IntWalk.i64_in _ (by omega)
 . rw [offB_at g1 (by omega)]; omega
 . omega
theorem iwi_is (b : Bk) (o n : Int) (hb : Sm b) (h0 : 0 <= n) (h1 : n <= 448) (w : World) :
 Calls Tryz.prog 156 #[.agg (bc b), .int .i64 o, .int .i64 n] w fun e w' => e = .returned (.bool (decide (offB b.a <= o /\ o <= (b.a + b.s) * 8 - n))) /\ Below w.heap.size w w' := by
 obtain ⟨W, hW, HW⟩ := blk_boxed w b
 have l0 := HW.out.1.load
 obtain ⟨S, E, D, X, e1, e2, e3, e4, e5, e6, _, _⟩ := ends_of hb h0 h1
 have C := jz (fun w => off_is b X e6 w)
 have HB := jz HW.out.2
 obtain ⟨a, s, u⟩ := b
 have c0 : W.cell? ⟨w.heap.size, 0, none⟩ = some (.int .i64 a) := HW.out.1.c0
 have c1 : W.cell? ⟨w.heap.size, 1, none⟩ = some (.int .i64 s) := HW.out.1.c1
 simp only at e1 e4 e5 e6
 rw [<- e5, e6]
 clear e4 e5 e6 hb h0 h1
 by_cases h2 : o >= X
 . by_cases h3 : o <= D
   . rw [decide_eq_true ⟨h2, h3⟩]
     go_enter Tryz.func156, Tryz.ntmps156
     go_wp2_with fail
     refine (C.out _).mono ?_; rintro e w' ⟨rfl, hb⟩
     have HB2 := jz (below_more HB.out hb)
     clear hb
     go_wp2_with fail
     go_ret
     exact ⟨rfl, HB2.out⟩
   . rw [decide_eq_false (fun h => h3 h.2)]
     have t3 : decide (o <= D) = false := decide_eq_false h3
     go_enter Tryz.func156, Tryz.ntmps156
     go_wp2_with fail
     refine (C.out _).mono ?_; rintro e w' ⟨rfl, hb⟩
     have HB2 := jz (below_more HB.out hb)
     clear hb
     go_wp2_with fail
     go_ret
     exact ⟨rfl, HB2.out⟩
 . rw [decide_eq_false (fun h => h2 h.1)]
   have t2 : decide (o >= X) = false := decide_eq_false h2
   go_enter Tryz.func156, Tryz.ntmps156
   go_wp2_with fail
   refine (C.out _).mono ?_; rintro e w' ⟨rfl, hb⟩
   have HB2 := jz (below_more HB.out hb)
   clear hb
   go_wp2_with fail
   go_ret
   exact ⟨rfl, HB2.out⟩
theorem ref_is (wl : List Int) (o n : Int) (v : Value) (w : World) (hv : RU w v wl) (hl : wl.length <= 1000) (hw : WordsOk wl) :
 Calls Tryz.prog 122 #[v, .int .i64 o, .int .i64 n] w fun e w' => e = .returned (.int .i64 (refF wl o n)) /\ Below w.heap.size w w' := by
 unfold refF
 cases hB : blkF wl with
 | none =>
   have T := jz (blocks_is wl v none w hv hl hw hB)
   clear hv hl hw hB
   simp only [Option.isSome_none, Option.getD_none] at T ⊢
   go_enter Tryz.func122, Tryz.ntmps122
   go_wp2_with fail
   refine (T.out).mono ?_; rintro e w1 ⟨⟨v1, rfl, _⟩, b1⟩
   go_wp2
   go_ret
   exact ⟨rfl, b1⟩
 | some l =>
   have T := jz (blocks_is wl v (some l) w hv hl hw hB)
   have HS := jz (sm_of hB)
   obtain ⟨hlen, _⟩ := blkF_len hB
   have HL := jz hlen
   clear hv hl hw hB hlen
   simp only [Option.isSome_some, Option.getD_some] at T ⊢
   by_cases h1 : n < 0
   . rw [if_neg (by rw [inL_yes]; omega)]
     go_enter Tryz.func122, Tryz.ntmps122
     go_wp2_with fail
     refine (T.out).mono ?_; rintro e w1 ⟨⟨v1, rfl, _⟩, b1⟩
     go_wp2
     go_ret
     exact ⟨rfl, b1⟩
   . by_cases h2 : n > 448
     . rw [if_neg (by rw [inL_yes]; omega)]
       go_enter Tryz.func122, Tryz.ntmps122
       go_wp2_with fail
       refine (T.out).mono ?_; rintro e w1 ⟨⟨v1, rfl, _⟩, b1⟩
       go_wp2
       go_ret
       exact ⟨rfl, b1⟩
     . have HA : Hid (inL o n l = l.any (inW o n)) := jz (by rw [inL, decide_eq_true ⟨by omega, by omega⟩, Bool.true_and])
       rw [HA.out]
       clear HA
       have HN : Hid (0 <= n /\ n <= 448) := jz ⟨by omega, by omega⟩
       obtain ⟨R, hR⟩ : ∃ R, l.any (inW o n) = R := ⟨_, rfl⟩
       rw [hR]
       have HR := jz hR
       clear hR
       go_enter Tryz.func122, Tryz.ntmps122
       go_wp2_with fail
       refine (T.out).mono ?_; rintro e w1 ⟨⟨v1, rfl, o1⟩, b1⟩
       have D1 := jz b1
       have O1 := jz o1.ra
       obtain ⟨p1, c1, rfl, _, _⟩ := ra_shape o1.ra
       clear o1 b1 T
       go_wp2
       go_loopw [26] (fun i wr => ∃ k : Nat, k <= l.length /\ i = .int .i64 k /\ Hid ((l.drop k).any (inW o n) = R /\ Below w1.heap.size w1 wr)) (fun i _ => l.length - (intOf i).toNat)
       case atStart => exact ⟨0, Nat.zero_le _, rfl, jz ⟨HR.out, Below.refl _ _⟩⟩
       case round =>
        obtain ⟨k, hk, rfl, H⟩ := hrel
        by_cases hlt : k < l.length
        . obtain ⟨b, off, rfl, hb, hx⟩ := blk_at (ra_below O1.out H.out.2) (by omega)
          obtain ⟨hld, _, _, _, hwf⟩ := hx k hlt
          have hF := H.out.1
          rw [getD_cut hlt, List.any_cons] at hF
          have hS := HS.out _ (getD_mem hlt)
          generalize l.getD k default = y at *
          obtain ⟨a, s, u⟩ := y
          obtain ⟨W, hW, HW⟩ := blk_boxed wr ⟨a, s, u⟩
          have l0 := HW.out.1.load
          have c2 : W.cell? ⟨wr.heap.size, 2, none⟩ = some (.bool u) := HW.out.1.c2
          have C := jz (iwi_is ⟨a, s, u⟩ o n hS HN.out.1 HN.out.2 W)
          obtain ⟨d, hd⟩ : ∃ d, decide (offB a <= o /\ o <= (a + s) * 8 - n) = d := ⟨_, rfl⟩
          rw [inW] at hF
          simp only [hd] at hF C
          have HB := jz (below_more H.out.2 HW.out.2)
          have i0 : (0 : Int) <= (k : Int) := by omega
          have i1 : (k : Int) < (l.length : Int) := by omega
          have i2 : ¬ (k : Int) < 0 := by omega
          have i3 : IntKind.i64.wrap ((k : Int) + 1) = ((k + 1 : Nat) : Int) := by rw [show (k : Int) + 1 = ((k + 1 : Nat) : Int) by omega]; exact i64_nat _ (by have := HL.out; omega)
          have HK := jz hlt
          clear hx hk hb hwf hd hS
          cases u
          . simp only [Bool.false_and, Bool.false_or] at hF
            have HF := jz hF
            clear hF C
            go_wp2
            go_roundw
            case rel => exact ⟨k + 1, by have := HK.out; omega, by go_num, jz ⟨HF.out, HB.out⟩⟩
            case measure => have := HK.out; simp [intOf]; omega
          . cases d
            . simp only [Bool.and_false, Bool.false_or] at hF
              have HF := jz hF
              clear hF
              go_wp2_with fail
              refine (C.out).mono ?_; rintro e w' ⟨rfl, hb⟩
              have HB2 := jz (below_more HB.out hb)
              clear hb
              go_wp2
              go_roundw
              case rel => exact ⟨k + 1, by have := HK.out; omega, by go_num, jz ⟨HF.out, HB2.out⟩⟩
              case measure => have := HK.out; simp [intOf]; omega
            . simp only [Bool.and_self, Bool.true_or] at hF
              subst hF
              clear i3
              go_wp2_with fail
              refine (C.out).mono ?_; rintro e w' ⟨rfl, hb⟩
              have HB2 := jz (below_more D1.out (below_more HB.out hb))
              clear hb
              go_wp2
              go_ret
              exact ⟨rfl, HB2.out⟩
        . obtain rfl : k = l.length := by omega
          have hF := H.out.1
          rw [List.drop_length, List.any_nil] at hF
          subst hF
          have HB := jz (below_more D1.out H.out.2)
          go_wp2
          go_ret
          exact ⟨rfl, HB.out⟩
theorem joined_no (l : List Bk) (i : Int) (v : Value) (w : World) (hv : RA blkE w v l) (hl : l.length <= 1000) (h : canM l i = false) :
 Calls Tryz.prog 178 #[v, .int .i64 i] w fun e w' => e = .returned (.tuple #[.int .i64 0, .int .i64 0, .bool false]) /\ Below w.heap.size w w' := by
 have C1 := jz (mwords_is l v w hv hl)
 have C2 := jz (fun (w' : World) (hb : Below w.heap.size w w') => may_is (szW l) l v (mayS l) w' (ra_below hv hb) hl (may_szW l))
 have H0 := jz (fun (w' : World) (hb : Below w.heap.size w w') => ra_below hv hb)
 obtain ⟨p, cap, rfl, hlc, hcm⟩ := ra_shape hv
 generalize szW l = z at *
 cases hm : mayS l
 . rw [hm] at C2
   generalize l.length = L at *
   clear hv hl h hlc hcm
   go_enter Tryz.func178, Tryz.ntmps178
   go_wp2_with fail
   refine (C1.out).mono ?_; rintro e w' ⟨rfl, b1⟩
   have D1 := jz b1
   go_wp2_with fail
   refine (C2.out _ D1.out).mono ?_; rintro e w2 ⟨rfl, b2⟩
   have D2 := jz (below_more D1.out b2)
   clear b1 b2
   go_wp2_with fail
   go_ret3
   exact ⟨rfl, D2.out⟩
 rw [hm] at C2
 rcases canM_no h with h | h | h | ⟨h0, h1, h⟩
 . rw [h] at hm
   cases hm
 . generalize l.length = L at *
   clear hv hl hm hlc hcm
   go_enter Tryz.func178, Tryz.ntmps178
   go_wp2_with fail
   refine (C1.out).mono ?_; rintro e w' ⟨rfl, b1⟩
   have D1 := jz b1
   go_wp2_with fail
   refine (C2.out _ D1.out).mono ?_; rintro e w2 ⟨rfl, b2⟩
   have D2 := jz (below_more D1.out b2)
   clear b1 b2
   go_wp2_with fail
   go_ret3
   exact ⟨rfl, D2.out⟩
 . have h2 : ¬ i < 0 := by omega
   have h3 : i >= (l.length : Int) := h
   generalize l.length = L at *
   clear hv hl hm hlc hcm h
   go_enter Tryz.func178, Tryz.ntmps178
   go_wp2_with fail
   refine (C1.out).mono ?_; rintro e w' ⟨rfl, b1⟩
   have D1 := jz b1
   go_wp2_with fail
   refine (C2.out _ D1.out).mono ?_; rintro e w2 ⟨rfl, b2⟩
   have D2 := jz (below_more D1.out b2)
   clear b1 b2
   go_wp2_with fail
   go_ret3
   exact ⟨rfl, D2.out⟩
 . obtain ⟨k, rfl⟩ : ∃ k : Nat, i = k := ⟨i.toNat, by omega⟩
   have h2 : ¬ (k : Int) < 0 := by omega
   have h3 : ¬ (k : Int) >= (l.length : Int) := by omega
   have h4 : ¬ (l.length : Int) <= (k : Int) := by omega
   have hk : k < l.length := by omega
   have HX := jz (fun (w' : World) (hb : Below w.heap.size w w') => blk_at (H0.out w' hb) (Nat.lt_of_le_of_lt (Nat.zero_le _) hk))
   have HK := jz hk
   rw [bAt_nat] at h
   have HU := jz h
   clear hv hl hm hlc hcm hk h0 h
   go_enter Tryz.func178, Tryz.ntmps178
   go_wp2_with fail
   refine (C1.out).mono ?_; rintro e w' ⟨rfl, b1⟩
   have D1 := jz b1
   go_wp2_with fail
   refine (C2.out _ D1.out).mono ?_; rintro e w2 ⟨rfl, b2⟩
   have D2 := jz (below_more D1.out b2)
   clear b1 b2
   obtain ⟨b, off, rfl, _, hx⟩ := HX.out w2 D2.out
   obtain ⟨_, _, _, hu, _⟩ := hx k HK.out
   rw [HU.out] at hu
   clear hx
   generalize l.length = L at *
   go_wp2_with fail
   go_ret3
   exact ⟨rfl, D2.out⟩
theorem ahead_of (l : List Bk) (k : Nat) (hk : k < l.length) (hl : l.length <= 1000) : ∃ K0 F : Nat, frm l k = F ∧
 ((¬ (k : Int) > 0 /\ F = k) \/ ((k : Int) > 0 /\ IntKind.i64.wrap ((k : Int) - 1) = (K0 : Int) /\ K0 < l.length /\ ((l.getD K0 default).u = true /\ F = k \/ (l.getD K0 default).u = false /\ F = K0))) := by
 refine ⟨k - 1, frm l k, rfl, ?_⟩
 by_cases h : k = 0
 . refine .inl ⟨by omega, ?_⟩
   rcases frm_or l k with ⟨e, _⟩ | ⟨e, _⟩ <;> omega
 . refine .inr ⟨by omega, ?_, by omega, ?_⟩
   . rw [show (k : Int) - 1 = ((k - 1 : Nat) : Int) by omega]; exact i64_nat _ (by omega)
   . rcases frm_or l k with ⟨e, c⟩ | ⟨_, e, c⟩
     . exact .inl ⟨c.resolve_left h, e⟩
     . exact .inr ⟨c, e⟩
theorem behind_of (l : List Bk) (k : Nat) (hk : k < l.length) (hl : l.length <= 1000) : ∃ K1 K2 T : Nat, too l k = T /\ k + 1 = K1 /\ IntKind.i64.wrap ((k : Int) + 1) = (K1 : Int) /\ IntKind.i64.wrap ((K1 : Int) + 1) = (K2 : Int) ∧
 ((¬ (K1 : Int) < (l.length : Int) /\ T = K1) \/ ((K1 : Int) < (l.length : Int) /\ K1 < l.length /\ ((l.getD K1 default).u = true /\ T = K1 \/ (l.getD K1 default).u = false /\ T = K2))) := by
 refine ⟨k + 1, k + 2, too l k, rfl, rfl, by rw [show (k : Int) + 1 = ((k + 1 : Nat) : Int) by omega]; exact i64_nat _ (by omega), by rw [show ((k + 1 : Nat) : Int) + 1 = ((k + 2 : Nat) : Int) by omega]; exact i64_nat _ (by omega), ?_⟩
 rcases too_or l k with ⟨e, c⟩ | ⟨c, e, d⟩
 . by_cases h : l.length <= k + 1
   . exact .inl ⟨by omega, e⟩
   . exact .inr ⟨by omega, by omega, .inl ⟨c.resolve_left h, e⟩⟩
 . exact .inr ⟨by omega, c, .inr ⟨d, e⟩⟩
theorem joined_yes (l : List Bk) (k : Nat) (v : Value) (w : World) (hv : RA blkE w v l) (hl : l.length <= 1000) (h : canM l k = true) :
 Calls Tryz.prog 178 #[v, .int .i64 k] w fun e w' => e = .returned (.tuple #[.int .i64 (frm l k : Nat), .int .i64 (too l k : Nat), .bool true]) /\ Below w.heap.size w w' := by
 have C1 := jz (mwords_is l v w hv hl)
 have C2 := jz (fun (w' : World) (hb : Below w.heap.size w w') => may_is (szW l) l v (mayS l) w' (ra_below hv hb) hl (may_szW l))
 have H0 := jz (fun (w' : World) (hb : Below w.heap.size w w') => ra_below hv hb)
 obtain ⟨p, cap, rfl, hlc, hcm⟩ := ra_shape hv
 obtain ⟨hm, hk, hu⟩ := canM_nat h
 rw [hm] at C2
 generalize szW l = z at *
 obtain ⟨b, off, rfl, _, _⟩ := blk_at hv (by omega)
 have HX : Hid (∀ w', Below w.heap.size w w' -> ∀ j, j < l.length -> w'.cell? ⟨b, off + j * 3 + 2, none⟩ = some (.bool (l.getD j default).u)) := jz fun w' hb' j hj => by
  obtain ⟨_, _, e, _, hx⟩ := blk_at (H0.out w' hb') (by omega)
  cases e
  exact (hx j hj).2.2.2.1
 obtain ⟨K0, F, hF, hA⟩ := ahead_of l k hk hl
 obtain ⟨K1, K2, T, hT, e1, j1, j2, hB⟩ := behind_of l k hk hl
 rw [hF, hT]
 have h2 : ¬ (k : Int) < 0 := by omega
 have h3 : ¬ (k : Int) >= (l.length : Int) := by omega
 have h4 : ¬ (l.length : Int) <= (k : Int) := by omega
 have HU := jz (And.intro hk hu)
 clear hv hl h hlc hcm hm hk hu hF hT H0 e1
 go_enter Tryz.func178, Tryz.ntmps178
 go_wp2_with fail
 refine (C1.out).mono ?_; rintro e w' ⟨rfl, b1⟩
 have D1 := jz b1
 go_wp2_with fail
 refine (C2.out _ D1.out).mono ?_; rintro e w2 ⟨rfl, b2⟩
 have D2 := jz (below_more D1.out b2)
 clear b1 b2
 have x1 := HX.out w2 D2.out k HU.out.1
 rw [HU.out.2] at x1
 rcases hA with ⟨a1, rfl⟩ | ⟨a1, a2, a3, hA⟩
 . rcases hB with ⟨b1, rfl⟩ | ⟨b1, b2, hB⟩
   . clear HU HX
     generalize l.length = L at *
     go_wp2_with fail
     go_ret3
     exact ⟨rfl, D2.out⟩
   . have b3 : ¬ (l.length : Int) <= (K1 : Int) := by omega
     have y1 := HX.out w2 D2.out K1 b2
     clear HU HX b2
     generalize l.length = L at *
     rcases hB with ⟨q, rfl⟩ | ⟨q, rfl⟩
     all_goals
      rw [q] at y1
      go_wp2_with fail
      go_ret3
      exact ⟨rfl, D2.out⟩
 . have a4 : ¬ (l.length : Int) <= (K0 : Int) := by omega
   have z1 := HX.out w2 D2.out K0 a3
   rcases hA with ⟨q0, rfl⟩ | ⟨q0, rfl⟩
   all_goals
    rw [q0] at z1
    rcases hB with ⟨b1, rfl⟩ | ⟨b1, b2, hB⟩
    . clear HU HX a3 q0
      generalize l.length = L at *
      go_wp2_with fail
      go_ret3
      exact ⟨rfl, D2.out⟩
    . have b3 : ¬ (l.length : Int) <= (K1 : Int) := by omega
      have y1 := HX.out w2 D2.out K1 b2
      clear HU HX b2 a3 q0
      generalize l.length = L at *
      rcases hB with ⟨q, rfl⟩ | ⟨q, rfl⟩
      all_goals
       rw [q] at y1
       go_wp2_with fail
       go_ret3
       exact ⟨rfl, D2.out⟩
theorem Bv.store {w : World} {g : Nat} {b : Bk} (h : Bv w g b) (c : Bk) : (blkStore (.pointer (some ⟨g, 0, none⟩)) (.agg (bc c))).run Tryz.prog w = .ok () (w.setRow g (bc c)) := by
 simp only [blkStore, Instr.storeAt, Instr.sureAddr, Sem.run_bind, Sem.run_pure, Result.andThen]
 exact run_storeVar_row w g 124 124 (bc b) (bc c) h (by rw [info_block, bc_size]) (by rw [bc_size, bc_size]) (bc_one c)
theorem Bv.put {w : World} {g : Nat} {b : Bk} (h : Bv w g b) (c : Bk) : Bv (w.setRow g (bc c)) g c := by
 have e : w.heap[g]? = some (.cells (bc b) 124 (0, 0)) := h
 unfold Bv Whole
 simp [World.setRow, Array.getElem?_modify, e]
theorem Ev.store {w : World} {g : Nat} {b : Ed} (h : Ev w g b) (c : Ed) : (edStore (.pointer (some ⟨g, 0, none⟩)) (.agg (ec c))).run Tryz.prog w = .ok () (w.setRow g (ec c)) := by
 simp only [edStore, Instr.storeAt, Instr.sureAddr, Sem.run_bind, Sem.run_pure, Result.andThen]
 exact run_storeVar_row w g 195 195 (ec b) (ec c) h (by rw [info_edit, ec_size]) (by rw [ec_size, ec_size]) (ec_one c)
theorem Ev.put {w : World} {g : Nat} {b : Ed} (h : Ev w g b) (c : Ed) : Ev (w.setRow g (ec c)) g c := by
 have e : w.heap[g]? = some (.cells (ec b) 195 (0, 0)) := h
 unfold Ev Whole
 simp [World.setRow, Array.getElem?_modify, e]
theorem Ev.load {w : World} {g : Nat} {b : Ed} (h : Ev w g b) : (edLoad (.pointer (some ⟨g, 0, none⟩))).run Tryz.prog w = .ok (.agg (ec b)) w :=
 run_edLoad fun j u hj => by rw [Whole.at_ h, Nat.zero_add, <- hj]; simp [ec]
theorem blk_box0 (w : World) : ∃ W, w.alloc (.cells #[.int .i64 0, .int .i64 0, .bool false] 124) = W /\ Hid (Bv W w.heap.size ⟨0, 0, false⟩ /\ Below w.heap.size w W) := blk_boxed w ⟨0, 0, false⟩
theorem ed_box0 (w : World) : ∃ W, w.alloc (.cells #[.int .i64 0, .int .u64 0] 195) = W /\ Hid (Ev W w.heap.size ⟨0, 0⟩ /\ Below w.heap.size w W) := ed_boxed w ⟨0, 0⟩
theorem one_is (m : List Bk) (v : Value) (w : World) (hv : RA blkE w v m) (h0 : 0 < m.length) (hl : m.length <= 1000) (a s : Int) (ha : (m.getD 0 default).a = a) (hs : szW m = s) :
 Calls Tryz.prog 179 #[v] w fun e w' => e = .returned (.agg (bc ⟨a, s, false⟩)) /\ Below w.heap.size w w' := by
 obtain ⟨W, hW, H0⟩ := blk_box0 w
 have C := jz (fun (w' : World) (hb : Below W.heap.size W w') => mwords_is m v w' (ra_below (ra_below hv H0.out.2) hb) hl)
 rw [hs] at C
 have HR := jz (ra_below hv H0.out.2)
 obtain ⟨p, cap, rfl, hlc, hcm⟩ := ra_shape hv
 obtain ⟨b, off, rfl, hbw, _⟩ := blk_at hv h0
 have c0 : ∀ w', Chg [w.heap.size] W w' -> w'.cell? ⟨b, off, none⟩ = some (.int .i64 a) := fun w' hc => by
  obtain ⟨_, _, e, _, hx⟩ := blk_at (ra_chg HR.out hc (fun g hg => by
   cases hg
   simpa using Nat.ne_of_lt hbw)) h0
  cases e
  have := (hx 0 h0).2.1
  rw [ha] at this
  simpa using this
 have i1 : (0 : Int) < (m.length : Int) := by omega
 have i2 : ¬ (m.length : Int) <= 0 := by omega
 have i3 : 0 < m.length := h0
 clear hv HR ha hs h0 hlc hcm
 generalize m.length = L at *
 have hbd : Below W.heap.size W W.drew := (Below.refl _ _).drew
 go_enter Tryz.func179, Tryz.ntmps179
 go_wp2_with fail
 go_region_held3 (fun w' => Chg [w.heap.size] W w')
  (first | assumption | exact (Chg.refl _ _).drew | exact Chg.setRow (by assumption) (.inl (by simp)) _)
  (first
    | (go_at_call 189; refine (C.out _ hbd).mono ?_; rintro e wy ⟨rfl, hby⟩
       have GY := H0.out.1.below (hbd.trans hby)
       have hst := GY.store ⟨a, s, false⟩
       have FY := jz (GY.put ⟨a, s, false⟩)
       have CY := jz (Chg.of_below (hbd.trans hby) [w.heap.size])
       clear hby GY))
 have BF := jz ((CY.out.setRow (g := w.heap.size) (.inl (by simp)) (bc ⟨a, s, false⟩)).below H0.out.2 H0.out.2.size (fun k hk => by rw [List.mem_singleton.1 hk]; exact Nat.le_refl _))
 go_wp2
 exact bodyPost_ret (v := .agg (bc ⟨a, s, false⟩)) (results_cell_row rfl _ _ _ _ _ _ _ rfl FY.out Tryz.underlying124 rfl (by rw [info_block]; rfl)) rfl ⟨rfl, BF.out⟩
theorem mid_length {l : List Bk} {k : Nat} (h : k < l.length) : (midB l k).length = too l k - frm l k := by
 have := frm_too h
 rw [midB, List.length_drop, List.length_take]
 omega
theorem mid_sum {l : List Bk} {k : Nat} (h : canM l k = true) : szW (midB l k) = (oneB l k).s /\ ((midB l k).getD 0 default).a = (oneB l k).a := by
 obtain ⟨hm, hk, _⟩ := canM_nat h
 have ha := mayS_all hm
 refine ⟨?_, ?_⟩
 . rw [szW, if_pos]
   . rfl
   . exact List.all_eq_true.2 fun b hb => List.all_eq_true.1 ha b (mid_in hk b hb)
 . obtain ⟨r, hr⟩ := mid_cons hk
   rw [hr]; rfl
theorem ra_mid {l : List Bk} {k b off c : Nat} {w : World} (h : k < l.length) (hv : RA blkE w (.slice (some ⟨b, off, none⟩) l.length c) l) : RA blkE w (.slice (some ⟨b, off + frm l k * 3, none⟩) (too l k - frm l k) (c - frm l k)) (midB l k) := by
 have hf := frm_too h
 have := ra_take hv (too l k)
 rw [Nat.min_eq_left (by omega)] at this
 exact ra_drop this (by rw [List.length_take]; omega)
end Go.Proofs.YtkpefnjohdjejaaGreat
