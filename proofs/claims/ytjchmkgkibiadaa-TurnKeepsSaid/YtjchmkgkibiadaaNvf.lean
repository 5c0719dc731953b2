/-
  Contracts of package nvm's Get and Set.
-/
import Derived.Test.YtjchmkgkibiadaaNve
import Derived.Laws.ResultCell
namespace Go.Proofs.Ytjchmkgkibiadaa
open Go.RowKit

theorem results_cell_tmp {P : Program} {fn : Func} {p q : Tmp} {ty : TypeId} (h : fn.results = #[.cell p ty, .tmp q]) (tmps : Array Value) (w : World) (v : Value) (g : Nat) (t : TypeId) (cs : Array Value) (fr : Nat × Nat) (d : TypeDesc)
    (hp : tmps.getD p undef = .pointer (some ⟨g, 0, none⟩)) (hq : tmps.getD q undef = v) (hg : w.heap[g]? = some (.cells cs t fr))
    (hu : P.underlying ty = some d) (hd : (match d with | .struct _ | .array _ _ => true | _ => false) = true) (hi : (P.info? ty).map (·.size) = some cs.size) :
    (results fn tmps).run P w = .ok (.tuple #[.agg cs, v]) w := by
  have hp' : tmps[p]?.getD undef = .pointer (some ⟨g, 0, none⟩) := by simpa using hp
  have hq' : tmps[q]?.getD undef = v := by simpa using hq
  simp [results, h, hp', hq', asAddr, run_loadVar_row w g t ty cs fr d hg hu hd hi]

theorem get_no (g : Nat) (s : Nv) (i : Int) (w : World) (h : Nm w g s) (hr : s.rdy (s.has i) ≠ 0) : Calls Try.prog 49 #[.pointer (some ⟨g, 0, none⟩), .int .i64 i] w fun e w' => e = .returned (.tuple #[.agg (lc zeros), .int .i64 (s.rdy (s.has i))]) ∧ Below w.heap.size w w' := by
  have h1 := h.alloc (.cells (lc zeros) 33)
  have C := Lib.hid (hasLine_any g s i _ h1)
  have C1 := Lib.hid (ready_any g s (s.has i) _ h1)
  have t0 : (s.rdy (s.has i) != 0) = true := by simpa using hr
  have HB := Lib.hid (bal (o := .cells (lc zeros) 33) (Below.refl w.heap.size w))
  have HN := Lib.hid (Ln.new w (l := zeros) rfl)
  have hz8 : zeros.length = 8 := rfl
  clear h h1 hr
  generalize s.has i = b at *
  generalize s.rdy b = x at *
  go_enter Try.func49, Try.ntmps49
  go_wp2_with fail
  refine (C.out).mono ?_; rintro e w' ⟨rfl, rfl⟩
  go_wp2_with fail
  refine (C1.out).mono ?_; rintro e w' ⟨rfl, rfl⟩
  go_wp2
  exact bodyPost_ret (v := .tuple #[.agg (lc zeros), .int .i64 x]) (results_cell_tmp rfl _ _ _ _ _ _ _ _ rfl rfl HN.out.1 Try.underlying33 rfl (by rw [info_line]; rfl)) rfl ⟨rfl, HB.out⟩
theorem get_yes (g : Nat) (s : Nv) (k : Nat) (w : World) (h : Nm w g s) (ho : s.Ok) (hr : s.rdy (s.has k) = 0) : Calls Try.prog 49 #[.pointer (some ⟨g, 0, none⟩), .int .i64 k] w fun e w' => e = .returned (.tuple #[.agg (lc (s.h k)), .int .i64 0]) ∧ Below w.heap.size w w' := by
  have h1 := h.alloc (.cells (lc zeros) 33)
  have C := Lib.hid (hasLine_any g s k _ h1)
  have C1 := Lib.hid (ready_any g s (s.has k) _ h1)
  obtain ⟨_, e, hk, _⟩ := has_nat (rdy_zero hr).1 ho
  obtain rfl := Int.ofNat.inj e
  rw [hr] at C1
  have hx := ho.line k
  have c0 := h1.loadLine hk hx
  have HB := Lib.hid (bal (o := .cells (lc (s.h k)) 33) (Below.refl w.heap.size w))
  have HN := Lib.hid (Ln.new w hx)
  have hz8 : zeros.length = 8 := rfl
  clear h h1 hr e ho
  generalize s.has (k : Int) = b at *
  generalize s.h k = x at *
  go_enter Try.func49, Try.ntmps49
  go_wp2_with fail
  refine (C.out).mono ?_; rintro e w' ⟨rfl, rfl⟩
  go_wp2_with fail
  refine (C1.out).mono ?_; rintro e w' ⟨rfl, rfl⟩
  go_wp2
  exact bodyPost_ret (v := .tuple #[.agg (lc x), .int .i64 0]) (results_cell_tmp rfl _ _ _ _ _ _ _ _ rfl rfl HN.out.1 Try.underlying33 rfl (by rw [info_line, lc_size, hx])) rfl ⟨rfl, HB.out⟩
theorem get_any (g : Nat) (s : Nv) (i : Int) (w : World) (h : Nm w g s) (ho : s.Ok) : Calls Try.prog 49 #[.pointer (some ⟨g, 0, none⟩), .int .i64 i] w fun e w' => e = .returned (.tuple #[.agg (lc (s.get i)), .int .i64 (s.rdy (s.has i))]) ∧ Below w.heap.size w w' := by
  by_cases hr : s.rdy (s.has i) = 0
  · obtain ⟨k, rfl, hk⟩ := has_nat (rdy_zero hr).1 ho
    refine (get_yes g s k w h ho hr).mono ?_
    rintro e w' ⟨rfl, hb⟩
    exact ⟨ret_2 (by simp [Nv.get, hr]) (by rw [hr]), hb⟩
  · refine (get_no g s i w h hr).mono ?_
    rintro e w' ⟨rfl, hb⟩
    exact ⟨ret_2 (by simp [Nv.get, hr]) rfl, hb⟩
theorem get_nil (i : Int) (w : World) : Calls Try.prog 49 #[.pointer none, .int .i64 i] w fun e w' => e = .returned (.tuple #[.agg (lc zeros), .int .i64 1]) ∧ Below w.heap.size w w' := by
  have HB := Lib.hid (bal (o := .cells (lc zeros) 33) (Below.refl w.heap.size w))
  have HN := Lib.hid (Ln.new w (l := zeros) rfl)
  go_enter Try.func49, Try.ntmps49
  go_wp2_with fail
  refine (hasLine_nil i _).mono ?_; rintro e w' ⟨rfl, rfl⟩
  go_wp2_with fail
  refine (ready_nil _).mono ?_; rintro e w' ⟨rfl, rfl⟩
  go_wp2
  exact bodyPost_ret (v := .tuple #[.agg (lc zeros), .int .i64 1]) (results_cell_tmp rfl _ _ _ _ _ _ _ _ rfl rfl HN.out.1 Try.underlying33 rfl (by rw [info_line]; rfl)) rfl ⟨rfl, HB.out⟩

theorem set_no (g : Nat) (s : Nv) (i v : Int) (w : World) (h : Nm w g s) (hr : s.rdy (hasR i) ≠ 0) : Calls Try.prog 21 #[.pointer (some ⟨g, 0, none⟩), .int .i64 i, .int .u64 v] w fun e w' => e = .returned (.int .i64 (s.rdy (hasR i))) ∧ w = w' := by
  have C := Lib.hid (hasReg_any g i w)
  have C1 := Lib.hid (ready_any g s (hasR i) w h)
  have t0 : (s.rdy (hasR i) != 0) = true := by simpa using hr
  clear h hr
  generalize hasR i = b at *
  generalize s.rdy b = x at *
  go_enter Try.func21, Try.ntmps21
  go_wp2_with fail
  refine (C.out).mono ?_; rintro e w' ⟨rfl, rfl⟩
  go_wp2_with fail
  refine (C1.out).mono ?_; rintro e w' ⟨rfl, rfl⟩
  go_wp2
  go_ret
  exact ⟨rfl, rfl⟩
theorem set_yes (g : Nat) (s : Nv) (k : Nat) (v : Int) (w : World) (h : Nm w g s) (hc : 0 ≤ s.c) (hc2 : s.c < 4611686018427387904) (ha : s.ahead ≤ 9223372036854775807) (hr : s.rdy (hasR k) = 0) (hm : s.by_ % 2 = 1) :
    Calls Try.prog 21 #[.pointer (some ⟨g, 0, none⟩), .int .i64 k, .int .u64 v] w fun e w' => e = .returned (.int .i64 s.told) ∧ Nm w' g (s.tick.reg k v) ∧ Chg [g] w w' := by
  have C := Lib.hid (hasReg_any g k w)
  have C1 := Lib.hid (ready_any g s (hasR k) w h)
  have C2 := Lib.hid (write_any g s w h hc hc2 ha)
  obtain ⟨_, e, hk⟩ := hasR_nat (rdy_zero hr).1
  obtain rfl := Int.ofNat.inj e
  rw [hr] at C1
  clear h hr e hc hc2 ha
  generalize hasR (k : Int) = b at *
  generalize s.by_ = m at *
  generalize s.told = t at *
  generalize s.tick = s1 at *
  clear s
  go_enter Try.func21, Try.ntmps21
  go_wp2_with fail
  refine (C.out).mono ?_; rintro e w' ⟨rfl, rfl⟩
  go_wp2_with fail
  refine (C1.out).mono ?_; rintro e w' ⟨rfl, rfl⟩
  go_wp2_with fail
  refine C2.out.mono ?_; rintro e w1 ⟨rfl, hN, hC⟩
  have c0 := hN.at_ (k := 2001 + k) (by omega)
  rw [s1.val_rg hk] at c0
  have z0 := hN.free (2001 + k)
  have HN := Lib.hid (hN.setReg hk v)
  have HC := Lib.hid (hC.setCell (p := ⟨g, 2001 + k, none⟩) (.inl (List.mem_singleton.2 rfl)) (.int .u64 v))
  clear hN hC
  go_wp2
  go_ret
  exact ⟨rfl, HN.out, HC.out⟩
theorem set_keep (g : Nat) (s : Nv) (k : Nat) (v : Int) (w : World) (h : Nm w g s) (hc : 0 ≤ s.c) (hc2 : s.c < 4611686018427387904) (ha : s.ahead ≤ 9223372036854775807) (hr : s.rdy (hasR k) = 0) (hm : ¬ s.by_ % 2 = 1) :
    Calls Try.prog 21 #[.pointer (some ⟨g, 0, none⟩), .int .i64 k, .int .u64 v] w fun e w' => e = .returned (.int .i64 s.told) ∧ Nm w' g s.tick ∧ Chg [g] w w' := by
  have C := Lib.hid (hasReg_any g k w)
  have C1 := Lib.hid (ready_any g s (hasR k) w h)
  have C2 := Lib.hid (write_any g s w h hc hc2 ha)
  rw [hr] at C1
  clear h hr hc hc2 ha
  generalize hasR (k : Int) = b at *
  generalize s.by_ = m at *
  generalize s.told = t at *
  generalize s.tick = s1 at *
  clear s
  go_enter Try.func21, Try.ntmps21
  go_wp2_with fail
  refine (C.out).mono ?_; rintro e w' ⟨rfl, rfl⟩
  go_wp2_with fail
  refine (C1.out).mono ?_; rintro e w' ⟨rfl, rfl⟩
  go_wp2_with fail
  refine C2.out.mono ?_; rintro e w1 ⟨rfl, hN, hC⟩
  have HN := Lib.hid hN
  have HC := Lib.hid hC
  clear hN hC
  go_wp2
  go_ret
  exact ⟨rfl, HN.out, HC.out⟩
theorem set_any (g : Nat) (s : Nv) (i v : Int) (w : World) (h : Nm w g s) (ho : s.Ok) (hc2 : s.c < 4611686018427387904) :
    Calls Try.prog 21 #[.pointer (some ⟨g, 0, none⟩), .int .i64 i, .int .u64 v] w fun e w' => e = .returned (.int .i64 (s.setE i)) ∧ Nm w' g (s.set i v) ∧ Chg [g] w w' := by
  have hc := Int.le_trans (ho.wr0 0) (ho.wr1 0)
  by_cases hr : s.rdy (hasR i) = 0
  · obtain ⟨k, rfl, hk⟩ := hasR_nat (rdy_zero hr).1
    by_cases hm : s.by_ % 2 = 1
    · refine (set_yes g s k v w h hc hc2 ho.ah hr hm).mono ?_
      rintro e w' ⟨rfl, hN, hC⟩
      exact ⟨by simp [Nv.setE, hr], hN.as (by simp [Nv.set, hr, hm]), hC⟩
    · refine (set_keep g s k v w h hc hc2 ho.ah hr hm).mono ?_
      rintro e w' ⟨rfl, hN, hC⟩
      exact ⟨by simp [Nv.setE, hr], hN.as (by simp [Nv.set, hr, hm]), hC⟩
  · refine (set_no g s i v w h hr).mono ?_
    rintro e w' ⟨rfl, rfl⟩
    exact ⟨by simp [Nv.setE, hr], h.as (by simp [Nv.set, hr]), Chg.refl _ _⟩
theorem set_nil (i v : Int) (w : World) : Calls Try.prog 21 #[.pointer none, .int .i64 i, .int .u64 v] w fun e w' => e = .returned (.int .i64 1) ∧ w = w' := by
  go_enter Try.func21, Try.ntmps21
  go_wp2_with fail
  refine (hasReg_nil i w).mono ?_; rintro e w' ⟨rfl, rfl⟩
  go_wp2_with fail
  refine (ready_nil w).mono ?_; rintro e w' ⟨rfl, rfl⟩
  go_wp2
  go_ret
  exact ⟨rfl, rfl⟩
end Go.Proofs.Ytjchmkgkibiadaa
