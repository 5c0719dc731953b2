/-
  Counts below nought count as nought, those above a million as that. No conditions.
-/
import Derived.Test.YtaghncdeojdghaaOwnI
namespace Go.Proofs.Ytaghncdeojdghaa.meanHeld
open Go.Proofs.Ytaghncdeojdghaa Go.Proofs.Ytaghncdeojdghaa.D Go.ChangeShapes Go.WideShapes Go.ChangeAt Go.RowKit

/-- counts brought to 0 to a million -/
def br (l : List Int) : List Int := l.map fun n => ((hn n : Nat) : Int)
theorem br_length (l : List Int) : (br l).length = l.length := by simp [br]
theorem held_br (l : List Int) : held (br l) = held l := by simp [held, br, hn_hn]
theorem br_snoc {l : List Int} {k : Nat} (h : k < l.length) : br (l.take (k + 1)) = br (l.take k) ++ [((hn (l.getD k 0) : Nat) : Int)] := by
  rw [takeI_snoc h]; simp [br]

theorem cmp_self (x : Nat) (hx : x < 2 ^ 64) (w : World) : Calls Try.prog 20 #[.float .f64 x, .float .f64 x] w fun e w' => e = .returned (.int .i64 0) ∧ w = w' := by
  refine (rcmp_any x x w hx hx).mono fun e w' ⟨h, g⟩ => ⟨?_, g⟩
  rw [h]
  refine ret_i64 ?_
  unfold cmp3; rw [if_neg (by omega), if_neg (by omega)]

theorem long (p : Option Addr) (n cap : Nat) (w : World) (h : 150 < n) :
    Calls Try.prog 7 #[.slice p n cap] w fun e w' => e = .returned (.bool true) ∧ Below w.heap.size w w' := by
  go_enter Try.func7, Try.ntmps7
  go_wp2_with fail
  refine (awake_any _).mono ?_; rintro e w' ⟨rfl, hb⟩
  go_wp2_with fail
  go_ret
  exact ⟨rfl, hb⟩

/-- what is asked once the counts are brought -/
structure Asks (l : List Int) (x y z : Nat) : Prop where
  of : ∀ m : List Int, held m = held l → m.length ≤ 150 → ∀ (v : Value) (w : World), RI w v m → Calls Try.prog 11 #[v] w fun e w' => e = .returned (.float .f64 x) ∧ ∃ n, w' = w.drewN n
  var : ∀ m : List Int, held m = held l → m.length ≤ 150 → ∀ (v : Value) (w : World), RI w v m → Calls Try.prog 13 #[v] w fun e w' => e = .returned (.float .f64 y) ∧ ∃ n, w' = w.drewN n
  un : ∀ m : List Int, held m = held l → m.length ≤ 150 → ∀ (v : Value) (w : World), RI w v m → Calls Try.prog 17 #[v] w fun e w' => e = .returned (.float .f64 z) ∧ ∃ n, w' = w.drewN n
  cx : ∀ w : World, Calls Try.prog 20 #[.float .f64 x, .float .f64 x] w fun e w' => e = .returned (.int .i64 0) ∧ w = w'
  cy : ∀ w : World, Calls Try.prog 20 #[.float .f64 y, .float .f64 y] w fun e w' => e = .returned (.int .i64 0) ∧ w = w'
  cz : ∀ w : World, Calls Try.prog 20 #[.float .f64 z, .float .f64 z] w fun e w' => e = .returned (.int .i64 0) ∧ w = w'
theorem asks (l : List Int) : ∃ x y z, Asks l x y z := by
  have le : ∀ m : List Int, m.length ≤ 150 → m.length ≤ maxLen := fun m h => by unfold maxLen; omega
  refine ⟨ofV (held l), varV (held l), unV (held l), ?_, ?_, ?_, cmp_self _ (ofV_le _), cmp_self _ (varV_le _), cmp_self _ (unV_le _)⟩
  · intro m hm hl v w h; exact of_is (by rw [hm]) (le m hl) v w h
  · intro m hm hl v w h; exact var_is (by rw [hm]) (le m hl) v w h
  · intro m hm hl v w h; exact un_is (by rw [hm]) (le m hl) v w h

set_option maxHeartbeats 4000000 in
theorem short (l : List Int) (p : Option Addr) (cap : Nat) (w : World) (hr : RI w (.slice p l.length cap) l) (hl : l.length ≤ 150) :
    Calls Try.prog 7 #[.slice p l.length cap] w fun e w' => e = .returned (.bool true) ∧ Below w.heap.size w w' := by
  obtain ⟨i0, hi, hz0, hz1, hz2⟩ := info_parts info_int
  obtain ⟨x, y, z, hA⟩ := asks l
  have A := Lib.hid hA
  have R := Lib.hid hr
  obtain ⟨B, hB⟩ : ∃ B, B = w.heap.size := ⟨_, rfl⟩
  have HB := Lib.hid hB
  have R0 : Hid (Below B w w) := Lib.hid (Below.refl _ _)
  rw [← hB]
  clear hA hr hB
  go_enter Try.func7, Try.ntmps7
  go_wp2
  go_loopw [3, 12] (fun v i wr => ∃ k : Nat, k ≤ l.length ∧ i = .int .i64 k ∧ wr.ownsRow B 3 1 v (br (l.take k)).length ((br (l.take k)).map iv) ∧ Below B w wr) (fun _ i _ => l.length - (intOf i).toNat)
  case atStart => exact ⟨0, Nat.zero_le _, rfl, World.ownsRow_nil _ _ _ _, R0.out⟩
  case round =>
    clear R0
    obtain ⟨k, hk, rfl, hown, hbel⟩ := hrel
    by_cases hlt : k < l.length
    · obtain ⟨b, off, rfl, hc⟩ := ri_some (ri_below R.out (by rw [← HB.out]; exact hbel)) (by omega)
      have hcell := hc k hlt
      have hs := br_snoc hlt
      have hlen : (br (l.take k)).length = k := by rw [br_length, List.length_take]; omega
      have HS := Lib.hid hs
      have HL := Lib.hid hlen
      rw [hlen] at hown
      have HO := Lib.hid hown
      have HBel := Lib.hid hbel
      have hsz : B ≤ wr.heap.size := by have := hbel.size; rw [← HB.out] at this; exact this
      have T := hn_tri (l.getD k 0)
      clear hs hlen hown hbel hc R A
      generalize l.getD k 0 = y at *
      rcases T with ⟨c1, hv⟩ | ⟨c1, c2, hv⟩ | ⟨c1, hv⟩
      · rw [hv] at HS
        clear hv
        go_wp2_with (at_builtin; refine wpList_append_own _ rfl _ _ 22 rfl B 3 i0 (.int .i64 0) 1 8 Try.underlying22 hi hz0 hz1 hz2 rfl (by decide) _ _ _ rfl (HO.out.alloc _) ⟨wr.heap.size, 0, none⟩ 1 1 [.int .i64 0] rfl rfl ?c1 ?c2 ?c3 ?c4 ?c5 ?_)
        case c1 =>
          intro j u hj
          match j, hj with
          | 0, hj => simp at hj; subst hj; simp [Addr.add]
        case c2 => intro u hu; simp at hu; subst hu; rfl
        case c3 => unfold maxLen; omega
        case c4 => omega
        case c5 => simp; omega
        intro v' w1 hown1 hgrow _
        have hb1 : Below B w w1 := (HBel.out.alloc hsz _).grown hgrow (by rw [size_alloc]; omega) (by intro q hq; exact (HO.out.lt q hq).1)
        have hown2 : w1.ownsRow B 3 1 v' (br (l.take (k + 1))).length ((br (l.take (k + 1))).map iv) := by
          rw [HS.out, List.length_append, List.map_append, HL.out]; exact hown1
        clear hown1 hgrow HO HBel
        go_wp2
        go_roundw
        case rel => exact ⟨k + 1, by omega, by go_num, hown2, hb1⟩
        case measure => simp [intOf]; omega
      · rw [hv] at HS
        clear hv
        go_wp2_with (at_builtin; refine wpList_append_own _ rfl _ _ 22 rfl B 3 i0 (.int .i64 0) 1 8 Try.underlying22 hi hz0 hz1 hz2 rfl (by decide) _ _ _ rfl (HO.out.alloc _) ⟨wr.heap.size, 0, none⟩ 1 1 [.int .i64 y] rfl rfl ?c1 ?c2 ?c3 ?c4 ?c5 ?_)
        case c1 =>
          intro j u hj
          match j, hj with
          | 0, hj => simp at hj; subst hj; simp [Addr.add]
        case c2 => intro u hu; simp at hu; subst hu; rfl
        case c3 => unfold maxLen; omega
        case c4 => omega
        case c5 => simp; omega
        intro v' w1 hown1 hgrow _
        have hb1 : Below B w w1 := (HBel.out.alloc hsz _).grown hgrow (by rw [size_alloc]; omega) (by intro q hq; exact (HO.out.lt q hq).1)
        have hown2 : w1.ownsRow B 3 1 v' (br (l.take (k + 1))).length ((br (l.take (k + 1))).map iv) := by
          rw [HS.out, List.length_append, List.map_append, HL.out]; exact hown1
        clear hown1 hgrow HO HBel
        go_wp2
        go_roundw
        case rel => exact ⟨k + 1, by omega, by go_num, hown2, hb1⟩
        case measure => simp [intOf]; omega
      · rw [hv] at HS
        clear hv
        go_wp2_with (at_builtin; refine wpList_append_own _ rfl _ _ 22 rfl B 3 i0 (.int .i64 0) 1 8 Try.underlying22 hi hz0 hz1 hz2 rfl (by decide) _ _ _ rfl (HO.out.alloc _) ⟨wr.heap.size, 0, none⟩ 1 1 [.int .i64 1000000] rfl rfl ?c1 ?c2 ?c3 ?c4 ?c5 ?_)
        case c1 =>
          intro j u hj
          match j, hj with
          | 0, hj => simp at hj; subst hj; simp [Addr.add]
        case c2 => intro u hu; simp at hu; subst hu; rfl
        case c3 => unfold maxLen; omega
        case c4 => omega
        case c5 => simp; omega
        intro v' w1 hown1 hgrow _
        have hb1 : Below B w w1 := (HBel.out.alloc hsz _).grown hgrow (by rw [size_alloc]; omega) (by intro q hq; exact (HO.out.lt q hq).1)
        have hown2 : w1.ownsRow B 3 1 v' (br (l.take (k + 1))).length ((br (l.take (k + 1))).map iv) := by
          rw [HS.out, List.length_append, List.map_append, HL.out]; exact hown1
        clear hown1 hgrow HO HBel
        go_wp2
        go_roundw
        case rel => exact ⟨k + 1, by omega, by go_num, hown2, hb1⟩
        case measure => simp [intOf]; omega
    · obtain rfl : k = l.length := by omega
      rw [List.take_length] at hown
      have hO : OwnI B wr _ (br l) := hown
      have RM := Lib.hid hO.ri
      have RL := Lib.hid (ri_below R.out (by rw [← HB.out]; exact hbel))
      have hsz : B ≤ wr.heap.size := by have := hbel.size; rw [← HB.out] at this; exact this
      have HBel := Lib.hid hbel
      have HLB : Hid ((br l).length ≤ 150) := Lib.hid (by rw [br_length]; exact hl)
      obtain ⟨pm, cm, rfl⟩ := hO.shape
      clear hown hbel hO R HB
      go_wp2_with fail
      refine (A.out.of l rfl hl _ _ RL.out).mono ?_; rintro e w1 ⟨rfl, h1⟩
      have B1 := Lib.hid (below_drew h1)
      have L1 := Lib.hid (ri_next RL.out h1)
      have M1 := Lib.hid (ri_next RM.out h1)
      clear h1 RL RM
      go_wp2_with fail
      refine (A.out.of _ (held_br l) HLB.out _ _ M1.out).mono ?_; rintro e w2 ⟨rfl, h2⟩
      have B2 := Lib.hid (below_next B1.out h2)
      have L2 := Lib.hid (ri_next L1.out h2)
      have M2 := Lib.hid (ri_next M1.out h2)
      clear h2 L1 M1 B1
      go_wp2_with fail
      refine (A.out.cx _).mono ?_; rintro e w' ⟨rfl, rfl⟩
      go_wp2_with fail
      refine (A.out.var l rfl hl _ _ L2.out).mono ?_; rintro e w3 ⟨rfl, h3⟩
      have B3 := Lib.hid (below_next B2.out h3)
      have L3 := Lib.hid (ri_next L2.out h3)
      have M3 := Lib.hid (ri_next M2.out h3)
      clear h3 L2 M2 B2
      go_wp2_with fail
      refine (A.out.var _ (held_br l) HLB.out _ _ M3.out).mono ?_; rintro e w4 ⟨rfl, h4⟩
      have B4 := Lib.hid (below_next B3.out h4)
      have L4 := Lib.hid (ri_next L3.out h4)
      have M4 := Lib.hid (ri_next M3.out h4)
      clear h4 L3 M3 B3
      go_wp2_with fail
      refine (A.out.cy _).mono ?_; rintro e w' ⟨rfl, rfl⟩
      go_wp2_with fail
      refine (A.out.un l rfl hl _ _ L4.out).mono ?_; rintro e w5 ⟨rfl, h5⟩
      have B5 := Lib.hid (below_next B4.out h5)
      have M5 := Lib.hid (ri_next M4.out h5)
      clear h5 L4 M4 B4
      go_wp2_with fail
      refine (A.out.un _ (held_br l) HLB.out _ _ M5.out).mono ?_; rintro e w6 ⟨rfl, h6⟩
      have B6 := Lib.hid (below_next B5.out h6)
      clear h6 M5 B5
      go_wp2_with fail
      refine (A.out.cz _).mono ?_; rintro e w' ⟨rfl, rfl⟩
      go_wp2_with fail
      refine (awake_any _).mono ?_; rintro e w7 ⟨rfl, h7⟩
      go_wp2_with fail
      go_ret
      exact ⟨rfl, HBel.out.trans ((below_more B6.out h7).mono hsz)⟩

theorem walk (l0 : List Int) (v0 : Value) (w : World) (w0 : IntsIn .i64 w v0 l0) :
    Calls Try.prog 7 #[v0] w fun e w' => e = .returned (.bool true) ∧ Below w.heap.size w w' := by
  have hr := ri_in w0
  obtain ⟨p, cap, rfl, _⟩ := w0
  by_cases h : l0.length ≤ 150
  · exact short l0 p cap w hr h
  · exact long p _ cap w (by omega)

set_option maxRecDepth 100000 in
theorem lifted (os : Os) (started : os.Started) (H : Type) (enc : TypeId × Value → H) :
    ReturnsInHanded {} Try.checked os 7 .any (Rows.meanHeldSpec.pre6 enc Try.prog Try.f7 Rows.meanHeldRow.domain false) (Rows.meanHeldSpec.post enc Try.prog Try.f7 false true false false) := by
  refine returnsInHanded_of_change (C := Try.checked) own started (by kernel_rfl) Try.func7
    (ChangeSpec.witness6 (enc := enc) (C := Try.checked) false ⟨#[], #[.slice none 0 0], []⟩ 8 (by kernel_rfl) (by kernel_rfl) (by kernel_rfl) (by kernel_rfl)) ?_
  intro W base args ds gs before hval0 hW hcnd _
  have hval : ∀ (j : Nat) t v, Try.f7.params[j]? = some t → args[j]? = some v → Value.okWide Try.prog W .any base t v := hval0
  have hW' := hW
  have hlt := hW.lt
  obtain ⟨p, q, hA0, hV, hpq, hfz, hnd⟩ := hW
  have hA : DataW.TrodAll enc Try.prog W 0 (fun _ => true) true Try.f7.params.toList args.toList ds p := hA0
  rw [Try.params7] at hA hval
  obtain ⟨v0, vs0, d0, ds0, p0, q0, hargs, rfl, hp, h0, r0⟩ := trodAll_cons hA
  obtain ⟨rfl, rfl, rfl⟩ := trodAll_nil r0
  obtain rfl : args = #[v0] := by cases args; simp_all
  obtain ⟨rfl, rfl⟩ := trodVars_none hV
  have hlt' : ∀ x ∈ before, x.block < W.heap.size := fun x hx => hlt x hx
  obtain ⟨l0, w0⟩ := ints_in Try.underlying22 Try.underlying3 (by kernel_rfl) (hval 0 22 v0 rfl rfl) (fun x hx => hlt' x (by rw [hpq, hp]; simp [hx])) h0
  refine (walk l0 v0 W w0).mono fun e W' ⟨he, hb⟩ => ?_
  subst he
  exact ⟨_, rfl, law_post rfl (by kernel_rfl) hW' (by rw [Try.params7]; intro t ht; simp only [List.mem_cons, List.not_mem_nil, or_false] at ht; (repeat' (first | (rcases ht with rfl | ht) | subst ht)) <;> exact ⟨by kernel_rfl, of_decide_eq_true (by kernel_rfl)⟩) rfl hb⟩

theorem over : Rows.meanHeldRow.holds Try.pinned (OpenSpec.ofChange Rows.meanHeldSpec) :=
  OpenClaim.holds_of_wide 7 Try.f7 rfl rfl rfl rfl rfl rfl rfl ⟨rfl, rfl, rfl, rfl, rfl⟩ rfl rfl rfl rfl rfl (by kernel_rfl) Try.func7 (by kernel_rfl)
    (of_decide_eq_true (by kernel_rfl)) (by unfold Func.isWrapper; first | (rw [if_pos (by decide +kernel)]; kernel_rfl) | (rw [if_neg (by decide +kernel)]; exact ⟨rfl, rfl⟩))
    (fun os started H enc _ => lifted os started H enc)

theorem proved : Rows.MeanHeldSaid := over
end Go.Proofs.Ytaghncdeojdghaa.meanHeld
