/-
  A memory, or none; contracts of gauge's Wears and Uneven over it.
-/
import Derived.Test.YthcecfenjbdgmaaGuc
import Derived.Test.YthcecfenjbdgmaaNvw
import Derived.Test.YthcecfenjbdgmaaNvp
namespace Go.Proofs.Ythcecfenjbdgmaa
set_option maxRecDepth 100000
open D Go.ChangeShapes Go.WideShapes Go.ChangeAt Go.RowKit

/-- a memory that holds s, made behind B; or none (then s has no lines) -/
def Mm (B : Nat) (w : World) (v : Value) (s : Nv) : Prop := (v = .pointer none ∧ s.n = 0) ∨ ∃ g, v = .pointer (some ⟨g, 0, none⟩) ∧ B ≤ g ∧ Nm w g s ∧ s.Ok
theorem Mm.below {B : Nat} {w w' : World} {v : Value} {s : Nv} (h : Mm B w v s) (hb : Below w.heap.size w w') : Mm B w' v s := by
  rcases h with h | ⟨g, e, hg, hN, hO⟩
  · exact .inl h
  · exact .inr ⟨g, e, hg, hN.below hb, hO⟩
theorem Mm.few {B : Nat} {w : World} {v : Value} {s : Nv} (h : Mm B w v s) : (s.n : Int) ≤ 200 := by
  rcases h with h | ⟨g, e, hg, hN, hO⟩
  · omega
  · have := hO.hi; omega
theorem Mm.ptr {B : Nat} {w : World} {v : Value} {s : Nv} (h : Mm B w v s) : ∃ p, v = .pointer p := by
  rcases h with h | ⟨g, e, hg, hN, hO⟩
  · exact ⟨_, h.1⟩
  · exact ⟨_, e⟩
theorem Mm.own {g : Nat} {B : Nat} {w : World} {s : Nv} (hg : B ≤ g) (hN : Nm w g s) (hO : s.Ok) : Mm B w (.pointer (some ⟨g, 0, none⟩)) s := .inr ⟨g, rfl, hg, hN, hO⟩
theorem mlines_is {B : Nat} {w : World} {v : Value} {s : Nv} (h : Mm B w v s) : Calls Try.prog 16 #[v] w fun e w' => e = .returned (.int .i64 (s.n : Int)) ∧ w = w' := by
  rcases h with ⟨rfl, e⟩ | ⟨g, rfl, hg, hN, hO⟩
  · rw [e]; exact lines_nil w
  · exact lines_any g s w hN
theorem mwear_is {B : Nat} {w : World} {v : Value} {s : Nv} (h : Mm B w v s) (i : Int) : Calls Try.prog 17 #[v, .int .i64 i] w fun e w' => e = .returned (.int .i64 (s.wear i)) ∧ w = w' := by
  rcases h with ⟨rfl, e⟩ | ⟨g, rfl, hg, hN, hO⟩
  · have z : s.wear i = 0 := by
      have hf : s.has i = false := by simp [Nv.has, e]
      unfold Nv.wear; rw [hf]; rfl
    rw [z]; exact wear_nil i w
  · exact wear_any g s i w hN hO
theorem mput_is {B : Nat} {w : World} {v : Value} {s : Nv} (h : Mm B w v s) (i : Int) {l : List Int} (hl : l.length = 8) (hc : s.c < 4611686018427387904) :
    Calls Try.prog 15 #[v, .int .i64 i, .agg (lc l)] w fun e w' => ∃ x s', e = .returned (.int .i64 x) ∧ Mm B w' v s' ∧ s'.c ≤ s.c + 1 ∧ ∀ w0 : World, w0.heap.size ≤ B → Below w0.heap.size w0 w → Below w0.heap.size w0 w' := by
  rcases h with ⟨rfl, e⟩ | ⟨g, rfl, hg, hN, hO⟩
  · exact (put_nil i l w).mono fun e' w' ⟨h1, h2⟩ => ⟨1, s, h1, .inl ⟨rfl, e⟩, by omega, fun w0 _ hb => below_more hb h2⟩
  · exact (put_any g s i l w hN hO hc hl).mono fun e' w' ⟨h1, h2, h3⟩ => ⟨_, _, h1, .inr ⟨g, rfl, hg, h2, hO.put hl i⟩, s.put_c i l, fun w0 h0 hb => h3.own hb (Nat.le_trans h0 hg)⟩
theorem mnew_is (n : Int) (w : World) : Calls Try.prog 14 #[.int .i64 n, .slice none 0 0] w fun e w' => ∃ v s, e = .returned v ∧ Mm w.heap.size w' v s ∧ s.c = 0 ∧ Below w.heap.size w w' := by
  by_cases h : n < 1 ∨ 200 < n
  · exact (new_no n _ w h).mono fun e w' ⟨h1, h2⟩ => ⟨_, newNv 0 [], h1, .inl ⟨rfl, rfl⟩, rfl, h2 ▸ Below.refl _ _⟩
  · obtain ⟨k, rfl⟩ : ∃ k : Nat, n = k := ⟨n.toNat, by omega⟩
    exact (new_yes k _ [] w (by omega) (by omega) (ri_nil w)).mono fun e w' ⟨g, h1, h2, h3, h4⟩ => ⟨_, _, h1, .inr ⟨g, rfl, h2, h3, newNv_ok (by omega) (by omega) _⟩, rfl, h4⟩

set_option maxHeartbeats 1000000 in
theorem wears_is {B : Nat} {w : World} {v : Value} {s : Nv} (h : Mm B w v s) (f t : Int) (hf : (Lit.int .i64 f).wf = true) (ht : (Lit.int .i64 t).wf = true) :
    Calls Try.prog 19 #[v, .int .i64 f, .int .i64 t] w fun e w' => ∃ u, e = .returned u ∧ OwnI w.heap.size w' u (wrs s f t) ∧ Below w.heap.size w w' := by
  obtain ⟨f1, f2⟩ := i64_wf hf
  obtain ⟨t1, t2⟩ := i64_wf ht
  have hW : wrs s f t = byF (min t (s.n : Int) - max f 0).toNat fun k => s.wear (max f 0 + k) := rfl
  have hn := h.few
  have LN := Lib.hid (mlines_is h)
  have HM := Lib.hid h
  have B0 := Lib.hid (Below.refl w.heap.size w)
  obtain ⟨N, hN⟩ : ∃ N : Int, (s.n : Int) = N := ⟨_, rfl⟩
  have hN0 : 0 ≤ N := by omega
  rw [hN] at hW hn LN
  obtain ⟨q, rfl⟩ := h.ptr
  clear hN hf ht h
  by_cases hA : f < 0 <;> by_cases hB : N < t
  · obtain ⟨A, hA'⟩ : ∃ A : Int, A = 0 := ⟨_, rfl⟩
    have hW2 : wrs s f t = byF (N - A).toNat fun k => s.wear (A + k) := by
      rw [hW, show min t N = N by omega, show max f 0 = A by omega]
    have HW := Lib.hid hW2
    have HA := Lib.hid hA'
    have L1 : Hid (0 ≤ A) := Lib.hid (by omega)
    have L2 : Hid ((N : Int) ≤ 200) := Lib.hid (by omega)
    clear hW hW2 hA'
    go_enter Try.func19, Try.ntmps19
    go_wp2_with fail
    refine LN.out.mono ?_; rintro e w' ⟨rfl, rfl⟩
    clear LN
    go_wp2_with fail
    go_loopw [7, 8] (fun u i wr => ∃ k : Nat, (k = 0 ∨ A + (k : Int) ≤ N) ∧ i = .int .i64 (A + (k : Int)) ∧ Hid (OwnI w.heap.size wr u (byF k fun j => s.wear (A + j)) ∧ Below w.heap.size w wr)) (fun _ i _ => (N - intOf i).toNat)
    case atStart => exact ⟨0, .inl rfl, by rw [HA.out]; simp, Lib.hid ⟨World.ownsRow_nil _ _ _ _, B0.out⟩⟩
    case round =>
      obtain ⟨k, hk, rfl, H⟩ := hrel
      by_cases hlt : A + (k : Int) < N
      · have k0 : k ≤ 200 := by have := L1.out; have := L2.out; omega
        have s1 : A + (k : Int) + 1 = A + ((k + 1 : Nat) : Int) := by omega
        have j0 : IntKind.i64.wrap (A + (k : Int) + 1) = A + ((k + 1 : Nat) : Int) := by rw [s1]; exact isN _ (by have := L1.out; omega) (by have := L2.out; omega)
        have M := Lib.hid (mwear_is (HM.out.below H.out.2) (A + (k : Int)))
        have hsz := H.out.2.size
        have O1 := Lib.hid (fun x : Int => own_below_i H.out.1 (bal (o := .cells #[.int .i64 x] 3) (Below.refl wr.heap.size wr)))
        have hb1 : ∀ x : Int, w.heap.size ≤ (wr.alloc (.cells #[.int .i64 x] 3)).heap.size := fun x => by rw [size_alloc]; omega
        have hlen : (byF k fun j => s.wear (A + j)).length + [s.wear (A + (k : Int))].length ≤ 1000000 := by rw [byF_length]; simp; omega
        have HL := Lib.hid hlen
        have HB1 := Lib.hid hb1
        have HK := Lib.hid hlt
        obtain ⟨OL, hOL⟩ : ∃ OL, (byF k fun j => s.wear (A + j)) = OL := ⟨_, rfl⟩
        obtain ⟨z, hz⟩ : ∃ z, s.wear (A + (k : Int)) = z := ⟨_, rfl⟩
        rw [hz] at M HL
        have HS : Hid ((byF (k + 1) fun j => s.wear (A + j)) = OL ++ [z]) := Lib.hid (by rw [byF_succ, hz, hOL])
        have LW := Lib.hid fun q hq => (H.out.1.lt q hq).1
        have BW := Lib.hid H.out.2
        rw [hOL] at HL O1
        clear H hOL
        clear s1 hlen hb1 hz
        go_wp2_with fail
        refine M.out.mono ?_; rintro e w' ⟨rfl, rfl⟩
        go_wp2_with (at_builtin; refine list_app_int (o := ⟨some 26, _, _, _, _, _⟩) rfl (.tmp 21) (.tmp 25) rfl w.heap.size _ OL rfl (O1.out z) _ [z] rfl (ri_one _ _) HL.out (HB1.out z) ?_; intro v1 w2 hown hg _)
        have hbw : Below w.heap.size w w2 := (BW.out.alloc hsz _).grown hg (HB1.out z) LW.out
        rw [← HS.out] at hown
        have HF := Lib.hid (And.intro hown hbw)
        clear hown hg hbw O1 HS M
        go_wp2
        exact ⟨⟨k + 1, .inr (by have := HK.out; omega), rfl, HF⟩, by have := HK.out; simp [intOf]; omega⟩
      · have e : k = ((N : Int) - A).toNat := by omega
        subst e
        have O := Lib.hid H.out.1
        rw [← HW.out] at O
        have hb := H.out.2
        clear H hk
        go_wp2
        go_ret
        exact ⟨_, rfl, O.out, hb⟩
  · obtain ⟨A, hA'⟩ : ∃ A : Int, A = 0 := ⟨_, rfl⟩
    have hW2 : wrs s f t = byF (t - A).toNat fun k => s.wear (A + k) := by
      rw [hW, show min t N = t by omega, show max f 0 = A by omega]
    have HW := Lib.hid hW2
    have HA := Lib.hid hA'
    have L1 : Hid (0 ≤ A) := Lib.hid (by omega)
    have L2 : Hid ((t : Int) ≤ 200) := Lib.hid (by omega)
    clear hW hW2 hA'
    go_enter Try.func19, Try.ntmps19
    go_wp2_with fail
    refine LN.out.mono ?_; rintro e w' ⟨rfl, rfl⟩
    clear LN
    go_wp2_with fail
    go_loopw [7, 8] (fun u i wr => ∃ k : Nat, (k = 0 ∨ A + (k : Int) ≤ t) ∧ i = .int .i64 (A + (k : Int)) ∧ Hid (OwnI w.heap.size wr u (byF k fun j => s.wear (A + j)) ∧ Below w.heap.size w wr)) (fun _ i _ => (t - intOf i).toNat)
    case atStart => exact ⟨0, .inl rfl, by rw [HA.out]; simp, Lib.hid ⟨World.ownsRow_nil _ _ _ _, B0.out⟩⟩
    case round =>
      obtain ⟨k, hk, rfl, H⟩ := hrel
      by_cases hlt : A + (k : Int) < t
      · have k0 : k ≤ 200 := by have := L1.out; have := L2.out; omega
        have s1 : A + (k : Int) + 1 = A + ((k + 1 : Nat) : Int) := by omega
        have j0 : IntKind.i64.wrap (A + (k : Int) + 1) = A + ((k + 1 : Nat) : Int) := by rw [s1]; exact isN _ (by have := L1.out; omega) (by have := L2.out; omega)
        have M := Lib.hid (mwear_is (HM.out.below H.out.2) (A + (k : Int)))
        have hsz := H.out.2.size
        have O1 := Lib.hid (fun x : Int => own_below_i H.out.1 (bal (o := .cells #[.int .i64 x] 3) (Below.refl wr.heap.size wr)))
        have hb1 : ∀ x : Int, w.heap.size ≤ (wr.alloc (.cells #[.int .i64 x] 3)).heap.size := fun x => by rw [size_alloc]; omega
        have hlen : (byF k fun j => s.wear (A + j)).length + [s.wear (A + (k : Int))].length ≤ 1000000 := by rw [byF_length]; simp; omega
        have HL := Lib.hid hlen
        have HB1 := Lib.hid hb1
        have HK := Lib.hid hlt
        obtain ⟨OL, hOL⟩ : ∃ OL, (byF k fun j => s.wear (A + j)) = OL := ⟨_, rfl⟩
        obtain ⟨z, hz⟩ : ∃ z, s.wear (A + (k : Int)) = z := ⟨_, rfl⟩
        rw [hz] at M HL
        have HS : Hid ((byF (k + 1) fun j => s.wear (A + j)) = OL ++ [z]) := Lib.hid (by rw [byF_succ, hz, hOL])
        have LW := Lib.hid fun q hq => (H.out.1.lt q hq).1
        have BW := Lib.hid H.out.2
        rw [hOL] at HL O1
        clear H hOL
        clear s1 hlen hb1 hz
        go_wp2_with fail
        refine M.out.mono ?_; rintro e w' ⟨rfl, rfl⟩
        go_wp2_with (at_builtin; refine list_app_int (o := ⟨some 26, _, _, _, _, _⟩) rfl (.tmp 21) (.tmp 25) rfl w.heap.size _ OL rfl (O1.out z) _ [z] rfl (ri_one _ _) HL.out (HB1.out z) ?_; intro v1 w2 hown hg _)
        have hbw : Below w.heap.size w w2 := (BW.out.alloc hsz _).grown hg (HB1.out z) LW.out
        rw [← HS.out] at hown
        have HF := Lib.hid (And.intro hown hbw)
        clear hown hg hbw O1 HS M
        go_wp2
        exact ⟨⟨k + 1, .inr (by have := HK.out; omega), rfl, HF⟩, by have := HK.out; simp [intOf]; omega⟩
      · have e : k = ((t : Int) - A).toNat := by omega
        subst e
        have O := Lib.hid H.out.1
        rw [← HW.out] at O
        have hb := H.out.2
        clear H hk
        go_wp2
        go_ret
        exact ⟨_, rfl, O.out, hb⟩
  · obtain ⟨A, hA'⟩ : ∃ A : Int, A = f := ⟨_, rfl⟩
    have hW2 : wrs s f t = byF (N - A).toNat fun k => s.wear (A + k) := by
      rw [hW, show min t N = N by omega, show max f 0 = A by omega]
    have HW := Lib.hid hW2
    have HA := Lib.hid hA'
    have L1 : Hid (0 ≤ A) := Lib.hid (by omega)
    have L2 : Hid ((N : Int) ≤ 200) := Lib.hid (by omega)
    clear hW hW2 hA'
    go_enter Try.func19, Try.ntmps19
    go_wp2_with fail
    refine LN.out.mono ?_; rintro e w' ⟨rfl, rfl⟩
    clear LN
    go_wp2_with fail
    go_loopw [7, 8] (fun u i wr => ∃ k : Nat, (k = 0 ∨ A + (k : Int) ≤ N) ∧ i = .int .i64 (A + (k : Int)) ∧ Hid (OwnI w.heap.size wr u (byF k fun j => s.wear (A + j)) ∧ Below w.heap.size w wr)) (fun _ i _ => (N - intOf i).toNat)
    case atStart => exact ⟨0, .inl rfl, by rw [HA.out]; simp, Lib.hid ⟨World.ownsRow_nil _ _ _ _, B0.out⟩⟩
    case round =>
      obtain ⟨k, hk, rfl, H⟩ := hrel
      by_cases hlt : A + (k : Int) < N
      · have k0 : k ≤ 200 := by have := L1.out; have := L2.out; omega
        have s1 : A + (k : Int) + 1 = A + ((k + 1 : Nat) : Int) := by omega
        have j0 : IntKind.i64.wrap (A + (k : Int) + 1) = A + ((k + 1 : Nat) : Int) := by rw [s1]; exact isN _ (by have := L1.out; omega) (by have := L2.out; omega)
        have M := Lib.hid (mwear_is (HM.out.below H.out.2) (A + (k : Int)))
        have hsz := H.out.2.size
        have O1 := Lib.hid (fun x : Int => own_below_i H.out.1 (bal (o := .cells #[.int .i64 x] 3) (Below.refl wr.heap.size wr)))
        have hb1 : ∀ x : Int, w.heap.size ≤ (wr.alloc (.cells #[.int .i64 x] 3)).heap.size := fun x => by rw [size_alloc]; omega
        have hlen : (byF k fun j => s.wear (A + j)).length + [s.wear (A + (k : Int))].length ≤ 1000000 := by rw [byF_length]; simp; omega
        have HL := Lib.hid hlen
        have HB1 := Lib.hid hb1
        have HK := Lib.hid hlt
        obtain ⟨OL, hOL⟩ : ∃ OL, (byF k fun j => s.wear (A + j)) = OL := ⟨_, rfl⟩
        obtain ⟨z, hz⟩ : ∃ z, s.wear (A + (k : Int)) = z := ⟨_, rfl⟩
        rw [hz] at M HL
        have HS : Hid ((byF (k + 1) fun j => s.wear (A + j)) = OL ++ [z]) := Lib.hid (by rw [byF_succ, hz, hOL])
        have LW := Lib.hid fun q hq => (H.out.1.lt q hq).1
        have BW := Lib.hid H.out.2
        rw [hOL] at HL O1
        clear H hOL
        clear s1 hlen hb1 hz
        go_wp2_with fail
        refine M.out.mono ?_; rintro e w' ⟨rfl, rfl⟩
        go_wp2_with (at_builtin; refine list_app_int (o := ⟨some 26, _, _, _, _, _⟩) rfl (.tmp 21) (.tmp 25) rfl w.heap.size _ OL rfl (O1.out z) _ [z] rfl (ri_one _ _) HL.out (HB1.out z) ?_; intro v1 w2 hown hg _)
        have hbw : Below w.heap.size w w2 := (BW.out.alloc hsz _).grown hg (HB1.out z) LW.out
        rw [← HS.out] at hown
        have HF := Lib.hid (And.intro hown hbw)
        clear hown hg hbw O1 HS M
        go_wp2
        exact ⟨⟨k + 1, .inr (by have := HK.out; omega), rfl, HF⟩, by have := HK.out; simp [intOf]; omega⟩
      · have e : k = ((N : Int) - A).toNat := by omega
        subst e
        have O := Lib.hid H.out.1
        rw [← HW.out] at O
        have hb := H.out.2
        clear H hk
        go_wp2
        go_ret
        exact ⟨_, rfl, O.out, hb⟩
  · obtain ⟨A, hA'⟩ : ∃ A : Int, A = f := ⟨_, rfl⟩
    have hW2 : wrs s f t = byF (t - A).toNat fun k => s.wear (A + k) := by
      rw [hW, show min t N = t by omega, show max f 0 = A by omega]
    have HW := Lib.hid hW2
    have HA := Lib.hid hA'
    have L1 : Hid (0 ≤ A) := Lib.hid (by omega)
    have L2 : Hid ((t : Int) ≤ 200) := Lib.hid (by omega)
    clear hW hW2 hA'
    go_enter Try.func19, Try.ntmps19
    go_wp2_with fail
    refine LN.out.mono ?_; rintro e w' ⟨rfl, rfl⟩
    clear LN
    go_wp2_with fail
    go_loopw [7, 8] (fun u i wr => ∃ k : Nat, (k = 0 ∨ A + (k : Int) ≤ t) ∧ i = .int .i64 (A + (k : Int)) ∧ Hid (OwnI w.heap.size wr u (byF k fun j => s.wear (A + j)) ∧ Below w.heap.size w wr)) (fun _ i _ => (t - intOf i).toNat)
    case atStart => exact ⟨0, .inl rfl, by rw [HA.out]; simp, Lib.hid ⟨World.ownsRow_nil _ _ _ _, B0.out⟩⟩
    case round =>
      obtain ⟨k, hk, rfl, H⟩ := hrel
      by_cases hlt : A + (k : Int) < t
      · have k0 : k ≤ 200 := by have := L1.out; have := L2.out; omega
        have s1 : A + (k : Int) + 1 = A + ((k + 1 : Nat) : Int) := by omega
        have j0 : IntKind.i64.wrap (A + (k : Int) + 1) = A + ((k + 1 : Nat) : Int) := by rw [s1]; exact isN _ (by have := L1.out; omega) (by have := L2.out; omega)
        have M := Lib.hid (mwear_is (HM.out.below H.out.2) (A + (k : Int)))
        have hsz := H.out.2.size
        have O1 := Lib.hid (fun x : Int => own_below_i H.out.1 (bal (o := .cells #[.int .i64 x] 3) (Below.refl wr.heap.size wr)))
        have hb1 : ∀ x : Int, w.heap.size ≤ (wr.alloc (.cells #[.int .i64 x] 3)).heap.size := fun x => by rw [size_alloc]; omega
        have hlen : (byF k fun j => s.wear (A + j)).length + [s.wear (A + (k : Int))].length ≤ 1000000 := by rw [byF_length]; simp; omega
        have HL := Lib.hid hlen
        have HB1 := Lib.hid hb1
        have HK := Lib.hid hlt
        obtain ⟨OL, hOL⟩ : ∃ OL, (byF k fun j => s.wear (A + j)) = OL := ⟨_, rfl⟩
        obtain ⟨z, hz⟩ : ∃ z, s.wear (A + (k : Int)) = z := ⟨_, rfl⟩
        rw [hz] at M HL
        have HS : Hid ((byF (k + 1) fun j => s.wear (A + j)) = OL ++ [z]) := Lib.hid (by rw [byF_succ, hz, hOL])
        have LW := Lib.hid fun q hq => (H.out.1.lt q hq).1
        have BW := Lib.hid H.out.2
        rw [hOL] at HL O1
        clear H hOL
        clear s1 hlen hb1 hz
        go_wp2_with fail
        refine M.out.mono ?_; rintro e w' ⟨rfl, rfl⟩
        go_wp2_with (at_builtin; refine list_app_int (o := ⟨some 26, _, _, _, _, _⟩) rfl (.tmp 21) (.tmp 25) rfl w.heap.size _ OL rfl (O1.out z) _ [z] rfl (ri_one _ _) HL.out (HB1.out z) ?_; intro v1 w2 hown hg _)
        have hbw : Below w.heap.size w w2 := (BW.out.alloc hsz _).grown hg (HB1.out z) LW.out
        rw [← HS.out] at hown
        have HF := Lib.hid (And.intro hown hbw)
        clear hown hg hbw O1 HS M
        go_wp2
        exact ⟨⟨k + 1, .inr (by have := HK.out; omega), rfl, HF⟩, by have := HK.out; simp [intOf]; omega⟩
      · have e : k = ((t : Int) - A).toNat := by omega
        subst e
        have O := Lib.hid H.out.1
        rw [← HW.out] at O
        have hb := H.out.2
        clear H hk
        go_wp2
        go_ret
        exact ⟨_, rfl, O.out, hb⟩
theorem wrs_few {B : Nat} {w : World} {v : Value} {s : Nv} (h : Mm B w v s) (f t : Int) : (wrs s f t).length ≤ 200 := by
  rw [wrs_length]; have := h.few; omega
theorem guneven_is {B : Nat} {w : World} {v : Value} {s : Nv} (h : Mm B w v s) (f t : Int) (hf : (Lit.int .i64 f).wf = true) (ht : (Lit.int .i64 t).wf = true) :
    Calls Try.prog 20 #[v, .int .i64 f, .int .i64 t] w fun e w' => e = .returned (.float .f64 (unV (held (wrs s f t)))) ∧ Below w.heap.size w w' := by
  have W := Lib.hid (wears_is h f t hf ht)
  have L := Lib.hid (wrs_few h f t)
  obtain ⟨q, rfl⟩ := h.ptr
  clear h
  go_enter Try.func20, Try.ntmps20
  go_wp2_with fail
  refine W.out.mono ?_; rintro e w1 ⟨u, rfl, ho, hb⟩
  have U := Lib.hid (mun_any u _ w1 ho.ri.m (by unfold maxLen; have := L.out; omega))
  have B1 := Lib.hid hb
  clear ho hb W L
  go_wp2_with fail
  refine U.out.mono ?_; rintro e w2 ⟨rfl, n, rfl⟩
  go_wp2_with fail
  go_ret
  exact ⟨rfl, below_drewN B1.out n⟩
end Go.Proofs.Ythcecfenjbdgmaa
