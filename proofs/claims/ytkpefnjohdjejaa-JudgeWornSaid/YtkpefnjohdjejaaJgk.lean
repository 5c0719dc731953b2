/-
  Judges of a call's own, at known values; what every program must know of package judge: the call of awake of darninglaw25.
-/
import Derived.Test.YtkpefnjohdjejaaJgq
import Derived.Test.YtkpefnjohdjejaaOpl
namespace Go.Proofs.Ytkpefnjohdjejaa
set_option maxRecDepth 100000
open Go.ChangeShapes Go.WideShapes Go.ChangeAt Go.RowKit

theorem built_an_none : Try.prog.built 36 [] = some (anc 0 0 (.slice none 0 0)) := by kernel_rfl
theorem built_an_2 (p : Option Addr) (n c : Nat) : Try.prog.built 36 [(2, .slice p n c)] = some (anc 0 0 (.slice p n c)) := by kernel_rfl
@[go_sem] theorem run_anBuild_none (w : World) : (anBuild #[]).run Try.prog w = .ok (.agg (anc 0 0 (.slice none 0 0))) w := run_build w _ _ _ built_an_none
@[go_sem] theorem run_anBuild_2 (w : World) (p : Option Addr) (n c : Nat) : (anBuild #[(2, .slice p n c)]).run Try.prog w = .ok (.agg (anc 0 0 (.slice p n c))) w := run_build w _ _ _ (built_an_2 p n c)
/-- a judge that was made behind w0 -/
structure Jb (w0 w : World) (j : Nat) (s : Js) : Prop where
  ex : ∃ g D, Jo w D j g s ∧ w0.heap.size ≤ g
  lj : w0.heap.size ≤ j
  b : Below w0.heap.size w0 w
section
variable {w0 w w' : World} {j : Nat} {s : Js}
theorem Jb.below (h : Jb w0 w j s) (hb : Below w.heap.size w w') : Jb w0 w' j s := by
  obtain ⟨g, D, h1, h2⟩ := h.ex
  exact ⟨⟨g, D, h1.below hb, h2⟩, h.lj, below_more h.b hb⟩
theorem Jb.worn (h : Jb w0 w j s) : Calls Try.prog 12 #[.pointer (some ⟨j, 0, none⟩)] w fun e w' => e = .returned (.bool s.w) ∧ w = w' := by
  obtain ⟨g, D, h1, _⟩ := h.ex
  exact jworn_is h1
theorem Jb.root (h : Jb w0 w j s) : Calls Try.prog 13 #[.pointer (some ⟨j, 0, none⟩)] w fun e w' => e = .returned (.int .i64 s.r) ∧ w = w' := by
  obtain ⟨g, D, h1, _⟩ := h.ex
  exact jroot_is h1
theorem Jb.blk (h : Jb w0 w j s) : Calls Try.prog 15 #[.pointer (some ⟨j, 0, none⟩)] w fun e w' => (∃ v, e = .returned v ∧ OwnA blkE w.heap.size w' v s.l) ∧ Below w.heap.size w w' := by
  obtain ⟨g, D, h1, _⟩ := h.ex
  exact jblk_is h1
/-- an answer of which all is known -/
theorem Jb.see (h : Jb w0 w j s) (x : Px) (e o : Int) {v : Value} {l : List Int} (hx : RA byE w x.v x.bl) (hxl : x.bl.length ≤ 100000) (hv : RA byE w v l) {b0 : Bool} {s0 : Js} (hq : SeeQ s x.d x.o x.nn x.bl e o l b0 s0) : Calls Try.prog 10 #[.pointer (some ⟨j, 0, none⟩), .agg (pxc x), .agg (anc e o v)] w fun f w' =>
    f = .returned (.bool b0) ∧ Jb w0 w' j s0 := by
  obtain ⟨g, D, h1, h2⟩ := h.ex
  refine (jsee_is x e o h1 hx hxl hv).mono ?_
  rintro f w' ⟨b, s', g', D', rfl, q, hj, hc, hg, hn⟩
  obtain ⟨rfl, rfl⟩ := q.one hq
  refine ⟨rfl, ⟨g', D', hj, ?_⟩, h.lj, hc.below h.b h.b.size fun k hk => ?_⟩
  · rcases hn with rfl | hn
    · exact h2
    · exact Nat.le_trans h.b.size hn
  · rcases List.mem_cons.1 hk with rfl | hk
    · exact h.lj
    · rw [List.mem_singleton.1 hk]; exact h2
end
theorem jnew_k (n : Nat) (hn : Mw n) {w0 : World} (w : World) (hb : Below w0.heap.size w0 w) : Calls Try.prog 8 #[.int .i64 n] w fun e w' => ∃ j, e = .returned (.pointer (some ⟨j, 0, none⟩)) ∧ Jb w0 w' j ⟨firstL n, [⟨0, n, false⟩], 0, false⟩ := by
  refine (jnew_yes n hn w).mono ?_
  rintro e w' ⟨⟨j, g, rfl, h1, h2, h3⟩, b⟩
  have hs := hb.size
  exact ⟨j, rfl, ⟨g, _, h3 [] (fun _ h => by cases h), by omega⟩, by omega, below_more hb b⟩

def jw1 : List Int := 5 :: 0 :: 28 :: List.replicate 13 0
def jl1 : List Bk := [⟨0, 2, true⟩, ⟨2, 14, false⟩]
theorem jw_need : needN 8 = 2 := by kernel_rfl
theorem jw_alq : alQ 2 [⟨0, 16, false⟩] 8 = some 0 := by kernel_rfl
theorem jw_alw : alW (firstL 16) 2 [⟨0, 16, false⟩] 8 = jw1 := by kernel_rfl
theorem jw_alb : alB 2 [⟨0, 16, false⟩] 8 = jl1 := by kernel_rfl
theorem jw_feq : feQ jl1 16 0 = 1 := by kernel_rfl
theorem jw_ref : refF jw1 8 1 = 0 := by kernel_rfl
theorem jw_rd : rdR jw1 8 1 = [0] := by kernel_rfl
theorem jw_q1 : SeeQ ⟨firstL (16 : Nat), [⟨0, (16 : Nat), false⟩], 0, false⟩ 1 0 8 [] 0 8 [] true ⟨jw1, jl1, 0, false⟩ := by
  unfold SeeQ SeeA
  rw [if_pos rfl, jw_need, if_neg (by decide), if_neg (by decide), if_neg (by decide), if_neg (by decide), if_pos (by decide)]
  refine ⟨by rw [show ((16 : Nat) : Int) = 16 from rfl, jw_alq]; rfl, ?_⟩
  rw [show ((16 : Nat) : Int) = 16 from rfl, jw_alw, jw_alb]
theorem jw_q2 : SeeQ ⟨jw1, jl1, 0, false⟩ 2 16 0 [] 0 0 [] false ⟨jw1, jl1, 0, false⟩ := by
  unfold SeeQ
  rw [if_neg (by decide), if_pos (by decide)]
  exact ⟨1, _, by unfold ChQ; rw [if_pos rfl, jw_feq]; exact ⟨rfl, rfl⟩, by rw [if_neg (by decide), if_neg (by decide), if_neg (by decide)]; exact ⟨rfl, rfl⟩⟩
theorem jw_q3 : SeeQ ⟨jw1, jl1, 0, false⟩ 3 8 1 [] 0 0 [0] true ⟨jw1, jl1, 0, false⟩ := by
  unfold SeeQ
  rw [if_neg (by decide), if_neg (by decide), if_pos rfl, jw_ref, jw_rd]
  exact ⟨by decide, rfl⟩
theorem ra_nil_by (w : World) : RA byE w (.slice none 0 0) [] := (own_nil_a byE 0 w).ra
set_option maxHeartbeats 4000000 in
theorem awake_any (w : World) : Calls Try.prog 7 #[] w fun e w' => e = .returned (.bool true) ∧ Below w.heap.size w w' := by
  have C1 := Lib.hid (jnew_k 16 (by decide) w (Below.refl w.heap.size w))
  go_enter Try.func7, Try.ntmps7
  go_wp2_with fail
  refine (C1.out).mono ?_; rintro e w1 ⟨j, rfl, h1⟩
  have C2 := Lib.hid (h1.see ⟨1, 0, 8, 0, .slice none 0 0, []⟩ 0 8 (ra_nil_by w1) (by simp) (ra_nil_by w1) jw_q1)
  clear h1 C1
  go_wp2_with fail
  refine (C2.out).mono ?_; rintro e w2 ⟨rfl, h2⟩
  have C3 := Lib.hid (h2.see ⟨2, 16, 0, 0, .slice none 0 0, []⟩ 0 0 (ra_nil_by w2) (by simp) (ra_nil_by w2) jw_q2)
  clear h2 C2
  go_wp2_with fail
  refine (C3.out).mono ?_; rintro e w3 ⟨rfl, h3⟩
  obtain ⟨W, hW⟩ : ∃ W, w3.alloc (.cells #[.int .u8 0] 5) = W := ⟨_, rfl⟩
  have o4 := by_one w3 (c := 0) (by unfold By; omega)
  rw [hW] at o4
  have h4 : Jb w W j ⟨jw1, jl1, 0, false⟩ := h3.below (by rw [← hW]; exact bal (Below.refl _ _))
  have C4 := Lib.hid (h4.see ⟨3, 8, 1, 0, .slice none 0 0, []⟩ 0 0 (ra_nil_by W) (by simp) o4.ra jw_q3)
  clear h3 h4 o4 C3
  go_wp2_with fail
  refine (C4.out).mono ?_; rintro e w5 ⟨rfl, h5⟩
  have H5 := Lib.hid h5
  have C5 := Lib.hid h5.blk
  clear h5 C4
  go_wp2_with fail
  refine (C5.out).mono ?_; rintro e w6 ⟨⟨v6, rfl, o6⟩, b6⟩
  have h6 := H5.out.below b6
  have C6 := Lib.hid h6.worn
  have C7 := Lib.hid h6.root
  have D6 := Lib.hid h6.b
  obtain ⟨q6, c6, rfl, _⟩ := ra_shape o6.ra
  rw [show (jl1.length) = 2 from rfl]
  clear o6 b6 h6 H5 C5
  go_wp2_with fail
  refine (C6.out).mono ?_; rintro e w7 ⟨rfl, rfl⟩
  go_wp2_with fail
  refine (C7.out).mono ?_; rintro e w7 ⟨rfl, rfl⟩
  go_wp2_with fail
  go_ret
  exact ⟨rfl, D6.out⟩
end Go.Proofs.Ytkpefnjohdjejaa
