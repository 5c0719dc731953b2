/-
  A judge and the reference's, told the same: both say the same, and stay of the same model.
-/
import Derived.Test.YtkpefnjohdjejaaJgk
import Derived.Test.YtkpefnjohdjejaaJgt
import Derived.Test.YtkpefnjohdjejaaTld
namespace Go.Proofs.Ytkpefnjohdjejaa
set_option maxRecDepth 100000
open Go.ChangeShapes Go.WideShapes Go.ChangeAt Go.RowKit

/-- a walk by a narrower condition -/
theorem wpAnyH_sub {P : Program} {md : Region.Mode} {ops : Array Oper} {Q : Exit → Act → World → Prop} {S S' : World → Prop} (hS : ∀ w, S' w → S w) :
    ∀ (fuel : Nat) (listed : Array Bool) (a : Act) (w : World), wpAnyH P md ops Q S' fuel listed a w → wpAnyH P md ops Q S fuel listed a w
  | 0, _, _, _, h => h
  | fuel + 1, _, _, _, h => ⟨h.1, fun i hi => wpOp_mono (fun a' w' h' => ⟨hS _ h'.1, wpAnyH_sub hS fuel _ a' w' h'.2⟩) (h.2 i hi)⟩
/-- both, apart -/
structure Pr (w0 w : World) (j j2 g g2 : Nat) (D : List Nat) (s s2 : Js) : Prop where
  jo : Jo w D j g s
  ro : Ro w D j2 g2 s2
  a : j ≠ j2 ∧ j ≠ g2 ∧ j2 ≠ g ∧ g ≠ g2
  lo : w0.heap.size ≤ j ∧ w0.heap.size ≤ j2 ∧ w0.heap.size ≤ g ∧ w0.heap.size ≤ g2
  b : Below w0.heap.size w0 w
theorem Pr.below {w0 w w' : World} {j j2 g g2 : Nat} {D : List Nat} {s s2 : Js} (h : Pr w0 w j j2 g g2 D s s2) (hb : Below w.heap.size w w') : Pr w0 w' j j2 g g2 D s s2 :=
  ⟨h.jo.below hb, h.ro.below hb, h.a, h.lo, below_more h.b hb⟩
theorem Pr.lt {w0 w : World} {j j2 g g2 : Nat} {D : List Nat} {s s2 : Js} (h : Pr w0 w j j2 g g2 D s s2) : j < w.heap.size ∧ j2 < w.heap.size ∧ g < w.heap.size ∧ g2 < w.heap.size :=
  ⟨h.jo.top.lt, h.ro.top.lt, h.jo.m.dlt g h.jo.m.gD, h.ro.m.dlt g2 h.ro.m.gD⟩
theorem Pr.see1 {w0 w : World} {j j2 g g2 : Nat} {D : List Nat} {s s2 : Js} (h : Pr w0 w j j2 g g2 D s s2) (x : Px) (e o : Int) {v : Value} {l : List Int} (hx : RA byE w x.v x.bl) (hxl : x.bl.length ≤ 100000) (hv : RA byE w v l) : Calls Try.prog 10 #[.pointer (some ⟨j, 0, none⟩), .agg (pxc x), .agg (anc e o v)] w fun f w' =>
    ∃ b s' g' D', f = .returned (.bool b) ∧ SeeQ s x.d x.o x.nn x.bl e o l b s' ∧ Pr w0 w' j j2 g' g2 D' s' s2 ∧ Chg [j, g] w w' := by
  refine (jsee_is x e o h.jo hx hxl hv).mono ?_
  rintro f w' ⟨b, s', g', D', rfl, q, hj, hc, hg, hn⟩
  have hlt := h.lt
  have hlo := h.lo
  have ha := h.a
  have hs := h.b.size
  refine ⟨b, s', g', D', rfl, q, ⟨hj, h.ro.wide hc (fun k hk => ?_) (by simp; omega) (by simp; omega) hg.sub hg.new hj.m.dlt, ?_, ?_, hc.below h.b h.b.size fun k hk => ?_⟩, hc⟩
  · rcases List.mem_cons.1 hk with rfl | hk
    · exact h.jo.jD
    · rw [List.mem_singleton.1 hk]; exact h.jo.m.gD
  · rcases hn with rfl | hn <;> omega
  · rcases hn with rfl | hn <;> omega
  · rcases List.mem_cons.1 hk with rfl | hk
    · omega
    · rw [List.mem_singleton.1 hk]; omega
theorem seeq_wr {s : Js} {o n : Int} {bl : List Int} {e off : Int} {da : List Int} {b : Bool} {s' : Js} {d : Int} (h : SeeQ s d o n bl e off da b s') (hd : d = 4) : ∃ M, WrT s.wl bl o M := by
  subst hd
  unfold SeeQ at h
  rw [if_neg (by decide), if_pos (by decide)] at h
  obtain ⟨er, s2, hc, _⟩ := h
  unfold ChQ at hc
  rw [if_neg (by decide), if_pos rfl] at hc
  obtain ⟨_, M, hM, _⟩ := hc
  exact ⟨M, hM⟩
theorem Pr.see2 {w0 w : World} {j j2 g g2 : Nat} {D : List Nat} {s s1 : Js} (h : Pr w0 w j j2 g g2 D s1 s) (x : Px) (e o : Int) {v : Value} {l : List Int} (hx : RA byE w x.v x.bl) (hxl : x.bl.length ≤ 100000) (ho : -9223372036854775808 ≤ x.o ∧ x.o ≤ 9223372036854775807) (hn : -9223372036854775808 ≤ x.nn ∧ x.nn ≤ 9223372036854775807) (hv : RA byE w v l) {b : Bool} (hq : SeeQ s x.d x.o x.nn x.bl e o l b s1) : Calls Try.prog 11 #[.pointer (some ⟨j2, 0, none⟩), .agg (pxc x), .agg (anc e o v)] w fun f w' =>
    f = .returned (.bool b) ∧ ∃ g2' D', Pr w0 w' j j2 g g2' D' s1 s1 ∧ Chg [j2] w w' := by
  refine (rsee_is x e o h.ro hx hxl ho hn hv (fun q => seeq_wr hq q)).mono ?_
  rintro f w' ⟨b', s', g', D', rfl, q, hj, hc, hg, hn⟩
  obtain ⟨rfl, rfl⟩ := q.one hq
  have hlt := h.lt
  have hlo := h.lo
  have ha := h.a
  have hs := h.b.size
  refine ⟨rfl, g', D', ⟨h.jo.wide hc (fun k hk => ?_) (by simp; omega) (by simp; omega) hg.sub hg.new hj.m.dlt, hj, ?_, ?_, hc.below h.b h.b.size fun k hk => ?_⟩, hc⟩
  · rw [List.mem_singleton.1 hk]; exact h.ro.jD
  · rcases hn with rfl | hn <;> omega
  · rcases hn with rfl | hn <;> omega
  · rw [List.mem_singleton.1 hk]; omega
end Go.Proofs.Ytkpefnjohdjejaa
