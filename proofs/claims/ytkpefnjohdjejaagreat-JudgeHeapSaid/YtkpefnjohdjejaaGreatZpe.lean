import Derived.Test.YtkpefnjohdjejaaGreatShelf
import Derived.Sort.OwnSortedInts
import Derived.Deep.RegionHeld3
import Derived.Defers
import Derived.Recover
import Derived.Laws.Pointers
import Derived.Test.YtkpefnjohdjejaaGreatZpd
set_option maxRecDepth 100000
set_option maxHeartbeats 8000000
namespace Go.Proofs.YtkpefnjohdjejaaGreat
open Go.ChangeShapes Go.WideShapes Go.ChangeAt Go.RowKit
theorem sort_own {B : Nat} {w : World} {v : Value} {R : List Int} (h : OwnI B w v R) (hl : R.length <= 1000000) : Calls Tryz.prog 174 #[v] w fun e w' => e = .returned (.tuple #[]) /\ OwnI B w' v (R.mergeSort fun x y => decide (x <= y)) /\ w.grownBy w' v.ownBlock := by
 obtain ⟨hlen, ⟨rfl, h0⟩ | ⟨g, cap, cur, rfl, hb, hg, h1, h2, h3, h4⟩⟩ := id h
 . obtain rfl : R = [] := List.eq_nil_of_length_eq_zero h0
   refine (Any.slices_Sort_int_none Tryz.lays189 none 0 w).mono ?_
   rintro e w' ⟨rfl, rfl⟩
   exact ⟨rfl, by simpa using h, World.grownBy.refl _ _⟩
 . rw [Nat.mul_one] at h4
   have hH := holds_of_blockI (ss := R) hg h4
   refine (Any.slices_Sort_int Tryz.lays189 g 0 cap R w hH (Array.getElem?_eq_some_iff.1 hg).1 (by omega)).mono ?_
   rintro e w' ⟨rfl, n, os, rfl⟩
   have ho := ownsRow_sortedI (n := n) (os := os) (ts := R.mergeSort fun x y => decide (x <= y)) (ss := R) (by simp) hb hg h1 h2 (by rw [h3])
   refine ⟨rfl, ?_, grownBy_sortedI _⟩
   unfold OwnI
   rw [List.length_mergeSort]
   exact ho
theorem own_take_i {B g c n : Nat} {w : World} {l : List Int} (h : OwnI B w (.slice (some ⟨g, 0, none⟩) n c) l) {m : Nat} (hm : m <= l.length) : OwnI B w (.slice (some ⟨g, 0, none⟩) m c) (l.take m) := by
 obtain ⟨hlen, h0 | ⟨g', cap, cur, e, hb, hg, h1, h2, h3, h4⟩⟩ := h
 . cases h0.1
 . cases e
   have hlt : (l.take m).length = m := by rw [List.length_take]; omega
   refine ⟨by simp, .inr ⟨g, c, cur, by rw [hlt], hb, hg, by rw [hlt]; omega, h2, h3, ?_⟩⟩
   rw [hlt, Nat.mul_one, List.map_take, <- h4, Nat.mul_one, List.take_take, Nat.min_eq_left hm]
theorem compact_own {B : Nat} {w : World} {v : Value} {R : List Int} (h : OwnI B w v R) (hl : R.length <= 1000000) : Calls Tryz.prog 175 #[v] w fun e w' => (∃ u, e = .returned u /\ OwnI B w' u (Lib.compact R)) /\ w.grownBy w' v.ownBlock := by
 obtain ⟨hlen, ⟨rfl, h0⟩ | ⟨g, cap, cur, rfl, hb, hg, h1, h2, h3, h4⟩⟩ := id h
 . obtain rfl : R = [] := List.eq_nil_of_length_eq_zero h0
   refine (Any.slices_Compact_int_empty Tryz.laysNm220 none 0 w).mono ?_
   rintro e w' ⟨rfl, rfl⟩
   exact ⟨⟨_, rfl, h⟩, World.grownBy.refl _ _⟩
 . rw [Nat.mul_one] at h4
   have hH := holds_of_blockI (ss := R) hg h4
   refine (Any.slices_Compact_int Tryz.laysNm220 g 0 cap R w hH (by omega) h1).mono ?_
   rintro e w' ⟨rfl, q, rfl⟩
   have hcl : (Lib.compact R).length <= R.length := by
    unfold Lib.compact Lib.compactUpTo
    rw [List.length_map]
    have := List.length_filter_le (Lib.keeps R.toArray) (List.range R.length)
    rw [List.length_range] at this
    exact this
   have eg : ∀ x : World, Sort.grow x #[] = x := fun x => by simp [Sort.grow]
   have ho := ownsRow_sortedI (n := q) (os := #[]) (ts := Lib.compact R ++ List.replicate (R.length - (Lib.compact R).length) 0) (ss := R) (by simp; omega) hb hg h1 h2 (by rw [h3])
   rw [eg] at ho
   have ho2 : OwnI B (Sort.putRow (Value.int .i64) (Sort.ahead w q) g 0 (Lib.compact R ++ List.replicate (R.length - (Lib.compact R).length) 0).toArray) (.slice (some ⟨g, 0, none⟩) R.length cap) (Lib.compact R ++ List.replicate (R.length - (Lib.compact R).length) 0) := by
    unfold OwnI
    have : (Lib.compact R ++ List.replicate (R.length - (Lib.compact R).length) 0).length = R.length := by simp; omega
    rw [this]
    exact ho
   have ho3 := own_take_i ho2 (m := (Lib.compact R).length) (by simp)
   rw [List.take_left'  rfl] at ho3
   have hgr := grownBy_sortedI (w := w) (g := g) (n := q) (os := #[]) (Lib.compact R ++ List.replicate (R.length - (Lib.compact R).length) 0).toArray
   rw [eg] at hgr
   exact ⟨⟨_, rfl, ho3⟩, hgr⟩
theorem lines_is (es : List Ed) (u : Value) (w : World) (hu : RA edE w u es) (hel : es.length <= 4000) :
 Calls Tryz.prog 151 #[u] w fun e w' => (∃ x, e = .returned x /\ OwnI w.heap.size w' x (Lib.compact ((lnR es).mergeSort fun x y => decide (x <= y)))) /\ Below w.heap.size w w' := by
 obtain ⟨p, c, rfl, _, _⟩ := ra_shape hu
 have HE := jz (fun (w' : World) (hb : Below w.heap.size w w') => ra_below hu hb)
 have HL := jz hel
 clear hu hel
 go_enter Tryz.func151, Tryz.ntmps151
 go_wp2
 go_loopw [3, 5, 8] (fun y x i wr => ∃ (k : Nat) (lv : Value), k <= es.length /\ i = .int .i64 k /\ lv = y /\ Hid (OwnI w.heap.size wr lv (lnR (es.take k)) /\ Below w.heap.size w wr)) (fun _ _ i _ => es.length - (intOf i).toNat)
 case atStart => exact ⟨0, _, Nat.zero_le _, rfl, rfl, jz ⟨own_nil_i _ _, Below.refl _ _⟩⟩
 case round =>
  obtain ⟨k, lv, hk, rfl, rfl, H⟩ := hrel
  by_cases hlt : k < es.length
  . obtain ⟨b, off, rfl, hb, hx⟩ := ed_at (HE.out _ H.out.2) (by omega)
    obtain ⟨hld, _, _, hwf⟩ := hx k hlt
    have hF := lnR_take hlt
    have hl1 := lnR_length (es.take k)
    rw [List.length_take] at hl1
    generalize es.getD k default = y at *
    obtain ⟨a, x⟩ := y
    obtain ⟨W, hW, HW⟩ := ed_boxed wr ⟨a, x⟩
    have c0 : W.cell? ⟨wr.heap.size, 0, none⟩ = some (.int .i64 a) := HW.out.1.c0
    have HB := jz (below_more H.out.2 HW.out.2)
    have HO := jz (own_up_i H.out.1 HW.out.2)
    have i0 : (0 : Int) <= (k : Int) := by omega
    have i1 : (k : Int) < (es.length : Int) := by omega
    have i2 : ¬ (k : Int) < 0 := by omega
    have i3 : IntKind.i64.wrap ((k : Int) + 1) = ((k + 1 : Nat) : Int) := by rw [show (k : Int) + 1 = ((k + 1 : Nat) : Int) by omega]; exact i64_nat _ (by have := HL.out; omega)
    have HK := jz hlt
    have hwa := i64_wf hwf.ww
    simp only at hF hwa
    by_cases h1 : 0 <= a
    . rw [if_pos h1] at hF
      obtain ⟨z, rfl⟩ : ∃ z : Nat, a = z := ⟨a.toNat, by omega⟩
      obtain ⟨Q, hQ⟩ : ∃ Q, z / 8 = Q := ⟨_, rfl⟩
      have i4 : (z : Int) >= 0 := by omega
      have m2 : IntKind.i64.wrap ((z : Int) / 8) = (Q : Int) := by rw [show (z : Int) / 8 = (Q : Int) by omega]; exact i64_nat _ (by omega)
      have eQ : (z : Int) / 8 = (Q : Int) := by omega
      rw [eQ] at hF
      have HF := jz hF
      have hlen : Hid ((lnR (es.take k)).length + [(Q : Int)].length <= 1000000) := jz (by have := HL.out; simp only [List.length_singleton]; omega)
      have O2 : Hid (OwnI w.heap.size (W.alloc (.cells #[.int .i64 (Q : Int)] 3)) lv (lnR (es.take k))) := jz (own_up_i HO.out (bal (Below.refl _ _)))
      have B2 : Hid (Below w.heap.size w (W.alloc (.cells #[.int .i64 (Q : Int)] 3))) := jz (bal HB.out)
      clear hx hF hb hk hlt h1 hwf hwa hQ hl1 eQ
      go_wp2_with (at_builtin; refine list_app_int (o := ⟨some 20, _, _, _, _, _⟩) rfl (.tmp 15) (.tmp 19) rfl w.heap.size _ (lnR (es.take k)) rfl O2.out _ [(Q : Int)] rfl (ri_one _ _) hlen.out B2.out.size ?_)
      intro v' w' ho hg hx
      have HN : Hid (OwnI w.heap.size w' v' (lnR (es.take (k + 1))) /\ Below w.heap.size w w') := jz ⟨by rw [HF.out]; exact ho, below_app_i B2.out B2.out.size O2.out hg⟩
      clear ho hg hx
      go_wp2
      go_roundw
      case rel => exact ⟨k + 1, _, by have := HK.out; omega, by go_num, rfl, HN⟩
      case measure => have := HK.out; simp [intOf]; omega
    . rw [if_neg h1, List.append_nil] at hF
      have i4 : ¬ a >= 0 := h1
      have HN : Hid (OwnI w.heap.size W lv (lnR (es.take (k + 1))) /\ Below w.heap.size w W) := jz ⟨by rw [hF]; exact HO.out, HB.out⟩
      clear hx hF hb hk hlt h1 hwf hwa hl1
      go_wp2
      go_roundw
      case rel => exact ⟨k + 1, _, by have := HK.out; omega, by go_num, rfl, HN⟩
      case measure => have := HK.out; simp [intOf]; omega
  . obtain rfl : k = es.length := by omega
    have hF := H.out
    rw [List.take_length] at hF
    have hl1 := lnR_length es
    have S1 := jz (sort_own hF.1 (by have := HL.out; omega))
    have HF := jz hF
    clear hF H hk hlt
    go_wp2_with fail
    refine (S1.out).mono ?_; rintro e w2 ⟨rfl, o2, g2⟩
    have B2 := jz (below_app_i HF.out.2 HF.out.2.size HF.out.1 g2)
    have S2 := jz (compact_own o2 (by rw [List.length_mergeSort]; have := HL.out; omega))
    have O2 := jz o2
    clear o2 g2 S1
    go_wp2_with fail
    refine (S2.out).mono ?_; rintro e w3 ⟨⟨u3, rfl, o3⟩, g3⟩
    have R3 := jz (And.intro o3 (below_app_i B2.out B2.out.size O2.out g3))
    clear o3 g3 S2
    go_wp2
    go_ret
    exact ⟨⟨_, rfl, R3.out.1⟩, R3.out.2⟩
def rootB (X : List Int) (o : Int) : Bool := (o == 0) || isB X o
theorem hmr_is {X : List Int} (o : Int) {v : Value} (w : World) (hv : RU w v X) (hl : X.length <= 1000) (hw : WordsOk X) : Calls Tryz.prog 61 #[v, .int .i64 o] w fun e w' => e = .returned (.bool (rootB X o)) /\ Below w.heap.size w w' := by
 have C := jz (is_is X o v w hv hl hw)
 obtain ⟨p, c, rfl, _⟩ := hv
 unfold rootB
 generalize isB X o = r at *
 generalize X.length = n at *
 by_cases h0 : o = 0
 . subst h0
   go_enter Tryz.func61, Tryz.ntmps61
   go_wp2_with fail
   go_ret
   exact ⟨rfl, Below.refl _ _⟩
 . have i0 : (o == 0) = false := beq_eq_false_iff_ne.2 h0
   rw [i0]
   go_enter Tryz.func61, Tryz.ntmps61
   go_wp2_with fail
   refine (C.out).mono ?_; rintro e w1 ⟨rfl, b⟩
   have B := jz b
   clear b
   go_wp2_with fail
   go_ret
   exact ⟨rfl, B.out⟩
theorem byF_take (n : Nat) (f : Nat -> Int) (k : Nat) (h : k < n) : (byF n f).take (k + 1) = (byF n f).take k ++ [f k] := by
 rw [List.take_add_one]
 congr 1
 simp [byF, h]
theorem hkept_is {w : World} {a : Ha} {kv : Value} {wf : Bool} {s : Nv} {p : Nat} {F : Nat -> Nat} (h : Hb w a kv wf s p) (hn : HNum a) (hd : s.dark = false) (hF : ∀ q, q < (a.N + 3) / 4 -> s.rg (19 + q) = (F q : Int) /\ F q < 4611686018427387904) :
 Calls Tryz.prog 33 #[.pointer (some ⟨a.z, 0, none⟩)] w fun e w' => (∃ v, e = .returned v /\ OwnI w.heap.size w' v (byF ((a.N + 3) / 4) fun q => (F q : Int))) /\ Below w.heap.size w w' := by
 have hnN := hn.N
 have cp := h.plan
 have PC1 := jz (fun w => pages_yes hn.may rfl w)
 have HNn : Hid ((a.N + 3) / 4 <= 16) := jz (by omega)
 have RC := jz (fun (q : Nat) (hq : q < (a.N + 3) / 4) (w' : World) (hb : Below w.heap.size w w') => hreg_is (k := 19 + q) (h.below hb) hd (by omega) (hF q hq).1 (hF q hq).2)
 clear h hd hF hn hnN
 generalize a.z = z at *
 generalize (a.N + 3) / 4 = n at *
 generalize a.N = N at *
 generalize a.P = P at *
 generalize a.per = per at *
 generalize a.b = b at *
 go_enter Tryz.func33, Tryz.ntmps33
 go_wp2_with fail
 refine (PC1.out _).mono ?_; rintro e w1 ⟨rfl, b1⟩
 have B1 := jz b1
 clear b1 PC1
 have FT := jz (fun k (hk : k < n) => byF_take n (fun q => (F q : Int)) k hk)
 have FL : Hid ((byF n fun q => (F q : Int)).length = n) := jz (byF_length _ _)
 obtain ⟨G, hG⟩ : ∃ G, (byF n fun q => (F q : Int)) = G := ⟨_, rfl⟩
 rw [hG] at FT FL
 have HG := jz hG
 clear hG
 go_wp2
 go_loopw [10, 3] (fun i v wr => ∃ (k : Nat) (lv : Value), k <= n /\ i = .int .i64 k /\ lv = v /\ Hid (OwnI w.heap.size wr lv (G.take k) /\ Below w.heap.size w wr)) (fun i _ _ => n - (intOf i).toNat)
 case atStart => exact ⟨0, _, Nat.zero_le _, rfl, rfl, jz ⟨own_nil_i _ _, B1.out⟩⟩
 case round =>
  obtain ⟨k, lv, hk, rfl, rfl, H⟩ := hrel
  by_cases hlt : k < n
  . have R1 := jz (RC.out k hlt wr H.out.2)
    have HF := jz (FT.out k hlt)
    have i1 : (k : Int) < (n : Int) := by omega
    have i3 : IntKind.i64.wrap ((k : Int) + 1) = ((k + 1 : Nat) : Int) := by rw [show (k : Int) + 1 = ((k + 1 : Nat) : Int) by omega]; exact i64_nat _ (by have := HNn.out; omega)
    have i4 : IntKind.i64.wrap (19 + (k : Int)) = ((19 + k : Nat) : Int) := by rw [show 19 + (k : Int) = ((19 + k : Nat) : Int) by omega]; exact i64_nat _ (by have := HNn.out; omega)
    have HK := jz hlt
    have hlen : Hid ((G.take k).length + [(F k : Int)].length <= 1000000) := jz (by have := HNn.out; rw [List.length_take]; simp only [List.length_singleton]; omega)
    have O2 : Hid (OwnI w.heap.size (wr.alloc (.cells #[.int .i64 (F k : Int)] 3)) lv (G.take k)) := jz (own_up_i H.out.1 (bal (Below.refl _ _)))
    have B2 : Hid (Below w.heap.size w (wr.alloc (.cells #[.int .i64 (F k : Int)] 3))) := jz (bal H.out.2)
    clear hk hlt H
    generalize F k = fk at *
    generalize 19 + k = k19 at *
    go_wp2_with fail
    refine (R1.out).mono ?_; rintro e w2 ⟨rfl, rfl⟩
    go_wp2_with (at_builtin; refine list_app_int (o := ⟨some 19, _, _, _, _, _⟩) rfl (.tmp 13) (.tmp 18) rfl w.heap.size _ (G.take k) rfl O2.out _ [(fk : Int)] rfl (ri_one _ _) hlen.out B2.out.size ?_)
    intro v' w' ho hg hx
    have HN : Hid (OwnI w.heap.size w' v' (G.take (k + 1)) /\ Below w.heap.size w w') := jz ⟨by rw [HF.out]; exact ho, below_app_i B2.out B2.out.size O2.out hg⟩
    clear ho hg hx
    go_wp2
    go_roundw
    case rel => exact ⟨k + 1, _, by have := HK.out; omega, by go_num, rfl, HN⟩
    case measure => have := HK.out; simp [intOf]; omega
  . obtain rfl : k = n := by omega
    have hO := H.out.1
    rw [List.take_of_length_le (by rw [FL.out]; exact Nat.le_refl _), <- HG.out] at hO
    have O := jz hO
    clear hO
    go_wp2
    go_ret
    exact ⟨⟨_, rfl, O.out⟩, H.out.2⟩
def soundB (X : List Int) (r : Int) : Bool := (blkF X).isSome && rootB X r
theorem hsound_is {w : World} {a : Ha} {kv : Value} {wf : Bool} {s : Nv} {p : Nat} {X : List Int} {r : Nat} (h : Hb w a kv wf s p) (hn : HNum a) (L : LgOk s (16 + a.N) a.P) (hd : s.dark = false) (H : Has s a.N a.P X) (hw : WordsOk X) (hr : s.rg 2 = (r : Int)) (hr2 : r < 4611686018427387904) :
 Calls Tryz.prog 31 #[.pointer (some ⟨a.z, 0, none⟩)] w fun e w' => e = .returned (.bool (soundB X (r : Int))) /\ Below w.heap.size w w' := by
 have hX : X.length <= 1000 := by have := H.len; have := hn.N; omega
 have C1 := jz (hwords_is h hn L hd H)
 have C2 := jz (fun v w' (hv : RU w' v X) => blocks_is X v (blkF X) w' hv hX hw rfl)
 have C3 := jz (fun w' (hb : Below w.heap.size w w') => hreg_is (k := 2) (h.below hb) hd (by decide) hr hr2)
 have C4 := jz (fun v w' (hv : RU w' v X) => hmr_is (r : Int) w' hv hX hw)
 unfold soundB
 generalize rootB X r = rb at *
 generalize (blkF X).isSome = bb at *
 clear h hn L hd H hw hr hr2 hX
 generalize a.z = z at *
 go_enter Tryz.func31, Tryz.ntmps31
 go_wp2_with fail
 refine (C1.out).mono ?_; rintro e w1 ⟨⟨v, rfl, o1⟩, b1⟩
 have O1 := jz o1
 have D1 := jz b1
 obtain ⟨q, c, rfl⟩ := o1.shape
 clear o1 b1
 go_wp2_with fail
 refine (C2.out _ _ O1.out.ru).mono ?_; rintro e w2 ⟨⟨v, rfl, o2⟩, b2⟩
 have O2 := jz (O1.out.below b2)
 have D2 := jz (below_more D1.out b2)
 obtain ⟨q2, c2, rfl, _⟩ := o2.shape
 clear o2 b2
 cases bb with
 | false =>
   go_wp2_with fail
   go_ret
   exact ⟨rfl, D2.out⟩
 | true =>
   go_wp2_with fail
   refine (C3.out _ D2.out).mono ?_; rintro e w3 ⟨rfl, rfl⟩
   go_wp2_with fail
   refine (C4.out _ _ O2.out.ru).mono ?_; rintro e w3 ⟨rfl, b3⟩
   have D3 := jz (below_more D2.out b3)
   clear b3
   go_wp2_with fail
   go_ret
   exact ⟨by simp, D3.out⟩
section
variable {ops : Array Oper} {rest : List Oper} {o : Oper} {a : Act} {w : World} {Q : Exit -> Act -> World -> Prop}
theorem app_home_h (hgd : o.guard = none) (s x : Operand) (ho : o.op = .call { callee := .builtin .append, args := #[s, x], argTypes := #[100, 100] }) (B : Nat) (v : Value) (l : List Hm) (hs : a.eval s = v) (hown : OwnA homeE B w v l)
 (u : Value) (r : List Hm) (hx : a.eval x = u) (hr : RA homeE w u r) (hlen : Hid (l.length + r.length <= 1000)) (hB : B <= w.heap.size)
 (h : ∀ v' w', OwnA homeE B w' v' (l ++ r) -> w.grownBy w' v.ownBlock -> (v'.ownBlock = v.ownBlock \/ v'.ownBlock = some w.heap.size) -> wpList Tryz.prog ops Q rest (a.put o.dst v') w') : wpList Tryz.prog ops Q (o :: rest) a w :=
 list_app homeE hgd s x ho B v l hs hown u r hx hr (by have := hlen.out; show _ * 72 <= _; omega) hB h
end
theorem home_one_h {i : Int} {l : List Int} (h8 : l.length = 8) (h : -100 <= i /\ i <= 100) : AllOk homeE [⟨i, l⟩] := fun z hz => by
 rw [List.mem_singleton.1 hz]
 refine ⟨h8, ?_⟩
 simp [Lit.wf, IntKind.min, IntKind.max, IntKind.signed, IntKind.bits]; omega
theorem own_home_h (V : World) {c : Hm} (h : AllOk homeE [c]) : OwnA homeE V.heap.size (V.alloc (.cells (hmc c) 148)) (.slice (some ⟨V.heap.size, 0, none⟩) 1 1) [c] := by
 have := own_lit_a homeE V (l := [c]) h (by unfold maxLen; show 1 <= _; decide)
 have e : V.alloc (.cells (([c].flatMap homeE.enc).toArray) homeE.e) = V.alloc (.cells (hmc c) 148) := by
  show V.alloc (.cells (Hm.cells _ ++ []).toArray _) = _
  rw [List.append_nil]; rfl
 rw [e] at this
 exact this
theorem below_app_h {B : Nat} {w w1 w2 : World} {v : Value} {l : List Hm} (h : Below B w w1) (hB : B <= w1.heap.size) (ho : OwnA homeE B w1 v l) (hg : w1.grownBy w2 v.ownBlock) : Below B w w2 := h.grown hg hB (fun k hk => (ho.lt k hk).1)
theorem take_snoc_h {L : List Int} {k : Nat} (h : k < L.length) : L.take (k + 1) = L.take k ++ [L.getD k 0] := by
 rw [List.take_add_one, List.getD_eq_getElem?_getD, List.getElem?_eq_getElem h]; rfl
theorem hhomes_is {w : World} {a : Ha} {kv : Value} {wf : Bool} {s : Nv} {p : Nat} {X L : List Int} {v u : Value} (h : Hb w a kv wf s p) (hn : HNum a) (hv : RU w v X) (hX : X.length = 8 * a.N) (hu : RI w u L) (hL : LnOk a.N L) :
 Calls Tryz.prog 153 #[.pointer (some ⟨a.z, 0, none⟩), v, u] w fun e w' => (∃ r, e = .returned r /\ OwnA homeE w.heap.size w' r (hms X L)) /\ Below w.heap.size w w' := by
 have hnN := hn.N
 have CP := jz (fun (w' : World) (hb : Below w.heap.size w w') => (h.below hb).plan)
 have HM := jz hn.may
 have HV := jz (fun (w' : World) (hb : Below w.heap.size w w') => ru_below hv hb)
 have HU := jz (fun (w' : World) (hb : Below w.heap.size w w') => ri_below hu hb)
 have HI := jz (fun (k : Nat) (hk : k < L.length) => (show ∃ m : Nat, L.getD k 0 = (m : Int) /\ m < a.N from by
  have := hL.in_ (L.getD k 0) (by rw [List.getD_eq_getElem?_getD, List.getElem?_eq_getElem hk]; exact List.getElem_mem hk)
  exact ⟨(L.getD k 0).toNat, by omega, by omega⟩))
 have HXl : Hid (X.length = 8 * a.N /\ a.N <= 64) := jz ⟨hX, hnN.2⟩
 have HLl : Hid (L.length <= 14) := jz hL.hi
 obtain ⟨pv, cv, rfl, _⟩ := hv
 obtain ⟨pu, cu, rfl, _⟩ := hu
 clear h hn hX hL hnN
 generalize a.z = z at *
 generalize a.N = N at *
 generalize a.P = P at *
 generalize a.per = per at *
 generalize a.b = b at *
 go_enter Tryz.func153, Tryz.ntmps153
 go_wp2
 go_loopw [12, 7] (fun i v wr => ∃ (k : Nat) (lv : Value), k <= L.length /\ i = .int .i64 k /\ lv = v /\ Hid (OwnA homeE w.heap.size wr lv (hms X (L.take k)) /\ Below w.heap.size w wr)) (fun i _ _ => L.length - (intOf i).toNat)
 case atStart => exact ⟨0, _, Nat.zero_le _, rfl, rfl, jz ⟨own_nil_a _ _ _, Below.refl _ _⟩⟩
 case round =>
  obtain ⟨k, lv, hk, rfl, rfl, H⟩ := hrel
  by_cases hlt : k < L.length
  . obtain ⟨m, hm, hmN⟩ := HI.out k hlt
    obtain ⟨bu, ou, rfl, hbu, hcu⟩ := ri_some (HU.out wr H.out.2) (by omega)
    have c1 := hcu k hlt
    rw [hm] at c1
    have cp := CP.out wr H.out.2
    have i0 : (0 : Int) <= (k : Int) := by omega
    have i1 : (k : Int) < (L.length : Int) := by omega
    have i2 : ¬ (k : Int) < 0 := by omega
    have i3 : IntKind.i64.wrap ((k : Int) + 1) = ((k + 1 : Nat) : Int) := by rw [show (k : Int) + 1 = ((k + 1 : Nat) : Int) by omega]; exact i64_nat _ (by have := HLl.out; omega)
    have C1 := jz (home_yes HM.out hmN rfl wr)
    have C2 := jz (fun (w' : World) (hb : Below wr.heap.size wr w') => hlnof_is w' (HV.out w' (below_more H.out.2 hb)) HXl.out.1 (by have := HXl.out; omega) hmN)
    have hl8 := lnO_length HXl.out.1 hmN
    have OK1 := jz (home_one_h (i := ((16 + m : Nat) : Int)) hl8 (by have := HXl.out; omega))
    have EH : Hid (hms X (L.take (k + 1)) = hms X (L.take k) ++ [⟨((16 + m : Nat) : Int), lnO X m⟩]) := jz (by
     rw [take_snoc_h hlt, hm]; simp [hms])
    have HK := jz hlt
    have HLh : Hid ((hms X (L.take k)).length <= 14) := jz (by rw [hms_length, List.length_take]; have := HLl.out; omega)
    generalize lnO X m = Y at *
    generalize 16 + m = m16 at *
    clear hk hlt hcu hbu hm hmN
    go_wp2_with fail
    refine (C1.out).mono ?_; rintro e w1 ⟨rfl, b1⟩
    have D1 := jz b1
    clear b1
    go_wp2_with fail
    refine (C2.out _ D1.out).mono ?_; rintro e w2 ⟨rfl, b2⟩
    have D2 := jz (below_more D1.out b2)
    have O2 : Hid (OwnA homeE w.heap.size (w2.alloc (.cells (hmc ⟨(m16 : Int), Y⟩) 148)) lv (hms X (L.take k))) := jz (H.out.1.below (bal D2.out))
    have B2 : Hid (Below w.heap.size w (w2.alloc (.cells (hmc ⟨(m16 : Int), Y⟩) 148))) := jz (bal (below_more H.out.2 D2.out))
    have RO := jz (own_home_h w2 OK1.out).ra
    clear b2
    go_wp2_with (at_builtin; refine app_home_h (o := ⟨some 28, _, _, _, _, _⟩) rfl (.tmp 16) (.tmp 27) rfl w.heap.size _ (hms X (L.take k)) rfl O2.out _ [⟨(m16 : Int), Y⟩] rfl RO.out (jz (by have := HLh.out; simp only [List.length_singleton]; omega)) B2.out.size ?_)
    intro v' w' ho hg hx
    have HN : Hid (OwnA homeE w.heap.size w' v' (hms X (L.take (k + 1))) /\ Below w.heap.size w w') := jz ⟨by rw [EH.out]; exact ho, below_app_h B2.out B2.out.size O2.out hg⟩
    clear ho hg hx
    go_wp2
    go_roundw
    case rel => exact ⟨k + 1, _, by have := HK.out; omega, by go_num, rfl, HN⟩
    case measure => have := HK.out; simp [intOf]; omega
  . obtain rfl : k = L.length := by omega
    have hO := H.out.1
    rw [List.take_length] at hO
    have O := jz hO
    clear hO
    go_wp2
    go_ret
    exact ⟨⟨_, rfl, O.out⟩, H.out.2⟩
theorem Hp.note {w w' : World} {a : Ha} {S : Hs} {ct : Ct} (h : Hp w a S) (hc : Chg [a.kg] w w') (hk : Cq w' a.k a.kg ct) : Hp w' a { S with ct := ct } := by
 have f := h.far
 have z := h.hb.zz
 refine ⟨h.hb.chg hc ?_ ?_ ?_ ?_ ?_, hk, f⟩ <;> rw [List.mem_singleton]
 . exact f.2.1
 . exact fun e => f.2.2.2.2.1 e.symm
 . exact fun e => f.2.2.2.2.2.1 e.symm
 . exact fun e => f.2.2.2.2.2.2.1 e.symm
 . exact fun e => f.2.2.2.2.2.2.2 e.symm
theorem Hp.set {w w' : World} {a : Ha} {S : Hs} {s' : Nv} (h : Hp w a S) (hc : Chg [a.g] w w') (hN : Nm w' a.g s') : Hp w' a { S with s := s' } := by
 have f := h.far
 have z := h.hb.zz
 refine ⟨⟨hc.whole h.hb.top (by rw [List.mem_singleton]; exact z.1), h.hb.lg.mem hc hN, z⟩, h.cq.chg hc (by rw [List.mem_singleton]; exact f.2.2.1) (by rw [List.mem_singleton]; exact f.2.2.2.2.1), f⟩
theorem Ct.note_k (ct : Ct) (q : Nat) : (ct.note q).k = if ct.due q = true then at1 ct.k q (ct.c q + 1) else ct.k := by
 unfold Ct.note
 split
 . show at1 ct.k q (at1 ct.c q (ct.c q + 1) q) = _
   simp [at1]
 . rfl
structure Nts (S S' : Hs) (n P M j : Nat) : Prop where
 lg : LgOk S'.s n P
 vw : ∀ b, view S'.s n P b = view S.s n P b
 lk : lk S'.s = lk S.s
 tm : tm S'.s = tm S.s
 la : S'.s.la = S.s.la
 comes : S'.s.comes = S.s.comes
 r2 : S'.s.rg 2 = S.s.rg 2
 p : S'.p = S.p
 wf : S'.wf = S.wf
 c : S'.s.c <= S.s.c + j
 rgs : ∀ q, q < 16 -> S'.s.rg (19 + q) = S.s.rg (19 + q) \/ ∃ v : Nat, S'.s.rg (19 + q) = (v : Int) /\ v <= M
 tb : S'.s.tb P = S.s.tb P
theorem Nts.refl {S : Hs} {n P : Nat} (M : Nat) (L : LgOk S.s n P) : Nts S S n P M 0 := ⟨L, fun _ => rfl, rfl, rfl, rfl, rfl, rfl, rfl, rfl, by omega, fun _ _ => .inl rfl, rfl⟩
theorem Nts.ct {S S' : Hs} {n P M j : Nat} (h : Nts S S' n P M j) (ct : Ct) : Nts S { S' with ct := ct } n P M j := ⟨h.lg, h.vw, h.lk, h.tm, h.la, h.comes, h.r2, h.p, h.wf, h.c, h.rgs, h.tb⟩
theorem Nts.more {S S' : Hs} {n P M j i : Nat} (h : Nts S S' n P M j) (hi : j <= i) : Nts S S' n P M i := ⟨h.lg, h.vw, h.lk, h.tm, h.la, h.comes, h.r2, h.p, h.wf, by have := h.c; omega, h.rgs, h.tb⟩
theorem Nts.set {S S' : Hs} {n P M j q v : Nat} (h : Nts S S' n P M j) (hq : q < 16) (hv : v <= M) : Nts S { S' with s := S'.s.set ((19 + q : Nat) : Int) (v : Int) } n P M (j + 1) := by
 obtain ⟨l1, l2, l3, l4, l5, l6⟩ := h.lg.set (k := 19 + q) (.inr (by omega)) (v : Int)
 refine ⟨l1, fun b => (l4 b).trans (h.vw b), l2.trans h.lk, l3.trans h.tm, (Nv.set_la _ _ _).trans h.la, (Nv.set_comes _ _ _).trans h.comes, (l6 2 (by omega)).trans h.r2, h.p, h.wf, ?_, fun i hi => ?_, (tb_far (.inr (by omega)) h.lg.g.pp).trans h.tb⟩
 . have := S'.s.set_c ((19 + q : Nat) : Int) (v : Int)
   have := h.c
   dsimp only
   omega
 . by_cases e : i = q
   . subst e
     rcases l5 with e | e
     . rw [e]; exact h.rgs i hi
     . exact .inr ⟨v, e, hv⟩
   . show (S'.s.set ((19 + q : Nat) : Int) (v : Int)).rg (19 + i) = _ \/ _
     rw [l6 (19 + i) (by omega)]; exact h.rgs i hi
def Keeps (s : Nv) (ct : Ct) : Prop := ∀ q, q < ct.n -> s.rg (19 + q) = (ct.k q : Int)
theorem pgs_take {L : List Int} {k m : Nat} (h : k < L.length) (hm : L.getD k 0 = (m : Int)) : pgs (L.take (k + 1)) = pgs (L.take k) ++ [m / 4] := by
 rw [take_snoc_h h, hm]; simp [pgs]
def NOut (w w' : World) (a : Ha) (S : Hs) (L : List Int) (n M : Nat) (e : Ending) : Prop :=
 ∃ S', Hp w' a S' /\ Chg [a.g, a.kg] w w' /\ Nts S S' n a.P M L.length ∧
  ((e = .returned (.tuple #[]) /\ S'.s.dark = false /\ S'.ct = nts S.ct (pgs L) /\ Keeps S'.s S'.ct) \/ (Dies e /\ S.s.comes = true))
theorem hnote_is {w : World} {a : Ha} {S : Hs} {L : List Int} {u : Value} {n M : Nat} (h : Hp w a S) (hnn : a.N <= 64) (hu : ∀ w', Chg [a.g, a.kg] w w' -> RI w' u L) (hL : LnOk a.N L) (hG : LgOk S.s n a.P) (hd : S.s.dark = false) (hc : S.s.c + 100 < 4611686018427387904)
 (hct : S.ct.Ok) (hcn : S.ct.n = (a.N + 3) / 4) (hK : Keeps S.s S.ct) (hM : ∀ q, q < S.ct.n -> S.ct.c q + 14 <= M) (hM2 : M < 1099511627776) :
 Calls Tryz.prog 154 #[.pointer (some ⟨a.z, 0, none⟩), u] w fun e w' => NOut w w' a S L n M e := by
 have HU := jz hu
 have HH := jz h
 have HI := jz (fun (k : Nat) (hk : k < L.length) => (show ∃ m : Nat, L.getD k 0 = (m : Int) /\ m < a.N from by
  have := hL.in_ (L.getD k 0) (by rw [List.getD_eq_getElem?_getD, List.getElem?_eq_getElem hk]; exact List.getElem_mem hk)
  exact ⟨(L.getD k 0).toNat, by omega, by omega⟩))
 have HP := jz (fun (k : Nat) q (hq : q ∈ pgs (L.take k)) => (show q < S.ct.n from by
  rw [hcn]
  refine pgs_lt hL q ?_
  rw [pgs, List.map_take] at hq
  exact List.mem_of_mem_take hq))
 have HLl : Hid (L.length <= 14) := jz hL.hi
 have HN64 := jz hnn
 have HG := jz hG
 have HD := jz hd
 have HC := jz hc
 have HCT := jz hct
 have HCN := jz hcn
 have HK0 := jz hK
 have HM := jz (And.intro hM hM2)
 obtain ⟨pu, cu, rfl, _⟩ := hu w (Chg.refl _ _)
 clear h hu hL hG hd hc hct hcn hK hM hM2 hnn
 go_enter Tryz.func154, Tryz.ntmps154
 go_wp2
 go_loopw [11] (fun i wr => ∃ (k : Nat) (S1 : Hs), k <= L.length /\ i = .int .i64 k /\ Hid (Hp wr a S1 /\ Chg [a.g, a.kg] w wr /\ Nts S S1 n a.P M k /\ S1.s.dark = false /\ S1.ct = nts S.ct (pgs (L.take k)) /\ Keeps S1.s S1.ct)) (fun i _ => L.length - (intOf i).toNat)
 case atStart => exact ⟨0, S, Nat.zero_le _, rfl, jz ⟨HH.out, Chg.refl _ _, Nts.refl M HG.out, HD.out, rfl, HK0.out⟩⟩
 case round =>
  obtain ⟨k, S1, hk, rfl, H⟩ := hrel
  by_cases hlt : k < L.length
  . obtain ⟨m, hm, hmN⟩ := HI.out k hlt
    obtain ⟨bu, ou, rfl, hbu, hcu⟩ := ri_some (HU.out wr H.out.2.1) (by omega)
    have c1 := hcu k hlt
    rw [hm] at c1
    obtain ⟨H1, H2, H3, H4, H5, H6⟩ := H.out
    have i0 : (0 : Int) <= (k : Int) := by omega
    have i1 : (k : Int) < (L.length : Int) := by omega
    have i2 : ¬ (k : Int) < 0 := by omega
    have i3 : IntKind.i64.wrap ((k : Int) + 1) = ((k + 1 : Nat) : Int) := by rw [show (k : Int) + 1 = ((k + 1 : Nat) : Int) by omega]; exact i64_nat _ (by have := HLl.out; omega)
    obtain ⟨q, hq⟩ : ∃ q, m / 4 = q := ⟨_, rfl⟩
    have hpg := pgs_take hlt hm
    rw [hq] at hpg
    have hn1 : S1.ct.n = S.ct.n := by rw [H5, nts_n]
    have hqn : q < S1.ct.n := by rw [hn1]; exact HP.out (k + 1) q (by rw [hpg]; simp)
    have hok1 : S1.ct.Ok := by rw [H5]; exact nts_ok _ HCT.out fun x hx => HP.out k x hx
    have hcq : S1.ct.c q + 1 <= M := by
     rw [H5]
     have a1 := nts_le (pgs (L.take k)) S.ct q
     rw [pgs_length, List.length_take] at a1
     have := HM.out.1 q (by rw [<- hn1]; exact hqn)
     have := HLl.out
     omega
    have hq16 : q < 16 := by have := HCN.out; have := HN64.out; omega
    have hM2 := HM.out.2
    have C1 := jz (page_is m (by have := HN64.out; omega) wr)
    rw [hq] at C1
    have C2 := jz (cnote_yes H1.cq hok1 hqn (by omega))
    have c4 := H1.hb.c7
    have e5 : S1.ct.note q = nts S.ct (pgs (L.take (k + 1))) := by rw [hpg, nts_app, <- H5]; rfl
    have HQ := jz (And.intro hq16 (And.intro hcq hlt))
    have K1 := S1.ct.note_k q
    obtain ⟨du, hdu⟩ : ∃ du, S1.ct.due q = du := ⟨_, rfl⟩
    rw [hdu] at C2 K1
    have hct2 : ∀ w2, Cq w2 a.k a.kg (S1.ct.note q) -> Chg [a.kg] wr w2 -> Hp w2 a { S1 with ct := S1.ct.note q } /\ Chg [a.g, a.kg] w w2 := fun w2 hq2 hc2 => ⟨H1.note hc2 hq2, H2.trans (hc2.mono fun x hx => by rw [List.mem_singleton.1 hx]; simp)⟩
    have HCT2 := jz hct2
    cases du with
    | false =>
      rw [if_neg (by decide)] at K1
      have HF : Hid (∀ w2, Cq w2 a.k a.kg (S1.ct.note q) -> Chg [a.kg] wr w2 -> ∃ S2, Hp w2 a S2 /\ Chg [a.g, a.kg] w w2 /\ Nts S S2 n a.P M (k + 1) /\ S2.s.dark = false /\ S2.ct = nts S.ct (pgs (L.take (k + 1))) /\ Keeps S2.s S2.ct) := jz fun w2 q1 q2 => by
       obtain ⟨g1, g2⟩ := HCT2.out w2 q1 q2
       refine ⟨_, g1, g2, (H3.ct _).more (by omega), H4, e5, fun i hi => ?_⟩
       show S1.s.rg (19 + i) = ((S1.ct.note q).k i : Int)
       rw [K1]
       exact H6 i (by rw [Ct.note_n] at hi; exact hi)
      clear hct2 HCT2 K1 hdu e5 hcq hok1 hqn hn1 hpg H1 H2 H3 H4 H5 H6 hm hmN hcu hbu hk hlt hq16 hM2 hq
      generalize a.z = z at *
      generalize a.k = kk at *
      generalize S1.ct.c q + 1 = cv at *
      generalize S1.ct.note q = ctn at *
      go_wp2_with fail
      refine (C1.out).mono ?_; rintro e w1 ⟨rfl, rfl⟩
      go_wp2_with fail
      refine (C2.out).mono ?_; rintro e w2 ⟨rfl, q1, q2⟩
      obtain ⟨S2, HS2⟩ := HF.out w2 q1 q2
      have HS2 := jz HS2
      clear q1 q2
      go_wp2
      go_roundw
      case rel => exact ⟨k + 1, S2, by have := HQ.out; omega, by go_num, HS2⟩
      case measure => have := HQ.out; simp [intOf]; omega
    | true =>
      rw [if_pos rfl] at K1
      have hset := fun w2 (q1 : Cq w2 a.k a.kg (S1.ct.note q)) (q2 : Chg [a.kg] wr w2) => set_any a.g S1.s ((19 + q : Nat) : Int) ((S1.ct.c q + 1 : Nat) : Int) w2 (HCT2.out w2 q1 q2).1.hb.lg.nm H3.lg.g.ok (by have := H3.c; have := HC.out; have := HLl.out; omega)
      have hN2 := H3.set (q := q) (v := S1.ct.c q + 1) hq16 hcq
      have c0 := fun w2 (q1 : Cq w2 a.k a.kg (S1.ct.note q)) (q2 : Chg [a.kg] wr w2) => (HCT2.out w2 q1 q2).1.hb.c0
      have i5 : IntKind.i64.wrap (19 + (q : Int)) = ((19 + q : Nat) : Int) := by rw [show 19 + (q : Int) = ((19 + q : Nat) : Int) by omega]; exact i64_nat _ (by omega)
      have i6 : IntKind.u64.wrap ((S1.ct.c q + 1 : Nat) : Int) = ((S1.ct.c q + 1 : Nat) : Int) := u64_same (by omega) (by omega)
      have HS1 := jz hset
      have HC0 := jz c0
      rcases Nv.set_ok (s := S1.s) (k := 19 + q) (by omega) H4 ((S1.ct.c q + 1 : Nat) : Int) with ⟨e0, r0, d0⟩ | ⟨e2, co⟩
      . have HF : Hid (∀ w2 w3, Cq w2 a.k a.kg (S1.ct.note q) -> Chg [a.kg] wr w2 -> Nm w3 a.g (S1.s.set ((19 + q : Nat) : Int) ((S1.ct.c q + 1 : Nat) : Int)) -> Chg [a.g] w2 w3 -> ∃ S2, Hp w3 a S2 /\ Chg [a.g, a.kg] w w3 /\ Nts S S2 n a.P M (k + 1) /\ S2.s.dark = false /\ S2.ct = nts S.ct (pgs (L.take (k + 1))) /\ Keeps S2.s S2.ct) := jz fun w2 w3 q1 q2 q3 q4 => by
         obtain ⟨g1, g2⟩ := HCT2.out w2 q1 q2
         refine ⟨_, g1.set q4 q3, g2.trans (q4.mono fun x hx => by rw [List.mem_singleton.1 hx]; simp), hN2.ct _, d0, e5, fun i hi => ?_⟩
         show (S1.s.set ((19 + q : Nat) : Int) ((S1.ct.c q + 1 : Nat) : Int)).rg (19 + i) = ((S1.ct.note q).k i : Int)
         rw [K1]
         have hi' : i < S1.ct.n := by rw [<- Ct.note_n S1.ct q]; exact hi
         by_cases e : i = q
         . subst e; rw [r0]; simp [at1]
         . have l6 := (H3.lg.set (k := 19 + q) (.inr (by omega)) ((S1.ct.c q + 1 : Nat) : Int)).2.2.2.2.2
           rw [l6 (19 + i) (by omega), at1, if_neg e]
           exact H6 i hi'
        rw [e0] at HS1
        have CK := jz (fun w => hchk_ok 0 (by decide) w)
        clear hct2 HCT2 K1 hdu e5 hcq hok1 hqn hn1 hpg H1 H2 H3 H4 H5 H6 hm hmN hcu hbu hk hlt hq16 hM2 hq hset c0 e0 r0 d0 hN2
        generalize S1.s.set ((19 + q : Nat) : Int) ((S1.ct.c q + 1 : Nat) : Int) = s2 at *
        generalize a.z = z at *
        generalize a.k = kk at *
        generalize a.g = g at *
        generalize S1.ct.c q + 1 = cv at *
        generalize S1.ct.note q = ctn at *
        generalize 19 + q = q19 at *
        go_wp2_with fail
        refine (C1.out).mono ?_; rintro e w1 ⟨rfl, rfl⟩
        go_wp2_with fail
        refine (C2.out).mono ?_; rintro e w2 ⟨rfl, q1, q2⟩
        have cc := HC0.out w2 q1 q2
        have CS := jz (HS1.out w2 q1 q2)
        have HF2 := jz (HF.out w2 · q1 q2)
        clear q1 q2
        go_wp2_with fail
        refine (CS.out).mono ?_; rintro e w3 ⟨rfl, q3, q4⟩
        obtain ⟨S2, HS2⟩ := HF2.out w3 q3 q4
        have HS2 := jz HS2
        clear q3 q4 cc
        go_wp2_with fail
        refine (CK.out _).mono ?_; rintro e w4 ⟨rfl, rfl⟩
        go_wp2
        go_roundw
        case rel => exact ⟨k + 1, S2, by have := HQ.out; omega, by go_num, HS2⟩
        case measure => have := HQ.out; simp [intOf]; omega
      . have HF : Hid (∀ w2 w3 e, Cq w2 a.k a.kg (S1.ct.note q) -> Chg [a.kg] wr w2 -> Nm w3 a.g (S1.s.set ((19 + q : Nat) : Int) ((S1.ct.c q + 1 : Nat) : Int)) -> Chg [a.g] w2 w3 -> Dies e -> NOut w w3 a S L n M e) := jz fun w2 w3 e q1 q2 q3 q4 q5 => by
         obtain ⟨g1, g2⟩ := HCT2.out w2 q1 q2
         exact ⟨_, g1.set q4 q3, g2.trans (q4.mono fun x hx => by rw [List.mem_singleton.1 hx]; simp), (hN2.ct _).more (by omega), .inr ⟨q5, H3.comes ▸ co⟩⟩
        rw [e2] at HS1
        have CK := jz (fun w => hchk_dies w)
        clear hct2 HCT2 K1 hdu e5 hcq hok1 hqn hn1 hpg H1 H2 H3 H4 H5 H6 hm hmN hcu hbu hk hlt hq16 hM2 hq hset c0 e2 co hN2
        generalize S1.s.set ((19 + q : Nat) : Int) ((S1.ct.c q + 1 : Nat) : Int) = s2 at *
        generalize a.z = z at *
        generalize a.k = kk at *
        generalize a.g = g at *
        generalize S1.ct.c q + 1 = cv at *
        generalize S1.ct.note q = ctn at *
        generalize 19 + q = q19 at *
        go_wp2_with fail
        refine (C1.out).mono ?_; rintro e w1 ⟨rfl, rfl⟩
        go_wp2_with fail
        refine (C2.out).mono ?_; rintro e w2 ⟨rfl, q1, q2⟩
        have cc := HC0.out w2 q1 q2
        have CS := jz (HS1.out w2 q1 q2)
        have HF2 := jz (fun w3 e => HF.out w2 w3 e q1 q2)
        clear q1 q2
        go_wp2_with fail
        refine (CS.out).mono ?_; rintro e w3 ⟨rfl, q3, q4⟩
        have HF3 := jz (fun e => HF2.out w3 e q3 q4)
        clear q3 q4 cc
        go_wp2_with fail
        refine (CK.out _).mono ?_; rintro e w4 ⟨⟨u, pv, rfl⟩, rfl⟩
        go_wp2
        exact ⟨rfl, HF3.out _ ⟨_, _, rfl⟩⟩
  . obtain rfl : k = L.length := by omega
    obtain ⟨H1, H2, H3, H4, H5, H6⟩ := H.out
    rw [List.take_length] at H5
    have HO : Hid (NOut w wr a S L n M (.returned (.tuple #[]))) := jz ⟨S1, H1, H2, H3, .inl ⟨rfl, H4, H5, H6⟩⟩
    clear H H1 H2 H3 H4 H5 H6
    go_wp2
    go_end0
    exact HO.out
structure HC (s : Nv) (N P K : Nat) (X : List Int) (r : Nat) : Prop where
 lg : LgOk s (16 + N) P
 has : Has s N P X
 ok : WordsOk X
 snd : soundB X r = true
 rt : s.rg 2 = (r : Int)
 rlt : r <= 5000
 rgs : ∀ q, q < 16 -> ∃ v : Nat, s.rg (19 + q) = (v : Int) /\ v <= 14 * K
 m : tm s <= 40 * K
 c : s.c <= 4000 * K
 K : K <= 1000
structure HI (a : Ha) (S : Hs) (K : Nat) (X : List Int) (r : Nat) : Prop where
 hc : HC S.s a.N a.P K X r
 live : S.s.dark = false
 num : HNum a
 ct : S.ct.Ok
 cn : S.ct.n = (a.N + 3) / 4
 cb : S.ct.b = a.b
 kp : Keeps S.s S.ct
 cm : ∀ q, q < S.ct.n -> S.ct.c q <= 14 * K
 p : S.p <= 40 * K
 wl : S.wf = true \/ lk S.s ≠ 0 -> leftT (S.s.tb a.P) = 0
theorem HI.room {a : Ha} {S : Hs} {K : Nat} {X : List Int} {r : Nat} (h : HI a S K X r) : Room (16 + a.N) a.P a.per S.p S.s := by
 have := h.num.N
 have := h.num.P
 have := h.num.per
 have := h.hc.m
 have := h.hc.c
 have := h.hc.K
 have := h.p
 exact ⟨by omega, by omega, by omega, by omega, by omega, by omega⟩
theorem HI.len {a : Ha} {S : Hs} {K : Nat} {X : List Int} {r : Nat} (h : HI a S K X r) : X.length = 8 * a.N /\ X.length <= 512 := by
 have := h.num.N
 have := h.hc.has.len
 exact ⟨this, by omega⟩
def lnsF (E : List Ed) : List Int := Lib.compact ((lnR E).mergeSort fun x y => decide (x <= y))
theorem lnsF_is (E : List Ed) : IsL E (lnsF E) := (lines_are E).1
def COut (w w' : World) (a : Ha) (S : Hs) (K : Nat) (X : List Int) (r : Nat) (X' L : List Int) (e : Ending) : Prop :=
 ∃ S', Hp w' a S' /\ Chg a.D w w' /\ S'.s.la = S.s.la /\ S'.s.comes = S.s.comes /\ S'.s.n = S.s.n ∧
  ((e = .returned (.int .i64 0) /\ HI a S' (K + 1) X' r /\ S'.ct = nts S.ct (pgs L) /\ S'.wf = S.wf /\ (Free S.s -> Free S'.s /\ lk S'.s = 0)) ∨
   (e = .returned (.int .i64 3) /\ HI a S' (K + 1) X r /\ S'.ct = S.ct /\ S'.wf = true /\ ¬ Free S.s) ∨
   ((e = .returned (.int .i64 2) \/ Dies e) /\ S.s.comes = true /\ (HC S'.s a.N a.P (K + 1) X r \/ HC S'.s a.N a.P (K + 1) X' r)))
theorem rgs_more {s s' : Nv} {K : Nat} (h : ∀ q, q < 16 -> ∃ v : Nat, s.rg (19 + q) = (v : Int) /\ v <= 14 * K) (he : ∀ q, q < 16 -> s'.rg (19 + q) = s.rg (19 + q) \/ ∃ v : Nat, s'.rg (19 + q) = (v : Int) /\ v <= 14 * (K + 1)) : ∀ q, q < 16 -> ∃ v : Nat, s'.rg (19 + q) = (v : Int) /\ v <= 14 * (K + 1) := fun q hq => by
 rcases he q hq with e | e
 . obtain ⟨v, e1, e2⟩ := h q hq
   exact ⟨v, e.trans e1, by omega⟩
 . exact e
structure CMid (a : Ha) (S : Hs) (K : Nat) (X : List Int) (r : Nat) (X' L : List Int) (R : Int × Nat × Nv) : Prop where
 lg : LgOk R.2.2 (16 + a.N) a.P
 la : R.2.2.la = S.s.la
 comes : R.2.2.comes = S.s.comes
 n : R.2.2.n = S.s.n
 r2 : R.2.2.rg 2 = S.s.rg 2
 rgs : ∀ q, q < 16 -> R.2.2.rg (19 + q) = S.s.rg (19 + q)
 m : tm R.2.2 <= tm S.s + 32
 c : R.2.2.c <= S.s.c + 2624
 p : R.2.1 <= S.p + 30
 own : (R.1 = 0 /\ R.2.2.dark = false /\ Has R.2.2 a.N a.P X' /\ (Free S.s -> Free R.2.2 /\ lk R.2.2 = 0)) \/ (R.1 = 3 /\ R.2.2.dark = false /\ Has R.2.2 a.N a.P X /\ ¬ Free S.s) \/ (R.1 = 2 /\ S.s.comes = true /\ (Has R.2.2 a.N a.P X \/ Has R.2.2 a.N a.P X'))
 wl : (R.1 = 3 \/ (R.1 = 0 /\ lk R.2.2 ≠ 0) \/ leftT (S.s.tb a.P) = 0) -> leftT (R.2.2.tb a.P) = 0
theorem cmid {a : Ha} {S : Hs} {K : Nat} {X : List Int} {r : Nat} {E : List Ed} (h : HI a S K X r) (hk : lk S.s = 0) (hE : EdFit a.N E) : CMid a S K X r (appF X E) (lnsF E) (lcom (16 + a.N) a.P a.per S.p (hms (appF X E) (lnsF E)) S.s) := by
 have hL := hE.lines (lnsF_is E)
 have hXl := h.len.1
 have hX' : (appF X E).length = 8 * a.N := (appF_length ..).trans hXl
 have hM := hL.may (appF X E)
 have hw := hL.wide hX'
 have hR := h.room
 have hP := h.num.P
 obtain ⟨o1, o2, o3⟩ := lcom_out a.per S.p h.hc.lg h.live hk hM hw hR.m
 have hg := fun F => lcom_go a.per S.p h.hc.lg hM hw F hR.m
 have hr := fun q => lcom_rgh (16 + a.N) a.P a.per S.p (hms (appF X E) (lnsF E)) S.s (k := 19 + q) (by omega) hP
 have hwl : ((lcom (16 + a.N) a.P a.per S.p (hms (appF X E) (lnsF E)) S.s).1 = 3 \/ ((lcom (16 + a.N) a.P a.per S.p (hms (appF X E) (lnsF E)) S.s).1 = 0 /\ lk (lcom (16 + a.N) a.P a.per S.p (hms (appF X E) (lnsF E)) S.s).2.2 ≠ 0) \/ leftT (S.s.tb a.P) = 0) -> leftT ((lcom (16 + a.N) a.P a.per S.p (hms (appF X E) (lnsF E)) S.s).2.2.tb a.P) = 0 := fun q => by
  rcases q with q | ⟨q1, q2⟩ | q
  . exact lcom_left (.inr q) (.inl q)
  . exact lcom_left (.inl q1) (.inr q2)
  . exact lcom_stay hP q
 generalize lcom (16 + a.N) a.P a.per S.p (hms (appF X E) (lnsF E)) S.s = R at *
 have hsame : ∀ i, i < a.N -> (i : Int) ∉ lnsF E -> lnO (appF X E) i = lnO X i := fun i hi hn => appF_line hXl (lnsF_is E) hi hn
 have hn : R.2.2.n = S.s.n := o1.lg.g.nn.trans h.hc.lg.g.nn.symm
 refine ⟨o1.lg, o1.la, o1.comes, hn, o1.r2, fun q _ => hr q, o1.hi, by have := o1.c; omega, o2, ?_, hwl⟩
 rcases o3 with ⟨e, d, v⟩ | ⟨e, d, _, v⟩ | ⟨e, d, v | v⟩
 . exact .inl ⟨e, d, has_com h.hc.has hX' hL hsame v, fun F => (hg F).2⟩
 . exact .inr (.inl ⟨e, d, h.hc.has.same v, fun F => by have := (hg F).1; omega⟩)
 . exact .inr (.inr ⟨e, d, .inl (h.hc.has.same v)⟩)
 . exact .inr (.inr ⟨e, d, .inr (has_com h.hc.has hX' hL hsame v)⟩)
theorem Hp.com {w w' : World} {a : Ha} {S : Hs} {p' : Nat} {s' : Nv} (h : Hp w a S) (hc : Chg [a.g, a.y] w w') (hL : Lg w' a.x a.g a.y a.q (16 + a.N) a.P a.per p' s') : Hp w' a { S with s := s', p := p' } := by
 have f := h.far
 have z := h.hb.zz
 exact ⟨⟨hc.whole h.hb.top (by simp; exact ⟨z.1, z.2.1⟩), hL, z⟩, h.cq.chg hc (by simp; exact ⟨f.2.2.1, f.2.2.2.1⟩) (by simp; exact ⟨f.2.2.2.2.1, f.2.2.2.2.2.1⟩), f⟩
theorem Hp.wear {w : World} {a : Ha} {S : Hs} (h : Hp w a S) : Hp (w.setCell ⟨a.z, 8, none⟩ (.bool true)) a { S with wf := true } /\ Chg [a.z] w (w.setCell ⟨a.z, 8, none⟩ (.bool true)) := by
 have f := h.far
 have z := h.hb.zz
 have hc : Chg [a.z] w (w.setCell ⟨a.z, 8, none⟩ (.bool true)) := (Chg.refl [a.z] w).setCell (p := ⟨a.z, 8, none⟩) (.inl (List.mem_singleton.2 rfl)) _
 have hs := h.hb.top.set_ 8 (.bool true)
 refine ⟨⟨⟨?_, h.hb.lg.chg hc (by simpa using fun e => z.2.2.2 e.symm) (by simpa using fun e => z.1 e.symm) (by simpa using fun e => z.2.1 e.symm) (by simpa using fun e => z.2.2.1 e.symm), z⟩, h.cq.chg hc (by simpa using fun e => f.1 e.symm) (by simpa using fun e => f.2.1 e.symm), f⟩, hc⟩
 simpa [htop] using hs
theorem cout_down {w w3 : World} {a : Ha} {S : Hs} {K : Nat} {X : List Int} {r : Nat} {X' L : List Int} {R : Int × Nat × Nv} (h : HI a S K X r) (hK : K < 1000) (M : CMid a S K X r X' L R) (hok : WordsOk X') (hs : soundB X' r = true)
 (hp : Hp w3 a { S with s := R.2.2, p := R.2.1 }) (hc : Chg a.D w w3) (h2 : R.1 = 2) : COut w w3 a S K X r X' L (.returned (.int .i64 2)) := by
 have hm := M.m
 have hcc := M.c
 have h3 := h.hc.m
 have h4 := h.hc.c
 refine ⟨_, hp, hc, M.la, M.comes, M.n, .inr (.inr ⟨.inl rfl, ?_⟩)⟩
 rcases M.own with ⟨e, _⟩ | ⟨e, _⟩ | ⟨_, co, v⟩
 . omega
 . omega
 . refine ⟨co, ?_⟩
   have rg := rgs_more h.hc.rgs (s' := R.2.2) fun q hq => .inl (M.rgs q hq)
   rcases v with v | v
   . exact .inl ⟨M.lg, v, h.hc.ok, h.hc.snd, M.r2.trans h.hc.rt, h.hc.rlt, rg, by dsimp only; omega, by dsimp only; omega, by omega⟩
   . exact .inr ⟨M.lg, v, hok, hs, M.r2.trans h.hc.rt, h.hc.rlt, rg, by dsimp only; omega, by dsimp only; omega, by omega⟩
theorem cout_worn {w w3 : World} {a : Ha} {S : Hs} {K : Nat} {X : List Int} {r : Nat} {X' L : List Int} {R : Int × Nat × Nv} (h : HI a S K X r) (hK : K < 1000) (M : CMid a S K X r X' L R)
 (hp : Hp w3 a { S with s := R.2.2, p := R.2.1 }) (hc : Chg a.D w w3) (h3 : R.1 = 3) : COut w (w3.setCell ⟨a.z, 8, none⟩ (.bool true)) a S K X r X' L (.returned (.int .i64 3)) := by
 have hm := M.m
 have hcc := M.c
 have hpp := M.p
 have h5 := h.hc.m
 have h4 := h.hc.c
 have h6 := h.p
 obtain ⟨g1, g2⟩ := hp.wear
 refine ⟨_, g1, hc.trans (g2.mono fun x hx => by rw [List.mem_singleton.1 hx]; simp [Ha.D]), M.la, M.comes, M.n, .inr (.inl ⟨rfl, ?_⟩)⟩
 rcases M.own with ⟨e, _⟩ | ⟨_, d, v, nf⟩ | ⟨e, _⟩
 . omega
 . have rg := rgs_more h.hc.rgs (s' := R.2.2) fun q hq => .inl (M.rgs q hq)
   refine ⟨⟨⟨M.lg, v, h.hc.ok, h.hc.snd, M.r2.trans h.hc.rt, h.hc.rlt, rg, by dsimp only; omega, by dsimp only; omega, by omega⟩, d, h.num, h.ct, h.cn, h.cb, fun q (hq : q < S.ct.n) => ?_, fun q (hq : q < S.ct.n) => (by have := h.cm q hq; omega : S.ct.c q <= 14 * (K + 1)), by dsimp only; omega, fun _ => M.wl (.inl h3)⟩, rfl, rfl, nf⟩
   have := h.kp q hq
   have hq16 : q < 16 := by have := h.num.N; have := h.cn; omega
   exact (M.rgs q hq16).trans this
 . omega
theorem cout_note {w w3 w4 : World} {a : Ha} {S : Hs} {K : Nat} {X : List Int} {r : Nat} {X' L : List Int} {R : Int × Nat × Nv} {e : Ending} (h : HI a S K X r) (hK : K < 1000) (M : CMid a S K X r X' L R) (hok : WordsOk X') (hs : soundB X' r = true) (hL : LnOk a.N L)
 (hc : Chg a.D w w3) (h0 : R.1 = 0) (hN : NOut w3 w4 a { S with s := R.2.2, p := R.2.1 } L (16 + a.N) (14 * (K + 1)) e) :
 (e = .returned (.tuple #[]) /\ COut w w4 a S K X r X' L (.returned (.int .i64 0))) \/ (Dies e /\ COut w w4 a S K X r X' L e) := by
 obtain ⟨S', g1, g2, g3, g4⟩ := hN
 have hm := M.m
 have hcc := M.c
 have hpp := M.p
 have h5 := h.hc.m
 have h4 := h.hc.c
 have h6 := h.p
 have hl14 := hL.hi
 have hc3 := g3.c
 have htm := g3.tm
 have hp3 := g3.p
 dsimp only at hc3 htm hp3
 have hD : Chg a.D w w4 := hc.trans (g2.mono fun x hx => by simp at hx; rcases hx with rfl | rfl <;> simp [Ha.D])
 have rg : ∀ q, q < 16 -> ∃ v : Nat, S'.s.rg (19 + q) = (v : Int) /\ v <= 14 * (K + 1) := rgs_more h.hc.rgs fun q hq => by
  rcases g3.rgs q hq with e | e
  . exact .inl (e.trans (M.rgs q hq))
  . exact .inr e
 have hn' : S'.s.n = S.s.n := g3.lg.g.nn.trans h.hc.lg.g.nn.symm
 rcases M.own with ⟨_, d, v, fr⟩ | ⟨e3, _⟩ | ⟨e2, _⟩
 . have hHC : HC S'.s a.N a.P (K + 1) X' r := ⟨g3.lg, v.same fun b _ _ => g3.vw b, hok, hs, g3.r2.trans (M.r2.trans h.hc.rt), h.hc.rlt, rg, by omega, by omega, by omega⟩
   rcases g4 with ⟨rfl, d', c', k'⟩ | ⟨hd, co⟩
   . refine .inl ⟨rfl, S', g1, hD, g3.la.trans M.la, g3.comes.trans M.comes, hn', .inl ⟨rfl, ⟨hHC, d', h.num, ?_, ?_, ?_, k', fun q hq => ?_, by omega, fun q => ?_⟩, c', g3.wf, fun F => ?_⟩⟩
     . rw [c']; exact nts_ok _ h.ct fun q hq => by rw [h.cn]; exact pgs_lt hL q hq
     . rw [c', nts_n]; exact h.cn
     . rw [c', nts_b]; exact h.cb
     . rw [c', nts_n] at hq
       have := h.cm q hq
       have := nts_le (pgs L) S.ct q
       rw [pgs_length] at this
       rw [c']
       dsimp only
       omega
     . rw [show S'.s.tb a.P = R.2.2.tb a.P from g3.tb]
       rcases q with q | q
       . exact M.wl (.inr (.inr (h.wl (.inl (g3.wf.symm.trans q)))))
       . exact M.wl (.inr (.inl ⟨h0, fun k => q (g3.lk.trans k)⟩))
     . obtain ⟨F1, F2⟩ := fr F
       refine ⟨F1.of ⟨d', g3.comes.trans F1.calm.2⟩ g3.la (hn'.trans M.n.symm), g3.lk.trans F2⟩
   . exact .inr ⟨hd, S', g1, hD, g3.la.trans M.la, g3.comes.trans M.comes, hn', .inr (.inr ⟨.inr hd, M.comes ▸ co, .inr hHC⟩)⟩
 . omega
 . omega
theorem own_chg_h {B : Nat} {D : List Nat} {w w' : World} {v : Value} {l : List Int} (h : OwnI B w v l) (hc : Chg D w w') (hD : ∀ k ∈ D, k < B) : OwnI B w' v l := by
 refine ⟨h.1, h.2.imp id ?_⟩
 rintro ⟨g, cap, cur, hv, h1, hg, r⟩
 exact ⟨g, cap, cur, hv, h1, (hc.block g (Array.getElem?_eq_some_iff.1 hg).1 (fun hm => by have := hD g hm; omega)).trans hg, r⟩
theorem hcommit_is {w : World} {a : Ha} {S : Hs} {K : Nat} {X : List Int} {r : Nat} {E : List Ed} {v u : Value} (hp : Hp w a S) (h : HI a S K X r) (hK : K < 1000) (hk : lk S.s = 0) (hv : RU w v X) (hu : RA edE w u E) (hE : EdFit a.N E) (hEl : E.length <= 4000) (hok : WordsOk (appF X E)) (hs : soundB (appF X E) r = true) :
 Calls Tryz.prog 120 #[.pointer (some ⟨a.z, 0, none⟩), v, u] w fun e w' => COut w w' a S K X r (appF X E) (lnsF E) e := by
 have hL := hE.lines (lnsF_is E)
 have C1 := jz (lines_is E u w hu hEl)
 have HM := jz (cmid h hk hE)
 have HL := jz hL
 have HH := jz hp
 have HI' := jz h
 have HV := jz (fun (w' : World) (hb : Below w.heap.size w w') => ru_below hv hb)
 have HU := jz (fun (w' : World) (hb : Below w.heap.size w w') => ra_below hu hb)
 have HXl := jz h.len
 have HX' : Hid ((appF X E).length = 8 * a.N) := jz ((appF_length ..).trans h.len.1)
 have HOK := jz (And.intro hok hs)
 have HK := jz hK
 have HK0 := jz hk
 have HEl := jz hEl
 have HWd := jz (hL.wide HX'.out)
 have HMay := jz (hL.may (appF X E))
 obtain ⟨pv, cv, rfl, _⟩ := hv
 obtain ⟨pu, cu, rfl, _⟩ := ra_shape hu
 have C1' : Hid (Calls Tryz.prog 151 #[.slice pu E.length cu] w fun e w' => (∃ x, e = .returned x /\ OwnI w.heap.size w' x (lnsF E)) /\ Below w.heap.size w w') := C1
 clear hu hE hEl hok hs hK hk h hp hL C1
 generalize hX' : appF X E = X' at *
 generalize hLn : lnsF E = L at *
 generalize hR : lcom (16 + a.N) a.P a.per S.p (hms X' L) S.s = R at *
 go_enter Tryz.func120, Tryz.ntmps120
 go_wp2_with fail
 refine (C1'.out).mono ?_; rintro e W ⟨⟨lv, rfl, ol⟩, b1⟩
 have OL := jz ol
 have B1 := jz b1
 obtain ⟨ql, cl, rfl⟩ : ∃ q c, lv = .slice q L.length c := by
  obtain ⟨q, c, e, _⟩ := ol.ri
  exact ⟨q, c, e⟩
 clear ol b1
 have H1 := jz (HH.out.below B1.out)
 have hbd : Below W.heap.size W W.drew := (Below.refl _ _).drew
 have PA := jz (apply_is X E (.slice pv X.length cv) (.slice pu E.length cu) W.drew (ru_below (HV.out W B1.out) hbd) (ra_below (HU.out W B1.out) hbd) (by have := HXl.out; omega) HEl.out)
 rw [hX'] at PA
 have hzD : Hid (a.z ∉ [a.g, a.y]) := jz (by have := HH.out.hb.zz; simp; exact ⟨this.1, this.2.1⟩)
 have c6 : ∀ w', Chg [a.g, a.y] W w' -> w'.cell? ⟨a.z, 6, none⟩ = some (.pointer (some ⟨a.x, 0, none⟩)) := fun w' hc => by
  rw [Whole.at_ (hc.whole H1.out.hb.top hzD.out)]; rfl
 have HHm := jz (fun (w' : World) (hb : Below W.heap.size W w') (x : Value) (hx : RU w' x X') => hhomes_is (u := .slice ql L.length cl) (H1.out.hb.below hb) HI'.out.num hx HX'.out (ri_below OL.out.ri hb) HL.out)
 have HCm := jz (fun (w' : World) (hb : Below W.heap.size W w') (x : Value) (hx : ∀ w2, Chg [a.g, a.y] w' w2 -> RA homeE w2 x (hms X' L)) => cmt_is hR (H1.out.hb.lg.below hb) HI'.out.hc.lg HI'.out.live HI'.out.room HK0.out hx HMay.out)
 have HGY : Hid (a.g < W.heap.size /\ a.y < W.heap.size) := jz ⟨H1.out.hb.lg.nm.lt, Whole.lt H1.out.hb.lg.tq⟩
 go_wp2
 go_region_held3 (fun w' => Chg [a.g, a.y] W w')
  (first | assumption | exact (Chg.refl _ _).drew)
  (first
    | (go_at_call 145; refine (PA.out).mono ?_; rintro e wz ⟨⟨xv, rfl, ox⟩, hbz⟩
       have OX := jz ox
       obtain ⟨qx, cx, rfl⟩ := ox.shape
       have BZ := jz (hbd.trans hbz)
       have CZ := jz (Chg.of_below (hbd.trans hbz) [a.g, a.y])
       clear hbz ox)
    | (go_at_call 153; refine (HHm.out _ BZ.out _ OX.out.ru).mono ?_; rintro e wy ⟨⟨hv, rfl, oh⟩, hby⟩
       obtain ⟨qh, ch, rfl, _⟩ := oh.shape
       have BY := jz (below_more BZ.out hby)
       have CY := jz (Chg.of_below (below_more BZ.out hby) [a.g, a.y])
       have OH : Hid (∀ w2, Chg [a.g, a.y] wy w2 -> RA homeE w2 (.slice qh (hms X' L).length ch) (hms X' L)) := jz (fun w2 hc => (oh.chg hc (fun g hg => (by have := (oh.lt g hg).1; have := HGY.out; have := BZ.out.size; simp; omega))).ra)
       clear hby oh)
    | (go_at_call 152; refine (HCm.out _ BY.out _ OH.out).mono ?_; rintro e wx ⟨rfl, hLx, hCx⟩
       have LX := jz hLx
       have CX := jz (CY.out.trans hCx)
       clear hLx hCx))
 have HP3 := jz (H1.out.com CX.out LX.out)
 have HCC : Hid (Chg a.D w wx) := jz ((Chg.of_below B1.out a.D).trans (CX.out.mono fun x hx => by simp at hx; rcases hx with rfl | rfl <;> simp [Ha.D]))
 have HOL : Hid (∀ w', Chg [a.g, a.kg] wx w' -> RI w' (.slice ql L.length cl) L) := jz fun w' hc => by
  have n1 := HH.out.hb.lg.nm.lt
  have n2 := Whole.lt HH.out.hb.lg.tq
  have n3 := HH.out.cq.ltg
  have o1 := own_chg_h OL.out CX.out fun k hk => by simp at hk; rcases hk with rfl | rfl <;> assumption
  exact (own_chg_h o1 hc fun k hk => by simp at hk; rcases hk with rfl | rfl <;> assumption).ri
 clear c6 PA HHm HCm HGY OL LX CX OH BY CY OX BZ CZ
 have H01 := jz HM.out.own
 rcases H01.out with ⟨h0, hd0, _⟩ | ⟨h3, _⟩ | ⟨h2, _⟩
 . have HN := jz (hnote_is (u := .slice ql L.length cl) (M := 14 * (K + 1)) HP3.out HI'.out.num.N.2 HOL.out HL.out HM.out.lg hd0 (by have := HM.out.c; have := HI'.out.hc.c; have := HI'.out.hc.K; dsimp only; omega) HI'.out.ct HI'.out.cn (fun q hq => by
    have hq16 : q < 16 := by have := HI'.out.num.N; have := HI'.out.cn; dsimp only at hq; omega
    exact (HM.out.rgs q hq16).trans (HI'.out.kp q hq)) (fun q hq => by have := HI'.out.cm q hq; dsimp only; omega) (by have := HK.out; omega))
   have HF := jz (fun w4 e hN => cout_note (w4 := w4) (e := e) HI'.out HK.out HM.out HOK.out.1 HOK.out.2 HL.out HCC.out h0 hN)
   rw [h0]
   clear HOL HP3 HM HI' HH HL h0 hd0 H1 HCC HWd HMay
   generalize a.z = z at *
   go_wp2_with fail
   refine (HN.out).mono ?_; rintro e w4 hN
   rcases HF.out w4 e hN with ⟨rfl, hO⟩ | ⟨⟨u, pv, rfl⟩, hO⟩
   . have HO := jz hO
     clear hO hN
     go_wp2_with fail
     go_ret
     exact HO.out
   . have HO := jz hO
     clear hO hN
     go_wp2
     exact ⟨rfl, HO.out⟩
 . have c8 := HP3.out.hb.c8
   have f8 := HP3.out.hb.free 8
   have HF := jz (cout_worn HI'.out HK.out HM.out HP3.out HCC.out h3)
   rw [h3]
   clear HOL HP3 HM HI' HH HL h3 H1 HCC HWd HMay
   generalize a.z = z at *
   go_wp2_with fail
   go_ret
   exact HF.out
 . have HF := jz (cout_down HI'.out HK.out HM.out HOK.out.1 HOK.out.2 HP3.out HCC.out h2)
   rw [h2]
   clear HOL HP3 HM HI' HH HL h2 H1 HCC HWd HMay
   generalize a.z = z at *
   go_wp2_with fail
   go_ret
   exact HF.out
structure Aim where
 e : Int
 off : Int
 data : List Int
 ch : Bool
 X : List Int
 r : Nat
 L : List Int
 hasL : Bool
def plNo (X : List Int) (r : Nat) (e : Int) : Aim := ⟨e, 0, [], false, X, r, [], false⟩
def plA (X : List Int) (r : Nat) (cs : List Int) (n : Int) : Aim :=
 if needN n = 0 then plNo X r 1
 else if (alR X n cs).2.2 = 0 then ⟨0, (alR X n cs).2.1, [], true, appF X (alR X n cs).1, r, lnsF (alR X n cs).1, true⟩
 else ⟨(alR X n cs).2.2, 0, [], true, X, r, [], false⟩
def plF (X : List Int) (r : Nat) (o : Int) : Aim :=
 if (frR X o).2 ≠ 0 then plNo X r (frR X o).2
 else if o = (r : Int) then plNo X r 5
 else ⟨0, 0, [], true, appF X (frR X o).1, r, lnsF (frR X o).1, true⟩
def plW (X : List Int) (r : Nat) (o : Int) (bl : List Int) (M : List Ed) : Aim :=
 if refF X o bl.length ≠ 0 \/ bl = [] then plNo X r (refF X o bl.length)
 else ⟨0, 0, [], true, appF X M, r, lnsF M, true⟩
def plR (X : List Int) (r : Nat) (o : Int) : Aim :=
 if rootB X o = true then ⟨0, 0, [], true, X, o.toNat, [], false⟩ else plNo X r 1
def plD (X : List Int) (r : Nat) (o n : Int) : Aim := ⟨refF X o n, 0, rdR X o n, false, X, r, [], false⟩
def plG (X : List Int) (r : Nat) : Aim := ⟨0, (r : Int), [], false, X, r, [], false⟩
def PlanOf (X : List Int) (r : Nat) (cs : List Int) (d o n : Int) (bl : List Int) (pl : Aim) : Prop :=
 if d = 1 then pl = plA X r cs n
 else if d = 2 then pl = plF X r o
 else if d = 3 then pl = plD X r o n
 else if d = 4 then ∃ M, WrT X bl o M /\ pl = plW X r o bl M
 else if d = 5 then pl = plR X r o
 else if d = 6 then pl = plG X r
 else pl = plNo X r 1
theorem rootB_iff {X : List Int} {l : List Bk} (hB : blkF X = some l) (r : Int) : rootB X r = true ↔ r = 0 \/ ∃ j, isN r l = some j := by
 unfold rootB isB
 rw [hB]
 simp [Option.isSome_iff_exists]
theorem sound_some {X : List Int} {r : Int} (h : soundB X r = true) : ∃ l, blkF X = some l /\ (r = 0 \/ ∃ j, isN r l = some j) := by
 unfold soundB at h
 rw [Bool.and_eq_true] at h
 obtain ⟨l, hl⟩ := Option.isSome_iff_exists.1 h.1
 exact ⟨l, hl, (rootB_iff hl r).1 h.2⟩
theorem sound_of {X : List Int} {r : Int} {l : List Bk} (hB : blkF X = some l) (h : r = 0 \/ ∃ j, isN r l = some j) : soundB X r = true := by
 unfold soundB
 rw [hB, (rootB_iff hB r).2 h]
 rfl
theorem isN_of {n : Int} {l : List Bk} (h : mayL n l = true) {b : Bk} (hb : b ∈ l) (hu : b.u = true) : ∃ j, isN (offB b.a) l = some j := by
 obtain ⟨k, hk, _⟩ := used_at h hb hu
 exact ⟨k, hk⟩
structure GoodE (N : Nat) (X : List Int) (r : Nat) (E : List Ed) : Prop where
 fit : EdFit N E
 len : E.length <= 4000
 ok : WordsOk (appF X E)
 snd : soundB (appF X E) r = true
theorem alR_good {X : List Int} {r N : Nat} {n : Int} {cs : List Int} (hl : X.length = 8 * N) (hs : soundB X r = true) (hok : WordsOk X) (hn : needN n ≠ 0) (h0 : (alR X n cs).2.2 = 0) : GoodE N X r (alR X n cs).1 /\ ∃ l d, blkF X = some l /\ chN (needN n) cs l = some d /\ alR X n cs = (cedF l d (needN n), offB (atL l d), 0) /\ canC l d (needN n) = true := by
 obtain ⟨l, hB, hr⟩ := sound_some hs
 have hm := blkF_some hB
 rw [hl] at hm
 obtain ⟨n2, n57⟩ := need_two hn
 cases hc : chN (needN n) cs l with
 | none => rw [alR_none hB hn hc] at h0; cases h0
 | some d =>
   have ha := alR_some hB hn hc
   rw [ha]
   obtain ⟨_, hcan, _⟩ := chN_can hm hc n2
   obtain ⟨t1, _, _, _, _, _, _, _, T⟩ := taken hB hok hcan
   refine ⟨⟨ced_fit hm hcan n57, by have := ced_len hm hcan; dsimp only; omega, T.ok, sound_of t1 ?_⟩, l, d, hB, hc, rfl, hcan⟩
   rcases hr with h | ⟨j, hj⟩
   . exact .inl h
   . obtain ⟨j1, j2, j3⟩ := isN_some hj
     have := isN_of (mayL_crv hm hcan) (crv_keeps hcan (getD_mem j1) j2) j2
     rw [j3] at this
     exact .inr this
theorem frR_good {X : List Int} {r N : Nat} {o : Int} (hl : X.length = 8 * N) (hs : soundB X r = true) (hok : WordsOk X) (h0 : (frR X o).2 = 0) (hne : o ≠ (r : Int)) : GoodE N X r (frR X o).1 /\ ∃ l k, blkF X = some l /\ isN o l = some k /\ frR X o = ([medF l k], 0) := by
 obtain ⟨l, hB, hr⟩ := sound_some hs
 have hm := blkF_some hB
 rw [hl] at hm
 cases hi : isN o l with
 | none => rw [frR_none hB hi] at h0; cases h0
 | some k =>
   have ha := frR_some hB hi
   rw [ha]
   have hcan := isN_can hB hi
   obtain ⟨g1, _, g3, _⟩ := given hB hok hcan
   refine ⟨⟨med_fit hm hcan, by simp, g3, sound_of g1 ?_⟩, l, k, hB, hi, rfl⟩
   rcases hr with h | ⟨j, hj⟩
   . exact .inl h
   . obtain ⟨j1, j2, j3⟩ := isN_some hj
     obtain ⟨i1, i2, i3⟩ := isN_some hi
     have := isN_of (mayL_mrg hm hcan) (mrg_keeps hcan (getD_mem j1) j2 fun e => hne (by rw [<- i3, <- j3, e])) j2
     rw [j3] at this
     exact .inr this
theorem wr_good {X : List Int} {r N : Nat} {o : Int} {bl : List Int} {M : List Ed} (hl : X.length = 8 * N) (hs : soundB X r = true) (hok : WordsOk X) (hM : WrT X bl o M) (h0 : refF X o bl.length = 0) (hne : bl ≠ []) : GoodE N X r M /\ ∃ l, blkF X = some l /\ blkF (appF X M) = some l := by
 obtain ⟨l, hB, hr⟩ := sound_some hs
 obtain ⟨b, hb, f, hu, hf, hf2, hE, a0, a1, h448⟩ := wr_isE hB hM h0
 obtain ⟨w1, w2, _⟩ := wrote hB hok hb hE hf2
 have hpos : 0 < bl.length := List.length_pos_iff.2 hne
 have hm := blkF_some hB
 obtain ⟨⟨s1, _⟩, s2, s3⟩ := mayF_sizes (mayL_yes.1 hm).2 b hb
 exact ⟨⟨isE_fit hE hpos h448 (by omega), wrT_len_h hM, w2, sound_of w1 hr⟩, l, hB, w1⟩
def POut (w w' : World) (a : Ha) (S : Hs) (K : Nat) (X : List Int) (r : Nat) (pl : Aim) (nr : Prop) (t : Option Int) : Prop :=
 ∃ S', Hp w' a S' /\ Chg a.D w w' /\ S'.s.la = S.s.la /\ S'.s.comes = S.s.comes /\ S'.s.n = S.s.n ∧
  ((t = some 3 /\ pl.ch = true /\ S.worn = true /\ S' = S) ∨
   (t = some pl.e /\ (pl.ch = true -> pl.e ≠ 0 /\ S.worn = false) /\ S' = S) ∨
   (t = some 0 /\ pl.ch = true /\ pl.e = 0 /\ S.worn = false /\ HI a S' (K + 1) pl.X pl.r /\ S'.ct = nts S.ct (pgs pl.L) /\ S'.wf = S.wf /\ (Free S.s -> Free S'.s /\ lk S'.s = 0)) ∨
   (t = some 3 /\ pl.ch = true /\ pl.e = 0 /\ S.worn = false /\ nr /\ HI a S' (K + 1) X r /\ S'.ct = S.ct /\ S'.wf = true /\ ¬ Free S.s) ∨
   ((t = some 2 \/ t = none) /\ pl.ch = true /\ pl.e = 0 /\ S.worn = false /\ S.s.comes = true /\ (HC S'.s a.N a.P (K + 1) X r \/ HC S'.s a.N a.P (K + 1) pl.X pl.r)))
def EndI (e : Ending) : Option Int -> Prop
 | some x => e = .returned (.int .i64 x)
 | none => Dies e
theorem pout_same {w w' : World} {a : Ha} {S : Hs} {K : Nat} {X : List Int} {r : Nat} {pl : Aim} {nr : Prop} (hp : Hp w a S) (hb : Below w.heap.size w w') (hc : pl.ch = true -> pl.e ≠ 0 /\ S.worn = false) : POut w w' a S K X r pl nr (some pl.e) :=
 ⟨S, hp.below hb, Chg.of_below hb _, rfl, rfl, rfl, .inr (.inl ⟨rfl, hc, rfl⟩)⟩
theorem pout_worn {w w' : World} {a : Ha} {S : Hs} {K : Nat} {X : List Int} {r : Nat} {pl : Aim} {nr : Prop} (hp : Hp w a S) (hb : Below w.heap.size w w') (hc : pl.ch = true) (hw : S.worn = true) : POut w w' a S K X r pl nr (some 3) :=
 ⟨S, hp.below hb, Chg.of_below hb _, rfl, rfl, rfl, .inl ⟨rfl, hc, hw, rfl⟩⟩
theorem cout_cases {w w3 w' : World} {a : Ha} {S : Hs} {K : Nat} {X : List Int} {r : Nat} {X' L : List Int} {e : Ending} {pl : Aim} (hb : Below w.heap.size w w3) (h : COut w3 w' a S K X r X' L e) (hw : S.worn = false) (h1 : pl.ch = true) (h2 : pl.e = 0) (h3 : pl.X = X') (h4 : pl.r = r) (h5 : pl.L = L) :
 (e = .returned (.int .i64 0) /\ POut w w' a S K X r pl True (some 0)) \/ (e = .returned (.int .i64 3) /\ POut w w' a S K X r pl True (some 3)) \/ (e = .returned (.int .i64 2) /\ POut w w' a S K X r pl True (some 2)) \/ (Dies e /\ POut w w' a S K X r pl True none) := by
 obtain ⟨S', g1, g2, g3, g4, g5, h⟩ := h
 have hD := (Chg.of_below hb a.D).trans g2
 subst h3 h4 h5
 rcases h with ⟨rfl, q1, q2, q3, q4⟩ | ⟨rfl, q1, q2, q3, q4⟩ | ⟨rfl | hd, q1, q2⟩
 . exact .inl ⟨rfl, S', g1, hD, g3, g4, g5, .inr (.inr (.inl ⟨rfl, h1, h2, hw, q1, q2, q3, q4⟩))⟩
 . exact .inr (.inl ⟨rfl, S', g1, hD, g3, g4, g5, .inr (.inr (.inr (.inl ⟨rfl, h1, h2, hw, trivial, q1, q2, q3, q4⟩)))⟩)
 . exact .inr (.inr (.inl ⟨rfl, S', g1, hD, g3, g4, g5, .inr (.inr (.inr (.inr ⟨.inl rfl, h1, h2, hw, q1, q2⟩)))⟩))
 . exact .inr (.inr (.inr ⟨hd, S', g1, hD, g3, g4, g5, .inr (.inr (.inr (.inr ⟨.inr rfl, h1, h2, hw, q1, q2⟩)))⟩))
theorem worn_no {S : Hs} (h : S.worn = false) : S.wf = false /\ lk S.s = 0 := by
 unfold Hs.worn at h
 simpa using h
def EndA (e : Ending) (off : Int) : Option Int -> Prop
 | some x => e = .returned (.tuple #[.int .i64 (if x = 0 then off else 0), .int .i64 x])
 | none => Dies e
theorem halloc_is {w : World} {a : Ha} {S : Hs} {K : Nat} {X : List Int} {r : Nat} (n : Int) (hp : Hp w a S) (h : HI a S K X r) (hK : K < 1000) :
 Calls Tryz.prog 76 #[.pointer (some ⟨a.z, 0, none⟩), .int .i64 n] w fun e w' => ∃ t, EndA e (plA X r S.ct.ints n).off t /\ POut w w' a S K X r (plA X r S.ct.ints n) True t := by
 have C1 := jz (hwords_is hp.hb h.num h.hc.lg h.live h.hc.has)
 have C2 := jz (fun w => need_is n w)
 have C3 := jz (fun w' (hb : Below w.heap.size w w') => hworn_is (hp.below hb) h.live h.hc.lg.r1)
 have C4 := jz (fun w' (hb : Below w.heap.size w w') => hcnt_is (hp.below hb) (by have := h.cn; have := h.num.N; omega))
 have hX := h.len
 have C5 := jz (fun w' v u (hv : RU w' v X) (hu : RI w' u S.ct.ints) => al_is X n S.ct.ints v u w' hv (by omega) h.hc.ok hu)
 have HH := jz (And.intro hp h)
 have HK := jz hK
 obtain ⟨N, hN⟩ : ∃ N, needN n = N := ⟨_, rfl⟩
 obtain ⟨pl, hpl⟩ : ∃ pl, plA X r S.ct.ints n = pl := ⟨_, rfl⟩
 rw [hpl]
 by_cases h0 : needN n = 0
 . have e1 : pl = plNo X r 1 := by rw [<- hpl, plA, if_pos h0]
   have HF := jz (fun w' (hb : Below w.heap.size w w') => (show ∃ t, EndA (.returned (.tuple #[.int .i64 0, .int .i64 1])) pl.off t /\ POut w w' a S K X r pl True t from ⟨some pl.e, by rw [e1]; rfl, pout_same HH.out.1 hb (by rw [e1]; intro q; cases q)⟩))
   rw [h0] at C2
   clear hp h hX hK hN hpl e1 h0 C3 C4 C5
   generalize a.z = z at *
   go_enter Tryz.func76, Tryz.ntmps76
   go_wp2_with fail
   refine (C1.out).mono ?_; rintro e w1 ⟨⟨v, rfl, o1⟩, b1⟩
   have D1 := jz b1
   obtain ⟨q, c, rfl⟩ := o1.shape
   clear o1 b1
   go_wp2_with fail
   refine (C2.out _).mono ?_; rintro e w2 ⟨rfl, rfl⟩
   go_wp2_with fail
   go_ret2
   exact HF.out _ D1.out
 have i0 : (N == 0) = false := beq_eq_false_iff_ne.2 (hN ▸ h0)
 rw [hN] at C2
 obtain ⟨b, hb⟩ : ∃ b, S.worn = b := ⟨_, rfl⟩
 rw [hb] at C3
 cases b with
 | true =>
   have e1 : pl.ch = true := by
    rw [<- hpl, plA, if_neg h0]
    split <;> rfl
   have HF := jz (fun w' (hb' : Below w.heap.size w w') => (show ∃ t, EndA (.returned (.tuple #[.int .i64 0, .int .i64 3])) pl.off t /\ POut w w' a S K X r pl True t from ⟨some 3, rfl, pout_worn HH.out.1 hb' e1 hb⟩))
   clear hp h hX hK hpl e1 h0 C4 C5 hb hN
   generalize a.z = z at *
   go_enter Tryz.func76, Tryz.ntmps76
   go_wp2_with fail
   refine (C1.out).mono ?_; rintro e w1 ⟨⟨v, rfl, o1⟩, b1⟩
   have D1 := jz b1
   obtain ⟨q, c, rfl⟩ := o1.shape
   clear o1 b1
   go_wp2_with fail
   refine (C2.out _).mono ?_; rintro e w2 ⟨rfl, rfl⟩
   go_wp2_with fail
   refine (C3.out _ D1.out).mono ?_; rintro e w2 ⟨rfl, rfl⟩
   go_wp2_with fail
   go_ret2
   exact HF.out _ D1.out
 | false =>
 obtain ⟨E, off, er, hA⟩ : ∃ E off er, alR X n S.ct.ints = (E, off, er) := ⟨_, _, _, rfl⟩
 rw [hA] at C5
 dsimp only at C5
 by_cases h4 : er = 0
 . subst h4
   obtain ⟨hg, _⟩ := alR_good hX.1 h.hc.snd h.hc.ok h0 (by rw [hA] : (alR X n S.ct.ints).2.2 = 0)
   rw [hA] at hg
   have e1 : pl = ⟨0, off, [], true, appF X E, r, lnsF E, true⟩ := by rw [<- hpl, plA, if_neg h0, hA, if_pos rfl]
   have C6 := jz (fun w' (hb' : Below w.heap.size w w') v u (hv : RU w' v X) (hu : RA edE w' u E) => hcommit_is (HH.out.1.below hb') HH.out.2 HK.out (worn_no hb).2 hv hu hg.fit hg.len hg.ok hg.snd)
   have HF := jz (fun w3 w' e (hb3 : Below w.heap.size w w3) (hc : COut w3 w' a S K X r (appF X E) (lnsF E) e) => cout_cases (pl := pl) hb3 hc hb (by rw [e1]) (by rw [e1]) (by rw [e1]) (by rw [e1]) (by rw [e1]))
   have ho : pl.off = off := by rw [e1]
   clear hp h hX hK hpl e1 h0 hb hN hA hg
   generalize a.z = z at *
   generalize S.ct.ints = cs at *
   go_enter Tryz.func76, Tryz.ntmps76
   go_wp2_with fail
   refine (C1.out).mono ?_; rintro e w1 ⟨⟨v, rfl, o1⟩, b1⟩
   have D1 := jz b1
   have O1 := jz o1
   obtain ⟨q, c, rfl⟩ := o1.shape
   clear o1 b1
   go_wp2_with fail
   refine (C2.out _).mono ?_; rintro e w2 ⟨rfl, rfl⟩
   go_wp2_with fail
   refine (C3.out _ D1.out).mono ?_; rintro e w2 ⟨rfl, rfl⟩
   go_wp2_with fail
   refine (C4.out _ D1.out).mono ?_; rintro e w2 ⟨⟨u, rfl, o2⟩, b2⟩
   have D2 := jz (below_more D1.out b2)
   have O2 := jz (O1.out.below b2)
   have U2 := jz o2.ri
   obtain ⟨q2, c2, rfl, _⟩ := o2.ri
   clear o2 b2
   go_wp2_with fail
   refine (C5.out _ _ _ O2.out.ru U2.out).mono ?_; rintro e w3 ⟨⟨x, rfl, o3⟩, b3⟩
   have D3 := jz (below_more D2.out b3)
   have O3 := jz (O2.out.below b3)
   have E3 := jz o3.ra
   obtain ⟨q3, c3, rfl, _⟩ := o3.shape
   clear o3 b3
   go_wp2_with fail
   refine (C6.out _ D3.out _ _ O3.out.ru E3.out).mono ?_; rintro e w4 hc
   rcases HF.out _ _ _ D3.out hc with ⟨rfl, g⟩ | ⟨rfl, g⟩ | ⟨rfl, g⟩ | ⟨⟨u, pv, rfl⟩, g⟩
   . have G := jz g
     clear g hc
     go_wp2_with fail
     go_ret2
     exact ⟨some 0, by rw [ho]; rfl, G.out⟩
   . have G := jz g
     clear g hc
     go_wp2_with fail
     go_ret2
     exact ⟨some 3, rfl, G.out⟩
   . have G := jz g
     clear g hc
     go_wp2_with fail
     go_ret2
     exact ⟨some 2, rfl, G.out⟩
   . have G := jz g
     clear g hc
     go_wp2
     exact ⟨rfl, none, ⟨_, _, rfl⟩, G.out⟩
 . have e1 : pl = ⟨er, 0, [], true, X, r, [], false⟩ := by rw [<- hpl, plA, if_neg h0, hA, if_neg h4]
   have i4 : (er == 0) = false := beq_eq_false_iff_ne.2 h4
   have i5 : (er != 0) = true := by simpa using h4
   have HF := jz (fun w' (hb' : Below w.heap.size w w') => (show ∃ t, EndA (.returned (.tuple #[.int .i64 0, .int .i64 er])) pl.off t /\ POut w w' a S K X r pl True t from ⟨some pl.e, by
    rw [e1]
    show _ = Ending.returned _
    rw [if_neg h4], pout_same HH.out.1 hb' (by rw [e1]; intro _; exact ⟨h4, hb⟩)⟩))
   clear hp h hX hK hpl e1 h0 hb hN hA
   generalize a.z = z at *
   generalize S.ct.ints = cs at *
   go_enter Tryz.func76, Tryz.ntmps76
   go_wp2_with fail
   refine (C1.out).mono ?_; rintro e w1 ⟨⟨v, rfl, o1⟩, b1⟩
   have D1 := jz b1
   have O1 := jz o1
   obtain ⟨q, c, rfl⟩ := o1.shape
   clear o1 b1
   go_wp2_with fail
   refine (C2.out _).mono ?_; rintro e w2 ⟨rfl, rfl⟩
   go_wp2_with fail
   refine (C3.out _ D1.out).mono ?_; rintro e w2 ⟨rfl, rfl⟩
   go_wp2_with fail
   refine (C4.out _ D1.out).mono ?_; rintro e w2 ⟨⟨u, rfl, o2⟩, b2⟩
   have D2 := jz (below_more D1.out b2)
   have O2 := jz (O1.out.below b2)
   have U2 := jz o2.ri
   obtain ⟨q2, c2, rfl, _⟩ := o2.ri
   clear o2 b2
   go_wp2_with fail
   refine (C5.out _ _ _ O2.out.ru U2.out).mono ?_; rintro e w3 ⟨⟨x, rfl, o3⟩, b3⟩
   have D3 := jz (below_more D2.out b3)
   obtain ⟨q3, c3, rfl, _⟩ := o3.shape
   clear o3 b3
   go_wp2_with fail
   go_ret2
   exact HF.out _ D3.out
theorem cout_end {w w3 w' : World} {a : Ha} {S : Hs} {K : Nat} {X : List Int} {r : Nat} {X' L : List Int} {e : Ending} {pl : Aim} (hb : Below w.heap.size w w3) (h : COut w3 w' a S K X r X' L e) (hw : S.worn = false) (h1 : pl.ch = true) (h2 : pl.e = 0) (h3 : pl.X = X') (h4 : pl.r = r) (h5 : pl.L = L) :
 (∃ x, e = .returned (.int .i64 x) /\ POut w w' a S K X r pl True (some x)) \/ (Dies e /\ POut w w' a S K X r pl True none) := by
 rcases cout_cases hb h hw h1 h2 h3 h4 h5 with ⟨e1, g⟩ | ⟨e1, g⟩ | ⟨e1, g⟩ | g
 . exact .inl ⟨_, e1, g⟩
 . exact .inl ⟨_, e1, g⟩
 . exact .inl ⟨_, e1, g⟩
 . exact .inr g
theorem pout_ret {w w' : World} {a : Ha} {S : Hs} {K : Nat} {X : List Int} {r : Nat} {pl : Aim} {nr : Prop} {x : Int} (h : POut w w' a S K X r pl nr (some x)) : ∃ t, EndI (.returned (.int .i64 x)) t /\ POut w w' a S K X r pl nr t := ⟨some x, rfl, h⟩
theorem hfree_is {w : World} {a : Ha} {S : Hs} {K : Nat} {X : List Int} {r : Nat} (o : Int) (hp : Hp w a S) (h : HI a S K X r) (hK : K < 1000) :
 Calls Tryz.prog 77 #[.pointer (some ⟨a.z, 0, none⟩), .int .i64 o] w fun e w' => ∃ t, EndI e t /\ POut w w' a S K X r (plF X r o) True t := by
 have C1 := jz (hwords_is hp.hb h.num h.hc.lg h.live h.hc.has)
 have C3 := jz (fun w' (hb : Below w.heap.size w w') => hworn_is (hp.below hb) h.live h.hc.lg.r1)
 have C4 := jz (fun w' (hb : Below w.heap.size w w') => hreg_is (k := 2) (hp.below hb).hb h.live (by decide) h.hc.rt (by have := h.hc.rlt; omega))
 have hX := h.len
 have C5 := jz (fun w' v (hv : RU w' v X) => fr_is X o v w' hv (by omega) h.hc.ok)
 have HH := jz (And.intro hp h)
 have HK := jz hK
 obtain ⟨pl, hpl⟩ : ∃ pl, plF X r o = pl := ⟨_, rfl⟩
 rw [hpl]
 obtain ⟨E, er, hA⟩ : ∃ E er, frR X o = (E, er) := ⟨_, _, rfl⟩
 rw [hA] at C5
 dsimp only at C5
 by_cases h4 : er = 0
 . subst h4
   by_cases hr : o = (r : Int)
   . have e1 : pl = plNo X r 5 := by rw [<- hpl, plF, hA, if_neg (by simp), if_pos hr]
     have HF := jz (fun w' (hb' : Below w.heap.size w w') => pout_ret (show POut w w' a S K X r pl True (some 5) from by
      have := pout_same (pl := pl) (nr := True) (K := K) (X := X) (r := r) HH.out.1 hb' (by rw [e1]; intro q; cases q)
      rwa [e1] at this ⊢))
     subst hr
     clear hp h hX hK hpl e1 hA C3
     generalize a.z = z at *
     go_enter Tryz.func77, Tryz.ntmps77
     go_wp2_with fail
     refine (C1.out).mono ?_; rintro e w1 ⟨⟨v, rfl, o1⟩, b1⟩
     have D1 := jz b1
     have O1 := jz o1
     obtain ⟨q, c, rfl⟩ := o1.shape
     clear o1 b1
     go_wp2_with fail
     refine (C5.out _ _ O1.out.ru).mono ?_; rintro e w3 ⟨⟨x, rfl, o3⟩, b3⟩
     have D3 := jz (below_more D1.out b3)
     obtain ⟨q3, c3, rfl, _⟩ := o3.shape
     clear o3 b3
     go_wp2_with fail
     refine (C4.out _ D3.out).mono ?_; rintro e w2 ⟨rfl, rfl⟩
     go_wp2_with fail
     go_ret
     exact HF.out _ D3.out
   have i0 : (o == (r : Int)) = false := beq_eq_false_iff_ne.2 hr
   obtain ⟨b, hb⟩ : ∃ b, S.worn = b := ⟨_, rfl⟩
   rw [hb] at C3
   obtain ⟨hg, _⟩ := frR_good hX.1 h.hc.snd h.hc.ok (by rw [hA] : (frR X o).2 = 0) hr
   rw [hA] at hg
   have e1 : pl = ⟨0, 0, [], true, appF X E, r, lnsF E, true⟩ := by rw [<- hpl, plF, hA, if_neg (by simp), if_neg hr]
   cases b with
   | true =>
     have HF := jz (fun w' (hb' : Below w.heap.size w w') => pout_ret (show POut w w' a S K X r pl True (some 3) from pout_worn HH.out.1 hb' (by rw [e1]) hb))
     clear hp h hX hK hpl e1 hA hb hg hr
     generalize a.z = z at *
     generalize (r : Int) = ri at *
     go_enter Tryz.func77, Tryz.ntmps77
     go_wp2_with fail
     refine (C1.out).mono ?_; rintro e w1 ⟨⟨v, rfl, o1⟩, b1⟩
     have D1 := jz b1
     have O1 := jz o1
     obtain ⟨q, c, rfl⟩ := o1.shape
     clear o1 b1
     go_wp2_with fail
     refine (C5.out _ _ O1.out.ru).mono ?_; rintro e w3 ⟨⟨x, rfl, o3⟩, b3⟩
     have D3 := jz (below_more D1.out b3)
     obtain ⟨q3, c3, rfl, _⟩ := o3.shape
     clear o3 b3
     go_wp2_with fail
     refine (C4.out _ D3.out).mono ?_; rintro e w2 ⟨rfl, rfl⟩
     go_wp2_with fail
     refine (C3.out _ D3.out).mono ?_; rintro e w2 ⟨rfl, rfl⟩
     go_wp2_with fail
     go_ret
     exact HF.out _ D3.out
   | false =>
     have C6 := jz (fun w' (hb' : Below w.heap.size w w') v u (hv : RU w' v X) (hu : RA edE w' u E) => hcommit_is (HH.out.1.below hb') HH.out.2 HK.out (worn_no hb).2 hv hu hg.fit hg.len hg.ok hg.snd)
     have HF := jz (fun w3 w' e (hb3 : Below w.heap.size w w3) (hc : COut w3 w' a S K X r (appF X E) (lnsF E) e) => cout_end (pl := pl) hb3 hc hb (by rw [e1]) (by rw [e1]) (by rw [e1]) (by rw [e1]) (by rw [e1]))
     clear hp h hX hK hpl e1 hA hb hg hr
     generalize a.z = z at *
     generalize (r : Int) = ri at *
     go_enter Tryz.func77, Tryz.ntmps77
     go_wp2_with fail
     refine (C1.out).mono ?_; rintro e w1 ⟨⟨v, rfl, o1⟩, b1⟩
     have D1 := jz b1
     have O1 := jz o1
     obtain ⟨q, c, rfl⟩ := o1.shape
     clear o1 b1
     go_wp2_with fail
     refine (C5.out _ _ O1.out.ru).mono ?_; rintro e w3 ⟨⟨x, rfl, o3⟩, b3⟩
     have D3 := jz (below_more D1.out b3)
     have O3 := jz (O1.out.below b3)
     have E3 := jz o3.ra
     obtain ⟨q3, c3, rfl, _⟩ := o3.shape
     clear o3 b3
     go_wp2_with fail
     refine (C4.out _ D3.out).mono ?_; rintro e w2 ⟨rfl, rfl⟩
     go_wp2_with fail
     refine (C3.out _ D3.out).mono ?_; rintro e w2 ⟨rfl, rfl⟩
     go_wp2_with fail
     refine (C6.out _ D3.out _ _ O3.out.ru E3.out).mono ?_; rintro e w4 hc
     rcases HF.out _ _ _ D3.out hc with ⟨x, rfl, g⟩ | ⟨⟨u, pv, rfl⟩, g⟩
     . have G := jz g
       clear g hc
       go_wp2_with fail
       go_ret
       exact pout_ret G.out
     . have G := jz g
       clear g hc
       go_wp2
       exact ⟨rfl, none, ⟨_, _, rfl⟩, G.out⟩
 . have e1 : pl = plNo X r er := by rw [<- hpl, plF, hA, if_pos h4]
   have i4 : (er == 0) = false := beq_eq_false_iff_ne.2 h4
   have i5 : (er != 0) = true := by simpa using h4
   have HF := jz (fun w' (hb' : Below w.heap.size w w') => pout_ret (show POut w w' a S K X r pl True (some er) from by
    have := pout_same (pl := pl) (nr := True) (K := K) (X := X) (r := r) HH.out.1 hb' (by rw [e1]; intro q; cases q)
    rwa [e1] at this ⊢))
   clear hp h hX hK hpl e1 hA C3 C4
   generalize a.z = z at *
   go_enter Tryz.func77, Tryz.ntmps77
   go_wp2_with fail
   refine (C1.out).mono ?_; rintro e w1 ⟨⟨v, rfl, o1⟩, b1⟩
   have D1 := jz b1
   have O1 := jz o1
   obtain ⟨q, c, rfl⟩ := o1.shape
   clear o1 b1
   go_wp2_with fail
   refine (C5.out _ _ O1.out.ru).mono ?_; rintro e w3 ⟨⟨x, rfl, o3⟩, b3⟩
   have D3 := jz (below_more D1.out b3)
   obtain ⟨q3, c3, rfl, _⟩ := o3.shape
   clear o3 b3
   go_wp2_with fail
   go_ret
   exact HF.out _ D3.out
theorem hwrite_is {w : World} {a : Ha} {S : Hs} {K : Nat} {X : List Int} {r : Nat} (o : Int) {bl : List Int} {bv : Value} (hp : Hp w a S) (h : HI a S K X r) (hK : K < 1000) (hbv : RA byE w bv bl) (hbl : bl.length <= 100000) (ho : -9223372036854775808 <= o /\ o <= 9223372036854775807) :
 Calls Tryz.prog 79 #[.pointer (some ⟨a.z, 0, none⟩), .int .i64 o, bv] w fun e w' => ∃ M t, WrT X bl o M /\ EndI e t /\ POut w w' a S K X r (plW X r o bl M) True t := by
 have C1 := jz (hwords_is hp.hb h.num h.hc.lg h.live h.hc.has)
 have C3 := jz (fun w' (hb : Below w.heap.size w w') => hworn_is (hp.below hb) h.live h.hc.lg.r1)
 have hX := h.len
 have C5 := jz (fun w' v (hb : Below w.heap.size w w') (hv : RU w' v X) => wr_is X bl o v bv w' hv (ra_below hbv hb) (by omega) hbl h.hc.ok ho)
 have HH := jz (And.intro hp h)
 have HK := jz hK
 have HXl := jz hX
 obtain ⟨qb, cb, rfl, _⟩ := ra_shape hbv
 obtain ⟨er, hA⟩ : ∃ er, refF X o bl.length = er := ⟨_, rfl⟩
 rw [hA] at C5
 have HA := jz hA
 by_cases h4 : er ≠ 0 \/ bl = []
 . have HF := jz (fun w' M (hb' : Below w.heap.size w w') (hM : WrT X bl o M) => (show ∃ M t, WrT X bl o M /\ EndI (.returned (.int .i64 er)) t /\ POut w w' a S K X r (plW X r o bl M) True t from by
    have e1 : plW X r o bl M = plNo X r er := by rw [plW, HA.out, if_pos h4]
    refine ⟨M, some er, hM, rfl, ?_⟩
    rw [e1]
    exact pout_same (pl := plNo X r er) HH.out.1 hb' (by intro q; cases q)))
   by_cases h5 : er = 0
   . subst h5
     have hb0 : bl = [] := by
      rcases h4 with q | q
      . exact absurd rfl q
      . exact q
     subst hb0
     have C5' : Hid (∀ w' v, Below w.heap.size w w' -> RU w' v X -> Calls Tryz.prog 123 #[v, .int .i64 o, .slice qb 0 cb] w' fun e w2 => (∃ x L, e = .returned (.tuple #[x, .int .i64 0]) /\ OwnA edE w'.heap.size w2 x L /\ WrT X [] o L) /\ Below w'.heap.size w' w2) := C5
     rw [List.length_nil]
     clear hp h hX hK hA C3 hbv hbl h4 C5
     generalize a.z = z at *
     go_enter Tryz.func79, Tryz.ntmps79
     go_wp2_with fail
     refine (C1.out).mono ?_; rintro e w1 ⟨⟨v, rfl, o1⟩, b1⟩
     have D1 := jz b1
     have O1 := jz o1
     obtain ⟨q, c, rfl⟩ := o1.shape
     clear o1 b1
     go_wp2_with fail
     refine (C5'.out _ _ D1.out O1.out.ru).mono ?_; rintro e w3 ⟨⟨x, M, rfl, o3, hM⟩, b3⟩
     have D3 := jz (below_more D1.out b3)
     have HM := jz hM
     obtain ⟨q3, c3, rfl, _⟩ := o3.shape
     clear o3 b3 hM
     go_wp2_with fail
     go_ret
     exact HF.out _ _ D3.out HM.out
   . have i4 : (er == 0) = false := beq_eq_false_iff_ne.2 h5
     have i5 : (er != 0) = true := by simpa using h5
     clear hp h hX hK hA C3 hbv hbl h4
     generalize a.z = z at *
     generalize bl.length = n at *
     go_enter Tryz.func79, Tryz.ntmps79
     go_wp2_with fail
     refine (C1.out).mono ?_; rintro e w1 ⟨⟨v, rfl, o1⟩, b1⟩
     have D1 := jz b1
     have O1 := jz o1
     obtain ⟨q, c, rfl⟩ := o1.shape
     clear o1 b1
     go_wp2_with fail
     refine (C5.out _ _ D1.out O1.out.ru).mono ?_; rintro e w3 ⟨⟨x, M, rfl, o3, hM⟩, b3⟩
     have D3 := jz (below_more D1.out b3)
     have HM := jz hM
     obtain ⟨q3, c3, rfl, _⟩ := o3.shape
     clear o3 b3 hM
     go_wp2_with fail
     go_ret
     exact HF.out _ _ D3.out HM.out
 have h5 : er = 0 := Classical.byContradiction fun q => h4 (.inl q)
 have h6 : bl ≠ [] := fun q => h4 (.inr q)
 subst h5
 have i0 : ((bl.length : Int) == 0) = false := beq_eq_false_iff_ne.2 (by have := List.length_pos_iff.2 h6; omega)
 have i1 : ¬ bl.length = 0 := by have := List.length_pos_iff.2 h6; omega
 have e1 : ∀ M, plW X r o bl M = ⟨0, 0, [], true, appF X M, r, lnsF M, true⟩ := fun M => by rw [plW, HA.out, if_neg h4]
 have H6 := jz h6
 obtain ⟨b, hb⟩ : ∃ b, S.worn = b := ⟨_, rfl⟩
 rw [hb] at C3
 cases b with
 | true =>
   have HF := jz (fun w' M (hb' : Below w.heap.size w w') (hM : WrT X bl o M) => (show ∃ M t, WrT X bl o M /\ EndI (.returned (.int .i64 3)) t /\ POut w w' a S K X r (plW X r o bl M) True t from ⟨M, some 3, hM, rfl, by
    rw [e1]; exact pout_worn HH.out.1 hb' rfl hb⟩))
   clear hp h hX hK hA hbv hbl h4 hb e1 h6
   generalize a.z = z at *
   generalize bl.length = n at *
   go_enter Tryz.func79, Tryz.ntmps79
   go_wp2_with fail
   refine (C1.out).mono ?_; rintro e w1 ⟨⟨v, rfl, o1⟩, b1⟩
   have D1 := jz b1
   have O1 := jz o1
   obtain ⟨q, c, rfl⟩ := o1.shape
   clear o1 b1
   go_wp2_with fail
   refine (C5.out _ _ D1.out O1.out.ru).mono ?_; rintro e w3 ⟨⟨x, M, rfl, o3, hM⟩, b3⟩
   have D3 := jz (below_more D1.out b3)
   have HM := jz hM
   obtain ⟨q3, c3, rfl, _⟩ := o3.shape
   clear o3 b3 hM
   go_wp2_with fail
   refine (C3.out _ D3.out).mono ?_; rintro e w2 ⟨rfl, rfl⟩
   go_wp2_with fail
   go_ret
   exact HF.out _ _ D3.out HM.out
 | false =>
   have C6 := jz (fun w' M (hb' : Below w.heap.size w w') v u (hv : RU w' v X) (hu : RA edE w' u M) (hM : WrT X bl o M) => (show Calls Tryz.prog 120 #[.pointer (some ⟨a.z, 0, none⟩), v, u] w' fun e w' => COut _ w' a S K X r (appF X M) (lnsF M) e from by
    obtain ⟨hg, _⟩ := wr_good HXl.out.1 HH.out.2.hc.snd HH.out.2.hc.ok hM HA.out H6.out
    exact hcommit_is (HH.out.1.below hb') HH.out.2 HK.out (worn_no hb).2 hv hu hg.fit hg.len hg.ok hg.snd))
   have HF := jz (fun w3 w' M e (hb3 : Below w.heap.size w w3) (hc : COut w3 w' a S K X r (appF X M) (lnsF M) e) => cout_end (pl := plW X r o bl M) hb3 hc hb (by rw [e1]) (by rw [e1]) (by rw [e1]) (by rw [e1]) (by rw [e1]))
   clear hp h hX hK hA hbv hbl h4 hb e1 h6
   generalize a.z = z at *
   generalize bl.length = n at *
   go_enter Tryz.func79, Tryz.ntmps79
   go_wp2_with fail
   refine (C1.out).mono ?_; rintro e w1 ⟨⟨v, rfl, o1⟩, b1⟩
   have D1 := jz b1
   have O1 := jz o1
   obtain ⟨q, c, rfl⟩ := o1.shape
   clear o1 b1
   go_wp2_with fail
   refine (C5.out _ _ D1.out O1.out.ru).mono ?_; rintro e w3 ⟨⟨x, M, rfl, o3, hM⟩, b3⟩
   have D3 := jz (below_more D1.out b3)
   have HM := jz hM
   have O3 := jz (O1.out.below b3)
   have E3 := jz o3.ra
   obtain ⟨q3, c3, rfl, _⟩ := o3.shape
   clear o3 b3 hM
   go_wp2_with fail
   refine (C3.out _ D3.out).mono ?_; rintro e w2 ⟨rfl, rfl⟩
   go_wp2_with fail
   refine (C6.out _ _ D3.out _ _ O3.out.ru E3.out HM.out).mono ?_; rintro e w4 hc
   rcases HF.out _ _ _ _ D3.out hc with ⟨x, rfl, g⟩ | ⟨⟨u, pv, rfl⟩, g⟩
   . have G := jz (pout_ret g)
     clear g hc
     obtain ⟨t, G1, G2⟩ := G.out
     go_wp2_with fail
     go_ret
     exact ⟨M, t, HM.out, G1, G2⟩
   . have G := jz g
     clear g hc
     go_wp2
     exact ⟨rfl, M, none, HM.out, ⟨_, _, rfl⟩, G.out⟩
theorem HI.root {a : Ha} {S : Hs} {K : Nat} {X : List Int} {r : Nat} (h : HI a S K X r) (hK : K < 1000) {o : Int} (hr : rootB X o = true) :
 0 <= o /\ o <= 5000 /\ (HC (S.s.set ((2 : Nat) : Int) o) a.N a.P (K + 1) X r \/ HC (S.s.set ((2 : Nat) : Int) o) a.N a.P (K + 1) X o.toNat) ∧
 ((S.s.setE ((2 : Nat) : Int) = 0 /\ HI a { S with s := S.s.set ((2 : Nat) : Int) o } (K + 1) X o.toNat /\ lk (S.s.set ((2 : Nat) : Int) o) = lk S.s) \/ (S.s.setE ((2 : Nat) : Int) = 2 /\ S.s.comes = true)) := by
 obtain ⟨l, hB, hrr⟩ := sound_some h.hc.snd
 have hm := blkF_some hB
 have ho := (rootB_iff hB o).1 hr
 have hb : 0 <= o /\ o <= 5000 := by
  rcases ho with rfl | ⟨j, hj⟩
  . omega
  . obtain ⟨j1, j2, j3⟩ := isN_some hj
    have := offB_in hm (getD_mem j1)
    rw [<- j3]
    omega
 obtain ⟨l1, l2, l3, l4, l5, l6⟩ := h.hc.lg.set (k := 2) (.inl rfl) o
 have hcc := S.s.set_c ((2 : Nat) : Int) o
 have h4 := h.hc.c
 have h5 := h.hc.m
 have hs : soundB X ((o.toNat : Nat) : Int) = true := by
  rw [show ((o.toNat : Nat) : Int) = o by omega]
  exact sound_of hB ho
 have hv : Has (S.s.set ((2 : Nat) : Int) o) a.N a.P X := h.hc.has.same fun b _ _ => l4 b
 have rg : ∀ q, q < 16 -> ∃ v : Nat, (S.s.set ((2 : Nat) : Int) o).rg (19 + q) = (v : Int) /\ v <= 14 * (K + 1) := rgs_more h.hc.rgs fun q _ => .inl (l6 (19 + q) (by omega))
 have one : ∀ x : Nat, (S.s.set ((2 : Nat) : Int) o).rg 2 = (x : Int) -> soundB X (x : Int) = true -> x <= 5000 -> HC (S.s.set ((2 : Nat) : Int) o) a.N a.P (K + 1) X x := fun x e1 e2 e3 => ⟨l1, hv, h.hc.ok, e2, e1, e3, rg, by omega, by omega, by omega⟩
 refine ⟨hb.1, hb.2, ?_, ?_⟩
 . rcases l5 with e | e
   . exact .inl (one r (e.trans h.hc.rt) h.hc.snd h.hc.rlt)
   . exact .inr (one o.toNat (by rw [e]; omega) hs (by omega))
 . rcases Nv.set_ok (s := S.s) (k := 2) (by decide) h.live o with ⟨e0, r0, d0⟩ | q
   . refine .inl ⟨e0, ⟨one o.toNat (by rw [r0]; omega) hs (by omega), d0, h.num, h.ct, h.cn, h.cb, fun q hq => ?_, fun q (hq : q < S.ct.n) => (by have := h.cm q hq; omega : S.ct.c q <= 14 * (K + 1)), by have := h.p; dsimp only; omega, fun q => (congrArg leftT (tb_far (.inl (by decide)) h.hc.lg.g.pp)).trans (h.wl (q.imp id fun k e => k (l2.trans e)))⟩, l2⟩
     show (S.s.set ((2 : Nat) : Int) o).rg (19 + q) = _
     rw [l6 (19 + q) (by omega)]
     exact h.kp q hq
   . exact .inr q
theorem hsetr_is {w : World} {a : Ha} {S : Hs} {K : Nat} {X : List Int} {r : Nat} (o : Int) (hp : Hp w a S) (h : HI a S K X r) (hK : K < 1000) :
 Calls Tryz.prog 80 #[.pointer (some ⟨a.z, 0, none⟩), .int .i64 o] w fun e w' => ∃ t, EndI e t /\ POut w w' a S K X r (plR X r o) False t := by
 have C1 := jz (hwords_is hp.hb h.num h.hc.lg h.live h.hc.has)
 have C3 := jz (fun w' (hb : Below w.heap.size w w') => hworn_is (hp.below hb) h.live h.hc.lg.r1)
 have hX := h.len
 have C5 := jz (fun w' v (hv : RU w' v X) => hmr_is o w' hv (by omega) h.hc.ok)
 have HH := jz (And.intro hp h)
 have HK := jz hK
 obtain ⟨pl, hpl⟩ : ∃ pl, plR X r o = pl := ⟨_, rfl⟩
 rw [hpl]
 obtain ⟨rb, hA⟩ : ∃ rb, rootB X o = rb := ⟨_, rfl⟩
 rw [hA] at C5
 cases rb with
 | false =>
   have e1 : pl = plNo X r 1 := by rw [<- hpl, plR, hA, if_neg (by decide)]
   have HF := jz (fun w' (hb' : Below w.heap.size w w') => pout_ret (show POut w w' a S K X r pl False (some 1) from by
    have := pout_same (pl := pl) (nr := False) (K := K) (X := X) (r := r) HH.out.1 hb' (by rw [e1]; intro q; cases q)
    rwa [e1] at this ⊢))
   clear hp h hX hK hpl e1 hA C3
   generalize a.z = z at *
   go_enter Tryz.func80, Tryz.ntmps80
   go_wp2_with fail
   refine (C1.out).mono ?_; rintro e w1 ⟨⟨v, rfl, o1⟩, b1⟩
   have D1 := jz b1
   have O1 := jz o1
   obtain ⟨q, c, rfl⟩ := o1.shape
   clear o1 b1
   go_wp2_with fail
   refine (C5.out _ _ O1.out.ru).mono ?_; rintro e w3 ⟨rfl, b3⟩
   have D3 := jz (below_more D1.out b3)
   clear b3
   go_wp2_with fail
   go_ret
   exact HF.out _ D3.out
 | true =>
 have e1 : pl = ⟨0, 0, [], true, X, o.toNat, [], false⟩ := by rw [<- hpl, plR, hA, if_pos rfl]
 obtain ⟨b, hb⟩ : ∃ b, S.worn = b := ⟨_, rfl⟩
 rw [hb] at C3
 cases b with
 | true =>
   have HF := jz (fun w' (hb' : Below w.heap.size w w') => pout_ret (show POut w w' a S K X r pl False (some 3) from pout_worn HH.out.1 hb' (by rw [e1]) hb))
   clear hp h hX hK hpl e1 hA hb
   generalize a.z = z at *
   go_enter Tryz.func80, Tryz.ntmps80
   go_wp2_with fail
   refine (C1.out).mono ?_; rintro e w1 ⟨⟨v, rfl, o1⟩, b1⟩
   have D1 := jz b1
   have O1 := jz o1
   obtain ⟨q, c, rfl⟩ := o1.shape
   clear o1 b1
   go_wp2_with fail
   refine (C5.out _ _ O1.out.ru).mono ?_; rintro e w3 ⟨rfl, b3⟩
   have D3 := jz (below_more D1.out b3)
   clear b3
   go_wp2_with fail
   refine (C3.out _ D3.out).mono ?_; rintro e w2 ⟨rfl, rfl⟩
   go_wp2_with fail
   go_ret
   exact HF.out _ D3.out
 | false =>
   obtain ⟨o0, o5, hcs, hout⟩ := h.root hK hA
   have CS := jz (fun w' (hb' : Below w.heap.size w w') => set_any a.g S.s ((2 : Nat) : Int) o w' (hp.below hb').hb.lg.nm h.hc.lg.g.ok (by have := h.hc.c; have := h.hc.K; omega))
   have HF := jz (fun w' w2 (hb' : Below w.heap.size w w') (hN : Nm w2 a.g (S.s.set ((2 : Nat) : Int) o)) (hc : Chg [a.g] w' w2) => pout_ret (show POut w w2 a S K X r pl False (some (S.s.setE ((2 : Nat) : Int))) from by
    refine ⟨_, (HH.out.1.below hb').set hc hN, (Chg.of_below hb' _).trans (hc.mono fun x hx => by rw [List.mem_singleton.1 hx]; simp [Ha.D]), S.s.set_la _ _, S.s.set_comes _ _, S.s.set_n _ _, ?_⟩
    rw [e1]
    rcases hout with ⟨h0, h1, h2⟩ | ⟨h0, h1⟩
    . rw [h0]
      refine .inr (.inr (.inl ⟨rfl, rfl, rfl, hb, h1, rfl, rfl, fun F => ⟨(set_go F (k := 2) (by decide) o).2, h2.trans (worn_no hb).2⟩⟩))
    . rw [h0]
      exact .inr (.inr (.inr (.inr ⟨.inl rfl, rfl, rfl, hb, h1, hcs⟩)))))
   have c0 := fun w' (hb' : Below w.heap.size w w') => (hp.below hb').hb.c0
   have HC0 := jz c0
   have j1 : IntKind.u64.wrap o = o := u64_same (by omega) (by omega)
   generalize S.s.setE ((2 : Nat) : Int) = se at *
   generalize S.s.set ((2 : Nat) : Int) o = s2 at *
   clear hp h hX hK hpl e1 hA hb hcs hout c0
   generalize a.z = z at *
   generalize a.g = g at *
   go_enter Tryz.func80, Tryz.ntmps80
   go_wp2_with fail
   refine (C1.out).mono ?_; rintro e w1 ⟨⟨v, rfl, o1⟩, b1⟩
   have D1 := jz b1
   have O1 := jz o1
   obtain ⟨q, c, rfl⟩ := o1.shape
   clear o1 b1
   go_wp2_with fail
   refine (C5.out _ _ O1.out.ru).mono ?_; rintro e w3 ⟨rfl, b3⟩
   have D3 := jz (below_more D1.out b3)
   clear b3
   go_wp2_with fail
   refine (C3.out _ D3.out).mono ?_; rintro e w2 ⟨rfl, rfl⟩
   have cc := HC0.out _ D3.out
   go_wp2_with fail
   refine (CS.out _ D3.out).mono ?_; rintro e w4 ⟨rfl, q3, q4⟩
   have G := jz (HF.out _ _ D3.out q3 q4)
   clear q3 q4
   go_wp2_with fail
   go_ret
   exact G.out
theorem POut.nr {w w' : World} {a : Ha} {S : Hs} {K : Nat} {X : List Int} {r : Nat} {pl : Aim} {A B : Prop} {t : Option Int} (h : POut w w' a S K X r pl A t) (hab : A -> B) : POut w w' a S K X r pl B t := by
 obtain ⟨S', g1, g2, g3, g4, g5, h⟩ := h
 refine ⟨S', g1, g2, g3, g4, g5, ?_⟩
 rcases h with h | h | h | ⟨q1, q2, q3, q4, q5, q⟩ | h
 . exact .inl h
 . exact .inr (.inl h)
 . exact .inr (.inr (.inl h))
 . exact .inr (.inr (.inr (.inl ⟨q1, q2, q3, q4, hab q5, q⟩)))
 . exact .inr (.inr (.inr (.inr h)))
theorem POut.from_below {w w0 w' : World} {a : Ha} {S : Hs} {K : Nat} {X : List Int} {r : Nat} {pl : Aim} {A : Prop} {t : Option Int} (hb : Below w.heap.size w w0) (h : POut w0 w' a S K X r pl A t) : POut w w' a S K X r pl A t := by
 obtain ⟨S', g1, g2, h⟩ := h
 exact ⟨S', g1, (Chg.of_below hb _).trans g2, h⟩
theorem POut.row {w w1 : World} {a : Ha} {S : Hs} {K : Nat} {X : List Int} {r : Nat} {pl : Aim} {A : Prop} {t : Option Int} (h : POut w w1 a S K X r pl A t) (hp : Hp w a S) {g : Nat} (hg : w.heap.size <= g) (c : Array Value) : POut w (w1.setRow g c) a S K X r pl A t := by
 obtain ⟨S', g1, g2, h⟩ := h
 have hc : Chg [g] w1 (w1.setRow g c) := (Chg.refl _ _).setRow (.inl (List.mem_singleton.2 rfl)) c
 have hne : ∀ k, k < w.heap.size -> k ∉ [g] := fun k hk q => by rw [List.mem_singleton.1 q] at hk; omega
 exact ⟨S', g1.chg hc (hne _ hp.hb.lt) (hne _ hp.hb.lg.nm.lt) (hne _ (Whole.lt hp.hb.lg.tq)) (hne _ (Whole.lt hp.hb.lg.lq)) (hne _ hp.hb.lg.xlt) (hne _ hp.cq.ltx) (hne _ hp.cq.ltg), g2.setRow (.inr hg) c, h⟩
theorem POut.keep {w w1 : World} {a : Ha} {S : Hs} {K : Nat} {X : List Int} {r : Nat} {pl : Aim} {A : Prop} {t : Option Int} (h : POut w w1 a S K X r pl A t) : Chg a.D w w1 := by
 obtain ⟨S', g1, g2, h⟩ := h
 exact g2
def tld (pl : Aim) (x : Int) : Int × List Int := if x = pl.e then (pl.off, pl.data) else (0, [])
def AnsE (e : Ending) (B : Nat) (w' : World) (pl : Aim) : Option Int -> Prop
 | some x => ∃ v, e = .returned (.agg (anc x (tld pl x).1 v)) /\ OwnA byE B w' v (tld pl x).2
 | none => Dies e
def ActOut (w w' : World) (a : Ha) (S : Hs) (K : Nat) (X : List Int) (r : Nat) (x : Px) (e : Ending) : Prop :=
 ∃ pl t, PlanOf X r S.ct.ints x.d x.o x.nn x.bl pl /\ AnsE e w.heap.size w' pl t /\ POut w w' a S K X r pl (x.d ≠ 5) t
theorem act_plain {w w' : World} {a : Ha} {S : Hs} {K : Nat} {X : List Int} {r : Nat} {x : Px} {pl : Aim} {er : Int} (hP : PlanOf X r S.ct.ints x.d x.o x.nn x.bl pl) (h : POut w w' a S K X r pl (x.d ≠ 5) (some er)) (h0 : pl.off = 0) (h1 : pl.data = []) : ActOut w w' a S K X r x (.returned (.agg (anc er 0 (.slice none 0 0)))) := by
 refine ⟨pl, some er, hP, ⟨.slice none 0 0, ?_, ?_⟩, h⟩
 . unfold tld; split
   . rw [h0]
   . rfl
 . unfold tld; split
   . rw [h1]; exact own_nil_a _ _ _
   . exact own_nil_a _ _ _
theorem act_dies {w w' : World} {a : Ha} {S : Hs} {K : Nat} {X : List Int} {r : Nat} {x : Px} {pl : Aim} {e : Ending} (hP : PlanOf X r S.ct.ints x.d x.o x.nn x.bl pl) (h : POut w w' a S K X r pl (x.d ≠ 5) none) (hd : Dies e) : ActOut w w' a S K X r x e := ⟨pl, none, hP, hd, h⟩
theorem plA_off (X : List Int) (r : Nat) (cs : List Int) (n : Int) : (plA X r cs n).data = [] /\ ((plA X r cs n).e ≠ 0 -> (plA X r cs n).off = 0) := by
 unfold plA plNo
 split
 . exact ⟨rfl, fun _ => rfl⟩
 . split
   . exact ⟨rfl, fun q => absurd rfl q⟩
   . exact ⟨rfl, fun _ => rfl⟩
theorem pout_zero {w w' : World} {a : Ha} {S : Hs} {K : Nat} {X : List Int} {r : Nat} {pl : Aim} {A : Prop} (h : POut w w' a S K X r pl A (some 0)) : pl.e = 0 := by
 obtain ⟨S', g1, g2, g3, g4, g5, h⟩ := h
 rcases h with ⟨q, _⟩ | ⟨q, _⟩ | ⟨_, _, q, _⟩ | ⟨q, _⟩ | ⟨q | q, _⟩
 . cases q
 . exact (Option.some.inj q).symm
 . exact q
 . cases q
 . cases q
 . cases q
theorem tldA {w w' : World} {a : Ha} {S : Hs} {K : Nat} {X : List Int} {r : Nat} {n : Int} {A : Prop} {y : Int} (h : POut w w' a S K X r (plA X r S.ct.ints n) A (some y)) : tld (plA X r S.ct.ints n) y = (if y = 0 then (plA X r S.ct.ints n).off else 0, []) := by
 obtain ⟨h1, h2⟩ := plA_off X r S.ct.ints n
 unfold tld
 rw [h1]
 by_cases hy : y = 0
 . subst hy
   rw [pout_zero h, if_pos rfl, if_pos rfl]
 . rw [if_neg hy]
   split
   . rename_i q
     rw [h2 (by omega)]
   . rfl
theorem planA {X : List Int} {r : Nat} {cs : List Int} {o n : Int} {bl : List Int} : PlanOf X r cs 1 o n bl (plA X r cs n) := by unfold PlanOf; rw [if_pos rfl]
theorem planF {X : List Int} {r : Nat} {cs : List Int} {o n : Int} {bl : List Int} : PlanOf X r cs 2 o n bl (plF X r o) := by unfold PlanOf; simp
theorem planD {X : List Int} {r : Nat} {cs : List Int} {o n : Int} {bl : List Int} : PlanOf X r cs 3 o n bl (plD X r o n) := by unfold PlanOf; simp
theorem planW {X : List Int} {r : Nat} {cs : List Int} {o n : Int} {bl : List Int} {M : List Ed} (h : WrT X bl o M) : PlanOf X r cs 4 o n bl (plW X r o bl M) := by unfold PlanOf; simp; exact ⟨M, h, rfl⟩
theorem planR {X : List Int} {r : Nat} {cs : List Int} {o n : Int} {bl : List Int} : PlanOf X r cs 5 o n bl (plR X r o) := by unfold PlanOf; simp
theorem planG {X : List Int} {r : Nat} {cs : List Int} {o n : Int} {bl : List Int} : PlanOf X r cs 6 o n bl (plG X r) := by unfold PlanOf; simp
theorem planE {X : List Int} {r : Nat} {cs : List Int} {d o n : Int} {bl : List Int} (h : ¬ (1 <= d /\ d <= 6)) : PlanOf X r cs d o n bl (plNo X r 1) := by
 unfold PlanOf
 rw [if_neg (by omega), if_neg (by omega), if_neg (by omega), if_neg (by omega), if_neg (by omega), if_neg (by omega)]
theorem plF_z (X : List Int) (r : Nat) (o : Int) : (plF X r o).off = 0 /\ (plF X r o).data = [] := by
 unfold plF plNo; split
 . exact ⟨rfl, rfl⟩
 . split <;> exact ⟨rfl, rfl⟩
theorem plW_z (X : List Int) (r : Nat) (o : Int) (bl : List Int) (M : List Ed) : (plW X r o bl M).off = 0 /\ (plW X r o bl M).data = [] := by
 unfold plW plNo; split <;> exact ⟨rfl, rfl⟩
theorem plR_z (X : List Int) (r : Nat) (o : Int) : (plR X r o).off = 0 /\ (plR X r o).data = [] := by
 unfold plR plNo; split <;> exact ⟨rfl, rfl⟩
theorem act_var {w W w1 : World} {a : Ha} {S : Hs} {K : Nat} {X : List Int} {r : Nat} {pl : Aim} {A : Prop} {t : Option Int} {g : Nat} (hp : Hp w a S) (hb : Below w.heap.size w W) (hA : Anv W g 0 0 (.slice none 0 0)) (hg : w.heap.size <= g) (h : POut W w1 a S K X r pl A t) :
 Anv w1 g 0 0 (.slice none 0 0) /\ ∀ c, POut w (w1.setRow g c) a S K X r pl A t := by
 refine ⟨hA.chg h.keep fun q => ?_, fun c => (h.from_below hb).row hp hg c⟩
 have h1 := hp.hb.lt
 have h2 := hp.hb.lg.nm.lt
 have h3 := Whole.lt hp.hb.lg.tq
 have h4 := hp.cq.ltg
 simp [Ha.D] at q
 omega
theorem hact2 {w : World} {a : Ha} {S : Hs} {K : Nat} {X : List Int} {r : Nat} (x : Px) (hp : Hp w a S) (h : HI a S K X r) (hK : K < 1000) (hv : RA byE w x.v x.bl) (_hbl : x.bl.length <= 100000) (_ho : -9223372036854775808 <= x.o /\ x.o <= 9223372036854775807) (_hn : -9223372036854775808 <= x.nn /\ x.nn <= 9223372036854775807) (hd : x.d = 2) :
 Calls Tryz.prog 44 #[.pointer (some ⟨a.z, 0, none⟩), .agg (pxc x)] w fun e w' => ActOut w w' a S K X r x e := by
 obtain ⟨W0, hW0⟩ : ∃ W0, w.alloc (.cells (pxc x) 41) = W0 := ⟨_, rfl⟩
 obtain ⟨W, hW⟩ : ∃ W, W0.alloc (.cells #[.int .i64 0, .int .i64 0, .slice none 0 0] 44) = W := ⟨_, rfl⟩
 have hs0 : W0.heap.size = w.heap.size + 1 := by rw [<- hW0, size_alloc]
 have HB : Below w.heap.size w W := by rw [<- hW, <- hW0]; exact bal (bal (Below.refl _ _))
 have HP : Pxv W w.heap.size x := by
  have := (Pxv.new w x).below (bal (o := .cells #[.int .i64 0, .int .i64 0, .slice none 0 0] 44) (Below.refl _ _))
  rw [<- hW, <- hW0]; exact this
 have HA : Anv W (w.heap.size + 1) 0 0 (.slice none 0 0) := by
  have := Anv.new W0 0 0 (.slice none 0 0)
  rw [<- hs0, <- hW]; exact this
 have HWp := hp.below HB
 have HWv := ra_below hv HB
 have c0 := HP.c0
 have c1 := HP.c1
 have AV := jz (fun w1 pl A t (q : POut W w1 a S K X r pl A t) => act_var hp HB HA (Nat.le_succ _) q)
 have C := jz (hfree_is x.o HWp h hK)
 have HPl : PlanOf X r S.ct.ints x.d x.o x.nn x.bl (plF X r x.o) := by rw [hd]; exact planF
 have HF := jz (fun w1 y (q : POut W w1 a S K X r (plF X r x.o) True (some y)) => (show Anv w1 (w.heap.size + 1) 0 0 (.slice none 0 0) /\ ∀ c, ActOut w (w1.setRow (w.heap.size + 1) c) a S K X r x (.returned (.agg (anc y 0 (.slice none 0 0)))) from by
  obtain ⟨q1, q2⟩ := AV.out _ _ _ _ q
  exact ⟨q1, fun c => act_plain HPl ((q2 c).nr (fun _ => (by rw [hd]; decide))) (plF_z X r x.o).1 (plF_z X r x.o).2⟩))
 have HD := jz (fun w1 e (hde : Dies e) (q : POut W w1 a S K X r (plF X r x.o) True none) => act_dies (x := x) HPl ((q.from_below HB).nr (fun _ => (by rw [hd]; decide))) hde)
 rw [hd] at c0
 clear hp h hK hv _hbl _ho _hn hd HPl HA HP HWp HWv AV HB
 generalize a.z = z at *
 generalize x.o = xo at *
 generalize x.nn = xn at *
 go_enter Tryz.func44, Tryz.ntmps44
 go_wp2_with fail
 refine (C.out).mono ?_; rintro e w1 ⟨t, hE, hP⟩
 cases t with
 | none =>
   obtain ⟨u, pv, rfl⟩ := hE
   have G := jz (HD.out _ _ ⟨u, pv, rfl⟩ hP)
   clear hP
   go_wp2
   exact ⟨rfl, G.out⟩
 | some y =>
   obtain rfl := hE
   obtain ⟨g1, g2⟩ := HF.out _ _ hP
   have G := jz (g2 (anc y 0 (.slice none 0 0)))
   clear hP g2
   have hst := g1.store (e' := y) (o' := 0) (v' := .slice none 0 0) rfl
   have AP := jz (g1.put (e' := y) (o' := 0) (v' := .slice none 0 0))
   clear g1
   obtain ⟨V, hV⟩ : ∃ V, w1.setRow (w.heap.size + 1) (anc y 0 (.slice none 0 0)) = V := ⟨_, rfl⟩
   rw [hV] at hst AP G
   go_wp2
   exact bodyPost_ret (v := .agg (anc y 0 (.slice none 0 0))) (results_cell_row rfl _ _ _ _ _ _ _ rfl AP.out Tryz.underlying44 rfl (by rw [info_ans]; rfl)) rfl G.out
theorem hact5 {w : World} {a : Ha} {S : Hs} {K : Nat} {X : List Int} {r : Nat} (x : Px) (hp : Hp w a S) (h : HI a S K X r) (hK : K < 1000) (hv : RA byE w x.v x.bl) (_hbl : x.bl.length <= 100000) (_ho : -9223372036854775808 <= x.o /\ x.o <= 9223372036854775807) (_hn : -9223372036854775808 <= x.nn /\ x.nn <= 9223372036854775807) (hd : x.d = 5) :
 Calls Tryz.prog 44 #[.pointer (some ⟨a.z, 0, none⟩), .agg (pxc x)] w fun e w' => ActOut w w' a S K X r x e := by
 obtain ⟨W0, hW0⟩ : ∃ W0, w.alloc (.cells (pxc x) 41) = W0 := ⟨_, rfl⟩
 obtain ⟨W, hW⟩ : ∃ W, W0.alloc (.cells #[.int .i64 0, .int .i64 0, .slice none 0 0] 44) = W := ⟨_, rfl⟩
 have hs0 : W0.heap.size = w.heap.size + 1 := by rw [<- hW0, size_alloc]
 have HB : Below w.heap.size w W := by rw [<- hW, <- hW0]; exact bal (bal (Below.refl _ _))
 have HP : Pxv W w.heap.size x := by
  have := (Pxv.new w x).below (bal (o := .cells #[.int .i64 0, .int .i64 0, .slice none 0 0] 44) (Below.refl _ _))
  rw [<- hW, <- hW0]; exact this
 have HA : Anv W (w.heap.size + 1) 0 0 (.slice none 0 0) := by
  have := Anv.new W0 0 0 (.slice none 0 0)
  rw [<- hs0, <- hW]; exact this
 have HWp := hp.below HB
 have HWv := ra_below hv HB
 have c0 := HP.c0
 have c1 := HP.c1
 have AV := jz (fun w1 pl A t (q : POut W w1 a S K X r pl A t) => act_var hp HB HA (Nat.le_succ _) q)
 have C := jz (hsetr_is x.o HWp h hK)
 have HPl : PlanOf X r S.ct.ints x.d x.o x.nn x.bl (plR X r x.o) := by rw [hd]; exact planR
 have HF := jz (fun w1 y (q : POut W w1 a S K X r (plR X r x.o) False (some y)) => (show Anv w1 (w.heap.size + 1) 0 0 (.slice none 0 0) /\ ∀ c, ActOut w (w1.setRow (w.heap.size + 1) c) a S K X r x (.returned (.agg (anc y 0 (.slice none 0 0)))) from by
  obtain ⟨q1, q2⟩ := AV.out _ _ _ _ q
  exact ⟨q1, fun c => act_plain HPl ((q2 c).nr (fun q => q.elim)) (plR_z X r x.o).1 (plR_z X r x.o).2⟩))
 have HD := jz (fun w1 e (hde : Dies e) (q : POut W w1 a S K X r (plR X r x.o) False none) => act_dies (x := x) HPl ((q.from_below HB).nr (fun q => q.elim)) hde)
 rw [hd] at c0
 clear hp h hK hv _hbl _ho _hn hd HPl HA HP HWp HWv AV HB
 generalize a.z = z at *
 generalize x.o = xo at *
 generalize x.nn = xn at *
 go_enter Tryz.func44, Tryz.ntmps44
 go_wp2_with fail
 refine (C.out).mono ?_; rintro e w1 ⟨t, hE, hP⟩
 cases t with
 | none =>
   obtain ⟨u, pv, rfl⟩ := hE
   have G := jz (HD.out _ _ ⟨u, pv, rfl⟩ hP)
   clear hP
   go_wp2
   exact ⟨rfl, G.out⟩
 | some y =>
   obtain rfl := hE
   obtain ⟨g1, g2⟩ := HF.out _ _ hP
   have G := jz (g2 (anc y 0 (.slice none 0 0)))
   clear hP g2
   have hst := g1.store (e' := y) (o' := 0) (v' := .slice none 0 0) rfl
   have AP := jz (g1.put (e' := y) (o' := 0) (v' := .slice none 0 0))
   clear g1
   obtain ⟨V, hV⟩ : ∃ V, w1.setRow (w.heap.size + 1) (anc y 0 (.slice none 0 0)) = V := ⟨_, rfl⟩
   rw [hV] at hst AP G
   go_wp2
   exact bodyPost_ret (v := .agg (anc y 0 (.slice none 0 0))) (results_cell_row rfl _ _ _ _ _ _ _ rfl AP.out Tryz.underlying44 rfl (by rw [info_ans]; rfl)) rfl G.out
theorem hact4 {w : World} {a : Ha} {S : Hs} {K : Nat} {X : List Int} {r : Nat} (x : Px) (hp : Hp w a S) (h : HI a S K X r) (hK : K < 1000) (hv : RA byE w x.v x.bl) (hbl : x.bl.length <= 100000) (ho : -9223372036854775808 <= x.o /\ x.o <= 9223372036854775807) (_hn : -9223372036854775808 <= x.nn /\ x.nn <= 9223372036854775807) (hd : x.d = 4) :
 Calls Tryz.prog 44 #[.pointer (some ⟨a.z, 0, none⟩), .agg (pxc x)] w fun e w' => ActOut w w' a S K X r x e := by
 obtain ⟨W0, hW0⟩ : ∃ W0, w.alloc (.cells (pxc x) 41) = W0 := ⟨_, rfl⟩
 obtain ⟨W, hW⟩ : ∃ W, W0.alloc (.cells #[.int .i64 0, .int .i64 0, .slice none 0 0] 44) = W := ⟨_, rfl⟩
 have hs0 : W0.heap.size = w.heap.size + 1 := by rw [<- hW0, size_alloc]
 have HB : Below w.heap.size w W := by rw [<- hW, <- hW0]; exact bal (bal (Below.refl _ _))
 have HP : Pxv W w.heap.size x := by
  have := (Pxv.new w x).below (bal (o := .cells #[.int .i64 0, .int .i64 0, .slice none 0 0] 44) (Below.refl _ _))
  rw [<- hW, <- hW0]; exact this
 have HA : Anv W (w.heap.size + 1) 0 0 (.slice none 0 0) := by
  have := Anv.new W0 0 0 (.slice none 0 0)
  rw [<- hs0, <- hW]; exact this
 have HWp := hp.below HB
 have HWv := ra_below hv HB
 have c0 := HP.c0
 have c1 := HP.c1
 have c4 := HP.c4
 have AV := jz (fun w1 pl A t (q : POut W w1 a S K X r pl A t) => act_var hp HB HA (Nat.le_succ _) q)
 have C := jz (hwrite_is x.o HWp h hK HWv hbl ho)
 have HF := jz (fun w1 y M (hM : WrT X x.bl x.o M) (q : POut W w1 a S K X r (plW X r x.o x.bl M) True (some y)) => (show Anv w1 (w.heap.size + 1) 0 0 (.slice none 0 0) /\ ∀ c, ActOut w (w1.setRow (w.heap.size + 1) c) a S K X r x (.returned (.agg (anc y 0 (.slice none 0 0)))) from by
  obtain ⟨q1, q2⟩ := AV.out _ _ _ _ q
  exact ⟨q1, fun c => act_plain (by rw [hd]; exact planW hM) ((q2 c).nr (fun _ => (by rw [hd]; decide))) (plW_z X r x.o x.bl M).1 (plW_z X r x.o x.bl M).2⟩))
 have HD := jz (fun w1 e M (hM : WrT X x.bl x.o M) (hde : Dies e) (q : POut W w1 a S K X r (plW X r x.o x.bl M) True none) => act_dies (x := x) (by rw [hd]; exact planW hM) ((q.from_below HB).nr (fun _ => (by rw [hd]; decide))) hde)
 rw [hd] at c0
 obtain ⟨qb, cb, hxv, _⟩ := ra_shape hv
 rw [hxv] at c4 C
 clear hp h hK hv hbl ho _hn hd HA HP HWp HWv AV HB
 generalize a.z = z at *
 generalize x.o = xo at *
 generalize x.nn = xn at *
 generalize x.bl = bl at *
 go_enter Tryz.func44, Tryz.ntmps44
 go_wp2_with fail
 refine (C.out).mono ?_; rintro e w1 ⟨M, t, hM, hE, hP⟩
 cases t with
 | none =>
   obtain ⟨u, pv, rfl⟩ := hE
   have G := jz (HD.out _ _ _ hM ⟨u, pv, rfl⟩ hP)
   clear hP
   go_wp2
   exact ⟨rfl, G.out⟩
 | some y =>
   obtain rfl := hE
   obtain ⟨g1, g2⟩ := HF.out _ _ _ hM hP
   have G := jz (g2 (anc y 0 (.slice none 0 0)))
   clear hP g2 hM
   have hst := g1.store (e' := y) (o' := 0) (v' := .slice none 0 0) rfl
   have AP := jz (g1.put (e' := y) (o' := 0) (v' := .slice none 0 0))
   clear g1
   obtain ⟨V, hV⟩ : ∃ V, w1.setRow (w.heap.size + 1) (anc y 0 (.slice none 0 0)) = V := ⟨_, rfl⟩
   rw [hV] at hst AP G
   go_wp2
   exact bodyPost_ret (v := .agg (anc y 0 (.slice none 0 0))) (results_cell_row rfl _ _ _ _ _ _ _ rfl AP.out Tryz.underlying44 rfl (by rw [info_ans]; rfl)) rfl G.out
theorem hact1 {w : World} {a : Ha} {S : Hs} {K : Nat} {X : List Int} {r : Nat} (x : Px) (hp : Hp w a S) (h : HI a S K X r) (hK : K < 1000) (hv : RA byE w x.v x.bl) (_hbl : x.bl.length <= 100000) (_ho : -9223372036854775808 <= x.o /\ x.o <= 9223372036854775807) (_hn : -9223372036854775808 <= x.nn /\ x.nn <= 9223372036854775807) (hd : x.d = 1) :
 Calls Tryz.prog 44 #[.pointer (some ⟨a.z, 0, none⟩), .agg (pxc x)] w fun e w' => ActOut w w' a S K X r x e := by
 obtain ⟨W0, hW0⟩ : ∃ W0, w.alloc (.cells (pxc x) 41) = W0 := ⟨_, rfl⟩
 obtain ⟨W, hW⟩ : ∃ W, W0.alloc (.cells #[.int .i64 0, .int .i64 0, .slice none 0 0] 44) = W := ⟨_, rfl⟩
 have hs0 : W0.heap.size = w.heap.size + 1 := by rw [<- hW0, size_alloc]
 have HB : Below w.heap.size w W := by rw [<- hW, <- hW0]; exact bal (bal (Below.refl _ _))
 have HP : Pxv W w.heap.size x := by
  have := (Pxv.new w x).below (bal (o := .cells #[.int .i64 0, .int .i64 0, .slice none 0 0] 44) (Below.refl _ _))
  rw [<- hW, <- hW0]; exact this
 have HA : Anv W (w.heap.size + 1) 0 0 (.slice none 0 0) := by
  have := Anv.new W0 0 0 (.slice none 0 0)
  rw [<- hs0, <- hW]; exact this
 have HWp := hp.below HB
 have HWv := ra_below hv HB
 have c0 := HP.c0
 have c2 := HP.c2
 have AV := jz (fun w1 pl A t (q : POut W w1 a S K X r pl A t) => act_var hp HB HA (Nat.le_succ _) q)
 have C := jz (halloc_is x.nn HWp h hK)
 have HF := jz (fun w1 y (q : POut W w1 a S K X r (plA X r S.ct.ints x.nn) True (some y)) => (show Anv w1 (w.heap.size + 1) 0 0 (.slice none 0 0) /\ ∀ c, ActOut w (w1.setRow (w.heap.size + 1) c) a S K X r x (.returned (.agg (anc y (if y = 0 then (plA X r S.ct.ints x.nn).off else 0) (.slice none 0 0)))) from by
  obtain ⟨q1, q2⟩ := AV.out _ _ _ _ q
  refine ⟨q1, fun c => ⟨_, some y, by rw [hd]; exact planA, ⟨.slice none 0 0, ?_, ?_⟩, (q2 c).nr (fun _ => (by rw [hd]; decide))⟩⟩
  . rw [tldA q]
  . rw [tldA q]; exact own_nil_a _ _ _))
 have HD := jz (fun w1 e (hde : Dies e) (q : POut W w1 a S K X r (plA X r S.ct.ints x.nn) True none) => act_dies (x := x) (by rw [hd]; exact planA) ((q.from_below HB).nr (fun _ => (by rw [hd]; decide))) hde)
 rw [hd] at c0
 clear hp h hK hv _hbl _ho _hn hd HA HP HWp HWv AV HB
 generalize a.z = z at *
 generalize x.nn = xn at *
 go_enter Tryz.func44, Tryz.ntmps44
 go_wp2_with fail
 refine (C.out).mono ?_; rintro e w1 ⟨t, hE, hP⟩
 cases t with
 | none =>
   obtain ⟨u, pv, rfl⟩ := hE
   have G := jz (HD.out _ _ ⟨u, pv, rfl⟩ hP)
   clear hP
   go_wp2
   exact ⟨rfl, G.out⟩
 | some y =>
   obtain rfl := hE
   obtain ⟨g1, g2⟩ := HF.out _ _ hP
   generalize (if y = 0 then (plA X r S.ct.ints xn).off else 0) = of at *
   have G := jz (g2 (anc y of (.slice none 0 0)))
   clear hP g2
   have hst := g1.store (e' := y) (o' := of) (v' := .slice none 0 0) rfl
   have AP := jz (g1.put (e' := y) (o' := of) (v' := .slice none 0 0))
   clear g1
   obtain ⟨V, hV⟩ : ∃ V, w1.setRow (w.heap.size + 1) (anc y of (.slice none 0 0)) = V := ⟨_, rfl⟩
   rw [hV] at hst AP G
   go_wp2
   exact bodyPost_ret (v := .agg (anc y of (.slice none 0 0))) (results_cell_row rfl _ _ _ _ _ _ _ rfl AP.out Tryz.underlying44 rfl (by rw [info_ans]; rfl)) rfl G.out
theorem hact6 {w : World} {a : Ha} {S : Hs} {K : Nat} {X : List Int} {r : Nat} (x : Px) (hp : Hp w a S) (h : HI a S K X r) (_hK : K < 1000) (hv : RA byE w x.v x.bl) (_hbl : x.bl.length <= 100000) (_ho : -9223372036854775808 <= x.o /\ x.o <= 9223372036854775807) (_hn : -9223372036854775808 <= x.nn /\ x.nn <= 9223372036854775807) (hd : x.d = 6) :
 Calls Tryz.prog 44 #[.pointer (some ⟨a.z, 0, none⟩), .agg (pxc x)] w fun e w' => ActOut w w' a S K X r x e := by
 obtain ⟨W0, hW0⟩ : ∃ W0, w.alloc (.cells (pxc x) 41) = W0 := ⟨_, rfl⟩
 obtain ⟨W, hW⟩ : ∃ W, W0.alloc (.cells #[.int .i64 0, .int .i64 0, .slice none 0 0] 44) = W := ⟨_, rfl⟩
 have hs0 : W0.heap.size = w.heap.size + 1 := by rw [<- hW0, size_alloc]
 have HB : Below w.heap.size w W := by rw [<- hW, <- hW0]; exact bal (bal (Below.refl _ _))
 have HP : Pxv W w.heap.size x := by
  have := (Pxv.new w x).below (bal (o := .cells #[.int .i64 0, .int .i64 0, .slice none 0 0] 44) (Below.refl _ _))
  rw [<- hW, <- hW0]; exact this
 have HA : Anv W (w.heap.size + 1) 0 0 (.slice none 0 0) := by
  have := Anv.new W0 0 0 (.slice none 0 0)
  rw [<- hs0, <- hW]; exact this
 have HWp := hp.below HB
 have HWv := ra_below hv HB
 have c0 := HP.c0
 have AV := jz (fun w1 pl A t (q : POut W w1 a S K X r pl A t) => act_var hp HB HA (Nat.le_succ _) q)
 have C := jz (hreg_is (k := 2) HWp.hb h.live (by decide) h.hc.rt (by have := h.hc.rlt; omega))
 have q0 : POut W W a S K X r (plG X r) (x.d ≠ 5) (some 0) := pout_same (pl := plG X r) HWp (Below.refl _ _) (by intro q; cases q)
 obtain ⟨g1, g2⟩ := AV.out _ _ _ _ q0
 have HF := jz (fun c => (show ActOut w (W.setRow (w.heap.size + 1) c) a S K X r x (.returned (.agg (anc 0 (r : Int) (.slice none 0 0)))) from ⟨_, some 0, by rw [hd]; exact planG, ⟨.slice none 0 0, rfl, own_nil_a _ _ _⟩, g2 c⟩))
 rw [hd] at c0
 clear hp h _hK hv _hbl _ho _hn hd HA HP HWp HWv AV HB q0 g2
 generalize a.z = z at *
 generalize (r : Int) = ri at *
 go_enter Tryz.func44, Tryz.ntmps44
 go_wp2_with fail
 refine (C.out).mono ?_; rintro e w1 ⟨rfl, rfl⟩
 have G := jz (HF.out (anc 0 ri (.slice none 0 0)))
 have hst := g1.store (e' := 0) (o' := ri) (v' := .slice none 0 0) rfl
 have AP := jz (g1.put (e' := 0) (o' := ri) (v' := .slice none 0 0))
 clear g1
 obtain ⟨V, hV⟩ : ∃ V, W.setRow (w.heap.size + 1) (anc 0 ri (.slice none 0 0)) = V := ⟨_, rfl⟩
 rw [hV] at hst AP G
 go_wp2
 exact bodyPost_ret (v := .agg (anc 0 ri (.slice none 0 0))) (results_cell_row rfl _ _ _ _ _ _ _ rfl AP.out Tryz.underlying44 rfl (by rw [info_ans]; rfl)) rfl G.out
theorem hact0 {w : World} {a : Ha} {S : Hs} {K : Nat} {X : List Int} {r : Nat} (x : Px) (hp : Hp w a S) (_h : HI a S K X r) (_hK : K < 1000) (hv : RA byE w x.v x.bl) (_hbl : x.bl.length <= 100000) (_ho : -9223372036854775808 <= x.o /\ x.o <= 9223372036854775807) (_hn : -9223372036854775808 <= x.nn /\ x.nn <= 9223372036854775807) (hd : ¬ (1 <= x.d /\ x.d <= 6)) :
 Calls Tryz.prog 44 #[.pointer (some ⟨a.z, 0, none⟩), .agg (pxc x)] w fun e w' => ActOut w w' a S K X r x e := by
 obtain ⟨W0, hW0⟩ : ∃ W0, w.alloc (.cells (pxc x) 41) = W0 := ⟨_, rfl⟩
 obtain ⟨W, hW⟩ : ∃ W, W0.alloc (.cells #[.int .i64 0, .int .i64 0, .slice none 0 0] 44) = W := ⟨_, rfl⟩
 have hs0 : W0.heap.size = w.heap.size + 1 := by rw [<- hW0, size_alloc]
 have HB : Below w.heap.size w W := by rw [<- hW, <- hW0]; exact bal (bal (Below.refl _ _))
 have HP : Pxv W w.heap.size x := by
  have := (Pxv.new w x).below (bal (o := .cells #[.int .i64 0, .int .i64 0, .slice none 0 0] 44) (Below.refl _ _))
  rw [<- hW, <- hW0]; exact this
 have HA : Anv W (w.heap.size + 1) 0 0 (.slice none 0 0) := by
  have := Anv.new W0 0 0 (.slice none 0 0)
  rw [<- hs0, <- hW]; exact this
 have HWp := hp.below HB
 have HWv := ra_below hv HB
 have c0 := HP.c0
 have AV := jz (fun w1 pl A t (q : POut W w1 a S K X r pl A t) => act_var hp HB HA (Nat.le_succ _) q)
 have q0 : POut W W a S K X r (plNo X r 1) (x.d ≠ 5) (some 1) := pout_same (pl := plNo X r 1) HWp (Below.refl _ _) (by intro q; cases q)
 obtain ⟨g1, g2⟩ := AV.out _ _ _ _ q0
 have HF := jz (fun c => act_plain (x := x) (planE hd) (g2 c) rfl rfl)
 have i1 : (x.d == 1) = false := beq_eq_false_iff_ne.2 (by omega)
 have i2 : (x.d == 2) = false := beq_eq_false_iff_ne.2 (by omega)
 have i3 : (x.d == 3) = false := beq_eq_false_iff_ne.2 (by omega)
 have i4 : (x.d == 4) = false := beq_eq_false_iff_ne.2 (by omega)
 have i5 : (x.d == 5) = false := beq_eq_false_iff_ne.2 (by omega)
 have i6 : (x.d == 6) = false := beq_eq_false_iff_ne.2 (by omega)
 clear hp _h _hK hv _hbl _ho _hn hd HA HP HWp HWv AV HB q0 g2
 generalize a.z = z at *
 generalize x.d = xd at *
 have G := jz (HF.out (anc 1 0 (.slice none 0 0)))
 have hst := g1.store (e' := 1) (o' := 0) (v' := .slice none 0 0) rfl
 have AP := jz (g1.put (e' := 1) (o' := 0) (v' := .slice none 0 0))
 clear g1
 obtain ⟨V, hV⟩ : ∃ V, W.setRow (w.heap.size + 1) (anc 1 0 (.slice none 0 0)) = V := ⟨_, rfl⟩
 rw [hV] at hst AP G
 go_enter Tryz.func44, Tryz.ntmps44
 go_wp2
 exact bodyPost_ret (v := .agg (anc 1 0 (.slice none 0 0))) (results_cell_row rfl _ _ _ _ _ _ _ rfl AP.out Tryz.underlying44 rfl (by rw [info_ans]; rfl)) rfl G.out
theorem hact3 {w : World} {a : Ha} {S : Hs} {K : Nat} {X : List Int} {r : Nat} (x : Px) (hp : Hp w a S) (h : HI a S K X r) (_hK : K < 1000) (hv : RA byE w x.v x.bl) (_hbl : x.bl.length <= 100000) (_ho : -9223372036854775808 <= x.o /\ x.o <= 9223372036854775807) (hn : -9223372036854775808 <= x.nn /\ x.nn <= 9223372036854775807) (hd : x.d = 3) :
 Calls Tryz.prog 44 #[.pointer (some ⟨a.z, 0, none⟩), .agg (pxc x)] w fun e w' => ActOut w w' a S K X r x e := by
 obtain ⟨W0, hW0⟩ : ∃ W0, w.alloc (.cells (pxc x) 41) = W0 := ⟨_, rfl⟩
 obtain ⟨W, hW⟩ : ∃ W, W0.alloc (.cells #[.int .i64 0, .int .i64 0, .slice none 0 0] 44) = W := ⟨_, rfl⟩
 have hs0 : W0.heap.size = w.heap.size + 1 := by rw [<- hW0, size_alloc]
 have HB : Below w.heap.size w W := by rw [<- hW, <- hW0]; exact bal (bal (Below.refl _ _))
 have HP : Pxv W w.heap.size x := by
  have := (Pxv.new w x).below (bal (o := .cells #[.int .i64 0, .int .i64 0, .slice none 0 0] 44) (Below.refl _ _))
  rw [<- hW, <- hW0]; exact this
 have HA : Anv W (w.heap.size + 1) 0 0 (.slice none 0 0) := by
  have := Anv.new W0 0 0 (.slice none 0 0)
  rw [<- hs0, <- hW]; exact this
 have HWp := hp.below HB
 have HWv := ra_below hv HB
 have c0 := HP.c0
 have c1 : ∀ w', Chg [] W w' -> w'.cell? ⟨w.heap.size, 1, none⟩ = some (.int .i64 x.o) := fun w' hc => (HP.chg hc (by simp)).c1
 have c2 : ∀ w', Chg [] W w' -> w'.cell? ⟨w.heap.size, 2, none⟩ = some (.int .i64 x.nn) := fun w' hc => (HP.chg hc (by simp)).c2
 have AV := jz (fun w1 pl A t (q : POut W w1 a S K X r pl A t) => act_var hp HB HA (Nat.le_succ _) q)
 have hX := h.len
 have hbd : Below W.heap.size W W.drew := (Below.refl _ _).drew
 have C1 := jz (hwords_is (HWp.below hbd).hb h.num h.hc.lg h.live h.hc.has)
 have C2 := jz (fun w' v (q : RU w' v X) => rd_is X x.o x.nn v w' q (by omega) h.hc.ok hn)
 have HF := jz (fun w1 v (hb : Below W.heap.size W w1) (ow : OwnA byE W.heap.size w1 v (rdR X x.o x.nn)) => (show Anv w1 (w.heap.size + 1) 0 0 (.slice none 0 0) /\ ∀ c, ActOut w (w1.setRow (w.heap.size + 1) c) a S K X r x (.returned (.agg (anc (refF X x.o x.nn) 0 v))) from by
  obtain ⟨q1, q2⟩ := AV.out _ _ _ _ (pout_same (pl := plD X r x.o x.nn) (nr := x.d ≠ 5) (K := K) (X := X) (r := r) HWp hb (by intro q; cases q))
  refine ⟨q1, fun c => ⟨_, some (plD X r x.o x.nn).e, by rw [hd]; exact planD, ⟨v, ?_, ?_⟩, q2 c⟩⟩
  . rw [tld, if_pos rfl]; rfl
  . rw [tld, if_pos rfl]
    have o2 := ow.mono HB.size
    refine o2.chg (D := [w.heap.size + 1]) ((Chg.refl _ _).setRow (.inl (List.mem_singleton.2 rfl)) c) fun g hg => ?_
    have := (ow.lt g hg).1
    have h5 : W.heap.size = w.heap.size + 2 := by rw [<- hW, size_alloc, hs0]
    rw [List.mem_singleton]
    omega))
 rw [hd] at c0
 have HO := jz hbd
 clear hp h _hK hv _hbl _ho hn hd HA HP HWp HWv AV HB hX hbd
 generalize a.z = z at *
 generalize x.o = xo at *
 generalize x.nn = xn at *
 generalize refF X xo xn = er at *
 generalize rdR X xo xn = dl at *
 go_enter Tryz.func44, Tryz.ntmps44
 go_wp2_with fail
 go_region_held3 (fun w' => Chg [] W w')
  (first | assumption | exact (Chg.refl _ _).drew)
  (first
    | (go_at_call 59; refine (C1.out).mono ?_; rintro e wz ⟨⟨xv, rfl, ox⟩, hbz⟩
       have OX := jz ox
       obtain ⟨qx, cx, rfl⟩ := ox.shape
       have BZ := jz (HO.out.trans hbz)
       have CZ := jz (Chg.of_below (HO.out.trans hbz) [])
       clear hbz ox)
    | (go_at_call 78; refine (C2.out _ _ OX.out.ru).mono ?_; rintro e w1 ⟨⟨yv, rfl, oy⟩, hby⟩
       have HX := HF.out w1 yv (below_more BZ.out hby) (oy.mono BZ.out.size)
       obtain ⟨qy, cy, rfl, _⟩ := oy.shape
       have BY := jz (below_more BZ.out hby)
       have CY := jz (Chg.of_below (below_more BZ.out hby) [])
       have HY := jz HX
       clear hby oy HX))
 obtain ⟨g1, g2⟩ := HY.out
 generalize dl.length = dn at *
 have G := jz (g2 (anc er 0 (.slice qy dn cy)))
 have hst := g1.store (e' := er) (o' := 0) (v' := .slice qy dn cy) rfl
 have AP := jz (g1.put (e' := er) (o' := 0) (v' := .slice qy dn cy))
 clear g1
 obtain ⟨V, hV⟩ : ∃ V, w1.setRow (w.heap.size + 1) (anc er 0 (.slice qy dn cy)) = V := ⟨_, rfl⟩
 rw [hV] at hst AP G
 go_wp2
 exact bodyPost_ret (v := .agg (anc er 0 (.slice qy dn cy))) (results_cell_row rfl _ _ _ _ _ _ _ rfl AP.out Tryz.underlying44 rfl (by rw [info_ans]; rfl)) rfl G.out
theorem hact_is {w : World} {a : Ha} {S : Hs} {K : Nat} {X : List Int} {r : Nat} (x : Px) (hp : Hp w a S) (h : HI a S K X r) (hK : K < 1000) (hv : RA byE w x.v x.bl) (hbl : x.bl.length <= 100000) (ho : -9223372036854775808 <= x.o /\ x.o <= 9223372036854775807) (hn : -9223372036854775808 <= x.nn /\ x.nn <= 9223372036854775807) :
 Calls Tryz.prog 44 #[.pointer (some ⟨a.z, 0, none⟩), .agg (pxc x)] w fun e w' => ActOut w w' a S K X r x e := by
 by_cases h0 : ¬ (1 <= x.d /\ x.d <= 6)
 . exact hact0 x hp h hK hv hbl ho hn h0
 . by_cases h1 : x.d = 1
   . exact hact1 x hp h hK hv hbl ho hn h1
   by_cases h2 : x.d = 2
   . exact hact2 x hp h hK hv hbl ho hn h2
   by_cases h3 : x.d = 3
   . exact hact3 x hp h hK hv hbl ho hn h3
   by_cases h4 : x.d = 4
   . exact hact4 x hp h hK hv hbl ho hn h4
   by_cases h5 : x.d = 5
   . exact hact5 x hp h hK hv hbl ho hn h5
   exact hact6 x hp h hK hv hbl ho hn (by omega)
theorem pcatch_panicking (p : Addr) (x : Int) (u : TypeId) (pv : Value) (older : List PanicEntry) (w : World) (hc : w.cell? p = some (.int .i64 x)) (hz : w.frozen? p = false) :
 CallsD Tryz.prog 58 #[.pointer (some p)] (.panicking ({ v := .iface u pv, recovered := false } :: older)) w fun e u' w' =>
  e = .returned (.tuple #[]) /\ u' = .panicking ({ v := .iface u pv, recovered := true } :: older) /\ w' = w.setCell p (.int .i64 2) := by
 refine callsD_of_wpS Tryz.func58 rfl fun c₀ cs hu => ?_
 apply wpS_seq
 apply wpS_region
 simp [wpOpsS, go_sem, recoverD, hu, Tryz.ntmps58, Exit.thenS]
 refine wpS_cond (t := true) (by simp [Act.eval, Array.replicate]) ?_
 simp only [if_true]
 apply wpS_region
 simp [wpOpsS, go_sem, hc, hz, bodyPostS, results, Tryz.results58]
theorem pcatch_idle (p : Addr) (w : World) :
 CallsD Tryz.prog 58 #[.pointer (some p)] .returning w fun e u' w' => e = .returned (.tuple #[]) /\ u' = .returning /\ w' = w := by
 refine callsD_of_wpS Tryz.func58 rfl fun c₀ cs hu => ?_
 apply wpS_seq
 apply wpS_region
 simp [wpOpsS, go_sem, recoverD, hu, Tryz.ntmps58, Exit.thenS]
 refine wpS_cond (t := false) (by simp [Act.eval, Array.replicate]) ?_
 simp only [Bool.false_eq_true, if_false]
 refine wpS_of_wp (wp_skip ?_)
 cases c₀
 simp_all [bodyPostS, results, Tryz.results58]
def OkErr (w0 w : World) : Prop := w.cell? ⟨w0.heap.size, 0, none⟩ = some (.int .i64 0) /\ w.frozen? ⟨w0.heap.size, 0, none⟩ = false
theorem powered_is (f : FuncId) (cap : Array Value) (w : World) (R0 : World -> Prop) (R1 : World -> Prop) (hi : ∀ w, (callFunc f cap).run Tryz.prog w = .ok (.enter f cap) w)
 (hcall : Calls Tryz.prog f cap (w.alloc (.cells #[.int .i64 0] 32)) fun e w' => OkErr w w' /\ ((e = .returned (.tuple #[]) /\ R0 w') \/ (Dies e /\ R1 w'))) :
 Calls Tryz.prog 29 #[.func (.func f) #[] cap] w fun e w' => (e = .returned (.int .i64 0) /\ ∃ w1, R0 w1 /\ w' = w1.setCell ⟨w.heap.size, 0, none⟩ (.int .i64 0)) \/ (e = .returned (.int .i64 2) /\ ∃ w1, R1 w1 /\ w' = w1.setCell ⟨w.heap.size, 0, none⟩ (.int .i64 2)) := by
 have hmf : ∀ (fn : Fn) (first cap : Array Value) (w : World), (Instr.makeFunc fn first cap).run Tryz.prog w = .ok (.func fn first cap) w := fun _ _ _ _ => rfl
 have H := jz hcall
 clear hcall
 go_enter_defers Tryz.func29, Tryz.ntmps29
 go_wp2_with fail
 refine (H.out).mono ?_; rintro e w1 ⟨⟨hc, hz⟩, ⟨rfl, hR⟩ | ⟨⟨u, pv, rfl⟩, hR⟩⟩
 . have HR := jz hR
   clear hR
   go_wp2
   refine leaves_cons (f := 58) (args := #[.pointer (some ⟨w.heap.size, 0, none⟩)]) (by simp) (by simp [go_sem]) ?_
   refine (pcatch_idle ⟨w.heap.size, 0, none⟩ _).mono ?_
   rintro e u' w'' ⟨rfl, rfl, rfl⟩
   simp [Leaves, settle, results, Tryz.results29, go_sem, hc]
   exact ⟨w1, HR.out, rfl⟩
 . have HR := jz hR
   clear hR
   go_wp2
   refine leaves_cons (f := 58) (args := #[.pointer (some ⟨w.heap.size, 0, none⟩)]) (by simp) (by simp [go_sem]) ?_
   refine (pcatch_panicking ⟨w.heap.size, 0, none⟩ 0 u pv [] _ hc hz).mono ?_
   rintro e u' w'' ⟨rfl, rfl, rfl⟩
   simp [Leaves, settle, results, Tryz.results29, go_sem, hc]
   exact ⟨w1, HR.out, rfl⟩
theorem Hp.all {w : World} {a : Ha} {S : Hs} (hp : Hp w a S) : a.z < w.heap.size /\ a.g < w.heap.size /\ a.y < w.heap.size /\ a.q < w.heap.size /\ a.x < w.heap.size /\ a.k < w.heap.size /\ a.kg < w.heap.size :=
 ⟨hp.hb.lt, hp.hb.lg.nm.lt, Whole.lt hp.hb.lg.tq, Whole.lt hp.hb.lg.lq, hp.hb.lg.xlt, hp.cq.ltx, hp.cq.ltg⟩
theorem Hp.past {w w1 w' : World} {a : Ha} {S S' : Hs} {E : List Nat} (hp : Hp w a S) (h : Hp w1 a S') (hc : Chg E w1 w') (hE : ∀ k ∈ E, w.heap.size <= k) : Hp w' a S' := by
 have ha := hp.all
 have hne : ∀ k, k < w.heap.size -> k ∉ E := fun k hk q => by have := hE k q; omega
 exact h.chg hc (hne _ ha.1) (hne _ ha.2.1) (hne _ ha.2.2.1) (hne _ ha.2.2.2.1) (hne _ ha.2.2.2.2.1) (hne _ ha.2.2.2.2.2.1) (hne _ ha.2.2.2.2.2.2)
theorem chg_past {w w1 w' : World} {D E : List Nat} (h : Chg D w w1) (hc : Chg E w1 w') (hE : ∀ k ∈ E, w.heap.size <= k) : Chg D w w' :=
 ⟨hc.os.trans h.os, hc.tape.trans h.tape, hc.output.trans h.output, Nat.le_trans h.size hc.size, fun k hk hD => (hc.block k (Nat.lt_of_lt_of_le hk h.size) fun q => by have := hE k q; omega).trans (h.block k hk hD)⟩
theorem POut.past {w w1 w' : World} {a : Ha} {S : Hs} {K : Nat} {X : List Int} {r : Nat} {pl : Aim} {A : Prop} {t : Option Int} {E : List Nat} (h : POut w w1 a S K X r pl A t) (hp : Hp w a S) (hc : Chg E w1 w') (hE : ∀ k ∈ E, w.heap.size <= k) : POut w w' a S K X r pl A t := by
 obtain ⟨S', g1, g2, h⟩ := h
 exact ⟨S', hp.past g1 hc hE, chg_past g2 hc hE, h⟩
def dE : Option Int -> Int
 | some y => y
 | none => 2
def dO (pl : Aim) : Option Int -> Int × List Int
 | some y => tld pl y
 | none => (0, [])
def DoOut (w w' : World) (a : Ha) (S : Hs) (K : Nat) (X : List Int) (r : Nat) (x : Px) (e : Ending) : Prop :=
 ∃ pl t v, PlanOf X r S.ct.ints x.d x.o x.nn x.bl pl /\ e = .returned (.agg (anc (dE t) (dO pl t).1 v)) /\ OwnA byE w.heap.size w' v (dO pl t).2 /\ POut w w' a S K X r pl (x.d ≠ 5) t
def Do0 (w : World) (b3 : Nat) (a : Ha) (S : Hs) (K : Nat) (X : List Int) (r : Nat) (x : Px) (w' : World) : Prop :=
 ∃ pl y v w1, PlanOf X r S.ct.ints x.d x.o x.nn x.bl pl /\ OwnA byE w.heap.size w1 v (tld pl y).2 /\ POut w w1 a S K X r pl (x.d ≠ 5) (some y) /\ w' = w1.setRow b3 (anc y (tld pl y).1 v)
def Do1 (w : World) (a : Ha) (S : Hs) (K : Nat) (X : List Int) (r : Nat) (x : Px) (w' : World) : Prop :=
 ∃ pl, PlanOf X r S.ct.ints x.d x.o x.nn x.bl pl /\ POut w w' a S K X r pl (x.d ≠ 5) none
structure PxOk (w : World) (x : Px) : Prop where
 v : RA byE w x.v x.bl
 len : x.bl.length <= 100000
 o : -9223372036854775808 <= x.o /\ x.o <= 9223372036854775807
 n : -9223372036854775808 <= x.nn /\ x.nn <= 9223372036854775807
theorem PxOk.below {w w' : World} {x : Px} (h : PxOk w x) (hb : Below w.heap.size w w') : PxOk w' x := ⟨ra_below h.v hb, h.len, h.o, h.n⟩
theorem hdo1_is {w : World} {a : Ha} {S : Hs} {K : Nat} {X : List Int} {r : Nat} (x : Px) (b0 b1 b3 : Nat) (hp : Hp w a S) (h : HI a S K X r) (hK : K < 1000) (hx : PxOk w x) (c0 : w.cell? ⟨b0, 0, none⟩ = some (.pointer (some ⟨a.z, 0, none⟩))) (hP : Pxv w b1 x) (hA : Anv w b3 0 0 (.slice none 0 0)) (h3 : b3 ∉ a.D) :
 Calls Tryz.prog 43 #[.pointer (some ⟨b0, 0, none⟩), .pointer (some ⟨b1, 0, none⟩), .pointer (some ⟨b3, 0, none⟩)] w fun e w' => (e = .returned (.tuple #[]) /\ Do0 w b3 a S K X r x w') \/ (Dies e /\ Do1 w a S K X r x w') := by
 have ld : (pxLoad (.pointer (some ⟨b1, 0, none⟩))).run Tryz.prog w = .ok (.agg (pxc x)) w := run_pxLoad fun j u hj => by rw [Whole.at_ hP, Nat.zero_add, <- hj]; simp [pxc]
 have C := jz (hact_is x hp h hK hx.v hx.len hx.o hx.n)
 have HF := jz (fun w1 (q : Chg a.D w w1) => hA.chg q h3)
 clear hp h hK hx hP hA h3
 generalize a.z = z at *
 generalize pxc x = xc at *
 go_enter Tryz.func43, Tryz.ntmps43
 go_wp2_with fail
 refine (C.out).mono ?_; rintro e w1 ⟨pl, t, h1, h2, h3⟩
 cases t with
 | none =>
   obtain ⟨u, pv, rfl⟩ := h2
   have G : Hid (Do1 w a S K X r x w1) := jz ⟨pl, h1, h3⟩
   clear h1 h3
   go_wp2
   exact ⟨rfl, .inr ⟨⟨_, _, rfl⟩, G.out⟩⟩
 | some y =>
   obtain ⟨v, rfl, ov⟩ := h2
   have hst := (HF.out _ h3.keep).store (e' := y) (o' := (tld pl y).1) (v' := v) (ra_one ov.ra)
   have G : Hid (Do0 w b3 a S K X r x (w1.setRow b3 (anc y (tld pl y).1 v))) := jz ⟨pl, y, v, w1, h1, ov, h3, rfl⟩
   clear h1 h3 ov
   generalize anc y (tld pl y).1 v = av at *
   go_wp2
   go_end0
   exact .inl ⟨rfl, G.out⟩
theorem hdo_is {w : World} {a : Ha} {S : Hs} {K : Nat} {X : List Int} {r : Nat} (x : Px) (hp : Hp w a S) (h : HI a S K X r) (hK : K < 1000) (hx : PxOk w x) :
 Calls Tryz.prog 14 #[.pointer (some ⟨a.z, 0, none⟩), .agg (pxc x)] w fun e w' => DoOut w w' a S K X r x e := by
 have hmf : ∀ (fn : Fn) (first cap : Array Value) (w : World), (Instr.makeFunc fn first cap).run Tryz.prog w = .ok (.func fn first cap) w := fun _ _ _ _ => rfl
 obtain ⟨W0, hW0⟩ : ∃ W0, w.alloc (.cells #[.pointer (some ⟨a.z, 0, none⟩)] 34) = W0 := ⟨_, rfl⟩
 obtain ⟨W1, hW1⟩ : ∃ W1, W0.alloc (.cells (pxc x) 41) = W1 := ⟨_, rfl⟩
 obtain ⟨W2, hW2⟩ : ∃ W2, W1.alloc (.cells #[.int .i64 0, .int .i64 0, .slice none 0 0] 44) = W2 := ⟨_, rfl⟩
 obtain ⟨W, hW⟩ : ∃ W, W2.alloc (.cells #[.int .i64 0, .int .i64 0, .slice none 0 0] 44) = W := ⟨_, rfl⟩
 have s0 : W0.heap.size = w.heap.size + 1 := by rw [<- hW0, size_alloc]
 have s1 : W1.heap.size = w.heap.size + 2 := by rw [<- hW1, size_alloc, s0]
 have s2 : W2.heap.size = w.heap.size + 3 := by rw [<- hW2, size_alloc, s1]
 have s3 : W.heap.size = w.heap.size + 4 := by rw [<- hW, size_alloc, s2]
 have B0 : Below w.heap.size w W0 := by rw [<- hW0]; exact bal (Below.refl _ _)
 have B1 : Below W0.heap.size W0 W1 := by rw [<- hW1]; exact bal (Below.refl _ _)
 have B2 : Below W1.heap.size W1 W2 := by rw [<- hW2]; exact bal (Below.refl _ _)
 have B3 : Below W2.heap.size W2 W := by rw [<- hW]; exact bal (Below.refl _ _)
 have HB2 : Below w.heap.size w W2 := below_more (below_more B0 B1) B2
 have HB : Below w.heap.size w W := below_more HB2 B3
 have q0 : Whole W0 w.heap.size 34 #[.pointer (some ⟨a.z, 0, none⟩)] := by rw [<- hW0]; exact heap_alloc_new w _
 have HQ2 : Whole W2 w.heap.size 34 #[.pointer (some ⟨a.z, 0, none⟩)] := (B2.block _ (by omega)).trans ((B1.block _ (Whole.lt q0)).trans q0)
 have HQ : Whole W w.heap.size 34 #[.pointer (some ⟨a.z, 0, none⟩)] := (B3.block _ (by omega)).trans HQ2
 have q1 : Pxv W1 (w.heap.size + 1) x := by rw [<- s0, <- hW1]; exact Pxv.new W0 x
 have HP : Pxv W (w.heap.size + 1) x := (q1.below B2).below B3
 have q2 : Anv W2 (w.heap.size + 2) 0 0 (.slice none 0 0) := by rw [<- s1, <- hW2]; exact Anv.new W1 0 0 _
 have HA2 : Anv W (w.heap.size + 2) 0 0 (.slice none 0 0) := q2.below B3
 have HA3 : Anv W (w.heap.size + 3) 0 0 (.slice none 0 0) := by rw [<- s2, <- hW]; exact Anv.new W2 0 0 _
 -- in powered
 obtain ⟨V, hV⟩ : ∃ V, W.alloc (.cells #[.int .i64 0] 32) = V := ⟨_, rfl⟩
 have BV : Below W.heap.size W V := by rw [<- hV]; exact bal (Below.refl _ _)
 have HBV : Below w.heap.size w V := below_more HB BV
 have sV : V.heap.size = w.heap.size + 5 := by rw [<- hV, size_alloc, s3]
 have hE : Whole V (w.heap.size + 4) 32 #[.int .i64 0] := by rw [<- s3, <- hV]; exact heap_alloc_new W _
 have c0 : V.cell? ⟨w.heap.size, 0, none⟩ = some (.pointer (some ⟨a.z, 0, none⟩)) := by
  have : Whole V w.heap.size 34 #[.pointer (some ⟨a.z, 0, none⟩)] := (BV.block _ (by omega)).trans HQ
  rw [Whole.at_ this]; rfl
 have ha := hp.all
 have hfar : ∀ k, w.heap.size <= k -> k ∉ a.D := fun k hk q => by simp [Ha.D] at q; omega
 have HC := jz (hdo1_is x w.heap.size (w.heap.size + 1) (w.heap.size + 3) (hp.below HBV) h hK (hx.below HBV) c0 (HP.below BV) (HA3.below BV) (hfar _ (by omega)))
 -- what is there behind it
 have R0 : Hid (∀ w', Do0 V (w.heap.size + 3) a S K X r x w' -> OkErr W w') := jz fun w' hq => by
  obtain ⟨pl, y, v, w1, g1, g2, g3, rfl⟩ := hq
  have e1 : Whole w1 (w.heap.size + 4) 32 #[.int .i64 0] := g3.keep.whole hE (hfar _ (by omega))
  have e2 : Whole (w1.setRow (w.heap.size + 3) (anc y (tld pl y).1 v)) (w.heap.size + 4) 32 #[.int .i64 0] := ((Chg.refl [w.heap.size + 3] w1).setRow (.inl (List.mem_singleton.2 rfl)) _).whole e1 (by rw [List.mem_singleton]; omega)
  unfold OkErr
  rw [s3]
  exact ⟨by rw [Whole.at_ e2]; rfl, Whole.free e2 0⟩
 have R1 : Hid (∀ w', Do1 V a S K X r x w' -> OkErr W w') := jz fun w' hq => by
  obtain ⟨pl, g1, g3⟩ := hq
  have e1 : Whole w' (w.heap.size + 4) 32 #[.int .i64 0] := g3.keep.whole hE (hfar _ (by omega))
  unfold OkErr
  rw [s3]
  exact ⟨by rw [Whole.at_ e1]; rfl, Whole.free e1 0⟩
 have HPW := jz (powered_is 43 #[.pointer (some ⟨w.heap.size, 0, none⟩), .pointer (some ⟨w.heap.size + 1, 0, none⟩), .pointer (some ⟨w.heap.size + 3, 0, none⟩)] W (Do0 V (w.heap.size + 3) a S K X r x) (Do1 V a S K X r x) (fun _ => rfl) (by
  rw [hV]
  refine HC.out.mono ?_
  rintro e w' (⟨he, hq⟩ | ⟨he, hq⟩)
  . exact ⟨R0.out _ hq, .inl ⟨he, hq⟩⟩
  . exact ⟨R1.out _ hq, .inr ⟨he, hq⟩⟩))
 have OP := jz (hopd_is (hp.below HB2).hb)
 have HF0 : Hid (∀ w1, Do0 V (w.heap.size + 3) a S K X r x w1 -> ∃ y o v, (y = 0 \/ y ≠ 0) /\ v.oneCell' = true /\ Anv (w1.setCell ⟨W.heap.size, 0, none⟩ (.int .i64 0)) (w.heap.size + 3) y o v /\ Anv (w1.setCell ⟨W.heap.size, 0, none⟩ (.int .i64 0)) (w.heap.size + 2) 0 0 (.slice none 0 0) /\ ∀ c, DoOut w ((w1.setCell ⟨W.heap.size, 0, none⟩ (.int .i64 0)).setRow (w.heap.size + 2) c) a S K X r x (.returned (.agg (anc y o v)))) := jz fun w1 hq => by
  obtain ⟨pl, y, v, w0, g1, g2, g3, rfl⟩ := hq
  have k3 : Anv w0 (w.heap.size + 3) 0 0 (.slice none 0 0) := (HA3.below BV).chg g3.keep (hfar _ (by omega))
  have k2 : Anv w0 (w.heap.size + 2) 0 0 (.slice none 0 0) := (HA2.below BV).chg g3.keep (hfar _ (by omega))
  have hc : ∀ c, Chg [w.heap.size + 3, w.heap.size + 4, w.heap.size + 2] w0 ((((w0.setRow (w.heap.size + 3) (anc y (tld pl y).1 v)).setCell ⟨W.heap.size, 0, none⟩ (.int .i64 0))).setRow (w.heap.size + 2) c) := fun c => (((Chg.refl _ w0).setRow (.inl (by simp)) _).setCell (p := ⟨W.heap.size, 0, none⟩) (.inl (by rw [s3]; simp)) _).setRow (.inl (by simp)) c
  have k3' : Anv (w0.setRow (w.heap.size + 3) (anc y (tld pl y).1 v)) (w.heap.size + 3) y (tld pl y).1 v := k3.put
  refine ⟨y, (tld pl y).1, v, Classical.em _, ra_one g2.ra, Whole.other k3' (p := ⟨W.heap.size, 0, none⟩) (by rw [s3]; simp) _, ?_, fun c => ⟨pl, some y, v, g1, rfl, ?_, (g3.from_below HBV).past hp (hc c) (fun k hk => by simp at hk; omega)⟩⟩
  . refine Whole.other (p := ⟨W.heap.size, 0, none⟩) ?_ (by rw [s3]; simp) _
    exact ((Chg.refl [w.heap.size + 3] w0).setRow (.inl (by simp)) _).whole k2 (by simp)
  . refine ((g2.mono HBV.size).chg (hc c) fun g hg q => ?_)
    have := (g2.lt g hg).1
    simp at q
    omega
 have HF1 : Hid (∀ w1, Do1 V a S K X r x w1 -> Anv (w1.setCell ⟨W.heap.size, 0, none⟩ (.int .i64 2)) (w.heap.size + 2) 0 0 (.slice none 0 0) /\ ∀ c, DoOut w ((w1.setCell ⟨W.heap.size, 0, none⟩ (.int .i64 2)).setRow (w.heap.size + 2) c) a S K X r x (.returned (.agg (anc 2 0 (.slice none 0 0))))) := jz fun w1 hq => by
  obtain ⟨pl, g1, g3⟩ := hq
  have k2 : Anv w1 (w.heap.size + 2) 0 0 (.slice none 0 0) := (HA2.below BV).chg g3.keep (hfar _ (by omega))
  have hc : ∀ c, Chg [w.heap.size + 4, w.heap.size + 2] w1 (((w1.setCell ⟨W.heap.size, 0, none⟩ (.int .i64 2))).setRow (w.heap.size + 2) c) := fun c => ((Chg.refl _ w1).setCell (p := ⟨W.heap.size, 0, none⟩) (.inl (by rw [s3]; simp)) _).setRow (.inl (by simp)) c
  refine ⟨Whole.other k2 (p := ⟨W.heap.size, 0, none⟩) (by rw [s3]; simp) _, fun c => ⟨pl, none, .slice none 0 0, g1, rfl, own_nil_a _ _ _, (g3.from_below HBV).past hp (hc c) (fun k hk => by simp at hk; omega)⟩⟩
 have cz2 : W2.cell? ⟨w.heap.size, 0, none⟩ = some (.pointer (some ⟨a.z, 0, none⟩)) := by rw [Whole.at_ HQ2]; rfl
 clear hp h hK hx B0 B1 B2 B3 HB2 HB q0 HQ2 HQ q1 HP q2 HA2 HA3 BV HBV hE c0 ha hfar HC R0 R1 hV sV
 generalize a.z = z at *
 generalize pxc x = xc at *
 go_enter Tryz.func14, Tryz.ntmps14
 go_wp2_with fail
 refine (OP.out).mono ?_; rintro e w1 ⟨rfl, rfl⟩
 go_wp2_with fail
 refine (HPW.out).mono ?_; rintro e w1 (⟨rfl, w2, hq, rfl⟩ | ⟨rfl, w2, hq, rfl⟩)
 . obtain ⟨y, o, v, _, h1, k3, k2, hF⟩ := HF0.out _ hq
   have ld := k3.load
   have hst := k2.store (e' := y) (o' := o) (v' := v) h1
   have AP := jz (k2.put (e' := y) (o' := o) (v' := v))
   have G := jz (hF (anc y o v))
   clear hq h1 k3 k2 hF HF0 HF1 HPW OP cz2
   generalize w2.setCell ⟨W.heap.size, 0, none⟩ (.int .i64 0) = V1 at *
   generalize hV2 : V1.setRow (w.heap.size + 2) (anc y o v) = V2 at *
   go_wp2
   exact bodyPost_ret (v := .agg (anc y o v)) (results_cell_row rfl _ _ _ _ _ _ _ rfl AP.out Tryz.underlying44 rfl (by rw [info_ans]; rfl)) rfl G.out
 . obtain ⟨k2, hF⟩ := HF1.out _ hq
   have hst := k2.store (e' := 2) (o' := 0) (v' := .slice none 0 0) rfl
   have AP := jz (k2.put (e' := 2) (o' := 0) (v' := .slice none 0 0))
   have G := jz (hF (anc 2 0 (.slice none 0 0)))
   clear hq k2 hF HF0 HF1 HPW OP cz2
   generalize w2.setCell ⟨W.heap.size, 0, none⟩ (.int .i64 2) = V1 at *
   generalize hV2 : V1.setRow (w.heap.size + 2) (anc 2 0 (.slice none 0 0)) = V2 at *
   go_wp2
   exact bodyPost_ret (v := .agg (anc 2 0 (.slice none 0 0))) (results_cell_row rfl _ _ _ _ _ _ _ rfl AP.out Tryz.underlying44 rfl (by rw [info_ans]; rfl)) rfl G.out
theorem own_chg_u {B : Nat} {D : List Nat} {w w' : World} {v : Value} {l : List Int} (h : OwnU B w v l) (hc : Chg D w w') (hD : ∀ k ∈ D, k < B) : OwnU B w' v l := by
 refine ⟨h.1, h.2.imp id ?_⟩
 rintro ⟨g, cap, cur, hv, h1, hg, r⟩
 exact ⟨g, cap, cur, hv, h1, (hc.block g (Array.getElem?_eq_some_iff.1 hg).1 (fun hm => by have := hD g hm; omega)).trans hg, r⟩
theorem hready_up {w : World} {g : Nat} {s : Nv} {l sp p b : Int} (h : May l sp p b) (hN : Nm w g s) (hl : (s.n : Int) = dvM l sp) (hd : s.dark = false) :
 Calls Tryz.prog 20 #[.pointer (some ⟨g, 0, none⟩), (Value.agg #[Value.int IntKind.i64 l, Value.int IntKind.i64 sp, Value.int IntKind.i64 p, Value.int IntKind.i64 b])] w fun e w' => e = .returned (.int .i64 0) /\ Below w.heap.size w w' := by
 obtain ⟨W, hW, H⟩ := plan_boxed w l sp p b
 have l0 : ∀ w', Kept (Below W.heap.size W w') -> (planLoad (.pointer (some ⟨w.heap.size, 0, none⟩))).run Tryz.prog w' = .ok (Value.agg #[Value.int IntKind.i64 l, Value.int IntKind.i64 sp, Value.int IntKind.i64 p, Value.int IntKind.i64 b]) w' := fun w' hb => (H.out.1.below hb.out).load
 have HB := jz H.out.2
 have C1 := jz (fun w => pmay_yes h w)
 have C2 := jz (fun w' (hb : Kept (Below W.heap.size W w')) => (show Calls Tryz.prog 47 #[.pointer (some ⟨g, 0, none⟩)] w' fun e w2 => e = .returned (.int .i64 (s.n : Int)) /\ w' = w2 from lines_any g s w' ((hN.below H.out.2).below hb.out)))
 have C3 := jz (fun w => device_any (p := p) (b := b) h rfl w)
 have C4 := jz (fun w' (hb : Below W.heap.size W w') => down_any g s w' ((hN.below H.out.2).below hb))
 rw [hl] at C2
 rw [hd] at C4
 generalize dvM l sp = dv at *
 clear h hN hl hd H
 go_enter Tryz.func20, Tryz.ntmps20
 go_wp2_with fail
 go_region_held3 (fun w' => Kept (Below W.heap.size W w'))
  (first | assumption | exact ⟨(Below.refl _ _).drew⟩)
  (first
    | (go_at_call 18; refine (C1.out _).mono ?_; rintro e wz ⟨rfl, hbz⟩
       have K1 : Kept (Below W.heap.size W wz) := ⟨below_more (Below.refl _ _).drew hbz⟩
       clear hbz)
    | (go_at_call 47; refine (C2.out _ (by assumption)).mono ?_; rintro e wz ⟨rfl, rfl⟩)
    | (go_at_call 8; refine (C3.out _).mono ?_; rintro e wy ⟨rfl, hby⟩
       have K2 : Kept (Below W.heap.size W wy) := ⟨below_more K1.out hby⟩
       clear hby))
 all_goals
  go_wp2_with fail
  refine (C4.out _ K2.out).mono ?_; rintro e w3 ⟨rfl, rfl⟩
  have D3 := jz (below_more HB.out K2.out)
  go_wp2_with fail
  go_ret
  exact ⟨rfl, D3.out⟩
theorem hlines_is {w : World} {a : Ha} {s : Nv} {M : Nat} (hn : HNum a) (hN : Nm w a.g s) (T : TOk s (16 + a.N) a.P M) (hM : M <= 1099511627776) :
 Calls Tryz.prog 22 #[.pointer (some ⟨a.g, 0, none⟩), (Value.agg #[Value.int IntKind.i64 (a.N : Int), Value.int IntKind.i64 (a.P : Int), Value.int IntKind.i64 (a.per : Int), Value.int IntKind.i64 (a.b : Int)])] w fun e w' => ∃ y q, e = .returned (.pointer (some ⟨y, 0, none⟩)) /\ w.heap.size <= y /\ w.heap.size <= q /\ y ≠ q /\ Lq w' q a.g (16 + a.N + 1) a.P /\ Tq w' y a.g q (16 + a.N) a.per 0 /\ Below w.heap.size w w' := by
 obtain ⟨W, hW, H⟩ := plan_boxed w (a.N : Int) (a.P : Int) (a.per : Int) (a.b : Int)
 have hnN := hn.N
 have l0 : ∀ w', Kept (Below W.heap.size W w') -> (planLoad (.pointer (some ⟨w.heap.size, 0, none⟩))).run Tryz.prog w' = .ok (Value.agg #[Value.int IntKind.i64 (a.N : Int), Value.int IntKind.i64 (a.P : Int), Value.int IntKind.i64 (a.per : Int), Value.int IntKind.i64 (a.b : Int)]) w' := fun w' hb => (H.out.1.below hb.out).load
 have c1 : ∀ w', Kept (Below W.heap.size W w') -> w'.cell? ⟨w.heap.size, 1, none⟩ = some (.int .i64 (a.P : Int)) := fun w' hb => (H.out.1.below hb.out).c1
 have c2 : ∀ w', Kept (Below W.heap.size W w') -> w'.cell? ⟨w.heap.size, 2, none⟩ = some (.int .i64 (a.per : Int)) := fun w' hb => by rw [Whole.at_ (H.out.1.below hb.out)]; rfl
 have HB := jz H.out.2
 have C1 := jz (fun w => logical_yes hn.may rfl w)
 have C2 := jz (fun w' (hb : Kept (Below W.heap.size W w')) => tnew_yes T (by omega) (by omega) hn.per.1 hn.per.2 hM ((hN.below H.out.2).below hb.out))
 have HS : Hid (w.heap.size <= W.heap.size) := jz H.out.2.size
 clear hn hN T hM H hnN
 generalize a.g = g at *
 generalize a.N = N at *
 generalize a.P = P at *
 generalize a.per = per at *
 generalize a.b = b at *
 generalize 16 + N = n at *
 go_enter Tryz.func22, Tryz.ntmps22
 go_wp2_with fail
 go_region_held3 (fun w' => Kept (Below W.heap.size W w'))
  (first | assumption | exact ⟨(Below.refl _ _).drew⟩)
  (first
    | (go_at_call 19; refine (C1.out _).mono ?_; rintro e wz ⟨rfl, hbz⟩
       have K1 : Kept (Below W.heap.size W wz) := ⟨below_more (Below.refl _ _).drew hbz⟩
       clear hbz)
    | (go_at_call 50; refine (C2.out _ K1).mono ?_; rintro e wy ⟨y, q, rfl, h1, h2, h3, h4, h5, hby⟩
       have K2 : Kept (Below W.heap.size W wy) := ⟨below_more K1.out hby⟩
       have G := jz (And.intro (Nat.le_trans K1.out.size h1) (And.intro (Nat.le_trans K1.out.size h2) (And.intro h3 (And.intro h4 h5))))
       clear hby h1 h2 h3 h4 h5))
 all_goals
  have D3 := jz (below_more HB.out K2.out)
  go_wp2_with fail
  go_ret
  exact ⟨_, _, rfl, Nat.le_trans HS.out G.out.1, Nat.le_trans HS.out G.out.2.1, G.out.2.2.1, G.out.2.2.2.1, G.out.2.2.2.2, D3.out⟩
theorem hunused_yes {w : World} {g : Nat} {s : Nv} (hN : Nm w g s) (hd : s.dark = false) (h : ∀ k, k < 35 -> s.rg k = 0) : Calls Tryz.prog 21 #[.pointer (some ⟨g, 0, none⟩)] w fun e w' => e = .returned (.bool true) /\ w = w' := by
 have C := jz (fun (k : Nat) (hk : k < 35) => (show Calls Tryz.prog 49 #[.pointer (some ⟨g, 0, none⟩), .int .i64 k] w fun e w' => e = .returned (.tuple #[.int .u64 0, .int .i64 0]) /\ w = w' from by
  have := reg_yes g s k w hN (by have : hasR (k : Int) = true := by simp [hasR]; omega
                                 simp [Nv.rdy, this, hd])
  rwa [h k hk] at this))
 clear hN hd h
 go_enter Tryz.func21, Tryz.ntmps21
 go_wp2
 go_loopw [6] (fun i wr => ∃ k : Nat, k <= 35 /\ i = .int .i64 k /\ w = wr) (fun i _ => 35 - (intOf i).toNat)
 case atStart => exact ⟨0, Nat.zero_le _, rfl, rfl⟩
 case round =>
  obtain ⟨k, hk, rfl, rfl⟩ := hrel
  by_cases hlt : k < 35
  . have C1 := jz (C.out k hlt)
    have i1 : (k : Int) < 35 := by omega
    have i3 : IntKind.i64.wrap ((k : Int) + 1) = ((k + 1 : Nat) : Int) := by rw [show (k : Int) + 1 = ((k + 1 : Nat) : Int) by omega]; exact i64_nat _ (by omega)
    have HK := jz hlt
    clear hk hlt
    go_wp2_with fail
    refine (C1.out).mono ?_; rintro e w1 ⟨rfl, rfl⟩
    go_wp2
    go_roundw
    case rel => exact ⟨k + 1, by have := HK.out; omega, by go_num, by first | trivial | rfl⟩
    case measure => have := HK.out; simp [intOf]; omega
  . obtain rfl : k = 35 := by omega
    go_wp2
    go_ret
    exact ⟨rfl, rfl⟩
theorem hlay_same {w : World} {g y q n P per p b : Nat} {s : Nv} {d : List Int} (G : GOk s n P) (hd : s.dark = false) (hn2 : n <= 1000) (hb : b < n) (hy : th s n P b = d) (hd8 : d.length = 8) (h : Tq w y g q n per p) (hQ : Lq w q g (n + 1) P) (hN : Nm w g s) :
 Calls Tryz.prog 24 #[.pointer (some ⟨y, 0, none⟩), .int .i64 (b : Int), .agg (lc d)] w fun e w' => e = .returned (.int .i64 0) /\ Below w.heap.size w w' := by
 obtain ⟨W, hW, H0⟩ := boxed1 w hd8
 have C := jz (tget_is hy (G.tok hd) hn2 hb (h.below H0.out.2) (hQ.below H0.out.2) (hN.below H0.out.2))
 have HB := jz H0.out.2
 have HL := jz H0.out.1
 have H8 := jz hd8
 clear G hd hn2 hb hy h hQ hN H0
 go_enter Tryz.func24, Tryz.ntmps24
 go_wp2_with fail
 refine (C.out).mono ?_; rintro e w1 ⟨rfl, b1⟩
 have D1 := jz (below_more HB.out b1)
 have l1 := jz (HL.out.below b1)
 obtain ⟨V, hV, HV⟩ := boxed1 w1 H8.out
 have l5 := (l1.out.below HV.out.2).load
 have l7 := HV.out.1.load
 have D2 := jz (below_more D1.out HV.out.2)
 clear b1 HV
 have i1 : (d == d) = true := by simp
 go_wp2_with fail
 go_ret
 exact ⟨rfl, D2.out⟩
theorem hlay_put {w : World} {g y q n P per p b : Nat} {s : Nv} {d : List Int} {R : Int × Nv} (hR : tput n P per p (tm s) b d s = R) (G : GOk s n P) (hd : s.dark = false) (hn2 : n <= 1000) (hb : b < n) (hne : th s n P b ≠ d) (hd8 : d.length = 8) (hm : tm s + 1 < 4611686018427387904) (hp : p < 4611686018427387904)
 (hqg : q ≠ g) (hyg : y ≠ g) (hyq : y ≠ q) (hc : s.c + 500 < 4611686018427387904) (h : Tq w y g q n per p) (hQ : Lq w q g (n + 1) P) (hN : Nm w g s) :
 Calls Tryz.prog 24 #[.pointer (some ⟨y, 0, none⟩), .int .i64 (b : Int), .agg (lc d)] w fun e w' => e = .returned (.int .i64 R.1) /\ Nm w' g R.2 /\ Tq w' y g q n per (tp per p) /\ Lq w' q g (n + 1) P /\ Chg [g, y] w w' := by
 obtain ⟨W, hW, H0⟩ := boxed1 w hd8
 obtain ⟨o, ho⟩ : ∃ o, th s n P b = o := ⟨_, rfl⟩
 have C := jz (tget_is ho (G.tok hd) hn2 hb (h.below H0.out.2) (hQ.below H0.out.2) (hN.below H0.out.2))
 have C2 := jz (fun w' (hbl : Below w.heap.size w w') => tput_is hR (G.tok hd) hn2 hb hd8 hm hp hqg hyg hyq hc (h.below hbl) (hQ.below hbl) (hN.below hbl))
 have HB := jz H0.out.2
 have HL := jz H0.out.1
 have H8 := jz hd8
 have HO8 : Hid (o.length = 8) := jz (by rw [<- ho]; exact th_wide G.ok n P b)
 rw [ho] at hne
 have i1 : (o == d) = false := beq_eq_false_iff_ne.2 hne
 clear G hd hn2 hb hne ho h hQ hN H0 hR hm hp hqg hyg hyq hc
 go_enter Tryz.func24, Tryz.ntmps24
 go_wp2_with fail
 refine (C.out).mono ?_; rintro e w1 ⟨rfl, b1⟩
 have D1 := jz (below_more HB.out b1)
 have l1 := jz (HL.out.below b1)
 have h8o := HO8.out
 obtain ⟨V, hV, HV⟩ := boxed1 w1 h8o
 have l5 := (l1.out.below HV.out.2).load
 have l7 := HV.out.1.load
 have D2 := jz (below_more D1.out HV.out.2)
 clear b1 HV
 go_wp2_with fail
 refine (C2.out _ D2.out).mono ?_; rintro e w2 ⟨rfl, g1, g2, g3, g4⟩
 have GG := jz (And.intro g1 (And.intro g2 (And.intro g3 ((Chg.of_below D2.out [g, y]).trans g4))))
 clear g1 g2 g3 g4
 go_wp2_with fail
 go_ret
 exact ⟨rfl, GG.out⟩
structure Fst (s0 s : Nv) (N P p i : Nat) (F : List Int) : Prop where
 g : GOk s (16 + N) P
 live : s.dark = false
 comes : s.comes = false
 la : s.la = s0.la
 r1 : s.rg 1 = 0
 r2 : s.rg 2 = 0
 rgs : ∀ k, 19 <= k -> s.rg k = 0
 at_ : ∀ j, j < N -> th s (16 + N) P (16 + j) = if j < i then lnO F j else zeros
 m : tm s <= i
 p : p <= i
 c : s.c <= 81 * i
 free : Free s0 -> Free s
theorem fst_start {N P : Nat} (hN : N <= 64) (hP : P <= 16) (h1 : 1 <= N) (lim F : List Int) : Fst (newNv (16 + N + 1 + P) lim) (newNv (16 + N + 1 + P) lim) N P 0 0 F := by
 obtain ⟨L, _, e2, e3, _⟩ := newNv_lg (n := 16 + N) (P := P) (by omega) hP (by omega) lim
 exact ⟨L.g, rfl, rfl, rfl, rfl, rfl, fun _ _ => rfl, fun j _ => by rw [if_neg (by omega)]; exact e3 _, by rw [e2]; omega, Nat.le_refl _, by show (0 : Int) <= _; omega, id⟩
theorem Fst.same {s0 s : Nv} {N P p i : Nat} {F : List Int} (h : Fst s0 s N P p i F) (e : th s (16 + N) P (16 + i) = lnO F i) : Fst s0 s N P p (i + 1) F :=
 ⟨h.g, h.live, h.comes, h.la, h.r1, h.r2, h.rgs, fun j hj => by
   by_cases c : j = i
   . subst c; rw [if_pos (by omega)]; exact e
   . rw [h.at_ j hj]
     by_cases d : j < i
     . rw [if_pos d, if_pos (by omega)]
     . rw [if_neg d, if_neg (by omega)], by have := h.m; omega, by have := h.p; omega, by have := h.c; push_cast; omega, h.free⟩
theorem Fst.put {s0 s : Nv} {N P per p i : Nat} {F : List Int} {R : Int × Nv} (h : Fst s0 s N P p i F) (hP : P <= 16) (hi : i < N) (hF : F.length = 8 * N) (hN : N <= 64) (hR : tput (16 + N) P per p (tm s) (16 + i) (lnO F i) s = R) :
 (R.1 = 0 /\ Fst s0 R.2 N P (tp per p) (i + 1) F) \/ (R.1 ≠ 0 /\ ¬ Free s0) := by
 have h8 := lnO_length hF hi
 have hm := h.m
 have u := tput_u per p h.g h.live (show 0 < 16 + N by omega) (show 16 + i < 16 + N by omega) h8 (by omega)
 have go := fun F' => tput_go per p (h.g.tok h.live) (a := 16 + i) (d := lnO F i) F' (show 0 < 16 + N by omega)
 have r1 := tput_rg (16 + N) P per p (tm s) (16 + i) (lnO F i) s (k := 1) (by decide) (by decide)
 have rh := fun k hk => tput_rgh (16 + N) P per p (tm s) (16 + i) (lnO F i) s (k := k) hk hP
 rw [hR] at u go r1 rh
 have htp := tp_le per p
 have hc := u.c
 have hc2 := h.c
 have hu := u.hi
 have hp := h.p
 rcases u.own with ⟨e0, d, ho⟩ | ⟨e3, d, ho⟩ | ⟨e2, co⟩
 . refine .inl ⟨e0, u.g, d, u.comes.trans h.comes, u.la.trans h.la, r1.trans h.r1, u.r2.trans h.r2, fun k hk => (rh k hk).trans (h.rgs k hk), fun j hj => ?_, by omega, by omega, by push_cast; omega, fun F' => (go (h.free F')).2⟩
   by_cases c : j = i
   . subst c; rw [if_pos (by omega)]; exact ho
   . rw [u.oth _ (by omega) (by omega), h.at_ j hj]
     by_cases d : j < i
     . rw [if_pos d, if_pos (by omega)]
     . rw [if_neg d, if_neg (by omega)]
 . exact .inr ⟨by omega, fun F' => by have := (go (h.free F')).1; omega⟩
 . rw [h.comes] at co; cases co
def FOut (w w' : World) (a : Ha) (lim : List Int) (e : Ending) : Prop :=
 ∃ (E : Int) (s' : Nv), e = .returned (.int .i64 E) /\ Nm w' a.g s' /\ Chg [a.g] w w' /\ ((E = 0 /\ ∃ p, Fst (newNv (16 + a.N + 1 + a.P) lim) s' a.N a.P p a.N (firstL (8 * a.N : Nat))) \/ (E ≠ 0 /\ ¬ Free (newNv (16 + a.N + 1 + a.P) lim)))
theorem mw_of {a : Ha} (hn : HNum a) : Mw (8 * a.N : Nat) := by
 have := hn.N
 refine ⟨?_, ?_, ?_⟩ <;> omega
theorem chg_less {w w1 w' : World} {g y : Nat} (hb : Below w.heap.size w w1) (hc : Chg [g, y] w1 w') (hy : w.heap.size <= y) : Chg [g] w w' := by
 have h := (Chg.of_below hb [g, y]).trans hc
 exact ⟨h.os, h.tape, h.output, h.size, fun k hk hD => h.block k hk (by simp at hD ⊢; omega)⟩
theorem hformat_is {w : World} {a : Ha} {lim : List Int} (hn : HNum a) (hN : Nm w a.g (newNv (16 + a.N + 1 + a.P) lim)) :
 Calls Tryz.prog 9 #[.pointer (some ⟨a.g, 0, none⟩), (Value.agg #[Value.int IntKind.i64 (a.N : Int), Value.int IntKind.i64 (a.P : Int), Value.int IntKind.i64 (a.per : Int), Value.int IntKind.i64 (a.b : Int)])] w fun e w' => FOut w w' a lim e := by
 obtain ⟨W, hW, H⟩ := plan_boxed w (a.N : Int) (a.P : Int) (a.per : Int) (a.b : Int)
 have hnN := hn.N
 have hnP := hn.P
 obtain ⟨s0, hs0⟩ : ∃ s0, newNv (16 + a.N + 1 + a.P) lim = s0 := ⟨_, rfl⟩
 have hst := fst_start hnN.2 hnP hnN.1 lim (firstL (8 * a.N : Nat))
 have hr0 : ∀ k, k < 35 -> s0.rg k = 0 := fun k _ => by rw [<- hs0]; rfl
 have hsn : (s0.n : Int) = dvM (a.N : Int) (a.P : Int) := by rw [<- hs0]; show ((16 + a.N + 1 + a.P : Nat) : Int) = _; unfold dvM; omega
 rw [hs0] at hst hN
 unfold FOut
 rw [hs0]
 have PQ := jz H.out.1
 have HB := jz H.out.2
 have l0 := H.out.1.load
 have C1 := jz (fun w' (hb : Below W.heap.size W w') => hready_up (hn.may.may) ((hN.below H.out.2).below hb) hsn hst.live)
 have C2 := jz (fun w' (hb : Below W.heap.size W w') => hunused_yes ((hN.below H.out.2).below hb) hst.live hr0)
 have C3 := jz (fun w' (hb : Below W.heap.size W w') => hlines_is hn ((hN.below H.out.2).below hb) (hst.g.tok hst.live) (by have := hst.m; omega))
 have C4 := jz (fun w => words_yes hn.may (v := 8 * a.N) (by omega) w)
 have C5 := jz (fun w => first_is ((8 * a.N : Nat) : Int) w)
 have HN0 := jz (hN.below H.out.2)
 have HFl : Hid ((firstL (8 * a.N : Nat)).length = 8 * a.N) := jz (first_blk (mw_of hn)).2.1
 have HM := jz hn.may
 have HNn := jz (And.intro hnN (And.intro hnP hn.per))
 have HST := jz hst
 have HGW : Hid (a.g < w.heap.size) := jz hN.lt
 have hcl : ∀ w', Below W.heap.size W w' -> (planLoad (.pointer (some ⟨w.heap.size, 0, none⟩))).run Tryz.prog w' = .ok (Value.agg #[Value.int IntKind.i64 (a.N : Int), Value.int IntKind.i64 (a.P : Int), Value.int IntKind.i64 (a.per : Int), Value.int IntKind.i64 (a.b : Int)]) w' := fun w' hb => (PQ.out.below hb).load
 have HCL := jz hcl
 have HC0 := jz (fun w' (hb : Below W.heap.size W w') => (PQ.out.below hb).c0)
 clear hN hst hr0 hsn H hcl hn hnN hnP hs0
 generalize firstL (8 * a.N : Nat) = F at *
 generalize a.g = g at *
 generalize a.N = N at *
 generalize a.P = P at *
 generalize a.per = per at *
 generalize a.b = b at *
 obtain ⟨n8, hn8⟩ : ∃ n8, 8 * N = n8 := ⟨_, rfl⟩
 rw [hn8] at C4 C5
 have HN8 := jz hn8
 clear hn8
 go_enter Tryz.func9, Tryz.ntmps9
 go_wp2_with fail
 refine (C1.out _ (Below.refl _ _)).mono ?_; rintro e w1 ⟨rfl, b1⟩
 have D1 := jz b1
 clear b1 l0
 go_wp2_with fail
 refine (C2.out _ D1.out).mono ?_; rintro e w2 ⟨rfl, rfl⟩
 have l1 := HCL.out _ D1.out
 go_wp2_with fail
 refine (C3.out _ D1.out).mono ?_; rintro e w2 ⟨y, q, rfl, hy, hq, hyq, hQ, hT, b2⟩
 have D2 := jz (below_more D1.out b2)
 have TQ := jz (And.intro hQ hT)
 have NE := jz (And.intro hyq (And.intro (Nat.le_trans D1.out.size hy) (Nat.le_trans D1.out.size hq)))
 clear b2 hy hq hyq hQ hT l1
 have l2 := HCL.out _ D2.out
 go_wp2_with fail
 refine (C4.out _).mono ?_; rintro e w3 ⟨rfl, b3⟩
 have D3 := jz (below_more D2.out b3)
 have E3 := jz b3
 clear b3 l2
 go_wp2_with fail
 refine (C5.out _).mono ?_; rintro e w4 ⟨⟨v, rfl, ov⟩, b4⟩
 have D4 := jz (below_more D3.out b4)
 have E4 := jz (below_more E3.out b4)
 have OF := jz ov
 obtain ⟨qv, cv, rfl⟩ := ov.shape
 have HW3 : Hid (W.heap.size <= w3.heap.size /\ w2.heap.size <= w3.heap.size) := jz ⟨D3.out.size, E3.out.size⟩
 clear b4 ov
 have c4 := HC0.out _ D4.out
 have HLT : Hid (w.heap.size < W.heap.size) := jz (Whole.lt PQ.out)
 have HI0 : Hid (Fst s0 s0 N P 0 0 F /\ Tq w4 y g q (16 + N) per 0 /\ Lq w4 q g (16 + N + 1) P /\ Nm w4 g s0 /\ Chg [g, y] w4 w4) := jz ⟨HST.out, TQ.out.2.below E4.out, TQ.out.1.below E4.out, HN0.out.below D4.out, Chg.refl _ _⟩
 have HFar : Hid (w.heap.size ∉ [g, y] /\ q ≠ g /\ y ≠ g /\ y ≠ q /\ ∀ k ∈ [g, y], k < w3.heap.size) := jz (by
  have h1 := NE.out
  have h2 := HLT.out
  have h3 := HGW.out
  have h4 := HW3.out
  have h5 := Whole.lt TQ.out.2
  refine ⟨by simp; omega, by omega, by omega, h1.1, fun k hk => by simp at hk; omega⟩)
 clear C1 C2 C3 C4 C5 TQ HN0 HST D1 D2 D3 E3 HCL HC0
 go_wp2
 go_loopw [27] (fun i wr => ∃ (k p : Nat) (s : Nv), k <= N /\ i = .int .i64 k /\ Hid (Fst s0 s N P p k F /\ Tq wr y g q (16 + N) per p /\ Lq wr q g (16 + N + 1) P /\ Nm wr g s /\ Chg [g, y] w4 wr)) (fun i _ => N - (intOf i).toNat)
 case atStart => exact ⟨0, 0, s0, Nat.zero_le _, rfl, HI0⟩
 case round =>
  clear HI0 c4
  obtain ⟨k, p, s, hk, rfl, H⟩ := hrel
  by_cases hlt : k < N
  . have PR := jz (H.out.2.2.2.2.whole (PQ.out.below D4.out) HFar.out.1)
    have lp := Pq.load PR.out
    have C1 := jz (home_yes HM.out hlt rfl wr)
    have OR := jz (own_chg_u OF.out H.out.2.2.2.2 HFar.out.2.2.2.2)
    have C2 := jz (fun w' (hb : Below wr.heap.size wr w') => hlnof_is w' (ru_below OR.out.ru hb) HFl.out (by have := HNn.out; omega) hlt)
    have hl8 := lnO_length HFl.out hlt
    have i1 : (k : Int) < (N : Int) := by omega
    have i3 : IntKind.i64.wrap ((k : Int) + 1) = ((k + 1 : Nat) : Int) := by rw [show (k : Int) + 1 = ((k + 1 : Nat) : Int) by omega]; exact i64_nat _ (by have := HNn.out; omega)
    have HK := jz hlt
    by_cases hs : th s (16 + N) P (16 + k) = lnO F k
    . have C3 := jz (fun w' (hb : Below wr.heap.size wr w') => hlay_same H.out.1.g H.out.1.live (by have := HNn.out; omega) (show 16 + k < 16 + N by omega) hs hl8 (H.out.2.1.below hb) (H.out.2.2.1.below hb) (H.out.2.2.2.1.below hb))
      have HF := jz (fun w' (hb : Below wr.heap.size wr w') => (show Fst s0 s N P p (k + 1) F /\ Tq w' y g q (16 + N) per p /\ Lq w' q g (16 + N + 1) P /\ Nm w' g s /\ Chg [g, y] w4 w' from ⟨H.out.1.same hs, H.out.2.1.below hb, H.out.2.2.1.below hb, H.out.2.2.2.1.below hb, H.out.2.2.2.2.trans (Chg.of_below hb _)⟩))
      clear hk hlt hs hl8 H
      generalize lnO F k = Y at *
      generalize 16 + k = k16 at *
      go_wp2_with fail
      refine (C1.out).mono ?_; rintro e w5 ⟨rfl, b5⟩
      have D5 := jz b5
      clear b5
      go_wp2_with fail
      refine (C2.out _ D5.out).mono ?_; rintro e w6 ⟨rfl, b6⟩
      have D6 := jz (below_more D5.out b6)
      clear b6
      go_wp2_with fail
      refine (C3.out _ D6.out).mono ?_; rintro e w7 ⟨rfl, b7⟩
      have H7 := jz (HF.out _ (below_more D6.out b7))
      clear b7 lp
      go_wp2
      go_roundw
      case rel => exact ⟨k + 1, p, s, by have := HK.out; omega, by go_num, H7⟩
      case measure => have := HK.out; simp [intOf]; omega
    . obtain ⟨R, hR⟩ : ∃ R, tput (16 + N) P per p (tm s) (16 + k) (lnO F k) s = R := ⟨_, rfl⟩
      have C3 := jz (fun w' (hb : Below wr.heap.size wr w') => hlay_put hR H.out.1.g H.out.1.live (by have := HNn.out; omega) (show 16 + k < 16 + N by omega) hs hl8 (by have := H.out.1.m; have := HNn.out; omega) (by have := H.out.1.p; have := HNn.out; omega) HFar.out.2.1 HFar.out.2.2.1 HFar.out.2.2.2.1 (by have := H.out.1.c; have := HNn.out; omega) (H.out.2.1.below hb) (H.out.2.2.1.below hb) (H.out.2.2.2.1.below hb))
      rcases H.out.1.put HNn.out.2.1 hlt HFl.out HNn.out.1.2 hR with ⟨e0, hF⟩ | ⟨e0, hF⟩
      . have HF := jz (fun w' w'' (hb : Below wr.heap.size wr w') (q1 : Nm w'' g R.2) (q2 : Tq w'' y g q (16 + N) per (tp per p)) (q3 : Lq w'' q g (16 + N + 1) P) (q4 : Chg [g, y] w' w'') => (show Fst s0 R.2 N P (tp per p) (k + 1) F /\ Tq w'' y g q (16 + N) per (tp per p) /\ Lq w'' q g (16 + N + 1) P /\ Nm w'' g R.2 /\ Chg [g, y] w4 w'' from ⟨hF, q2, q3, q1, H.out.2.2.2.2.trans ((Chg.of_below hb _).trans q4)⟩))
        rw [e0] at C3
        clear hk hlt hs hl8 H hR hF e0
        generalize lnO F k = Y at *
        generalize 16 + k = k16 at *
        go_wp2_with fail
        refine (C1.out).mono ?_; rintro e w5 ⟨rfl, b5⟩
        have D5 := jz b5
        clear b5
        go_wp2_with fail
        refine (C2.out _ D5.out).mono ?_; rintro e w6 ⟨rfl, b6⟩
        have D6 := jz (below_more D5.out b6)
        clear b6
        go_wp2_with fail
        refine (C3.out _ D6.out).mono ?_; rintro e w7 ⟨rfl, q1, q2, q3, q4⟩
        have H7 := jz (HF.out _ _ D6.out q1 q2 q3 q4)
        clear q1 q2 q3 q4 lp
        go_wp2
        go_roundw
        case rel => exact ⟨k + 1, tp per p, R.2, by have := HK.out; omega, by go_num, H7⟩
        case measure => have := HK.out; simp [intOf]; omega
      . have HF := jz (fun w' w'' (hb : Below wr.heap.size wr w') (q1 : Nm w'' g R.2) (q4 : Chg [g, y] w' w'') => (show ∃ (E : Int) (s' : Nv), Ending.returned (.int .i64 R.1) = Ending.returned (.int .i64 E) /\ Nm w'' g s' /\ Chg [g] w w'' /\ ((E = 0 /\ ∃ p, Fst s0 s' N P p N F) \/ (E ≠ 0 /\ ¬ Free s0)) from
         ⟨R.1, R.2, rfl, q1, chg_less (below_more HB.out D4.out) (H.out.2.2.2.2.trans ((Chg.of_below hb _).trans q4)) (Nat.le_trans HB.out.size NE.out.2.1), .inr ⟨e0, hF⟩⟩))
        have i4 : (R.1 == 0) = false := beq_eq_false_iff_ne.2 e0
        have i5 : (R.1 != 0) = true := by simpa using e0
        clear hk hlt hs hl8 H hR hF e0
        generalize lnO F k = Y at *
        generalize 16 + k = k16 at *
        generalize R.1 = R1 at *
        go_wp2_with fail
        refine (C1.out).mono ?_; rintro e w5 ⟨rfl, b5⟩
        have D5 := jz b5
        clear b5
        go_wp2_with fail
        refine (C2.out _ D5.out).mono ?_; rintro e w6 ⟨rfl, b6⟩
        have D6 := jz (below_more D5.out b6)
        clear b6
        go_wp2_with fail
        refine (C3.out _ D6.out).mono ?_; rintro e w7 ⟨rfl, q1, _, _, q4⟩
        have H7 := jz (HF.out _ _ D6.out q1 q4)
        clear q1 q4 lp
        go_wp2_with fail
        go_ret
        exact H7.out
  . obtain rfl : k = N := by omega
    have HO : Hid (∃ (E : Int) (s' : Nv), Ending.returned (.int .i64 0) = Ending.returned (.int .i64 E) /\ Nm wr g s' /\ Chg [g] w wr /\ ((E = 0 /\ ∃ p, Fst s0 s' k P p k F) \/ (E ≠ 0 /\ ¬ Free s0))) := jz
     ⟨0, s, rfl, H.out.2.2.2.1, chg_less (below_more HB.out D4.out) H.out.2.2.2.2 (Nat.le_trans HB.out.size NE.out.2.1), .inl ⟨rfl, p, H.out.1⟩⟩
    clear H
    go_wp2
    go_ret
    exact HO.out
def Op0 (V : World) (b10 : Nat) (a : Ha) (ct : Ct) (sb : Bool) (w' : World) : Prop :=
 ∃ k kg w1 w5, Below V.heap.size V w1 /\ Below w1.heap.size (w1.setCell ⟨b10, 0, none⟩ (.bool sb)) w5 /\ Cq w5 k kg ct /\ w1.heap.size <= k /\ w1.heap.size <= kg /\ w' = w5.setCell ⟨a.z, 7, none⟩ (.pointer (some ⟨k, 0, none⟩))
theorem size_set (w : World) (p : Addr) (u : Value) : (w.setCell p u).heap.size = w.heap.size := by simp [World.setCell]
theorem hopen1_is {V : World} {a : Ha} {s : Nv} {p : Nat} {X : List Int} {r : Nat} {F : Nat -> Nat} {b8 b10 b3 : Nat} (h : Hb V a (.pointer none) false s p) (hn : HNum a) (L : LgOk s (16 + a.N) a.P) (hd : s.dark = false) (H : Has s a.N a.P X) (hw : WordsOk X) (hr : s.rg 2 = (r : Int)) (hr2 : r < 4611686018427387904) (hF : ∀ q, q < (a.N + 3) / 4 -> s.rg (19 + q) = (F q : Int) /\ F q < 4611686018427387904)
 (c8 : V.cell? ⟨b8, 0, none⟩ = some (.pointer (some ⟨a.z, 0, none⟩))) (w10 : Whole V b10 4 #[.bool false]) (h3 : Pq V b3 (a.N : Int) (a.P : Int) (a.per : Int) (a.b : Int)) (hne : b10 ≠ b8 /\ b10 ≠ b3 /\ b10 ≠ a.z /\ b10 ≠ a.g /\ b10 ≠ a.y /\ b10 ≠ a.q /\ b10 ≠ a.x /\ b8 ≠ a.z /\ b3 ≠ a.z /\ b8 < V.heap.size) :
 Calls Tryz.prog 30 #[.pointer (some ⟨b8, 0, none⟩), .pointer (some ⟨b10, 0, none⟩), .pointer (some ⟨b3, 0, none⟩)] V fun e w' => e = .returned (.tuple #[]) /\ Op0 V b10 a (cnew a.b ((a.N + 3) / 4) (byF ((a.N + 3) / 4) fun q => (F q : Int)) ((a.N + 3) / 4)) (soundB X (r : Int)) w' := by
 have C1 := jz (hsound_is h hn L hd H hw hr hr2)
 obtain ⟨G, hG⟩ : ∃ G, (byF ((a.N + 3) / 4) fun q => (F q : Int)) = G := ⟨_, rfl⟩
 obtain ⟨n, hnn⟩ : ∃ n, (a.N + 3) / 4 = n := ⟨_, rfl⟩
 have hGl : G.length = n := by rw [<- hG, byF_length, hnn]
 have C2 := jz (fun w' (q : Hb w' a (.pointer none) false s p) => hkept_is q hn hd hF)
 rw [hG] at C2 ⊢
 rw [hnn] at ⊢
 have C3 := jz (fun w' v (q : RI w' v G) => cnew_yes a.b v G w' q hn.b.1 hn.b.2 (by have := hn.N; omega))
 rw [hGl] at C3
 have HH := jz h
 have HW10 := jz w10
 have H3 := jz h3
 have NE := jz hne
 have hc8w : Hid (∀ w', Below V.heap.size V w' -> w'.cell? ⟨b8, 0, none⟩ = some (.pointer (some ⟨a.z, 0, none⟩))) := jz fun w' hb => (hb.cell (p := ⟨b8, 0, none⟩) hne.2.2.2.2.2.2.2.2.2).trans c8
 clear h hn L hd H hw hr hr2 hF w10 h3 hne hG hnn hGl
 generalize soundB X (r : Int) = sb at *
 generalize hct : cnew a.b n G n = ct at *
 obtain ⟨z, hz⟩ : ∃ z, a.z = z := ⟨_, rfl⟩
 have HZ := jz hz
 rw [hz] at C1 C2 c8 hc8w
 clear hz
 go_enter Tryz.func30, Tryz.ntmps30
 go_wp2_with fail
 refine (C1.out).mono ?_; rintro e w1 ⟨rfl, b1⟩
 have D1 := jz b1
 have W10 := jz ((b1.block _ (Whole.lt HW10.out)).trans HW10.out : Whole w1 b10 4 #[.bool false])
 have f10 := Whole.free W10.out 0
 have c10 : w1.cell? ⟨b10, 0, none⟩ = some (.bool false) := by rw [Whole.at_ W10.out]; rfl
 obtain ⟨V1, hV1⟩ : ∃ V1, w1.setCell ⟨b10, 0, none⟩ (.bool sb) = V1 := ⟨_, rfl⟩
 have CV : Chg [b10] w1 V1 := by rw [<- hV1]; exact (Chg.refl _ w1).setCell (p := ⟨b10, 0, none⟩) (.inl (by simp)) _
 have HS : Hid (V1.heap.size = w1.heap.size /\ w1.setCell ⟨b10, 0, none⟩ (.bool sb) = V1) := jz ⟨by rw [<- hV1, size_set], hV1⟩
 have HB1 : Hid (Hb V1 a (.pointer none) false s p) := jz ((HH.out.below b1).chg CV (by simpa using fun e => NE.out.2.2.1 e.symm) (by simpa using fun e => NE.out.2.2.2.1 e.symm) (by simpa using fun e => NE.out.2.2.2.2.1 e.symm) (by simpa using fun e => NE.out.2.2.2.2.2.1 e.symm) (by simpa using fun e => NE.out.2.2.2.2.2.2.1 e.symm))
 have h8V1 : V1.cell? ⟨b8, 0, none⟩ = some (.pointer (some ⟨z, 0, none⟩)) := by
  rw [<- hV1, World.cell?_setCell_other w1 _ _ _ (by simpa using fun e => NE.out.1 e)]
  exact hc8w.out w1 b1
 have h3V1 : Pq V1 b3 (a.N : Int) (a.P : Int) (a.per : Int) (a.b : Int) := CV.whole (H3.out.below b1) (by simpa using fun e => NE.out.2.1 e.symm)
 have lt8 : b8 < V1.heap.size := by rw [<- hV1, size_set]; exact Nat.lt_of_lt_of_le NE.out.2.2.2.2.2.2.2.2.2 b1.size
 have l8 : ∀ w', Chg [z] V1 w' -> w'.cell? ⟨b8, 0, none⟩ = some (.pointer (some ⟨z, 0, none⟩)) := fun w' hc => by
  have e := hc.block b8 lt8 (by rw [List.mem_singleton, <- HZ.out]; exact NE.out.2.2.2.2.2.2.2.1)
  rw [World.cell?_of_block (w := V1) e]; exact h8V1
 have l3 : ∀ w', Chg [z] V1 w' -> w'.cell? ⟨b3, 3, none⟩ = some (.int .i64 (a.b : Int)) := fun w' hc => by
  rw [Whole.at_ (hc.whole h3V1 (by rw [List.mem_singleton, <- HZ.out]; exact NE.out.2.2.2.2.2.2.2.2.1))]; rfl
 have hbd : Below V1.heap.size V1 V1.drew := (Below.refl _ _).drew
 have HO := jz hbd
 have C2' := jz (C2.out V1.drew (HB1.out.below hbd))
 have HZt : Hid (∀ w', Below V1.heap.size V1 w' -> w'.frozen? ⟨z, 7, none⟩ = false /\ w'.cell? ⟨z, 7, none⟩ = some (.pointer none)) := jz fun w' hb => by
  have := (HB1.out.below hb)
  rw [<- HZ.out]
  exact ⟨this.free 7, this.c7⟩
 clear b1 CV hbd h8V1 h3V1 lt8 C2
 generalize (a.b : Int) = ab at *
 go_wp2_with fail
 go_region_held3 (fun w' => Chg [z] V1 w')
  (first | assumption | exact (Chg.refl _ _).drew | exact (Hid.out ‹Hid (Chg [z] V1 _)›).setCell (p := ⟨z, 7, none⟩) (.inl (by simp)) _)
  (first
    | (go_at_call 33; refine (C2'.out).mono ?_; rintro e wz ⟨⟨xv, rfl, ox⟩, hbz⟩
       have OX := jz ox.ri
       obtain ⟨qx, cx, rfl, _⟩ := ox.ri
       have BZ := jz (HO.out.trans hbz)
       have CZ := jz (Chg.of_below (HO.out.trans hbz) [z])
       clear hbz ox)
    | (go_at_call 32; refine (C3.out _ _ OX.out).mono ?_; rintro e wy ⟨k, kg, rfl, q1, q2, q3, hby⟩
       have HX : Hid (Op0 V b10 a ct sb (wy.setCell ⟨z, 7, none⟩ (.pointer (some ⟨k, 0, none⟩)))) := jz ⟨k, kg, w1, wy, D1.out, by rw [HS.out.2, <- HS.out.1]; exact below_more BZ.out hby, q3, Nat.le_trans (HS.out.1 ▸ BZ.out.size) q1, Nat.le_trans (HS.out.1 ▸ BZ.out.size) q2, by rw [HZ.out]⟩
       obtain ⟨f7, c7⟩ := HZt.out wy (below_more BZ.out hby)
       have CY := jz (Chg.of_below (below_more BZ.out hby) [z])
       clear hby q1 q2 q3))
 go_wp2
 go_end0
 exact ⟨rfl, HX.out⟩
theorem below_set_h {B : Nat} {w w1 : World} {g i : Nat} {u : Value} (h : Below B w w1) (hg : B <= g) : Below B w (w1.setCell ⟨g, i, none⟩ u) := h.setCell (p := ⟨g, i, none⟩) hg u
def IsPtr (w : World) (g : Nat) : Prop := ∃ v, Whole w g 34 #[v]
theorem IsPtr.fresh (w : World) (g : Nat) {v : Value} (e : g = w.heap.size) : IsPtr (w.alloc (.cells #[v] 34)) g := by subst e; exact ⟨v, heap_alloc_new w _⟩
theorem IsPtr.up {w : World} {g : Nat} (h : IsPtr w g) (o : Obj) : IsPtr (w.alloc o) g := h.elim fun v h => ⟨v, h.alloc o⟩
theorem IsPtr.drew {w : World} {g : Nat} (h : IsPtr w g) : IsPtr w.drew g := h
theorem IsPtr.call {w w' : World} {g : Nat} (hb : Below w.heap.size w w') (h : IsPtr w g) : IsPtr w' g := h.elim fun v h => ⟨v, (hb.block g (Whole.lt h)).trans h⟩
def hpStore (p v : Value) : Sem Unit := Instr.storeAt 34 p v
theorem run_hpStore {w : World} {g : Nat} (h : IsPtr w g) (z : Option Addr) : (hpStore (.pointer (some ⟨g, 0, none⟩)) (.pointer z)).run Tryz.prog w = .ok () (w.setCell ⟨g, 0, none⟩ (.pointer z)) := by
 obtain ⟨v, h⟩ := h
 have hc : w.cell? ⟨g, 0, none⟩ = some v := by rw [Whole.at_ h]; rfl
 have hf := Whole.free h 0
 show (Instr.storeAt 34 (.pointer (some ⟨g, 0, none⟩)) (.pointer z)).run Tryz.prog w = _
 simp [go_sem, hc, hf]
@[go_sem ↓] theorem storeAt_hp (p v : Value) : Instr.storeAt 34 p v = hpStore p v := rfl
theorem put_ptr {w : World} {g g' : Nat} {z : Value} (e : g = g') (h : IsPtr w g) : Whole (w.setCell ⟨g', 0, none⟩ z) g 34 #[z] := by
 subst e
 obtain ⟨v, h⟩ := h
 exact h.set_ 0 z
theorem whole_fresh (w : World) (g : Nat) {cs : Array Value} {t : TypeId} (e : g = w.heap.size) : Whole (w.alloc (.cells cs t)) g t cs := by subst e; exact heap_alloc_new w _
theorem whole_past {w : World} {g g' i : Nat} {cs : Array Value} {t : TypeId} {u : Value} (h : Whole w g t cs) (hne : g ≠ g') : Whole (w.setCell ⟨g', i, none⟩ u) g t cs := Whole.other h (p := ⟨g', i, none⟩) hne u
theorem Lg.past {w : World} {x g y q n P per p b : Nat} {s : Nv} {u : Value} (h : Lg w x g y q n P per p s) (hb : b ≠ x /\ b ≠ g /\ b ≠ y /\ b ≠ q) : Lg (w.setCell ⟨b, 0, none⟩ u) x g y q n P per p s :=
 h.chg ((Chg.refl [b] w).setCell (p := ⟨b, 0, none⟩) (.inl (by simp)) u) (by simpa using fun e => hb.1 e.symm) (by simpa using fun e => hb.2.1 e.symm) (by simpa using fun e => hb.2.2.1 e.symm) (by simpa using fun e => hb.2.2.2 e.symm)
theorem Lg.alloc_h {w : World} {x g y q n P per p : Nat} {s : Nv} (h : Lg w x g y q n P per p s) (o : Obj) : Lg (w.alloc o) x g y q n P per p s := h.below (bal (Below.refl _ _))
theorem built_heap (g : Nat) (a b c d : Int) (y x : Nat) : Tryz.prog.built 74 [(0, .pointer (some ⟨g, 0, none⟩)), (1, (Value.agg #[Value.int IntKind.i64 a, Value.int IntKind.i64 b, Value.int IntKind.i64 c, Value.int IntKind.i64 d])), (2, .pointer (some ⟨y, 0, none⟩)), (3, .pointer (some ⟨x, 0, none⟩))] = some #[.pointer (some ⟨g, 0, none⟩), .int .i64 a, .int .i64 b, .int .i64 c, .int .i64 d, .pointer (some ⟨y, 0, none⟩), .pointer (some ⟨x, 0, none⟩), .pointer none, .bool false] := by kernel_rfl
def hpBuild (ps : Array (Nat × Value)) : Sem Value := Instr.build 74 ps
@[go_sem ↓] theorem build_hp (ps : Array (Nat × Value)) : Instr.build 74 ps = hpBuild ps := rfl
@[go_sem] theorem run_hpBuild (w : World) (g : Nat) (a b c d : Int) (y x : Nat) : (hpBuild #[(0, .pointer (some ⟨g, 0, none⟩)), (1, (Value.agg #[Value.int IntKind.i64 a, Value.int IntKind.i64 b, Value.int IntKind.i64 c, Value.int IntKind.i64 d])), (2, .pointer (some ⟨y, 0, none⟩)), (3, .pointer (some ⟨x, 0, none⟩))]).run Tryz.prog w = .ok (.agg #[.pointer (some ⟨g, 0, none⟩), .int .i64 a, .int .i64 b, .int .i64 c, .int .i64 d, .pointer (some ⟨y, 0, none⟩), .pointer (some ⟨x, 0, none⟩), .pointer none, .bool false]) w := run_build w _ _ _ (built_heap g a b c d y x)
theorem op0_err {V w' : World} {a : Ha} {ct : Ct} {sb : Bool} {b10 be : Nat} {t : TypeId} {cs : Array Value} (q : Op0 V b10 a ct sb w') (qe : Whole V be t cs) (h1 : be ≠ b10) (h2 : be ≠ a.z) : Whole w' be t cs := by
 obtain ⟨k, kg, w1, w5, B1, B5, hc, hk, hkg, rfl⟩ := q
 have e1 : Whole w1 be t cs := (B1.block _ (Whole.lt qe)).trans qe
 have e2 : Whole (w1.setCell ⟨b10, 0, none⟩ (.bool sb)) be t cs := Whole.other e1 (p := ⟨b10, 0, none⟩) h1 _
 have e3 : Whole w5 be t cs := (B5.block _ (Whole.lt e1)).trans e2
 exact Whole.other e3 (p := ⟨a.z, 7, none⟩) h2 _
theorem open_end {V w' : World} {a : Ha} {s : Nv} {p : Nat} {ct : Ct} {sb : Bool} {b8 b10 be : Nat} (h : Hb V a (.pointer none) false s p) (q : Op0 V b10 a ct sb w') (w8 : Whole V b8 34 #[.pointer (some ⟨a.z, 0, none⟩)]) (w10 : Whole V b10 4 #[.bool false])
 (n8 : b8 ≠ b10 /\ b8 ≠ a.z /\ b8 ≠ be) (n10 : b10 ≠ a.z /\ b10 ≠ be /\ b10 ≠ a.g /\ b10 ≠ a.y /\ b10 ≠ a.q /\ b10 ≠ a.x) (ne : be ≠ a.z /\ be ≠ a.g /\ be ≠ a.y /\ be ≠ a.q /\ be ≠ a.x /\ be < V.heap.size) :
 ∃ k kg, V.heap.size <= k /\ V.heap.size <= kg /\ Hp (w'.setCell ⟨be, 0, none⟩ (.int .i64 0)) ⟨a.z, a.g, a.y, a.q, a.x, k, kg, a.N, a.P, a.per, a.b⟩ ⟨s, p, ct, false⟩ /\ (w'.setCell ⟨be, 0, none⟩ (.int .i64 0)).cell? ⟨b8, 0, none⟩ = some (.pointer (some ⟨a.z, 0, none⟩)) /\ (w'.setCell ⟨be, 0, none⟩ (.int .i64 0)).cell? ⟨b10, 0, none⟩ = some (.bool sb) /\ Chg [b10, a.z, be] V (w'.setCell ⟨be, 0, none⟩ (.int .i64 0)) := by
 obtain ⟨k, kg, w1, w5, B1, B5, hc, hk, hkg, rfl⟩ := q
 have s1 : w1.heap.size <= w5.heap.size := by have := B5.size; rwa [size_set] at this
 have sV := B1.size
 have hz := Whole.lt h.top
 have hg := h.lg.nm.lt
 have hy := Whole.lt h.lg.tq
 have hq := Whole.lt h.lg.lq
 have hx := h.lg.xlt
 have cV1 : Chg [b10] V (w1.setCell ⟨b10, 0, none⟩ (.bool sb)) := (Chg.of_below B1 _).trans ((Chg.refl _ w1).setCell (p := ⟨b10, 0, none⟩) (.inl (by simp)) _)
 have B5' : Below (w1.setCell ⟨b10, 0, none⟩ (.bool sb)).heap.size (w1.setCell ⟨b10, 0, none⟩ (.bool sb)) w5 := by rw [size_set]; exact B5
 have e10a : Whole w1 b10 4 #[.bool false] := (B1.block _ (Whole.lt w10)).trans w10
 have e10 : Whole (w1.setCell ⟨b10, 0, none⟩ (.bool sb)) b10 4 #[.bool sb] := e10a.set_ 0 _
 have e8 : Whole (w1.setCell ⟨b10, 0, none⟩ (.bool sb)) b8 34 #[.pointer (some ⟨a.z, 0, none⟩)] := cV1.whole w8 (by simpa using n8.1)
 have h5 : Hb w5 a (.pointer none) false s p := (h.chg cV1 (by simpa using fun e => n10.1 e.symm) (by simpa using fun e => n10.2.2.1 e.symm) (by simpa using fun e => n10.2.2.2.1 e.symm) (by simpa using fun e => n10.2.2.2.2.1 e.symm) (by simpa using fun e => n10.2.2.2.2.2 e.symm)).below B5'
 have e10' : Whole w5 b10 4 #[.bool sb] := (B5'.block _ (Whole.lt e10)).trans e10
 have e8' : Whole w5 b8 34 #[.pointer (some ⟨a.z, 0, none⟩)] := (B5'.block _ (Whole.lt e8)).trans e8
 have c6 : Chg [a.z, be] w5 ((w5.setCell ⟨a.z, 7, none⟩ (.pointer (some ⟨k, 0, none⟩))).setCell ⟨be, 0, none⟩ (.int .i64 0)) := ((Chg.refl _ w5).setCell (p := ⟨a.z, 7, none⟩) (.inl (by simp)) _).setCell (p := ⟨be, 0, none⟩) (.inl (by simp)) _
 have zz := h.zz
 have t6 : Whole ((w5.setCell ⟨a.z, 7, none⟩ (.pointer (some ⟨k, 0, none⟩))).setCell ⟨be, 0, none⟩ (.int .i64 0)) a.z 74 #[.pointer (some ⟨a.g, 0, none⟩), .int .i64 (a.N : Int), .int .i64 (a.P : Int), .int .i64 (a.per : Int), .int .i64 (a.b : Int), .pointer (some ⟨a.y, 0, none⟩), .pointer (some ⟨a.x, 0, none⟩), .pointer (some ⟨k, 0, none⟩), .bool false] := by
  have := Whole.other (h5.top.set_ 7 (.pointer (some ⟨k, 0, none⟩))) (p := ⟨be, 0, none⟩) (fun e => ne.1 e.symm) (.int .i64 0)
  simpa [htop] using this
 have i8 : b8 ∉ [a.z, be] := by simp; exact ⟨n8.2.1, n8.2.2⟩
 have i10 : b10 ∉ [a.z, be] := by simp; exact ⟨n10.1, n10.2.1⟩
 have m8 := c6.whole e8' i8
 have m10 := c6.whole e10' i10
 refine ⟨k, kg, Nat.le_trans sV hk, Nat.le_trans sV hkg, ⟨⟨?_, ?_, zz⟩, ?_, ?_⟩, ?_, ?_, ?_⟩
 . unfold htop; exact t6
 . refine h5.lg.chg c6 ?_ ?_ ?_ ?_ <;> simp <;> omega
 . refine hc.chg c6 ?_ ?_ <;> simp <;> omega
 . dsimp only; omega
 . exact (Whole.at_ m8 0).trans rfl
 . exact (Whole.at_ m10 0).trans rfl
 . exact ((cV1.mono (by simp)).trans (Chg.of_below B5' _)).trans (c6.mono (by simp))
def OOut (w w' : World) (a0 : Ha) (R : Int × Nat × Nv) (G : List Int) (sb : Bool) (e : Ending) : Prop :=
 Chg [a0.g] w w' /\ ((R.1 = 0 /\ sb = true /\ ∃ z y q x k kg, e = .returned (.tuple #[.pointer (some ⟨z, 0, none⟩), .int .i64 0]) /\ (w.heap.size <= z /\ w.heap.size <= y /\ w.heap.size <= q /\ w.heap.size <= x /\ w.heap.size <= k /\ w.heap.size <= kg) ∧
  Hp w' ⟨z, a0.g, y, q, x, k, kg, a0.N, a0.P, a0.per, a0.b⟩ ⟨R.2.2, R.2.1, cnew a0.b G.length G G.length, false⟩) ∨
  (R.1 = 0 /\ sb = false /\ e = .returned (.tuple #[.pointer none, .int .i64 6]) /\ Nm w' a0.g R.2.2) ∨
  (R.1 ≠ 0 /\ e = .returned (.tuple #[.pointer none, .int .i64 R.1]) /\ Nm w' a0.g R.2.2))
structure OIn (a : Ha) (s : Nv) (X : List Int) (r : Nat) (F : Nat -> Nat) : Prop where
 num : HNum a
 lg : LgOk s (16 + a.N) a.P
 live : s.dark = false
 has : Has s a.N a.P X
 ok : WordsOk X
 rt : s.rg 2 = (r : Int)
 rlt : r < 4611686018427387904
 rgs : ∀ q, q < (a.N + 3) / 4 -> s.rg (19 + q) = (F q : Int) /\ F q < 4611686018427387904
 m : tm s + 30 < 1099511627776
 c : s.c + 20000 < 4611686018427387904
theorem hopen_is {w : World} {a : Ha} {s : Nv} {X : List Int} {r : Nat} {F : Nat -> Nat} {R : Int × Nat × Nv} (h : OIn a s X r F) (hN : Nm w a.g s) (hR : lrec (16 + a.N) a.P a.per 0 s = R) :
 Calls Tryz.prog 10 #[.pointer (some ⟨a.g, 0, none⟩), (Value.agg #[Value.int IntKind.i64 (a.N : Int), Value.int IntKind.i64 (a.P : Int), Value.int IntKind.i64 (a.per : Int), Value.int IntKind.i64 (a.b : Int)])] w fun e w' => OOut w w' a R (byF ((a.N + 3) / 4) fun q => (F q : Int)) (soundB X (r : Int)) e := by
 have hmf : ∀ (fn : Fn) (first cap : Array Value) (w : World), (Instr.makeFunc fn first cap).run Tryz.prog w = .ok (.func fn first cap) w := fun _ _ _ _ => rfl
 obtain ⟨W, hW, H⟩ := plan_boxed w (a.N : Int) (a.P : Int) (a.per : Int) (a.b : Int)
 have hn := h.num
 have hnN := hn.N
 have hnP := hn.P
 have hsn : (s.n : Int) = dvM (a.N : Int) (a.P : Int) := by have := h.lg.g.nn; unfold dvM; omega
 have PQ := jz H.out.1
 have HB := jz H.out.2
 have C1 := jz (fun w' (hb : Below W.heap.size W w') => hready_up (hn.may.may) ((hN.below H.out.2).below hb) hsn h.live)
 have C3 := jz (fun w' (hb : Below W.heap.size W w') => hlines_is hn ((hN.below H.out.2).below hb) (h.lg.g.tok h.live) (by have := h.m; omega))
 have HN0 := jz (hN.below H.out.2)
 have HNn := jz (And.intro hnN (And.intro hnP hn.per))
 have HGW : Hid (a.g < w.heap.size) := jz hN.lt
 have HCL := jz (fun w' (hb : Below W.heap.size W w') => (PQ.out.below hb).load)
 have HH := jz h
 have HRR := jz hR
 have HLW : Hid (W.heap.size = w.heap.size + 1) := jz (by rw [<- hW, size_alloc])
 have hr2 := lrec_out a.per 0 h.lg h.live (by have := h.m; omega)
 have hrh := fun k (hk : 19 <= k) => lrec_rgh (16 + a.N) a.P a.per 0 s (k := k) hk hnP
 rw [hR] at hr2 hrh
 have HR2 := jz (And.intro hr2 hrh)
 have l0 := HCL.out W (Below.refl _ _)
 clear h hN hn hnN hnP hsn H hR hr2 hrh
 obtain ⟨g, hg⟩ : ∃ g, a.g = g := ⟨_, rfl⟩
 have HG := jz hg
 rw [hg] at C1 C3 HN0 HGW ⊢
 clear hg
 generalize hNN : (a.N : Int) = iN at *
 generalize hPP : (a.P : Int) = iP at *
 generalize hpp : (a.per : Int) = ip at *
 generalize hbb : (a.b : Int) = ib at *
 have HNB := jz (And.intro hNN (And.intro hPP (And.intro hpp hbb)))
 clear hNN hPP hpp hbb
 go_enter Tryz.func10, Tryz.ntmps10
 go_wp2_with fail
 refine (C1.out _ (Below.refl _ _)).mono ?_; rintro e w1 ⟨rfl, b1⟩
 have D1 := jz b1
 clear b1 l0
 have l1 := HCL.out _ D1.out
 go_wp2_with fail
 refine (C3.out _ D1.out).mono ?_; rintro e w2 ⟨y, q, rfl, hy, hq, hyq, hQ, hT, b2⟩
 have D2 := jz (below_more D1.out b2)
 have TQ := jz (And.intro hQ hT)
 have NE := jz (And.intro hyq (And.intro (Nat.le_trans D1.out.size hy) (Nat.le_trans D1.out.size hq)))
 clear b2 hy hq hyq hQ hT l1 C1 C3
 have HLT : Hid (y < w2.heap.size /\ q < w2.heap.size /\ g < w2.heap.size) := jz ⟨Whole.lt TQ.out.2, Whole.lt TQ.out.1, Nat.lt_of_lt_of_le HGW.out (Nat.le_trans HB.out.size D2.out.size)⟩
 have lp : ∀ w', Kept (Below w2.heap.size w2 w') -> (planLoad (.pointer (some ⟨w.heap.size, 0, none⟩))).run Tryz.prog w' = .ok (Value.agg #[Value.int IntKind.i64 iN, Value.int IntKind.i64 iP, Value.int IntKind.i64 ip, Value.int IntKind.i64 ib]) w' := fun w' hb => HCL.out w' (below_more D2.out hb.out)
 have NC := jz (fun w' (hb : Kept (Below w2.heap.size w2 w')) => lg_new (TQ.out.2.below hb.out) (TQ.out.1.below hb.out) ((HN0.out.below D2.out).below hb.out) (by have := NE.out; have := HGW.out; have := HB.out.size; omega) (by have := NE.out; have := HGW.out; have := HB.out.size; omega) NE.out.1 (by have := HNn.out; omega))
 go_upto_region 7 with fail
 go_cut [8] from 23 to 30 (fun v8 wx => ∃ g' z' x' : Nat, v8 = .pointer (some ⟨g', 0, none⟩) /\ Hid (Whole wx g' 34 #[.pointer (some ⟨z', 0, none⟩)] /\ Whole wx z' 74 #[.pointer (some ⟨g, 0, none⟩), .int .i64 iN, .int .i64 iP, .int .i64 ip, .int .i64 ib, .pointer (some ⟨y, 0, none⟩), .pointer (some ⟨x', 0, none⟩), .pointer none, .bool false] /\ Lg wx x' g y q (16 + a.N) a.P a.per 0 s /\ Below w2.heap.size w2 wx /\ w2.heap.size <= g' /\ w2.heap.size <= z' /\ w2.heap.size <= x' /\ g' ≠ z' /\ z' ≠ x' /\ g' ≠ x'))
 case first =>
  go_region_held3 (fun w' => Kept (Below w2.heap.size w2 w'))
   (((refine ⟨?_⟩); (repeat' (with_reducible (first | exact Below.refl _ _ | refine Below.drew ?_ | refine below_more ?_ (by assumption) | refine bal ?_ | refine below_set_h ?_ ?_ | (simp only [Hid, size_alloc, size_drew] at *; omega))))))
   (first
     | (go_at_call 27; refine (NC.out _ (by first | assumption | ((refine ⟨?_⟩); (repeat' (with_reducible (first | exact Below.refl _ _ | refine Below.drew ?_ | refine below_more ?_ (by assumption) | refine bal ?_)))))).mono ?_; rintro e wq ⟨x', rfl, hx', hLx, hbq⟩; have zq := jz (And.intro hbq.size (And.intro hx' hLx.xlt)); clear hx')
     | (rw [run_hpStore (by (repeat' (first
         | ((with_reducible refine IsPtr.fresh _ _ ?_); (focus (first | (with_reducible rfl) | (simp only [size_alloc]; done))))
         | (with_reducible refine IsPtr.up ?_ _) | (with_reducible refine IsPtr.drew ?_) | (with_reducible refine IsPtr.call (by assumption) ?_))))]))
  all_goals (go_wp2_with fail; go_meet)
  all_goals
   apply Exists.intro
   apply Exists.intro
   apply Exists.intro
   refine ⟨rfl, jz ⟨?_, ?_, ?_, Kept.out ‹Kept (Below w2.heap.size w2 _)›, ?_, ?_, ?_, ?_, ?_, ?_⟩⟩
  all_goals (repeat' (first
   | (with_reducible refine put_ptr rfl ?_)
   | ((with_reducible refine IsPtr.fresh _ _ ?_); (focus (first | (with_reducible rfl) | (simp only [size_alloc]; done))))
   | (with_reducible refine IsPtr.up ?_ _) | (with_reducible refine IsPtr.drew ?_) | (with_reducible refine IsPtr.call (by assumption) ?_)
   | (with_reducible refine whole_past ?_ (by simp only [Hid, size_alloc, size_drew] at *; omega))
   | ((with_reducible refine whole_fresh _ _ ?_); (focus (first | (with_reducible rfl) | (simp only [size_alloc]; done))))
   | (with_reducible refine Whole.alloc ?_ _)
   | (with_reducible refine Lg.past ?_ (by simp only [Hid, size_alloc, size_drew] at *; omega))
   | (with_reducible refine Lg.alloc_h ?_ _)
   | assumption
   | (simp only [Hid, size_alloc, size_drew] at *; omega)))
 case rest =>
  obtain ⟨g', z', x', rfl, HX⟩ := hcut
  obtain ⟨t8, tz, hLx, BX, k1, k2, k3, k4, k5, k6⟩ := HX.out
  obtain ⟨f1, f2, f3, f4⟩ := HNB.out
  have zne : z' ≠ g /\ z' ≠ y /\ z' ≠ q /\ z' ≠ x' := by have := HLT.out; omega
  have HB0 : Hb wc ⟨z', g, y, q, x', 0, 0, a.N, a.P, a.per, a.b⟩ (.pointer none) false s 0 := ⟨by unfold htop; dsimp only; rw [f1, f2, f3, f4]; exact tz, hLx, zne⟩
  have c8 : wc.cell? ⟨g', 0, none⟩ = some (.pointer (some ⟨z', 0, none⟩)) := by rw [Whole.at_ t8]; rfl
  have c6 : wc.cell? ⟨z', 6, none⟩ = some (.pointer (some ⟨x', 0, none⟩)) := HB0.c6
  have RC := jz (rcv_is HRR.out hLx HH.out.lg HH.out.live ⟨by have := HNn.out; omega, by omega, by have := HH.out.m; omega, HH.out.c, by have := HNn.out; omega⟩)
  have DX := jz (below_more HB.out (below_more D2.out BX))
  have SX := jz BX.size
  have PQx : Hid (Pq wc w.heap.size iN iP ip ib) := jz ((PQ.out.below D2.out).below BX)
  -- behind the recovery
  have HREC : Hid (∀ w4, Lg w4 x' g y q (16 + a.N) a.P a.per R.2.1 R.2.2 -> Chg [g, y] wc w4 -> Chg [g] w w4 /\ Hb w4 ⟨z', g, y, q, x', 0, 0, a.N, a.P, a.per, a.b⟩ (.pointer none) false R.2.2 R.2.1 /\ Whole w4 g' 34 #[.pointer (some ⟨z', 0, none⟩)] /\ Pq w4 w.heap.size iN iP ip ib /\ wc.heap.size <= w4.heap.size) := jz fun w4 q1 q2 => by
   have n1 := NE.out
   have n2 := HLT.out
   have n3 := HLW.out
   have n4 := HGW.out
   exact ⟨chg_less DX.out q2 (by omega), ⟨q2.whole HB0.top (by simp; omega), q1, zne⟩, q2.whole t8 (by simp; omega), q2.whole PQx.out (by simp; omega), q2.size⟩
  have K1 := jz (And.intro k1 (And.intro k2 (And.intro k3 (And.intro k4 (And.intro k5 (And.intro k6 zne))))))
  clear t8 tz hLx BX k1 k2 k3 k4 k5 k6 zne HB0 lp NC TQ HN0 HCL HX PQ
  go_wp2_with fail
  refine (RC.out).mono ?_; rintro e w4 ⟨rfl, q1, q2⟩
  have H4 := jz (HREC.out w4 q1 q2)
  have N4 := jz q1.nm
  clear q1 q2 c8 c6 RC HREC
  by_cases h0 : R.1 = 0
  . rw [h0]
    obtain ⟨G1, G2, G3, G4, G5⟩ := H4.out
    obtain ⟨⟨SM, _, SV, SD⟩, SR⟩ := HR2.out
    have hd0 : R.2.2.dark = false := by
     rcases SD with ⟨_, q⟩ | ⟨q, _⟩
     . exact q
     . omega
    obtain ⟨W3, hW3⟩ : ∃ W3, w4.alloc (.cells #[.bool false] 4) = W3 := ⟨_, rfl⟩
    obtain ⟨V, hV⟩ : ∃ V, W3.alloc (.cells #[.int .i64 0] 32) = V := ⟨_, rfl⟩
    have s3 : W3.heap.size = w4.heap.size + 1 := by rw [<- hW3, size_alloc]
    have sV : V.heap.size = w4.heap.size + 2 := by rw [<- hV, size_alloc, s3]
    have B3 : Below w4.heap.size w4 W3 := by rw [<- hW3]; exact bal (Below.refl _ _)
    have BV : Below W3.heap.size W3 V := by rw [<- hV]; exact bal (Below.refl _ _)
    have HBV : Below w4.heap.size w4 V := below_more B3 BV
    have q10 : Whole W3 w4.heap.size 4 #[.bool false] := by rw [<- hW3]; exact heap_alloc_new w4 _
    have q10V : Whole V w4.heap.size 4 #[.bool false] := (BV.block _ (Whole.lt q10)).trans q10
    have qe : Whole V (w4.heap.size + 1) 32 #[.int .i64 0] := by rw [<- s3, <- hV]; exact heap_alloc_new W3 _
    have q8V : Whole V g' 34 #[.pointer (some ⟨z', 0, none⟩)] := (HBV.block _ (Whole.lt G3)).trans G3
    have cz3 : W3.cell? ⟨g', 0, none⟩ = some (.pointer (some ⟨z', 0, none⟩)) := by
     have : Whole W3 g' 34 #[.pointer (some ⟨z', 0, none⟩)] := (B3.block _ (Whole.lt G3)).trans G3
     rw [Whole.at_ this]; rfl
    have l8 := Whole.lt G3
    have lz := Whole.lt G2.top
    have lg := G2.lg.nm.lt
    have ly := Whole.lt G2.lg.tq
    have lq := Whole.lt G2.lg.lq
    have lx := G2.lg.xlt
    have l3 := Whole.lt G4
    dsimp only at lz lg ly lq lx
    have kk := K1.out
    obtain ⟨f1, f2, f3, f4⟩ := HNB.out
    have G4V : Pq V w.heap.size (a.N : Int) (a.P : Int) (a.per : Int) (a.b : Int) := by rw [f1, f2, f3, f4]; exact G4.below HBV
    have OC := hopen1_is (r := r) (F := F) (b8 := g') (b10 := w4.heap.size) (b3 := w.heap.size) (G2.below HBV) ⟨HH.out.num.N, HH.out.num.P, HH.out.num.per, HH.out.num.b⟩ SM.lg hd0 (HH.out.has.same fun b _ hb => SV b (by omega)) HH.out.ok (SM.r2.trans HH.out.rt) HH.out.rlt (fun q hq => by have := HH.out.rgs q hq; exact ⟨(SR (19 + q) (by omega)).trans this.1, this.2⟩) (by rw [Whole.at_ q8V]; rfl) q10V G4V (by
     have := HLW.out
     have := D2.out.size
     dsimp only
     omega)
    generalize hct : cnew a.b ((a.N + 3) / 4) (byF ((a.N + 3) / 4) fun q => (F q : Int)) ((a.N + 3) / 4) = ct at *
    have HPW := jz (powered_is 30 #[.pointer (some ⟨g', 0, none⟩), .pointer (some ⟨w4.heap.size, 0, none⟩), .pointer (some ⟨w.heap.size, 0, none⟩)] W3 (Op0 V w4.heap.size ⟨z', g, y, q, x', 0, 0, a.N, a.P, a.per, a.b⟩ ct (soundB X (r : Int))) (fun _ => False) (fun _ => rfl) (by
     rw [hV]
     refine OC.mono ?_
     rintro e w' ⟨he, hq⟩
     have e2 := op0_err hq qe (by omega) (by dsimp only; omega)
     refine ⟨?_, .inl ⟨he, hq⟩⟩
     unfold OkErr
     rw [s3]
     exact ⟨(Whole.at_ e2 0).trans rfl, Whole.free e2 0⟩))
    have HF := jz (fun w' (hq : Op0 V w4.heap.size ⟨z', g, y, q, x', 0, 0, a.N, a.P, a.per, a.b⟩ ct (soundB X (r : Int)) w') => open_end (be := w4.heap.size + 1) (G2.below HBV) hq q8V q10V (by dsimp only; omega) (by dsimp only; omega) (by dsimp only; omega))
    have HO := jz (fun w' (hq : Op0 V w4.heap.size ⟨z', g, y, q, x', 0, 0, a.N, a.P, a.per, a.b⟩ ct (soundB X (r : Int)) w') => (show
     (w'.setCell ⟨W3.heap.size, 0, none⟩ (.int .i64 0)).cell? ⟨g', 0, none⟩ = some (.pointer (some ⟨z', 0, none⟩)) /\ (w'.setCell ⟨W3.heap.size, 0, none⟩ (.int .i64 0)).cell? ⟨w4.heap.size, 0, none⟩ = some (.bool (soundB X (r : Int))) ∧
     OOut w (w'.setCell ⟨W3.heap.size, 0, none⟩ (.int .i64 0)) a R (byF ((a.N + 3) / 4) fun q => (F q : Int)) (soundB X (r : Int)) (.returned (.tuple #[if soundB X (r : Int) then .pointer (some ⟨z', 0, none⟩) else .pointer none, .int .i64 (if soundB X (r : Int) then 0 else 6)])) from by
     obtain ⟨k, kg, m1, m2, m3, m4, m5, m6⟩ := HF.out w' hq
     rw [s3]
     have hw := HLW.out
     have hd2 := D2.out.size
     have hb := HB.out.size
     have hsx := DX.out.size
     have hne := NE.out
     have hsx2 := SX.out
     refine ⟨m4, m5, ?_, ?_⟩
     . rw [HG.out]
       have c := (G1.trans (Chg.of_below HBV [g]))
       refine ⟨m6.os.trans c.os, m6.tape.trans c.tape, m6.output.trans c.output, Nat.le_trans c.size m6.size, fun j hj hD => (m6.block j (Nat.lt_of_lt_of_le hj c.size) (by simp; omega)).trans (c.block j hj hD)⟩
     . have hl : (byF ((a.N + 3) / 4) fun q => (F q : Int)).length = (a.N + 3) / 4 := byF_length _ _
       cases hsb : soundB X (r : Int) with
       | true =>
         refine .inl ⟨h0, rfl, z', y, q, x', k, kg, rfl, by omega, ?_⟩
         rw [hl, HG.out, hct]
         exact m3
       | false => exact .inr (.inl ⟨h0, rfl, rfl, by rw [HG.out]; exact m3.hb.lg.nm⟩)))
    have hb8 := HF
    have c10a : W3.cell? ⟨w4.heap.size, 0, none⟩ = some (.bool false) := (Whole.at_ q10 0).trans rfl
    have f10a : W3.frozen? ⟨w4.heap.size, 0, none⟩ = false := Whole.free q10 0
    have hst : W3.setCell ⟨w4.heap.size, 0, none⟩ (.bool false) = W3 := by rw [<- hW3]; simp [go_sem]
    clear G1 G2 G3 G4 G5 SM SV SD SR B3 BV HBV q10 q10V qe q8V l8 lz lg ly lq lx l3 kk f1 f2 f3 f4 G4V OC HF hb8 sV hV hct h0 hd0 H4 N4
    obtain ⟨sb, hsb⟩ : ∃ sb, soundB X (r : Int) = sb := ⟨_, rfl⟩
    rw [hsb] at HO HPW
    have HSB := jz hsb
    clear hsb
    go_wp2_with fail
    refine (HPW.out).mono ?_; rintro e w5 (⟨rfl, w6, hq, rfl⟩ | ⟨_, w6, hq, _⟩)
    . obtain ⟨c8, c10, hO⟩ := HO.out w6 hq
      have HO2 := jz hO
      clear hq hO HO HPW cz3
      generalize w6.setCell ⟨W3.heap.size, 0, none⟩ (.int .i64 0) = w7 at *
      cases sb with
      | true =>
        go_wp2_with fail
        go_ret2
        rw [HSB.out]
        exact HO2.out
      | false =>
        go_wp2_with fail
        go_ret2
        rw [HSB.out]
        exact HO2.out
    . exact hq.elim
  . have i4 : (R.1 == 0) = false := beq_eq_false_iff_ne.2 h0
    have i5 : (R.1 != 0) = true := by simpa using h0
    have HO : Hid (OOut w w4 a R (byF ((a.N + 3) / 4) fun q => (F q : Int)) (soundB X (r : Int)) (.returned (.tuple #[.pointer none, .int .i64 R.1]))) := jz ⟨by rw [HG.out]; exact H4.out.1, .inr (.inr ⟨h0, rfl, by rw [HG.out]; exact N4.out⟩)⟩
    clear h0 H4 N4
    generalize R.1 = R1 at *
    go_wp2_with fail
    go_ret2
    exact HO.out
theorem br_nat {v : Nat} (h : v <= 1099511627776) : br (v : Int) = v := by
 unfold br
 split
 . omega
 . split <;> omega
theorem cnew_c {b n : Nat} {l : List Int} {F : Nat -> Nat} (hl : l = byF n fun q => (F q : Int)) (hF : ∀ q, q < n -> F q <= 1099511627776) : ∀ q, q < n -> (cnew b n l n).c q = F q /\ (cnew b n l n).k q = F q := fun q hq => by
 have e : br (l.getD q 0) = F q := by
  rw [hl, byF_getD _ hq]
  exact br_nat (hF q hq)
 unfold cnew
 dsimp only
 rw [if_pos hq]
 exact ⟨e, e⟩
theorem rec_out {s : Nv} {N P per K : Nat} {X : List Int} {r : Nat} {R : Int × Nat × Nv} (h : HC s N P K X r) (hP : P <= 16) (hK : K < 1000) (hd : s.dark = false) (hR : lrec (16 + N) P per 0 s = R) :
 HC R.2.2 N P (K + 1) X r /\ R.2.1 <= 14 /\ R.2.2.la = s.la /\ R.2.2.comes = s.comes /\ R.2.2.n = s.n /\ (∀ q, R.2.2.rg (19 + q) = s.rg (19 + q)) /\ (lk s = 0 -> R = (0, 0, s)) /\ (Free s -> R.1 = 0 /\ Free R.2.2 /\ lk R.2.2 = 0) /\ ((R.1 = 0 /\ R.2.2.dark = false) \/ (R.1 = 2 /\ s.comes = true)) := by
 have hm := h.m
 have hc := h.c
 obtain ⟨S, hp, hv, ho⟩ := lrec_out per 0 h.lg hd (by omega)
 have hr := fun k (hk : 19 <= k) => lrec_rgh (16 + N) P per 0 s (k := k) hk hP
 have h0 : lk s = 0 -> lrec (16 + N) P per 0 s = (0, 0, s) := fun q => by rw [lrec, if_pos q]
 have hf : Free s -> (lrec (16 + N) P per 0 s).1 = 0 /\ Free (lrec (16 + N) P per 0 s).2.2 /\ lk (lrec (16 + N) P per 0 s).2.2 = 0 := fun F => by
  by_cases q : lk s = 0
  . rw [h0 q]; exact ⟨rfl, F, q⟩
  . rw [lrec, if_neg q]
    exact lfin_go per 0 h.lg.g (by rcases h.lg.fo with e | e; exact absurd e q; exact e) (com_wide h.lg.g.ok _ _) h.lg.n17 F (by omega)
 rw [hR] at S hp hv ho hr h0 hf
 have sh := S.hi
 have sc := S.c
 refine ⟨⟨S.lg, h.has.same fun b _ hb => hv b (by omega), h.ok, h.snd, S.r2.trans h.rt, h.rlt, fun q hq => ?_, by omega, by omega, by omega⟩, by omega, S.la, S.comes, S.lg.g.nn.trans h.lg.g.nn.symm, fun q => hr _ (by omega), h0, hf, ho⟩
 obtain ⟨v, e1, e2⟩ := h.rgs q hq
 exact ⟨v, (hr (19 + q) (by omega)).trans e1, by omega⟩
def ROut (w w' : World) (a0 : Ha) (s : Nv) (K : Nat) (X : List Int) (r : Nat) (e : Ending) : Prop :=
 Chg [a0.g] w w' ∧
 ((∃ a S, e = .returned (.tuple #[.pointer (some ⟨a.z, 0, none⟩), .int .i64 0]) /\ (a.g = a0.g /\ a.N = a0.N /\ a.P = a0.P /\ a.per = a0.per /\ a.b = a0.b) /\ (w.heap.size <= a.z /\ w.heap.size <= a.y /\ w.heap.size <= a.q /\ w.heap.size <= a.x /\ w.heap.size <= a.k /\ w.heap.size <= a.kg) ∧
    Hp w' a S /\ HI a S (K + 1) X r /\ S.wf = false /\ S.s.la = s.la /\ S.s.comes = s.comes /\ S.s.n = s.n /\ (lk s = 0 -> S.s = s) /\ (Free s -> Free S.s /\ lk S.s = 0) /\ (∀ q, q < (a0.N + 3) / 4 -> s.rg (19 + q) = (S.ct.c q : Int))) ∨
  (e = .returned (.tuple #[.pointer none, .int .i64 2]) /\ s.comes = true /\ ∃ s', Nm w' a0.g s' /\ HC s' a0.N a0.P (K + 1) X r /\ s'.la = s.la /\ s'.comes = s.comes /\ s'.n = s.n))
theorem hopen_hc {w : World} {a : Ha} {s : Nv} {K : Nat} {X : List Int} {r : Nat} (hn : HNum a) (h : HC s a.N a.P K X r) (hK : K < 1000) (hd : s.dark = false) (hN : Nm w a.g s) :
 Calls Tryz.prog 10 #[.pointer (some ⟨a.g, 0, none⟩), (Value.agg #[Value.int IntKind.i64 (a.N : Int), Value.int IntKind.i64 (a.P : Int), Value.int IntKind.i64 (a.per : Int), Value.int IntKind.i64 (a.b : Int)])] w fun e w' => ROut w w' a s K X r e := by
 have hnN := hn.N
 have hq16 : ∀ q, q < (a.N + 3) / 4 -> q < 16 := fun q hq => by omega
 have hF : ∀ q, q < (a.N + 3) / 4 -> s.rg (19 + q) = (((s.rg (19 + q)).toNat : Nat) : Int) /\ (s.rg (19 + q)).toNat <= 14 * K := fun q hq => by
  obtain ⟨v, e1, e2⟩ := h.rgs q (hq16 q hq)
  rw [e1]
  omega
 have hm := h.m
 have hc := h.c
 have hrl := h.rlt
 have hIn : OIn a s X r (fun q => (s.rg (19 + q)).toNat) := ⟨hn, h.lg, hd, h.has, h.ok, h.rt, by omega, fun q hq => by have := hF q hq; exact ⟨this.1, by omega⟩, by omega, by omega⟩
 refine (hopen_is hIn hN rfl).mono ?_
 rintro e w' ⟨c1, o⟩
 obtain ⟨g1, g2, g3, g4, g5, g6, g7, g8, g9⟩ := rec_out (per := a.per) h hn.P hK hd rfl
 have hwl : (lrec (16 + a.N) a.P a.per 0 s).1 = 0 -> lk (lrec (16 + a.N) a.P a.per 0 s).2.2 ≠ 0 -> leftT ((lrec (16 + a.N) a.P a.per 0 s).2.2.tb a.P) = 0 := lrec_left
 generalize lrec (16 + a.N) a.P a.per 0 s = R at *
 have hs : soundB X (r : Int) = true := h.snd
 refine ⟨c1, ?_⟩
 rcases o with ⟨e0, _, z, y, qq, x, k, kg, he, hnew, hp⟩ | ⟨_, e1, _⟩ | ⟨e0, he, hN'⟩
 . have hd' : R.2.2.dark = false := by
    rcases g9 with ⟨_, q⟩ | ⟨q, _⟩
    . exact q
    . omega
   obtain ⟨G, hG⟩ : ∃ G, (byF ((a.N + 3) / 4) fun q => (((s.rg (19 + q)).toNat : Nat) : Int)) = G := ⟨_, rfl⟩
   have hl : G.length = (a.N + 3) / 4 := by rw [<- hG, byF_length]
   rw [hG, hl] at hp
   have hcc := cnew_c (b := a.b) hG.symm (fun q hq => by have := (hF q hq).2; omega)
   have hok := cnew_ok hn.b.1 hn.b.2 (l := G) (by omega) G.length
   rw [hl] at hok
   refine .inl ⟨⟨z, a.g, y, qq, x, k, kg, a.N, a.P, a.per, a.b⟩, ⟨R.2.2, R.2.1, cnew a.b ((a.N + 3) / 4) G ((a.N + 3) / 4), false⟩, he, ⟨rfl, rfl, rfl, rfl, rfl⟩, hnew, hp, ⟨g1, hd', ⟨hn.N, hn.P, hn.per, hn.b⟩, hok, rfl, rfl, fun q (hq : q < (a.N + 3) / 4) => ?_, fun q (hq : q < (a.N + 3) / 4) => ?_, by dsimp only; omega, fun q => hwl e0 (q.resolve_left fun k => by cases k)⟩, rfl, g3, g4, g5, fun q => (by rw [g7 q] : R.2.2 = s), fun F => (g8 F).2, fun q hq => ?_⟩
   . show R.2.2.rg (19 + q) = _
     rw [g6 q, (hcc q hq).2]
     exact (hF q hq).1
   . show (cnew a.b ((a.N + 3) / 4) G ((a.N + 3) / 4)).c q <= 14 * (K + 1)
     rw [(hcc q hq).1]
     have := (hF q hq).2
     omega
   . show s.rg (19 + q) = (((cnew a.b ((a.N + 3) / 4) G ((a.N + 3) / 4)).c q : Nat) : Int)
     rw [(hcc q hq).1]
     exact (hF q hq).1
 . rw [hs] at e1; cases e1
 . rcases g9 with ⟨q, _⟩ | ⟨q, co⟩
   . exact absurd q e0
   . exact .inr ⟨by rw [he, q], co, R.2.2, hN', g1, g3, g4, g5⟩
theorem HC.more {s : Nv} {N P K J : Nat} {X : List Int} {r : Nat} (h : HC s N P K X r) (hJ : K <= J) (h2 : J <= 1000) : HC s N P J X r :=
 ⟨h.lg, h.has, h.ok, h.snd, h.rt, h.rlt, fun q hq => by obtain ⟨v, e1, e2⟩ := h.rgs q hq; exact ⟨v, e1, by omega⟩, by have := h.m; omega, by have := h.c; omega, h2⟩
theorem HI.more {a : Ha} {S : Hs} {K J : Nat} {X : List Int} {r : Nat} (h : HI a S K X r) (hJ : K <= J) (h2 : J <= 1000) : HI a S J X r :=
 ⟨h.hc.more hJ h2, h.live, h.num, h.ct, h.cn, h.cb, h.kp, fun q hq => by have := h.cm q hq; omega, by have := h.p; omega, h.wl⟩
theorem fst_hc {s0 s : Nv} {a : Ha} {p : Nat} (hn : HNum a) (h : Fst s0 s a.N a.P p a.N (firstL (8 * a.N : Nat))) : HC s a.N a.P 2 (firstL (8 * a.N : Nat)) 0 /\ lk s = 0 := by
 have hnN := hn.N
 obtain ⟨f1, f2, f3⟩ := first_blk (mw_of hn)
 have hk : lk s = 0 := lk_of h.r1
 have hm := h.m
 have hc := h.c
 refine ⟨⟨⟨h.g, by omega, by rw [hk]; exact h.r1, .inl hk⟩, ⟨f2, fun i hi => ?_⟩, f3, sound_of f1 (.inl rfl), h.r2, by omega, fun q _ => ⟨0, h.rgs _ (by omega), by omega⟩, by omega, by omega, by omega⟩, hk⟩
 rw [view_none hk, h.at_ i hi, if_pos hi]
theorem plan_rest {X : List Int} {r : Nat} {cs : List Int} {d o n : Int} {bl : List Int} {pl : Aim} (h : PlanOf X r cs d o n bl pl) (hc : pl.ch = true -> pl.e ≠ 0) : pl.X = X /\ pl.r = r /\ pl.L = [] := by
 unfold PlanOf at h
 by_cases c1 : d = 1
 . rw [if_pos c1] at h
   subst h
   unfold plA plNo at *
   split
   . exact ⟨rfl, rfl, rfl⟩
   . rename_i q
     rw [if_neg q] at hc
     split
     . rename_i q2
       rw [if_pos q2] at hc
       exact absurd rfl (hc rfl)
     . exact ⟨rfl, rfl, rfl⟩
 rw [if_neg c1] at h
 by_cases c2 : d = 2
 . rw [if_pos c2] at h
   subst h
   unfold plF plNo at *
   split
   . exact ⟨rfl, rfl, rfl⟩
   . rename_i q
     rw [if_neg q] at hc
     split
     . exact ⟨rfl, rfl, rfl⟩
     . rename_i q2
       rw [if_neg q2] at hc
       exact absurd rfl (hc rfl)
 rw [if_neg c2] at h
 by_cases c3 : d = 3
 . rw [if_pos c3] at h
   subst h
   exact ⟨rfl, rfl, rfl⟩
 rw [if_neg c3] at h
 by_cases c4 : d = 4
 . rw [if_pos c4] at h
   obtain ⟨M, _, rfl⟩ := h
   unfold plW plNo at *
   split
   . exact ⟨rfl, rfl, rfl⟩
   . rename_i q
     rw [if_neg q] at hc
     exact absurd rfl (hc rfl)
 rw [if_neg c4] at h
 by_cases c5 : d = 5
 . rw [if_pos c5] at h
   subst h
   unfold plR plNo at *
   split
   . rename_i q
     rw [if_pos q] at hc
     exact absurd rfl (hc rfl)
   . exact ⟨rfl, rfl, rfl⟩
 rw [if_neg c5] at h
 by_cases c6 : d = 6
 . rw [if_pos c6] at h
   subst h
   exact ⟨rfl, rfl, rfl⟩
 rw [if_neg c6] at h
 subst h
 exact ⟨rfl, rfl, rfl⟩
inductive CalmD (w w' : World) (a : Ha) (S S' : Hs) (K : Nat) (X : List Int) (r : Nat) (x : Px) (e : Ending) : Prop
 | goes (pl : Aim) (v : Value) (h1 : PlanOf X r S.ct.ints x.d x.o x.nn x.bl pl) (h2 : e = .returned (.agg (anc pl.e pl.off v))) (h3 : OwnA byE w.heap.size w' v pl.data) (h4 : pl.ch = true -> S.worn = false) (h5 : HI a S' (K + 1) pl.X pl.r) (h6 : S'.ct = nts S.ct (pgs pl.L)) (h7 : Free S.s -> lk S.s = 0 -> Free S'.s /\ lk S'.s = 0) (h8 : S'.wf = S.wf) (h9 : pl.ch = false \/ pl.e ≠ 0 -> S' = S)
 | worn (pl : Aim) (v : Value) (h1 : PlanOf X r S.ct.ints x.d x.o x.nn x.bl pl) (h2 : e = .returned (.agg (anc 3 0 v))) (h3 : OwnA byE w.heap.size w' v []) (h4 : pl.ch = true) (h5 : S.worn = true) (h6 : S' = S)
 | wears (pl : Aim) (v : Value) (h1 : PlanOf X r S.ct.ints x.d x.o x.nn x.bl pl) (h2 : e = .returned (.agg (anc 3 0 v))) (h3 : OwnA byE w.heap.size w' v []) (h4 : pl.ch = true /\ pl.e = 0 /\ x.d ≠ 5) (h5 : S.worn = false) (h6 : HI a S' (K + 1) X r) (h7 : S'.ct = S.ct) (h8 : S'.worn = true) (h9 : ¬ Free S.s)
theorem tld_own (pl : Aim) : tld pl pl.e = (pl.off, pl.data) := by unfold tld; rw [if_pos rfl]
theorem tld_three {X : List Int} {r : Nat} {cs : List Int} {d o n : Int} {bl : List Int} {pl : Aim} (h : PlanOf X r cs d o n bl pl) : tld pl 3 = (0, []) := by
 unfold tld
 split
 . rename_i q
   exfalso
   unfold PlanOf at h
   have hr : ∀ a b, refF X a b ≠ 3 := fun a b e => by rcases refF_cases X a b with c | c | c <;> omega
   have ha : ∀ n cs, (alR X n cs).2.2 ≠ 3 := fun n cs e => by
    unfold alR at e
    split at e
    . cases e
    . split at e
      . cases e
      . split at e <;> cases e
   have hf : ∀ o, (frR X o).2 ≠ 3 := fun o e => by
    unfold frR at e
    split at e
    . cases e
    . split at e <;> cases e
   by_cases c1 : d = 1
   . rw [if_pos c1] at h
     subst h
     unfold plA plNo at q
     split at q
     . cases q
     . split at q
       . cases q
       . exact ha _ _ q.symm
   rw [if_neg c1] at h
   by_cases c2 : d = 2
   . rw [if_pos c2] at h
     subst h
     unfold plF plNo at q
     split at q
     . exact hf _ q.symm
     . split at q <;> cases q
   rw [if_neg c2] at h
   by_cases c3 : d = 3
   . rw [if_pos c3] at h
     subst h
     exact hr _ _ q.symm
   rw [if_neg c3] at h
   by_cases c4 : d = 4
   . rw [if_pos c4] at h
     obtain ⟨M, _, rfl⟩ := h
     unfold plW plNo at q
     split at q
     . exact hr _ _ q.symm
     . cases q
   rw [if_neg c4] at h
   by_cases c5 : d = 5
   . rw [if_pos c5] at h
     subst h
     unfold plR plNo at q
     split at q <;> cases q
   rw [if_neg c5] at h
   by_cases c6 : d = 6
   . rw [if_pos c6] at h
     subst h
     cases q
   rw [if_neg c6] at h
   subst h
   cases q
 . rfl
theorem do_calm {w w' : World} {a : Ha} {S : Hs} {K : Nat} {X : List Int} {r : Nat} {x : Px} {e : Ending} (hi : HI a S K X r) (hK : K < 1000) (hc : S.s.comes = false) (h : DoOut w w' a S K X r x e) :
 ∃ S', Hp w' a S' /\ Chg a.D w w' /\ S'.s.la = S.s.la /\ S'.s.comes = false /\ S'.s.n = S.s.n /\ CalmD w w' a S S' K X r x e := by
 obtain ⟨pl, t, v, h1, h2, h3, S', g1, g2, g3, g4, g5, h⟩ := h
 refine ⟨S', g1, g2, g3, g4.trans hc, g5, ?_⟩
 rcases h with ⟨rfl, q1, q2, rfl⟩ | ⟨rfl, q1, rfl⟩ | ⟨rfl, q1, q2, q3, q4, q5, q6, q7⟩ | ⟨rfl, q1, q2, q3, q4, q5, q6, q7, q8⟩ | ⟨q0, q1, q2, q3, q4, q5⟩
 . have t3 := tld_three h1
   simp only [dE, dO] at h2 h3
   rw [t3] at h2 h3
   exact .worn pl v h1 h2 h3 q1 q2 rfl
 . simp only [dE, dO] at h2 h3
   rw [tld_own] at h2 h3
   obtain ⟨p1, p2, p3⟩ := plan_rest h1 fun q => (q1 q).1
   refine .goes pl v h1 h2 h3 (fun q => (q1 q).2) (by rw [p1, p2]; exact hi.more (by omega) (by omega)) (by rw [p3]; rfl) (fun F q => ⟨F, q⟩) rfl fun _ => rfl
 . simp only [dE, dO] at h2 h3
   rw [show tld pl 0 = (pl.off, pl.data) by rw [<- q2]; exact tld_own pl] at h2 h3
   refine .goes pl v h1 (by rw [q2]; exact h2) h3 (fun _ => q3) q4 q5 (fun F _ => q7 F) q6 fun q => ?_
   rcases q with q | q
   . rw [q1] at q; cases q
   . exact absurd q2 q
 . have t3 := tld_three h1
   simp only [dE, dO] at h2 h3
   rw [t3] at h2 h3
   exact .wears pl v h1 h2 h3 ⟨q1, q2, q4⟩ q3 q5 q6 (by unfold Hs.worn; rw [q7]; rfl) q8
 . rw [hc] at q4; cases q4
def plnStore (p v : Value) : Sem Unit := Instr.storeAt 23 p v
@[go_sem ↓] theorem storeAt_pln (p v : Value) : Instr.storeAt 23 p v = plnStore p v := rfl
theorem Pq.pstore {w : World} {g : Nat} {l s p b l' s' p' b' : Int} (h : Pq w g l s p b) : (plnStore (.pointer (some ⟨g, 0, none⟩)) (Value.agg #[Value.int IntKind.i64 l', Value.int IntKind.i64 s', Value.int IntKind.i64 p', Value.int IntKind.i64 b'])).run Tryz.prog w = .ok () (w.setRow g #[Value.int IntKind.i64 l', Value.int IntKind.i64 s', Value.int IntKind.i64 p', Value.int IntKind.i64 b']) := by
 unfold plnStore
 simp only [Instr.storeAt, Instr.sureAddr, Sem.run_bind, Sem.run_pure, Result.andThen]
 exact run_storeVar_row w g 23 23 #[Value.int IntKind.i64 l, Value.int IntKind.i64 s, Value.int IntKind.i64 p, Value.int IntKind.i64 b] #[Value.int IntKind.i64 l', Value.int IntKind.i64 s', Value.int IntKind.i64 p', Value.int IntKind.i64 b'] h (by rw [info_plan]; rfl) rfl (by simp [Value.oneCell'])
theorem Pq.pput {w : World} {g : Nat} {l s p b l' s' p' b' : Int} (h : Pq w g l s p b) : Pq (w.setRow g #[Value.int IntKind.i64 l', Value.int IntKind.i64 s', Value.int IntKind.i64 p', Value.int IntKind.i64 b']) g l' s' p' b' := by
 have q : w.heap[g]? = some (.cells #[Value.int IntKind.i64 l, Value.int IntKind.i64 s, Value.int IntKind.i64 p, Value.int IntKind.i64 b] 23 (0, 0)) := h
 unfold Pq Whole
 simp [World.setRow, Array.getElem?_modify, q]
theorem plan_raw (a0 a1 a2 a3 : Int) (w : World) : Calls Tryz.prog 6 #[.int .i64 a0, .int .i64 a1, .int .i64 a2, .int .i64 a3] w fun e w' => (∃ N P per b : Nat, e = .returned (Value.agg #[Value.int IntKind.i64 (N : Int), Value.int IntKind.i64 (P : Int), Value.int IntKind.i64 (per : Int), Value.int IntKind.i64 (b : Int)]) /\ 1 <= N /\ N <= 24 /\ P <= 16 /\ 1 <= per /\ per <= 30 /\ 1 <= b /\ b <= 10) /\ Below w.heap.size w w' := by
 obtain ⟨u0, hu0, _⟩ := u64_nat a0
 obtain ⟨u1, hu1, _⟩ := u64_nat a1
 obtain ⟨u2, hu2, _⟩ := u64_nat a2
 obtain ⟨u3, hu3, _⟩ := u64_nat a3
 have m0 : u0 % 24 < 24 := Nat.mod_lt _ (by decide)
 have m1 : u1 % 17 < 17 := Nat.mod_lt _ (by decide)
 have m2 : u2 % 30 < 30 := Nat.mod_lt _ (by decide)
 have m3 : u3 % 10 < 10 := Nat.mod_lt _ (by decide)
 have t0 : (u0 : Int).tmod 24 = ((u0 % 24 : Nat) : Int) := tmod_nat u0 24
 have t1 : (u1 : Int).tmod 17 = ((u1 % 17 : Nat) : Int) := tmod_nat u1 17
 have t2 : (u2 : Int).tmod 30 = ((u2 % 30 : Nat) : Int) := tmod_nat u2 30
 have t3 : (u3 : Int).tmod 10 = ((u3 % 10 : Nat) : Int) := tmod_nat u3 10
 generalize u0 % 24 = n0 at *
 generalize u1 % 17 = n1 at *
 generalize u2 % 30 = n2 at *
 generalize u3 % 10 = n3 at *
 have k0 : IntKind.i64.wrap (n0 : Int) = n0 := i64_nat _ (by omega)
 have k1 : IntKind.i64.wrap (n1 : Int) = n1 := i64_nat _ (by omega)
 have k2 : IntKind.i64.wrap (n2 : Int) = n2 := i64_nat _ (by omega)
 have k3 : IntKind.i64.wrap (n3 : Int) = n3 := i64_nat _ (by omega)
 have j0 : IntKind.i64.wrap (1 + (n0 : Int)) = ((1 + n0 : Nat) : Int) := by rw [show 1 + (n0 : Int) = ((1 + n0 : Nat) : Int) by omega]; exact i64_nat _ (by omega)
 have j2 : IntKind.i64.wrap (1 + (n2 : Int)) = ((1 + n2 : Nat) : Int) := by rw [show 1 + (n2 : Int) = ((1 + n2 : Nat) : Int) by omega]; exact i64_nat _ (by omega)
 have j3 : IntKind.i64.wrap (1 + (n3 : Int)) = ((1 + n3 : Nat) : Int) := by rw [show 1 + (n3 : Int) = ((1 + n3 : Nat) : Int) by omega]; exact i64_nat _ (by omega)
 have HK : Hid (1 <= 1 + n0 /\ 1 + n0 <= 24 /\ n1 <= 16 /\ 1 <= 1 + n2 /\ 1 + n2 <= 30 /\ 1 <= 1 + n3 /\ 1 + n3 <= 10) := jz (by omega)
 obtain ⟨W, hW⟩ : ∃ W, w.alloc (.cells #[.int .i64 0, .int .i64 0, .int .i64 0, .int .i64 0] 23) = W := ⟨_, rfl⟩
 have hWh : Pq W w.heap.size 0 0 0 0 := by rw [<- hW]; exact heap_alloc_new w _
 have hst := hWh.pstore (l' := ((1 + n0 : Nat) : Int)) (s' := (n1 : Int)) (p' := ((1 + n2 : Nat) : Int)) (b' := ((1 + n3 : Nat) : Int))
 have HV := jz (And.intro (hWh.pput (l' := ((1 + n0 : Nat) : Int)) (s' := (n1 : Int)) (p' := ((1 + n2 : Nat) : Int)) (b' := ((1 + n3 : Nat) : Int))) (show Below w.heap.size w (W.setRow w.heap.size #[Value.int IntKind.i64 ((1 + n0 : Nat) : Int), Value.int IntKind.i64 (n1 : Int), Value.int IntKind.i64 ((1 + n2 : Nat) : Int), Value.int IntKind.i64 ((1 + n3 : Nat) : Int)]) from by rw [<- hW]; exact below_row (bal (Below.refl _ _)) (Nat.le_refl _)))
 clear m0 m1 m2 m3 hWh
 generalize 1 + n0 = N0 at *
 generalize 1 + n2 = N2 at *
 generalize 1 + n3 = N3 at *
 obtain ⟨V, hV⟩ : ∃ V, W.setRow w.heap.size #[Value.int IntKind.i64 (N0 : Int), Value.int IntKind.i64 (n1 : Int), Value.int IntKind.i64 (N2 : Int), Value.int IntKind.i64 (N3 : Int)] = V := ⟨_, rfl⟩
 rw [hV] at hst HV
 go_enter Tryz.func6, Tryz.ntmps6
 go_wp2
 exact bodyPost_ret (v := (Value.agg #[Value.int IntKind.i64 (N0 : Int), Value.int IntKind.i64 (n1 : Int), Value.int IntKind.i64 (N2 : Int), Value.int IntKind.i64 (N3 : Int)])) (results_cell_row rfl _ _ _ _ _ _ _ rfl HV.out.1 Tryz.underlying23 rfl (by rw [info_plan]; rfl)) rfl ⟨⟨_, _, _, _, rfl, HK.out⟩, HV.out.2⟩
def hx0 : List Int := 64 :: List.replicate 31 0
def hx1 : List Int := 5 :: 0 :: 60 :: List.replicate 29 0
def hx2 : List Int := 5 :: 7 :: 60 :: List.replicate 29 0
theorem built_plan3 : Tryz.prog.built 23 [(0, .int .i64 4), (2, .int .i64 3), (3, .int .i64 2)] = some #[Value.int IntKind.i64 ((4 : Nat) : Int), Value.int IntKind.i64 ((0 : Nat) : Int), Value.int IntKind.i64 ((3 : Nat) : Int), Value.int IntKind.i64 ((2 : Nat) : Int)] := by kernel_rfl
def plnBuild (ps : Array (Nat × Value)) : Sem Value := Instr.build 23 ps
@[go_sem ↓] theorem build_pln (ps : Array (Nat × Value)) : Instr.build 23 ps = plnBuild ps := rfl
@[go_sem] theorem run_plnBuild3 (w : World) : (plnBuild #[(0, .int .i64 4), (2, .int .i64 3), (3, .int .i64 2)]).run Tryz.prog w = .ok (Value.agg #[Value.int IntKind.i64 ((4 : Nat) : Int), Value.int IntKind.i64 ((0 : Nat) : Int), Value.int IntKind.i64 ((3 : Nat) : Int), Value.int IntKind.i64 ((2 : Nat) : Int)]) w := run_build w _ _ _ built_plan3

structure Light (l : List Px) (lim : List Int) : Prop where
 lim : lim.length <= 200
 len : l.length <= 80
 bl : ∀ k, k < l.length -> (l.getD k default).bl.length <= 500
def opSlice (n : Nat) (ps : Array (Nat × Value)) : Sem Value := Instr.buildSlice 25 n ps
@[go_sem ↓] theorem slice_op (n : Nat) (ps : Array (Nat × Value)) : Instr.buildSlice 25 n ps = opSlice n ps := rfl

theorem alq_off {X : List Int} {l : List Bk} (hB : blkF X = some l) {N : Int} {cs : List Int} {d : Nat} (hN : 2 <= N) (h : chN N cs l = some d) : alQ N l (offB (atL l d)) = some d := by
 have hm := blkF_some hB
 obtain ⟨h1, hcan, hu, hs, hf⟩ := chN_can hm h hN
 unfold alQ
 have hat : atL l d = (l.getD d default).a := by unfold atL; rfl
 cases e : (fitN N l).find? fun d' => decide (offB (l.getD d' default).a = offB (atL l d)) with
 | none =>
   have := List.find?_eq_none.1 e d hf
   rw [hat] at this
   simp at this
 | some d' =>
   have p := List.find?_some e
   have hd' := List.mem_of_find?_eq_some e
   simp only [decide_eq_true_eq] at p
   obtain ⟨f1, _⟩ := fitN_mem hd'
   have a1 := offB_in hm (getD_mem (l := l) (k := d') f1)
   have a2 := offB_in hm (getD_mem (l := l) (k := d) h1)
   rw [hat, a1.2.2, a2.2.2] at p
   rw [apart_a hm f1 h1 (by omega)]
theorem aim_alloc {X : List Int} {l : List Bk} {r N : Nat} {n : Int} {cs : List Int} (hl : X.length = 8 * N) (hs : soundB X r = true) (hok : WordsOk X) (hB : blkF X = some l) (h0 : (plA X r cs n).e = 0) :
 (alR X n cs).2.2 = 0 /\ (plA X r cs n).off = (alR X n cs).2.1 /\ (alQ (needN n) l (plA X r cs n).off).isSome = true /\ alW X (needN n) l (plA X r cs n).off = (plA X r cs n).X /\ blkF (plA X r cs n).X = some (alB (needN n) l (plA X r cs n).off) /\ WordsOk (plA X r cs n).X /\ (plA X r cs n).r = r /\ needN n ≠ 0 := by
 have hn : needN n ≠ 0 := fun q => by unfold plA plNo at h0; rw [if_pos q] at h0; cases h0
 have he : (alR X n cs).2.2 = 0 := Classical.byContradiction fun q => by
  unfold plA at h0; rw [if_neg hn, if_neg q] at h0; exact q h0
 obtain ⟨hg, l', d, hB', hc, ha, hcan⟩ := alR_good hl hs hok hn he
 obtain rfl : l = l' := Option.some.inj (hB.symm.trans hB')
 have hq := alq_off hB (need_two hn).1 hc
 have hp : plA X r cs n = ⟨0, offB (atL l d), [], true, appF X (cedF l d (needN n)), r, lnsF (cedF l d (needN n)), true⟩ := by
  unfold plA; rw [if_neg hn, if_pos he, ha]
 obtain ⟨t1, _⟩ := taken hB hok hcan
 rw [hp, ha]
 rw [ha] at hg
 refine ⟨rfl, rfl, ?_, ?_, ?_, hg.ok, rfl, hn⟩
 . rw [hq]; rfl
 . unfold alW; rw [hq]
 . unfold alB; rw [hq]; exact t1
theorem aim_free {X : List Int} {l : List Bk} {r : Nat} {o : Int} (hok : WordsOk X) (hB : blkF X = some l) : (plF X r o).e = feQ l o r /\ (plF X r o).X = feW X l o r /\ blkF (plF X r o).X = some (feB l o r) /\ ((plF X r o).ch = true ↔ (plF X r o).e = 0) /\ (plF X r o).r = r := by
 unfold plF plNo feQ feW feB
 cases hi : isN o l with
 | none =>
   rw [frR_none hB hi, if_pos (by decide)]
   exact ⟨rfl, rfl, hB, ⟨fun q => (by cases q), fun q => (by cases q)⟩, rfl⟩
 | some k =>
   have hf := frR_some hB hi
   rw [hf, if_neg (by simp)]
   by_cases h : o = (r : Int)
   . rw [if_pos h]
     dsimp only
     rw [if_pos h, if_pos h, if_pos h]
     exact ⟨rfl, rfl, hB, ⟨fun q => (by cases q), fun q => (by cases q)⟩, rfl⟩
   . rw [if_neg h]
     dsimp only
     rw [if_neg h, if_neg h, if_neg h]
     exact ⟨rfl, rfl, (given hB hok (isN_can hB hi)).1, ⟨fun _ => rfl, fun _ => rfl⟩, rfl⟩
theorem aim_root {X : List Int} {l : List Bk} {r : Nat} {o : Int} (hB : blkF X = some l) : (plR X r o).e = srQ l o /\ (plR X r o).X = X /\ (((plR X r o).r : Nat) : Int) = (if srQ l o = 0 then o else (r : Int)) /\ ((plR X r o).ch = true ↔ (plR X r o).e = 0) := by
 have hm := blkF_some hB
 unfold plR plNo srQ
 by_cases h : rootB X o = true
 . have h' := (rootB_iff hB o).1 h
   rw [if_pos h]
   have hq : ¬ (o ≠ 0 /\ isN o l = none) := fun q => by
    rcases h' with e | ⟨j, e⟩
    . exact q.1 e
    . rw [q.2] at e; cases e
   rw [if_neg hq]
   have h0 : 0 <= o := by
    rcases h' with rfl | ⟨j, e⟩
    . decide
    . obtain ⟨j1, j2, j3⟩ := isN_some e
      have := offB_in hm (getD_mem j1)
      rw [<- j3]; omega
   exact ⟨rfl, rfl, by dsimp only; omega, ⟨fun _ => rfl, fun _ => rfl⟩⟩
 . rw [if_neg h]
   have hq : o ≠ 0 /\ isN o l = none := ⟨fun e => h ((rootB_iff hB o).2 (.inl e)), by
    cases e : isN o l with
    | none => rfl
    | some j => exact absurd ((rootB_iff hB o).2 (.inr ⟨j, e⟩)) h⟩
   rw [if_pos hq]
   exact ⟨rfl, rfl, rfl, ⟨fun q => (by cases q), fun q => (by cases q)⟩⟩
theorem aim_write {X : List Int} {l : List Bk} {r N : Nat} {o : Int} {bl : List Int} {M : List Ed} (hl : X.length = 8 * N) (hs : soundB X r = true) (hok : WordsOk X) (hB : blkF X = some l) (hM : WrT X bl o M) :
 (plW X r o bl M).e = refF X o bl.length /\ (∀ M', WrT X bl o M' -> appF X M' = (plW X r o bl M).X /\ M'.length <= 4000) /\ blkF (plW X r o bl M).X = some l /\ WordsOk (plW X r o bl M).X /\ ((plW X r o bl M).ch = true ↔ (plW X r o bl M).e = 0 /\ bl ≠ []) /\ (plW X r o bl M).r = r := by
 have hone : ∀ M', WrT X bl o M' -> M' = M := fun M' h' => h'.one hM
 unfold plW plNo
 by_cases h0 : refF X o bl.length ≠ 0
 . rw [if_pos (.inl h0)]
   have hnil : M = [] := by unfold WrT at hM; rw [if_neg h0] at hM; exact hM
   exact ⟨rfl, fun M' h' => by rw [hone M' h', hnil]; exact ⟨rfl, by simp⟩, hB, hok, ⟨fun q => (by cases q), fun q => absurd q.1 h0⟩, rfl⟩
 . have h0' : refF X o bl.length = 0 := Classical.not_not.1 h0
   by_cases hb : bl = []
   . rw [if_pos (.inr hb)]
     have hnil : M = [] := by
      subst hb
      unfold WrT at hM
      rw [if_pos h0'] at hM
      unfold Tells at hM
      split at hM
      . exact List.eq_nil_of_length_eq_zero (by rw [hM.len]; simp [cnt])
      . exact hM
     exact ⟨rfl, fun M' h' => by rw [hone M' h', hnil]; exact ⟨rfl, by simp⟩, hB, hok, ⟨fun q => (by cases q), fun q => absurd hb q.2⟩, rfl⟩
   . rw [if_neg (fun q => by rcases q with q | q; exact h0 q; exact hb q)]
     obtain ⟨hg, l', hB', hB2⟩ := wr_good hl hs hok hM h0' hb
     obtain rfl : l = l' := Option.some.inj (hB.symm.trans hB')
     exact ⟨h0'.symm, fun M' h' => by rw [hone M' h']; exact ⟨rfl, hg.len⟩, hB2, hg.ok, ⟨fun _ => ⟨rfl, hb⟩, fun _ => rfl⟩, rfl⟩
theorem plan_three {X : List Int} {r : Nat} {cs : List Int} {d o n : Int} {bl : List Int} {pl : Aim} (h : PlanOf X r cs d o n bl pl) : pl.e ≠ 3 := by
 intro q
 unfold PlanOf at h
 have hr : ∀ a b, refF X a b ≠ 3 := fun a b e => by rcases refF_cases X a b with c | c | c <;> omega
 have ha : ∀ n cs, (alR X n cs).2.2 ≠ 3 := fun n cs e => by
  unfold alR at e
  split at e
  . cases e
  . split at e
    . cases e
    . split at e <;> cases e
 have hf : ∀ o, (frR X o).2 ≠ 3 := fun o e => by
  unfold frR at e
  split at e
  . cases e
  . split at e <;> cases e
 by_cases c1 : d = 1
 . rw [if_pos c1] at h
   subst h
   unfold plA plNo at q
   split at q
   . cases q
   . split at q
     . cases q
     . exact ha _ _ q
 rw [if_neg c1] at h
 by_cases c2 : d = 2
 . rw [if_pos c2] at h
   subst h
   unfold plF plNo at q
   split at q
   . exact hf _ q
   . split at q <;> cases q
 rw [if_neg c2] at h
 by_cases c3 : d = 3
 . rw [if_pos c3] at h
   subst h
   exact hr _ _ q
 rw [if_neg c3] at h
 by_cases c4 : d = 4
 . rw [if_pos c4] at h
   obtain ⟨M, _, rfl⟩ := h
   unfold plW plNo at q
   split at q
   . exact hr _ _ q
   . cases q
 rw [if_neg c4] at h
 by_cases c5 : d = 5
 . rw [if_pos c5] at h
   subst h
   unfold plR plNo at q
   split at q <;> cases q
 rw [if_neg c5] at h
 by_cases c6 : d = 6
 . rw [if_pos c6] at h
   subst h
   cases q
 rw [if_neg c6] at h
 subst h
 cases q
structure WantP (X : List Int) (pl : Aim) (Q : Int) (X7 : List Int) (r7 : Int) (non : Bool) : Prop where
 e : pl.e = Q
 off : pl.off = 0
 data : pl.data = []
 X : pl.X = X7
 r : ((pl.r : Nat) : Int) = r7
 ch : pl.ch = true ↔ Q = 0 /\ non = false
 n3 : Q ≠ 3
theorem want2 {X : List Int} {l : List Bk} {r : Nat} {cs : List Int} {o n : Int} {bl : List Int} {pl : Aim} (hok : WordsOk X) (hB : blkF X = some l) (h : PlanOf X r cs 2 o n bl pl) : WantP X pl (feQ l o r) (feW X l o r) r false := by
 have h3 := plan_three h
 have e : pl = plF X r o := h
 rw [e] at h3 ⊢
 obtain ⟨a1, a2, a3, a4, a5⟩ := aim_free (r := r) (o := o) hok hB
 have b : (plF X r o).off = 0 /\ (plF X r o).data = [] := by
  unfold plF plNo
  split
  . exact ⟨rfl, rfl⟩
  . split <;> exact ⟨rfl, rfl⟩
 exact ⟨a1, b.1, b.2, a2, by rw [a5], by rw [a4, a1]; simp, by rw [<- a1]; exact h3⟩
theorem want5 {X : List Int} {l : List Bk} {r : Nat} {cs : List Int} {o n : Int} {bl : List Int} {pl : Aim} (hB : blkF X = some l) (h : PlanOf X r cs 5 o n bl pl) : WantP X pl (srQ l o) X (if srQ l o = 0 then o else (r : Int)) false := by
 have h3 := plan_three h
 have e : pl = plR X r o := h
 rw [e] at h3 ⊢
 obtain ⟨a1, a2, a3, a4⟩ := aim_root (r := r) (o := o) hB
 have b : (plR X r o).off = 0 /\ (plR X r o).data = [] := by
  unfold plR plNo
  split <;> exact ⟨rfl, rfl⟩
 exact ⟨a1, b.1, b.2, a2, a3, by rw [a4, a1]; simp, by rw [<- a1]; exact h3⟩
theorem want4 {X : List Int} {l : List Bk} {r N : Nat} {cs : List Int} {o n : Int} {bl : List Int} {pl : Aim} (hl : X.length = 8 * N) (hs : soundB X r = true) (hok : WordsOk X) (hB : blkF X = some l) (h : PlanOf X r cs 4 o n bl pl) :
 WantP X pl (refF X o bl.length) pl.X r (decide (bl.length = 0)) /\ (∀ M', WrT X bl o M' -> appF X M' = pl.X /\ M'.length <= 4000) /\ blkF pl.X = some l /\ WordsOk pl.X := by
 have h3 := plan_three h
 have e : ∃ M, WrT X bl o M /\ pl = plW X r o bl M := h
 obtain ⟨M, hM, e⟩ := e
 rw [e] at h3 ⊢
 obtain ⟨a1, a2, a3, a4, a5, a6⟩ := aim_write hl hs hok hB hM
 have b : (plW X r o bl M).off = 0 /\ (plW X r o bl M).data = [] := by
  unfold plW plNo
  split <;> exact ⟨rfl, rfl⟩
 exact ⟨⟨a1, b.1, b.2, rfl, by rw [a6], by rw [a5, a1]; simp, by rw [<- a1]; exact h3⟩, a2, a3, a4⟩
structure Yes (S' : Hs) (X' : List Int) (r' : Nat) (b : Bool) (s' : Js) : Prop where
 b : b = true
 X : s'.wl = X'
 r : s'.r = (r' : Int)
 w : s'.w = true -> S'.worn = true
theorem want_sees {S S' : Hs} {X : List Int} {lb : List Bk} {r : Nat} {jw : Bool} {d o n : Int} {bl : List Int} {pl : Aim} {Q : Int} {s2 : Js} (hc : ChQ ⟨X, lb, (r : Int), jw⟩ d o bl Q s2) (hd : d = 2 \/ d = 4 \/ d = 5)
 (hW : WantP X pl Q s2.wl s2.r (decide (d = 4 /\ bl = []))) (hj : jw = true -> S.worn = true) (h4 : pl.ch = true -> S.worn = false) (h9 : pl.ch = false \/ pl.e ≠ 0 -> S' = S) {b : Bool} {s' : Js} (q : SeeQ ⟨X, lb, (r : Int), jw⟩ d o n bl pl.e pl.off pl.data b s') : Yes S' pl.X pl.r b s' := by
 unfold SeeQ at q
 rw [if_neg (by omega), if_pos hd] at q
 obtain ⟨er, s3, hc3, q⟩ := q
 obtain ⟨rfl, rfl⟩ := hc.one hc3
 have hsw : s2.w = jw := by
  unfold ChQ at hc
  split at hc
  . rw [hc.2]
  . split at hc
    . obtain ⟨_, M, _, e⟩ := hc; rw [e]
    . rw [hc.2]
 have hch : pl.ch = true ↔ Q = 0 /\ must d bl := by
  rw [hW.ch]
  unfold must
  simp
 have n3 := hW.n3
 have hb3 : bare3 pl.e pl.off pl.data Q := ⟨hW.e, hW.off, hW.data⟩
 rw [if_neg (fun k => n3 (hW.e.symm.trans k.2.2.1))] at q
 by_cases hz : Q = 0 /\ must d bl /\ jw = true
 . have h1 := h4 (hch.2 ⟨hz.1, hz.2.1⟩)
   have h2 := hj hz.2.2
   rw [h1] at h2; cases h2
 rw [if_neg hz, if_pos hb3] at q
 obtain ⟨rfl, rfl⟩ := q
 refine ⟨rfl, hW.X.symm, hW.r.symm, fun hw => ?_⟩
 rw [hsw] at hw
 have hwn := hj hw
 have hcf : pl.ch = false := by
  cases e : pl.ch with
  | false => rfl
  | true => have := h4 e; rw [hwn] at this; cases this
 rw [h9 (.inl hcf)]
 exact hwn
theorem worn_sees {S' : Hs} {X : List Int} {lb : List Bk} {r : Nat} {cs : List Int} {jw : Bool} {d o n : Int} {bl : List Int} {pl : Aim} {N : Nat} (hl : X.length = 8 * N) (hs : soundB X r = true) (hok : WordsOk X) (hB : blkF X = some lb) (h1 : PlanOf X r cs d o n bl pl) (hch : pl.ch = true) (hw : S'.worn = true) {b : Bool} {s' : Js} (q : SeeQ ⟨X, lb, (r : Int), jw⟩ d o n bl 3 0 [] b s') : Yes S' X r b s' := by
 have h3 : bare3 3 0 [] 3 := ⟨rfl, rfl, rfl⟩
 have fin : ∀ {b : Bool} {s' : Js}, b = true /\ s' = ⟨X, lb, (r : Int), true⟩ -> Yes S' X r b s' := by
  rintro b s' ⟨rfl, rfl⟩
  exact ⟨rfl, rfl, rfl, fun _ => hw⟩
 unfold SeeQ at q
 by_cases c1 : d = 1
 . subst c1
   rw [if_pos rfl] at q
   have e : pl = plA X r cs n := h1
   subst e
   unfold SeeA at q
   have hN : needN n ≠ 0 := fun k => by
    unfold plA plNo at hch
    rw [if_pos k] at hch; cases hch
   rw [if_neg hN, if_pos h3] at q
   exact fin q
 rw [if_neg c1] at q
 have go : ∀ {Q : Int} {X7 : List Int} {r7 : Int} {non : Bool} {s2 : Js}, WantP X pl Q X7 r7 non -> ChQ ⟨X, lb, (r : Int), jw⟩ d o bl Q s2 -> (non = false -> must d bl) -> SeeC ⟨X, lb, (r : Int), jw⟩ d o bl 3 0 [] b s' -> Yes S' X r b s' := by
  intro Q X7 r7 non s2 hW hc hm q
  obtain ⟨er, s3, hc3, q⟩ := q
  obtain ⟨rfl, rfl⟩ := hc.one hc3
  obtain ⟨z1, z2⟩ := hW.ch.1 hch
  rw [if_pos ⟨z1, hm z2, h3⟩] at q
  exact fin q
 by_cases c2 : d = 2
 . subst c2
   rw [if_pos (.inl rfl)] at q
   exact go (want2 hok hB h1) (by unfold ChQ; rw [if_pos rfl]; exact ⟨rfl, rfl⟩) (fun _ => by unfold must; omega) q
 by_cases c4 : d = 4
 . subst c4
   rw [if_pos (.inr (.inl rfl))] at q
   have h1c := h1
   obtain ⟨M, hM, _⟩ : ∃ M, WrT X bl o M /\ pl = plW X r o bl M := h1c
   exact go (want4 hl hs hok hB h1).1 (by unfold ChQ; rw [if_neg (by decide), if_pos rfl]; exact ⟨rfl, M, hM, rfl⟩) (fun k => by
    have k := of_decide_eq_false k
    exact fun m => k (by rw [m.2]; rfl)) q
 by_cases c5 : d = 5
 . subst c5
   rw [if_pos (.inr (.inr rfl))] at q
   exact go (want5 hB h1) (by unfold ChQ; rw [if_neg (by decide), if_neg (by decide)]; exact ⟨rfl, rfl⟩) (fun _ => by unfold must; omega) q
 exfalso
 unfold PlanOf at h1
 rw [if_neg c1, if_neg c2] at h1
 by_cases c3 : d = 3
 . rw [if_pos c3] at h1; rw [h1] at hch; cases hch
 rw [if_neg c3, if_neg c4, if_neg c5] at h1
 by_cases c6 : d = 6
 . rw [if_pos c6] at h1; rw [h1] at hch; cases hch
 rw [if_neg c6] at h1
 rw [h1] at hch; cases hch
theorem calm_sees {w w' : World} {a : Ha} {S S' : Hs} {K : Nat} {X : List Int} {lb : List Bk} {r : Nat} {jw : Bool} {x : Px} {e : Ending} (hi : HI a S K X r) (hK : K < 1000) (hB : blkF X = some lb) (hj : jw = true -> S.worn = true) (h : CalmD w w' a S S' K X r x e) :
 ∃ er off v da X' r', e = .returned (.agg (anc er off v)) /\ OwnA byE w.heap.size w' v da /\ HI a S' (K + 1) X' r' /\ ∀ b s', SeeQ ⟨X, lb, (r : Int), jw⟩ x.d x.o x.nn x.bl er off da b s' -> Yes S' X' r' b s' := by
 have hl := hi.len.1
 have hs := hi.hc.snd
 have hok := hi.hc.ok
 cases h with
 | worn pl v h1 h2 h3 h4 h5 h6 =>
   subst h6
   exact ⟨3, 0, v, [], X, r, h2, h3, hi.more (by omega) (by omega), fun b s' q => worn_sees hl hs hok hB h1 h4 h5 q⟩
 | wears pl v h1 h2 h3 h4 h5 h6 h7 h8 h9 =>
   exact ⟨3, 0, v, [], X, r, h2, h3, h6, fun b s' q => worn_sees hl hs hok hB h1 h4.1 h8 q⟩
 | goes pl v h1 h2 h3 h4 h5 h6 h7 h8 h9 =>
   refine ⟨pl.e, pl.off, v, pl.data, pl.X, pl.r, h2, h3, h5, fun b s' q => ?_⟩
   have n3 := plan_three h1
   have stay : pl.ch = false -> pl.X = X -> pl.r = r -> b = true /\ s' = ⟨X, lb, (r : Int), jw⟩ -> Yes S' pl.X pl.r b s' := by
    rintro k1 k2 k3 ⟨rfl, rfl⟩
    exact ⟨rfl, k2.symm, by rw [k3], fun hw => by rw [h9 (.inl k1)]; exact hj hw⟩
   by_cases c1 : x.d = 1
   . have e : pl = plA X r S.ct.ints x.nn := by unfold PlanOf at h1; rwa [if_pos c1] at h1
     unfold SeeQ SeeA at q
     rw [if_pos c1] at q
     dsimp only at q
     by_cases hN : needN x.nn = 0
     . rw [if_pos hN] at q
       have e1 : pl = plNo X r 1 := by rw [e, plA, if_pos hN]
       rw [e1] at q stay ⊢
       exact stay rfl rfl rfl ⟨q.1.trans (decide_eq_true ⟨rfl, rfl, rfl⟩), q.2⟩
     rw [if_neg hN, if_neg (fun k => n3 k.1)] at q
     have hch : pl.ch = true := by
      rw [e, plA, if_neg hN]
      split <;> rfl
     have hjw : jw = false := by
      cases jw with
      | false => rfl
      | true => have := hj rfl; rw [h4 hch] at this; cases this
     rw [if_neg (by rw [hjw]; decide)] at q
     by_cases h0 : (alR X x.nn S.ct.ints).2.2 = 0
     . have e0 : (plA X r S.ct.ints x.nn).e = 0 := by rw [plA, if_neg hN, if_pos h0]
       have ed : (plA X r S.ct.ints x.nn).data = [] := by rw [plA, if_neg hN, if_pos h0]
       obtain ⟨_, _, g3, g4, g5, g6, g7, _⟩ := aim_alloc hl hs hok hB e0
       rw [e] at q ⊢
       rw [if_neg (fun k => by have := k.1; omega), if_pos ⟨e0, ed⟩] at q
       obtain ⟨rfl, rfl⟩ := q
       exact ⟨g3, g4, by rw [g7], fun hw => by rw [hjw] at hw; cases hw⟩
     . have e2 : pl = ⟨(alR X x.nn S.ct.ints).2.2, 0, [], true, X, r, [], false⟩ := by rw [e, plA, if_neg hN, if_neg h0]
       have hcn : chN (needN x.nn) S.ct.ints lb = none := by
        cases k : chN (needN x.nn) S.ct.ints lb with
        | none => rfl
        | some d => exact absurd (by rw [alR_some hB hN k]) h0
       have e4 : (alR X x.nn S.ct.ints).2.2 = 4 := by rw [alR_none hB hN hcn]
       have hfo : fos (needN x.nn) lb = [] := by
        have : fitN (needN x.nn) lb = [] := Classical.byContradiction fun k => by
         obtain ⟨d, hd, _⟩ := chN_some (cs := S.ct.ints) k
         rw [hcn] at hd; cases hd
        unfold fos fbl
        rw [this]; rfl
       rw [e2] at q ⊢
       rw [e4] at q
       rw [if_pos (by exact ⟨rfl, rfl, rfl⟩), hfo] at q
       obtain ⟨rfl, rfl⟩ := q
       exact ⟨rfl, rfl, rfl, fun hw => by rw [hjw] at hw; cases hw⟩
   by_cases c2 : x.d = 2
   . have h1' := h1
     rw [c2] at h1'
     refine want_sees (s2 := ⟨feW X lb x.o r, feB lb x.o r, r, jw⟩) (by unfold ChQ; rw [if_pos c2]; exact ⟨rfl, rfl⟩) (.inl c2) ?_ hj h4 h9 q
     rw [show decide (x.d = 4 /\ x.bl = []) = false from decide_eq_false fun k => by omega]
     exact want2 hok hB h1'
   by_cases c4 : x.d = 4
   . have h1' := h1
     rw [c4] at h1'
     have h1c := h1'
     obtain ⟨M, hM, _⟩ : ∃ M, WrT X x.bl x.o M /\ pl = plW X r x.o x.bl M := h1c
     obtain ⟨k1, k2, _, _⟩ := want4 hl hs hok hB h1'
     refine want_sees (s2 := ⟨appF X M, lb, r, jw⟩) (by unfold ChQ; rw [if_neg c2, if_pos c4]; exact ⟨rfl, M, hM, rfl⟩) (.inr (.inl c4)) ?_ hj h4 h9 q
     rw [show decide (x.d = 4 /\ x.bl = []) = decide (x.bl.length = 0) from decide_eq_decide.2 ⟨fun k => by rw [k.2]; rfl, fun k => ⟨c4, List.length_eq_zero_iff.1 k⟩⟩, (k2 M hM).1]
     exact k1
   by_cases c5 : x.d = 5
   . have h1' := h1
     rw [c5] at h1'
     refine want_sees (s2 := ⟨X, lb, if srQ lb x.o = 0 then x.o else r, jw⟩) (by unfold ChQ; rw [if_neg c2, if_neg c4]; exact ⟨rfl, rfl⟩) (.inr (.inr c5)) ?_ hj h4 h9 q
     rw [show decide (x.d = 4 /\ x.bl = []) = false from decide_eq_false fun k => by omega]
     exact want5 hB h1'
   unfold SeeQ at q
   rw [if_neg c1, if_neg (by omega)] at q
   unfold PlanOf at h1
   rw [if_neg c1, if_neg c2] at h1
   by_cases c3 : x.d = 3
   . rw [if_pos c3] at h1 q
     rw [h1] at q stay ⊢
     exact stay rfl rfl rfl ⟨q.1.trans (decide_eq_true ⟨rfl, rfl, rfl⟩), q.2⟩
   rw [if_neg c3] at h1 q
   rw [if_neg c4, if_neg c5] at h1
   by_cases c6 : x.d = 6
   . rw [if_pos c6] at h1 q
     rw [h1] at q stay ⊢
     exact stay rfl rfl rfl ⟨q.1.trans (decide_eq_true ⟨rfl, rfl, rfl⟩), q.2⟩
   rw [if_neg c6] at h1 q
   rw [h1] at q stay ⊢
   exact stay rfl rfl rfl ⟨q.1.trans (decide_eq_true ⟨rfl, rfl, rfl⟩), q.2⟩
structure JRun (w0 wi : World) (a : Ha) (j K : Nat) (S : Hs) (X : List Int) (r g : Nat) (D : List Nat) (s : Js) : Prop where
 hp : Hp wi a S
 hi : HI a S K X r
 co : S.s.comes = false
 jo : Jo wi D j g s
 b : Below w0.heap.size w0 wi
 lo : ∀ k ∈ a.D, w0.heap.size <= k
 lj : w0.heap.size <= j /\ w0.heap.size <= g
 aD : ∀ k ∈ a.D, k ∈ D
 far : ∀ k ∈ [a.z, a.g, a.y, a.q, a.x, a.k, a.kg], k ≠ j /\ k ≠ g
 X : s.wl = X
 r : s.r = (r : Int)
 w : s.w = true -> S.worn = true
theorem JRun.below {w0 wi w' : World} {a : Ha} {j K : Nat} {S : Hs} {X : List Int} {r g : Nat} {D : List Nat} {s : Js} (h : JRun w0 wi a j K S X r g D s) (hb : Below wi.heap.size wi w') : JRun w0 w' a j K S X r g D s :=
 ⟨h.hp.below hb, h.hi, h.co, h.jo.below hb, below_more h.b hb, h.lo, h.lj, h.aD, h.far, h.X, h.r, h.w⟩
structure JAsk (w0 wi : World) (a : Ha) (j K : Nat) (S : Hs) (X : List Int) (r g : Nat) (D : List Nat) (s : Js) (x : Px) (er off : Int) (v : Value) (da : List Int) : Prop where
 hp : Hp wi a S
 hi : HI a S (K + 1) X r
 co : S.s.comes = false
 jo : Jo wi D j g s
 b : Below w0.heap.size w0 wi
 lo : ∀ k ∈ a.D, w0.heap.size <= k
 lj : w0.heap.size <= j /\ w0.heap.size <= g
 aD : ∀ k ∈ a.D, k ∈ D
 far : ∀ k ∈ [a.z, a.g, a.y, a.q, a.x, a.k, a.kg], k ≠ j /\ k ≠ g
 dd : RA byE wi v da
 yes : ∀ b s', SeeQ s x.d x.o x.nn x.bl er off da b s' -> Yes S X r b s'
theorem Ha.D_in {a : Ha} {k : Nat} (h : k ∈ a.D) : k ∈ [a.z, a.g, a.y, a.q, a.x, a.k, a.kg] := by
 simp [Ha.D] at h ⊢; omega
theorem JRun.asks {w0 wi : World} {a : Ha} {j K : Nat} {S : Hs} {X : List Int} {r g : Nat} {D : List Nat} {s : Js} (x : Px) (h : JRun w0 wi a j K S X r g D s) (hK : K < 1000) (hx : PxOk wi x) :
 Calls Tryz.prog 14 #[.pointer (some ⟨a.z, 0, none⟩), .agg (pxc x)] wi fun e w' => ∃ er off v da S' X' r', e = .returned (.agg (anc er off v)) /\ Chg a.D wi w' /\ JAsk w0 w' a j K S' X' r' g D s x er off v da := by
 refine (hdo_is x h.hp h.hi hK hx).mono ?_
 intro e w' hd
 obtain ⟨S', g1, g2, g3, g4, g5, hc⟩ := do_calm h.hi hK h.co hd
 have hB := h.jo.m.hB
 have hjo := h.jo
 have hw := h.w
 have hX := h.X
 have hr := h.r
 obtain ⟨wl, lb, r0, jw⟩ := s
 dsimp only at hB hX hr hw
 subst hX hr
 obtain ⟨er, off, v, da, X', r', k1, k2, k3, k4⟩ := calm_sees (lb := lb) (jw := jw) h.hi hK hB hw hc
 refine ⟨er, off, v, da, S', X', r', k1, g2, ⟨g1, k3, g4, ?_, g2.below h.b h.b.size h.lo, h.lo, h.lj, h.aD, h.far, k2.ra, k4⟩⟩
 exact hjo.wide g2 h.aD (fun q => (h.far _ (Ha.D_in q)).2 rfl) (fun q => (h.far _ (Ha.D_in q)).1 rfl) (fun _ h => h) (fun _ h => .inl h) (fun k hk => Nat.lt_of_lt_of_le (hjo.m.dlt k hk) g2.size)
theorem JAsk.sees {w0 wi : World} {a : Ha} {j K : Nat} {S : Hs} {X : List Int} {r g : Nat} {D : List Nat} {s : Js} {x : Px} {er off : Int} {v : Value} {da : List Int} (h : JAsk w0 wi a j K S X r g D s x er off v da) (hx : PxOk wi x) :
 Calls Tryz.prog 13 #[.pointer (some ⟨j, 0, none⟩), .agg (pxc x), .agg (anc er off v)] wi fun e w' => e = .returned (.bool true) /\ Chg [j, g] wi w' /\ ∃ g' D' s', JRun w0 w' a j (K + 1) S X r g' D' s' := by
 refine (jsee_is x er off h.jo hx.v hx.len h.dd).mono ?_
 rintro e w' ⟨b, s', g', D', rfl, q, hj, hc, hg, hn⟩
 obtain ⟨rfl, y2, y3, y4⟩ := h.yes _ _ q
 have ha := h.hp.all
 have hne : ∀ k ∈ [a.z, a.g, a.y, a.q, a.x, a.k, a.kg], k ∉ [j, g] := fun k hk q => by
  have := h.far k hk
  simp at q
  omega
 have hs := h.b.size
 have hlj := h.lj
 refine ⟨rfl, hc, g', D', s', ⟨h.hp.chg hc (hne _ (by simp)) (hne _ (by simp)) (hne _ (by simp)) (hne _ (by simp)) (hne _ (by simp)) (hne _ (by simp)) (hne _ (by simp)), h.hi, h.co, hj, hc.below h.b h.b.size fun k hk => ?_, h.lo, ⟨hlj.1, ?_⟩, fun k hk => hg.sub k (h.aD k hk), fun k hk => ⟨(h.far k hk).1, ?_⟩, y2, y3, y4⟩⟩
 . rcases List.mem_cons.1 hk with rfl | hk
   . exact hlj.1
   . rw [List.mem_singleton.1 hk]; exact hlj.2
 . rcases hn with rfl | hn
   . exact hlj.2
   . omega
 . rcases hn with rfl | hn
   . exact (h.far k hk).2
   . intro e
     simp only [List.mem_cons, List.not_mem_nil, or_false] at hk
     rcases hk with rfl | rfl | rfl | rfl | rfl | rfl | rfl <;> omega




theorem px_ok {W w : World} {x : Px} (h : x.Wf W) (hb : Below W.heap.size W w) (hl : x.bl.length <= 100000) : PxOk w x := ⟨ra_below h.rv hb, hl, i64_wf h.wo, i64_wf h.wn⟩
theorem heavy21b {W0 w : World} (l : List Px) (lim : List Int) (v u : Value) (hv : RA (opE W0) w v l) (hu : RI w u lim) :
 Calls Tryz.prog 4 #[v, u] w fun e w' => (∃ r : Nat, e = .returned (.int .i64 (r : Int)) /\ r <= 81 /\ (r = 0 -> Light l lim)) /\ Below w.heap.size w w' := by
 have HV := jz hv
 obtain ⟨p, cap, rfl, h1, h2⟩ := ra_shape hv
 obtain ⟨p2, cap2, rfl, h3, h4, _⟩ := hu
 unfold maxLen at h2 h4
 by_cases c2 : 200 < lim.length
 . have i2 : (lim.length : Int) > 200 := by omega
   clear hv h1 h2 h3 h4 c2
   generalize lim.length = L2 at *
   generalize l.length = L at *
   go_enter Tryz.func4, Tryz.ntmps4
   go_wp2_with fail
   go_ret
   exact ⟨⟨1, rfl, by decide, fun h => by cases h⟩, Below.refl _ _⟩
 have i2 : ¬ (lim.length : Int) > 200 := by omega
 have HL2 : Hid (lim.length <= 200) := jz (by omega)
 clear hv h1 h2 h3 h4 c2
 generalize hm : lim.length = L2 at *
 have HM := jz hm
 clear hm
 obtain ⟨L, hL⟩ : ∃ L, l.length = L := ⟨_, rfl⟩
 have HLL := jz hL
 rw [hL]
 clear hL
 go_enter Tryz.func4, Tryz.ntmps4
 go_wp2
 go_loopw [12] (fun i wr => ∃ k : Nat, k <= L /\ i = .int .i64 k /\ Hid (Below w.heap.size w wr /\ k <= 80 /\ ∀ j, j < k -> (l.getD j default).bl.length <= 500)) (fun i _ => L - (intOf i).toNat)
 case atStart => exact ⟨0, Nat.zero_le _, rfl, jz ⟨Below.refl _ _, by omega, fun j hj => by omega⟩⟩
 case round =>
  obtain ⟨k, hk, rfl, H⟩ := hrel
  by_cases hlt : k < L
  . obtain ⟨b, off, hpp, hb, hx⟩ := px_at (ra_below HV.out H.out.1) (by rw [HLL.out]; omega)
    subst hpp
    obtain ⟨hld, hwf⟩ := hx k (by rw [HLL.out]; exact hlt)
    have HX := jz (show ∀ j, j < k + 1 -> ((l.getD k default).bl.length <= 500 -> (l.getD j default).bl.length <= 500) from fun j hj hh => by
     by_cases e : j = k
     . subst e; exact hh
     . exact H.out.2.2 j (by omega))
    have hvl : ∃ q c, (l.getD k default).v = .slice q (l.getD k default).bl.length c := by
     obtain ⟨q, c, e, _⟩ := ra_shape hwf.rv
     exact ⟨q, c, e⟩
    have hone := hwf.one
    generalize l.getD k default = x at *
    obtain ⟨W1, hW1, hst, HB⟩ := px_boxed wr x hone
    have c4 := HB.out.1.c4
    obtain ⟨q, c, hvv⟩ := hvl
    rw [hvv] at c4
    have B1 := jz (below_more H.out.1 HB.out.2)
    have HK := jz (And.intro hlt H.out.2.1)
    have i0 : (0 : Int) <= (k : Int) := by omega
    have i1 : (k : Int) < (L : Int) := by omega
    have i3 : ¬ (k : Int) < 0 := by omega
    have i4 : IntKind.i64.wrap ((k : Int) + 1) = ((k + 1 : Nat) : Int) := by rw [show (k : Int) + 1 = ((k + 1 : Nat) : Int) by omega]; exact i64_nat _ (by have := HK.out; omega)
    generalize hbl : x.bl.length = n at *
    by_cases c8 : 80 <= k
    . have i5 : (k : Int) >= 80 := by omega
      clear hx hb hk hlt hwf hone hvv hbl H HX c8
      go_wp2
      go_ret
      exact ⟨⟨k + 1, rfl, by have := HK.out; omega, fun h => by omega⟩, B1.out⟩
    have i5 : ¬ (k : Int) >= 80 := by omega
    have i5' : ¬ 80 <= k := c8
    by_cases c5 : 500 < n
    . have i6 : (n : Int) > 500 := by omega
      have i6' : 500 < n := c5
      clear hx hb hk hlt hwf hone hvv hbl H HX c8 c5
      go_wp2
      go_ret
      exact ⟨⟨k + 1, rfl, by have := HK.out; omega, fun h => by omega⟩, B1.out⟩
    . have i6 : ¬ (n : Int) > 500 := by omega
      have i6' : ¬ 500 < n := c5
      have HN : Hid (Below w.heap.size w W1 /\ k + 1 <= 80 /\ ∀ j, j < k + 1 -> (l.getD j default).bl.length <= 500) := jz ⟨B1.out, by omega, fun j hj => HX.out j hj (by omega)⟩
      clear hx hb hk hlt hwf hone hvv hbl H HX c8 c5
      go_wp2
      go_roundw
      case rel => exact ⟨k + 1, by have := HK.out; omega, by go_num, HN⟩
      case measure => have := HK.out; simp [intOf]; omega
  . obtain rfl : k = L := by omega
    have HF : Hid (Light l lim /\ Below w.heap.size w wr) := jz ⟨⟨by rw [HM.out]; exact HL2.out, by rw [HLL.out]; exact H.out.2.1, fun j hj => H.out.2.2 j (by rw [HLL.out] at hj; exact hj)⟩, H.out.1⟩
    clear H
    go_wp2
    go_ret
    exact ⟨⟨0, rfl, by decide, fun _ => HF.out.1⟩, HF.out.2⟩
end Go.Proofs.YtkpefnjohdjejaaGreat
