/-
  Bits above the eighth do not count in a mix; a mask and the one that is its other half make the two lines' words, each once; whatever the lines and the masks are. No conditions.
-/
import Derived.Test.YtipibpkfpmlalaaAwt
import Derived.Test.YtipibpkfpmlalaaLtw
namespace Go.Proofs.Ytipibpkfpmlalaa.tornBits
open Go.Proofs.Ytipibpkfpmlalaa Go.ChangeShapes Go.WideShapes Go.ChangeAt Go.RowKit

theorem xor_ones (m : Int) (h : (Lit.int .i64 m).wf = true) : bits .xor .i64 (-1) m = -1 - m := by
  have hm := bounds_i64 h
  have e : BitVec.ofInt 64 (-1) = BitVec.allOnes 64 := by decide
  have key : (BitVec.ofInt 64 (-1) ^^^ BitVec.ofInt 64 m).toNat = 2 ^ 64 - 1 - (m % ((2 ^ 64 : Nat) : Int)).toNat := by
    rw [e, BitVec.allOnes_xor, BitVec.toNat_not, BitVec.toNat_ofInt]
  show IntKind.i64.wrap ((BitVec.ofInt 64 (-1) ^^^ BitVec.ofInt 64 m).toNat : Nat) = -1 - m
  rw [key, IntKind.wrap_i64]
  omega
theorem mix_same {a b : List Int} {m m' : Int} (hab : a.length = b.length) (ha : a.length = 8) (h : ∀ i, i < 8 → m / 2 ^ i % 2 = m' / 2 ^ i % 2) : mix a b m = mix a b m' := by
  apply list_ext
  · rw [mix_length _ _ _ hab, mix_length _ _ _ hab]
  · intro i hi
    rw [mix_length _ _ _ hab] at hi
    rw [mix_at _ _ _ _ hab hi, mix_at _ _ _ _ hab hi, h i (by omega)]
theorem other_bit (m : Int) (i : Nat) (hi : i < 8) : (-1 - m) / 2 ^ i % 2 = 1 - m / 2 ^ i % 2 := by
  rcases (by omega : i = 0 ∨ i = 1 ∨ i = 2 ∨ i = 3 ∨ i = 4 ∨ i = 5 ∨ i = 6 ∨ i = 7) with h | h | h | h | h | h | h | h <;> subst h <;> simp only [Int.reducePow] <;> omega
theorem or_low (p q : Int) (h0 : 0 ≤ p) (h1 : p < 256) : bits .or .i64 p (IntKind.i64.wrap (q * 256)) % 256 = p := by
  have key : (BitVec.ofInt 64 p ||| BitVec.ofInt 64 (IntKind.i64.wrap (q * 256))).toNat % 2 ^ 8 = p.toNat := by
    rw [BitVec.toNat_or, Nat.or_mod_two_pow, BitVec.toNat_ofInt, BitVec.toNat_ofInt, IntKind.wrap_i64]
    have e1 : (p % ((2 ^ 64 : Nat) : Int)).toNat % 2 ^ 8 = p.toNat := by omega
    have e2 : (((q * 256 + 9223372036854775808) % 18446744073709551616 - 9223372036854775808) % ((2 ^ 64 : Nat) : Int)).toNat % 2 ^ 8 = 0 := by omega
    rw [e1, e2, Nat.or_zero]
  show IntKind.i64.wrap ((BitVec.ofInt 64 p ||| BitVec.ofInt 64 (IntKind.i64.wrap (q * 256))).toNat : Nat) % 256 = p
  rw [IntKind.wrap_i64]
  omega
theorem low_bits (z m : Int) (h : z % 256 = m % 256) (i : Nat) (hi : i < 8) : z / 2 ^ i % 2 = m / 2 ^ i % 2 := by
  rcases (by omega : i = 0 ∨ i = 1 ∨ i = 2 ∨ i = 3 ∨ i = 4 ∨ i = 5 ∨ i = 6 ∨ i = 7) with h | h | h | h | h | h | h | h <;> subst h <;> simp only [Int.reducePow] <;> omega
theorem mix_other {a b : List Int} (m : Int) (hab : a.length = b.length) (ha : a.length = 8) : mix b a m = mix a b (-1 - m) := by
  apply list_ext
  · rw [mix_length _ _ _ hab.symm, mix_length _ _ _ hab]; omega
  · intro i hi
    rw [mix_length _ _ _ hab.symm] at hi
    rw [mix_at _ _ _ _ hab.symm hi, mix_at _ _ _ _ hab (by omega), other_bit m i (by omega)]
    have := Int.emod_two_eq (m / 2 ^ i)
    split <;> rename_i h1 <;> split <;> rename_i h2 <;> first | rfl | omega

set_option maxRecDepth 100000 in
set_option maxHeartbeats 2000000 in
theorem main (a b x y : List Int) (m more : Int) (w : World) (hw : (Lit.int .i64 m).wf = true) (ha : a.length = 8) (hb : b.length = 8) (hx : x.length = 8) (hy : y.length = 8) (ex : mix a b m = x) (ey : mix a b (bits .xor .i64 (-1) m) = y) :
    Calls Try.prog 6 #[.agg (lc a), .agg (lc b), .int .i64 m, .int .i64 more] w fun e w' => e = .returned (.bool true) ∧ Below w.heap.size w w' := by
  obtain ⟨W, hW, H⟩ := boxed2 w ha hb
  have l0 : ∀ w' : World, Kept (Below W.heap.size W w') → (lineLoad (.pointer (some ⟨w.heap.size, 0, none⟩))).run Try.prog w' = .ok (.agg (lc a)) w' := fun w' h => H.out.1.later w' h.out
  have l1 : ∀ w' : World, Kept (Below W.heap.size W w') → (lineLoad (.pointer (some ⟨w.heap.size + 1, 0, none⟩))).run Try.prog w' = .ok (.agg (lc b)) w' := fun w' h => H.out.2.1.later w' h.out
  go_enter Try.func6, Try.ntmps6
  go_upto_region 1 with fail
  go_cut [9, 10] (fun v9 v10 wx => ∃ g h : Nat, v9 = .pointer (some ⟨g, 0, none⟩) ∧ v10 = .pointer (some ⟨h, 0, none⟩) ∧ Hid (Ln wx g x ∧ Ln wx h y ∧ Below W.heap.size W wx))
  case first =>
    go_region_held3 (fun w' => Kept (Below W.heap.size W w'))
      (((refine ⟨?_⟩); (repeat' (with_reducible (first | exact Below.refl _ _ | refine Below.drew ?_ | refine below_more ?_ (by assumption) | refine bal ?_ | refine below_row ?_ ?_ | (simp only [Hid, size_alloc, size_drew] at *; omega))))))
      (first
        | (go_at_call 8; refine (mix_any _ _ _ _ (by assumption) (by assumption)).mono ?_; rintro e wq ⟨rfl, hbq⟩; have zq := Lib.hid hbq.size)
        | (rw [run_store_is (by (repeat' (first
              | ((with_reducible refine IsLn.fresh _ _ ?_ ?_); (focus (simp only [size_alloc])); (focus (first | assumption | rfl)))
              | (with_reducible refine IsLn.up ?_ _) | (with_reducible refine IsLn.drew ?_) | (with_reducible refine IsLn.row ?_ (by assumption)) | (with_reducible refine IsLn.call (by assumption) ?_)))) (by assumption)]))
    all_goals (go_wp2_with fail; go_meet)
    all_goals
      refine ⟨_, _, rfl, rfl, Lib.hid ⟨?_, ?_, Kept.out ‹Kept (Below W.heap.size W _)›⟩⟩ <;>
      (repeat' (first
        | ((with_reducible refine Ln.fresh _ _ ?_ ?_); (focus (simp only [size_alloc])); (focus (first | assumption | rfl)))
        | ((with_reducible refine put_at ?_ ?_ ?_); (focus (with_reducible rfl)))
        | ((with_reducible refine Ln.past ?_ ?_); rotate_left; (focus (simp only [Hid, size_alloc, size_drew] at *; omega)))
        | (with_reducible refine Ln.alloc ?_ _) | (with_reducible refine Ln.drew ?_)
        | ((with_reducible refine IsLn.fresh _ _ ?_ ?_); (focus (simp only [size_alloc])); (focus (first | assumption | rfl)))
        | (with_reducible refine IsLn.up ?_ _) | (with_reducible refine IsLn.drew ?_) | (with_reducible refine IsLn.row ?_ (by assumption)) | (with_reducible refine IsLn.call (by assumption) ?_) | assumption))
  case rest =>
    obtain ⟨g, h, rfl, rfl, HC⟩ := hcut
    have D0 := Lib.hid (H.out.1.below HC.out.2.2)
    have D1 := Lib.hid (H.out.2.1.below HC.out.2.2)
    have BW := Lib.hid (below_more H.out.2.2 HC.out.2.2)
    have AX := Lib.hid (mix_at a b m)
    have AY := Lib.hid (mix_at a b (bits .xor .i64 (-1) m))
    rw [ex] at AX
    rw [ey, xor_ones m hw] at AY
    clear l0 l1
    go_wp2
    go_loopw [21] (fun i wr => ∃ k : Nat, k ≤ 8 ∧ i = .int .i64 k ∧ Hid (Below wc.heap.size wc wr)) (fun i _ => 8 - (intOf i).toNat)
    case atStart => exact ⟨0, by omega, rfl, Lib.hid (Below.refl _ _)⟩
    case round =>
      obtain ⟨k, hk, rfl, HB⟩ := hrel
      by_cases hlt : k < 8
      · obtain ⟨c0, _⟩ := (D0.out.below HB.out).cell hlt
        obtain ⟨c1, _⟩ := (D1.out.below HB.out).cell hlt
        obtain ⟨cx, _⟩ := (HC.out.1.below HB.out).cell hlt
        obtain ⟨cy, _⟩ := (HC.out.2.1.below HB.out).cell hlt
        have hxy : x.getD k 0 = a.getD k 0 ∧ y.getD k 0 = b.getD k 0 ∨ x.getD k 0 = b.getD k 0 ∧ y.getD k 0 = a.getD k 0 := by
          rw [AX.out k (by omega) (by omega), AY.out k (by omega) (by omega), other_bit m k hlt]
          have := Int.emod_two_eq (m / 2 ^ k)
          split <;> rename_i h1 <;> split <;> rename_i h2 <;> first | exact .inl ⟨rfl, rfl⟩ | exact .inr ⟨rfl, rfl⟩ | (exfalso; omega)
        generalize x.getD k 0 = r at *
        generalize y.getD k 0 = t at *
        generalize a.getD k 0 = p at *
        generalize b.getD k 0 = q at *
        have i0 : (0 : Int) ≤ (k : Int) := by omega
        have i8 : (k : Int) < 8 := by omega
        by_cases hpq : p = q
        · subst hpq
          obtain ⟨rfl, rfl⟩ : r = p ∧ t = p := by rcases hxy with ⟨e1, e2⟩ | ⟨e1, e2⟩ <;> exact ⟨e1, e2⟩
          clear hxy
          go_wp2
          go_quiet (fail)
          go_wp2
          exact ⟨⟨k + 1, by omega, by go_num, Lib.hid (below_drewN HB.out nq)⟩, by simp [intOf]; omega⟩
        · have f1 : (p == q) = false := beq_eq_false_iff_ne.2 hpq
          have f2 : (q == p) = false := beq_eq_false_iff_ne.2 (fun e => hpq e.symm)
          have f3 : (p != q) = true := by simp [bne, f1]
          have f4 : (q != p) = true := by simp [bne, f2]
          have f5 : (!(p == q)) = true := by simp [f1]
          have f6 : (!(q == p)) = true := by simp [f2]
          rcases hxy with ⟨rfl, rfl⟩ | ⟨rfl, rfl⟩
          · go_wp2
            go_quiet (fail)
            go_wp2
            exact ⟨⟨k + 1, by omega, by go_num, Lib.hid (below_drewN HB.out nq)⟩, by simp [intOf]; omega⟩
          · go_wp2
            go_quiet (fail)
            go_wp2
            exact ⟨⟨k + 1, by omega, by go_num, Lib.hid (below_drewN HB.out nq)⟩, by simp [intOf]; omega⟩
      · obtain rfl : k = 8 := by omega
        have l0 := (D0.out.below HB.out).later
        have l1 := (D1.out.below HB.out).later
        have lx := (HC.out.1.below HB.out).later
        have ly := (HC.out.2.1.below HB.out).later
        have B7 := Lib.hid (below_more BW.out HB.out)
        have E1 : mix a b (bits .or .i64 (m % 256) (IntKind.i64.wrap (more * 256))) = x := by
          rw [← ex]
          exact mix_same (by omega) ha (low_bits _ _ (or_low _ _ (by omega) (by omega)))
        have E2 : mix b a m = y := by
          rw [mix_other m (by omega) ha, ← xor_ones m hw]; exact ey
        clear ey
        go_wp2
        go_region_held3 (fun w' => Below wr.heap.size wr w')
          (first | exact (Below.refl _ _).drew | exact below_more ‹Below wr.heap.size wr _› hbq)
          (first
            | (go_at_call 8; refine (mix_any _ _ _ _ (by assumption) (by assumption)).mono ?_; rintro e wq ⟨rfl, hbq⟩)
            | (go_at_call 12; refine (awake_any _).mono ?_; rintro e wq ⟨rfl, hbq⟩))
        have B8 := Lib.hid (below_more B7.out ‹Below wr.heap.size wr wq›)
        go_wp2
        go_ret
        exact ⟨rfl, B8.out⟩

theorem walk (a b : List Int) (m more : Int) (w : World) (ha : a.length = 8) (_ : wfu a) (hb : b.length = 8) (_ : wfu b) (hw : (Lit.int .i64 m).wf = true) (_ : (Lit.int .i64 more).wf = true) :
    Calls Try.prog 6 #[.agg (lc a), .agg (lc b), .int .i64 m, .int .i64 more] w fun e w' => e = .returned (.bool true) ∧ Below w.heap.size w w' :=
  main a b _ _ m more w hw ha hb (by rw [mix_length _ _ _ (by omega)]; exact ha) (by rw [mix_length _ _ _ (by omega)]; exact ha) rfl rfl

set_option maxRecDepth 100000 in
theorem lifted (os : Os) (started : os.Started) (H : Type) (enc : TypeId × Value → H) :
    ReturnsInHanded {} Try.checked os 6 .any (Rows.tornBitsSpec.pre6 enc Try.prog Try.f6 Rows.tornBitsRow.domain false) (Rows.tornBitsSpec.post enc Try.prog Try.f6 false true false false) := by
  refine returnsInHanded_of_change (C := Try.checked) own started (by kernel_rfl) Try.func6
    (ChangeSpec.witness6 (enc := enc) (C := Try.checked) false ⟨#[], #[.agg #[.int .u64 0, .int .u64 0, .int .u64 0, .int .u64 0, .int .u64 0, .int .u64 0, .int .u64 0, .int .u64 0], .agg #[.int .u64 0, .int .u64 0, .int .u64 0, .int .u64 0, .int .u64 0, .int .u64 0, .int .u64 0, .int .u64 0], .int .i64 0, .int .i64 0], []⟩ 8 (by kernel_rfl) (by kernel_rfl) (by kernel_rfl) (by kernel_rfl)) ?_
  intro W base args ds gs before hval0 hW hcnd _
  have hval : ∀ (j : Nat) t v, Try.f6.params[j]? = some t → args[j]? = some v → Value.okWide Try.prog W .any base t v := hval0
  have hW' := hW
  have hlt := hW.lt
  obtain ⟨p, q, hA0, hV, hpq, hfz, hnd⟩ := hW
  have hA : DataW.TrodAll enc Try.prog W 0 (fun _ => true) true Try.f6.params.toList args.toList ds p := hA0
  rw [Try.params6] at hA hval
  obtain ⟨v0, vs0, d0, ds0, p0, q0, hargs, rfl, hp, h0, r0⟩ := trodAll_cons hA
  obtain ⟨v1, vs1, d1, ds1, p1, q1, rfl, rfl, rfl, h1, r1⟩ := trodAll_cons r0
  obtain ⟨v2, vs2, d2, ds2, p2, q2, rfl, rfl, rfl, h2, r2⟩ := trodAll_cons r1
  obtain ⟨v3, vs3, d3, ds3, p3, q3, rfl, rfl, rfl, h3, r3⟩ := trodAll_cons r2
  obtain ⟨rfl, rfl, rfl⟩ := trodAll_nil r3
  obtain rfl : args = #[v0, v1, v2, v3] := by cases args; simp_all
  obtain ⟨rfl, rfl⟩ := trodVars_none hV
  have hlt' : ∀ x ∈ before, x.block < W.heap.size := fun x hx => hlt x hx
  obtain ⟨l0, rfl, n0, w0⟩ := line_in (hval 0 24 v0 rfl rfl) h0
  obtain ⟨l1, rfl, n1, w1⟩ := line_in (hval 1 24 v1 rfl rfl) h1
  obtain ⟨a2, rfl, rfl, rfl, w2⟩ := open_int Try.underlying3 (hval 2 3 v2 rfl rfl) h2
  obtain ⟨a3, rfl, rfl, rfl, w3⟩ := open_int Try.underlying3 (hval 3 3 v3 rfl rfl) h3
  refine (walk l0 l1 a2 a3 W n0 w0 n1 w1 w2 w3).mono fun e W' ⟨he, hb⟩ => ?_
  subst he
  exact ⟨_, rfl, law_post rfl (by kernel_rfl) hW' (by rw [Try.params6]; intro t ht; simp only [List.mem_cons, List.not_mem_nil, or_false] at ht; (repeat' (first | (rcases ht with rfl | ht) | subst ht)) <;> exact ⟨by kernel_rfl, of_decide_eq_true (by kernel_rfl)⟩) rfl hb⟩

theorem over : Rows.tornBitsRow.holds Try.pinned (OpenSpec.ofChange Rows.tornBitsSpec) :=
  OpenClaim.holds_of_wide 6 Try.f6 rfl rfl rfl rfl rfl rfl rfl ⟨rfl, rfl, rfl, rfl, rfl⟩ rfl rfl rfl rfl rfl (by kernel_rfl) Try.func6 (by kernel_rfl)
    (of_decide_eq_true (by kernel_rfl)) (by unfold Func.isWrapper; first | (rw [if_pos (by decide +kernel)]; kernel_rfl) | (rw [if_neg (by decide +kernel)]; exact ⟨rfl, rfl⟩))
    (fun os started H enc _ => lifted os started H enc)

theorem proved : Rows.TornBitsSaid := over
end Go.Proofs.Ytipibpkfpmlalaa.tornBits
