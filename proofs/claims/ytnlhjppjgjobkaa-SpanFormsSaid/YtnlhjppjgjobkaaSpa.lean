/-
  Contracts of package span's small functions: what may be asked, a byte of a word, bytes put into a word.
-/
import Derived.Test.YtnlhjppjgjobkaaBye
import Derived.Test.YtnlhjppjgjobkaaRu
import Derived.Deep.RegionHeld3
import Derived.BigQuiet
namespace Go.Proofs.Ytnlhjppjgjobkaa
set_option maxRecDepth 100000
open Go.RowKit

theorem pow_256 (k : Nat) : (256 : Int) ^ k = 2 ^ (8 * k) := by
  rw [show (256 : Int) = 2 ^ 8 by decide, ← Int.pow_mul]
theorem and_bt {x : Int} {k : Nat} (hx : Wd x) : bits .and .u64 (x / 2 ^ (8 * k)) 255 = bt x k := by
  obtain ⟨h0, h1⟩ := hx
  have hp : (0 : Int) < 2 ^ (8 * k) := Int.pow_pos (by decide)
  have a0 : 0 ≤ x / 2 ^ (8 * k) := Int.ediv_nonneg h0 (by omega)
  have a1 : x / 2 ^ (8 * k) ≤ x := Int.ediv_le_self _ h0
  rw [u64_and _ _ a0 (by omega) (by omega) (by omega)]
  have e : (x / 2 ^ (8 * k)).toNat &&& (255 : Int).toNat = (x / 2 ^ (8 * k)).toNat % 256 := Nat.and_two_pow_sub_one_eq_mod _ 8
  rw [e, bt, pow_256]
  omega
theorem get_is (x : Int) (k : Nat) (hx : Wd x) (hk : k < 8) (w : World) : Calls Try.prog 25 #[.int .u64 x, .int .i64 k] w fun e w' => e = .returned (.int .u8 (bt x k)) ∧ w = w' := by
  obtain ⟨d, hd⟩ : ∃ d : Nat, 8 * k = d := ⟨_, rfl⟩
  have e1 : IntKind.i64.wrap (8 * (k : Int)) = (d : Int) := by rw [← hd, show 8 * (k : Int) = ((8 * k : Nat) : Int) by omega]; exact i64_nat _ (by omega)
  have e2 : min d 64 = d := by omega
  have e3 := and_bt (k := k) hx
  rw [hd] at e3
  have e4 : IntKind.u8.wrap (bt x k) = bt x k := by have := bt_by x k; unfold By at this; rw [IntKind.wrap_u8']; omega
  clear hd hx hk
  generalize bt x k = y at *
  go_enter Try.func25, Try.ntmps25
  go_wp2_with fail
  go_ret
  exact ⟨rfl, rfl⟩

theorem nat_put (X c k : Nat) (hX : X < 2 ^ 64) (hc : c < 2 ^ 8) (hk : k < 8) : (X &&& (2 ^ 64 - (255 * 2 ^ (8 * k) + 1))) ||| (c * 2 ^ (8 * k)) = 2 ^ (8 * k) * (2 ^ 8 * (X / 2 ^ (8 * k) / 2 ^ 8) + c) + X % 2 ^ (8 * k) := by
  have hM : 255 * 2 ^ (8 * k) < 2 ^ 64 := by
    have : 2 ^ (8 * k) ≤ 2 ^ 56 := Nat.pow_le_pow_right (by decide) (by omega)
    omega
  have hp : 0 < 2 ^ (8 * k) := Nat.two_pow_pos _
  refine Nat.eq_of_testBit_eq fun i => ?_
  rw [Nat.testBit_or, Nat.testBit_and, Nat.testBit_two_pow_sub_succ hM, Nat.testBit_mul_two_pow, Nat.testBit_mul_two_pow, Nat.testBit_two_pow_mul_add _ (Nat.mod_lt _ hp), Nat.testBit_two_pow_mul_add _ hc,
    Nat.testBit_div_two_pow, Nat.testBit_div_two_pow, Nat.testBit_mod_two_pow, show (255 : Nat) = 2 ^ 8 - 1 by decide, Nat.testBit_two_pow_sub_one]
  by_cases h1 : i < 8 * k
  · rw [if_pos h1]
    simp [h1, show ¬ 8 * k ≤ i by omega, show i < 64 by omega]
  · rw [if_neg h1]
    by_cases h2 : i - 8 * k < 8
    · rw [if_pos h2]
      simp [show 8 * k ≤ i by omega, h2]
    · rw [if_neg h2]
      have e : i - 8 * k - 8 + 8 + 8 * k = i := by omega
      have hcc : c.testBit (i - 8 * k) = false := Nat.testBit_lt_two_pow (Nat.lt_of_lt_of_le hc (Nat.pow_le_pow_right (by decide) (by omega)))
      rw [e, hcc]
      by_cases h3 : i < 64
      · simp [show 8 * k ≤ i by omega, h2, h3]
      · have hx : X.testBit i = false := Nat.testBit_lt_two_pow (Nat.lt_of_lt_of_le hX (Nat.pow_le_pow_right (by decide) (by omega)))
        simp [hx]
theorem sb_nat (X c k : Nat) : sb X k c = ((2 ^ (8 * k) * (2 ^ 8 * (X / 2 ^ (8 * k) / 2 ^ 8) + c) + X % 2 ^ (8 * k) : Nat) : Int) := by
  unfold sb bt
  have e : (256 : Int) ^ k = ((2 ^ (8 * k) : Nat) : Int) := by rw [pow_256]; simp
  rw [e]
  generalize 2 ^ (8 * k) = P
  have a := Nat.div_add_mod X P
  have b := Nat.div_add_mod (X / P) 256
  have e1 : ((X : Int) / (P : Int)) % 256 = ((X / P % 256 : Nat) : Int) := by simp
  rw [e1]
  have e2 : (X : Int) = (P : Int) * ((256 : Int) * ((X / P / 256 : Nat) : Int) + ((X / P % 256 : Nat) : Int)) + ((X % P : Nat) : Int) := by
    have : X = P * (256 * (X / P / 256) + X / P % 256) + X % P := by rw [b, a]
    have h := congrArg (fun n : Nat => (n : Int)) this
    simpa using h
  generalize X / P / 256 = H at *
  generalize X / P % 256 = R at *
  generalize X % P = Q at *
  rw [e2]
  push_cast
  rw [Int.mul_comm ((c : Int) - R), Int.mul_sub, Int.mul_add, Int.mul_add]
  omega
/-- the numbers that putting a byte meets -/
theorem put_nums {x c : Int} {k d : Nat} (hx : Wd x) (hc : By c) (hk : k < 8) (hd : 8 * k = d) :
    ∃ M C z, IntKind.u64.wrap c = c ∧ IntKind.u64.wrap (255 * 2 ^ d) = M ∧ IntKind.u64.wrap (c * 2 ^ d) = C ∧ bits .andNot .u64 x M = z ∧ bits .or .u64 z C = sb x k c := by
  subst hd
  obtain ⟨X, rfl⟩ : ∃ X : Nat, x = X := ⟨x.toNat, by have := hx.1; omega⟩
  obtain ⟨c', rfl⟩ : ∃ c' : Nat, c = c' := ⟨c.toNat, by have := hc.1; omega⟩
  have hX : X < 2 ^ 64 := by have := hx.2; omega
  have hC : c' < 2 ^ 8 := by have := hc.2; omega
  have h56 : 2 ^ (8 * k) ≤ 2 ^ 56 := Nat.pow_le_pow_right (by decide) (by omega)
  have hcp : c' * 2 ^ (8 * k) ≤ 255 * 2 ^ (8 * k) := Nat.mul_le_mul_right _ (by omega)
  have e2 : ((2 : Int) ^ (8 * k)) = ((2 ^ (8 * k) : Nat) : Int) := by simp
  have hput := nat_put X c' k hX hC hk
  have hs := sb_nat X c' k
  refine ⟨((255 * 2 ^ (8 * k) : Nat) : Int), ((c' * 2 ^ (8 * k) : Nat) : Int), ((X &&& (2 ^ 64 - (255 * 2 ^ (8 * k) + 1)) : Nat) : Int), ?_, ?_, ?_, ?_, ?_⟩
  · rw [IntKind.wrap_u64]; omega
  · rw [e2, IntKind.wrap_u64]; omega
  · rw [e2, IntKind.wrap_u64, ← Int.natCast_mul]; omega
  · rw [u64_andNot_nat _ _ (by omega) (by omega)]
    congr 2
    omega
  · have hz : X &&& (2 ^ 64 - (255 * 2 ^ (8 * k) + 1)) < 18446744073709551616 := Nat.lt_of_le_of_lt Nat.and_le_left (by omega)
    rw [u64_or_nat _ _ hz (by omega), hput, hs]
set_option maxHeartbeats 1000000 in
theorem put_is {v : Value} {l : List Int} {w : World} (x : Int) (f : Nat) (hx : Wd x) (hv : RA byE w v l) (hf : f + l.length ≤ 8) : Calls Try.prog 27 #[.int .u64 x, .int .i64 f, v] w fun e w' => e = .returned (.int .u64 (puB x f l)) ∧ ∃ n, w' = w.drewN n := by
  obtain ⟨p, c, rfl, hlc, hcm⟩ := ra_shape hv
  have HS : Hid (∀ wr, (∃ n, wr = w.drewN n) → ∀ j, j < l.length → ∃ b off, p = some ⟨b, off, none⟩ ∧ By (l.getD j 0) ∧ wr.cell? ⟨b, off + j, none⟩ = some (.int .u8 (l.getD j 0))) := Lib.hid fun wr hwr j hj => by
    obtain ⟨n, rfl⟩ := hwr
    obtain ⟨b, off, rfl, _, hq⟩ := byte_at hv (by omega)
    exact ⟨b, off, rfl, (hq j hj).2, (hq j hj).1⟩
  have HL := Lib.hid hf
  have HO := Lib.hid (ra_ok hv)
  have HX := Lib.hid hx
  clear hv hlc hcm hf hx
  go_enter Try.func27, Try.ntmps27
  go_wp2
  go_loopw [0, 12] (fun y i wr => ∃ k : Nat, k ≤ l.length ∧ i = .int .i64 k ∧ y = .int .u64 (puB x f (l.take k)) ∧ Hid (∃ n, wr = w.drewN n)) (fun _ i _ => l.length - (intOf i).toNat)
  case atStart => exact ⟨0, Nat.zero_le _, rfl, rfl, Lib.hid ⟨0, rfl⟩⟩
  case round =>
    obtain ⟨k, hk, rfl, rfl, HD⟩ := hrel
    by_cases hlt : k < l.length
    · obtain ⟨b, off, rfl, hby, hc⟩ := HS.out wr HD.out k hlt
      have hL := HL.out
      have j0 : IntKind.i64.wrap ((k : Int) + 1) = ((k + 1 : Nat) : Int) := by rw [show (k : Int) + 1 = ((k + 1 : Nat) : Int) by omega]; exact i64_nat _ (by omega)
      have i0 : (0 : Int) ≤ (k : Int) := by omega
      have i1 : (k : Int) < (l.length : Int) := by omega
      have i2 : ¬ (k : Int) < 0 := by omega
      have hw : Wd (puB x f (l.take k)) := puB_wd _ _ _ HX.out (fun c hc => HO.out c (List.mem_of_mem_take hc)) (by rw [List.length_take]; omega)
      have hn : puB x f (l.take (k + 1)) = sb (puB x f (l.take k)) (f + k) (l.getD k 0) := by
        have e1 : l.getD k 0 = l[k] := by simp [hlt]
        rw [e1, ← List.take_append_getElem hlt, puB_snoc, List.length_take, Nat.min_eq_left hk]
      have HN := Lib.hid hn
      obtain ⟨d, hd⟩ : ∃ d : Nat, 8 * (f + k) = d := ⟨_, rfl⟩
      obtain ⟨M, C, z, n1, n2, n3, n4, n5⟩ := put_nums (k := f + k) hw hby (by omega) hd
      have a1 : IntKind.i64.wrap ((f : Int) + (k : Int)) = ((f + k : Nat) : Int) := by rw [← Int.natCast_add]; exact i64_nat _ (by omega)
      have a2 : IntKind.i64.wrap (8 * ((f + k : Nat) : Int)) = (d : Int) := by rw [← hd, show 8 * ((f + k : Nat) : Int) = ((8 * (f + k) : Nat) : Int) by omega]; exact i64_nat _ (by omega)
      have a3 : min d 64 = d := by omega
      have hk' := Lib.hid hlt
      obtain ⟨fk, hfk⟩ : ∃ fk, f + k = fk := ⟨_, rfl⟩
      rw [hfk] at a1 a2 n5 hn
      rw [← hn] at n5
      clear HS hw hd hn hL
      generalize l.getD k 0 = y at *
      generalize puB x f (l.take k) = X at *
      obtain ⟨X', hX'⟩ : ∃ X', puB x f (l.take (k + 1)) = X' := ⟨_, rfl⟩
      rw [hX'] at n5
      go_wp2_with fail
      go_quiet (fail)
      go_wp2
      exact ⟨⟨k + 1, by have := hk'.out; omega, by go_num, by rw [hX'], Lib.hid (by obtain ⟨n, e⟩ := HD.out; subst e; exact ⟨_, World.drewN_drewN ..⟩)⟩, by have := hk'.out; simp [intOf]; omega⟩
    · obtain rfl : k = l.length := by omega
      rw [List.take_length]
      go_wp2
      go_ret
      exact ⟨rfl, HD.out⟩
end Go.Proofs.Ytnlhjppjgjobkaa
