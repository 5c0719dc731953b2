/-
  The contract of the reference's Uneven, and what every statement of the second layer asks besides: means that every program must know.
-/
import Derived.Test.YthcecfenjbdgmaaRMean
namespace Go.Proofs.Ythcecfenjbdgmaa
set_option maxRecDepth 100000
open D Go.RowKit

theorem runev_nil (p : Option Addr) (cap : Nat) (w : World) : Calls Try.prog 21 #[.slice p 0 cap] w fun e w' => e = .returned (.float .f64 nanW) ∧ w = w' := by
  have o1 : (FloatKind.f64.format.order nanW nanW != some .eq) = true := self_ne nanW
  go_enter Try.func21, Try.ntmps21
  go_wp2
  go_rounds 1
  go_ret
  exact ⟨rfl, rfl⟩

set_option maxHeartbeats 800000 in
theorem runev_some (l : List Int) (b off cap : Nat) (w : World) (hm : l.length ≤ maxLen) (hc : ∀ i, i < l.length → w.cell? ⟨b, off + i, none⟩ = some (.int .i64 (l.getD i 0))) :
    Calls Try.prog 21 #[.slice (some ⟨b, off, none⟩) l.length cap] w fun e w' => e = .returned (.float .f64 (unV (held l))) ∧ w = w' := by
  have M := Lib.hid (rmean_any _ l w ⟨some ⟨b, off, none⟩, cap, rfl, .inr ⟨b, off, rfl, hc⟩⟩)
  have K := Lib.hid (ofV_kinds (held l) (held_le l))
  unfold maxLen at hm
  have C := Lib.hid hc
  clear hc
  go_enter Try.func21, Try.ntmps21
  go_wp2
  go_loop [3, 9] (fun m i => ∃ k : Nat, k ≤ l.length ∧ m = .int .i64 ((top (held (l.take k)) : Nat) : Int) ∧ i = .int .i64 k) (fun _ i => l.length - (intOf i).toNat)
  case atStart => exact ⟨0, Nat.zero_le _, rfl, rfl⟩
  case round =>
    obtain ⟨k, hk, rfl, rfl⟩ := hrel
    by_cases hlt : k < l.length
    · have hcell := C.out k hlt
      have ET := Lib.hid (top_take hlt)
      have G := Lib.hid (rheld_any (l.getD k 0))
      generalize hn (l.getD k 0) = x at *
      generalize l.getD k 0 = y at *
      generalize top (held (l.take k)) = s at *
      go_wp2_with (go_at_call 37; refine (G.out _).mono ?_; rintro e w' ⟨rfl, rfl⟩)
      all_goals
        go_round
        case rel => exact ⟨k + 1, by omega, by rw [ET.out]; go_num, by go_num⟩
        case measure => simp [intOf]; omega
    · obtain rfl : k = l.length := by omega
      rw [List.take_length]
      rcases K.out with ⟨h1, h2⟩ | ⟨h1, h2⟩ | ⟨h1, h2, h3⟩
      · have o1 : (FloatKind.f64.format.order nanW nanW != some .eq) = true := self_ne nanW
        have E := Lib.hid h2
        rw [h1] at M
        clear K C h1 h2
        go_wp2_with fail
        refine M.out.mono ?_; rintro e w' ⟨rfl, rfl⟩
        go_wp2_with fail
        refine (nan_any _).mono ?_; rintro e w' ⟨rfl, rfl⟩
        go_wp2_with fail
        go_ret
        exact ⟨ret_f64 E.out.symm, rfl⟩
      · have o1 : (FloatKind.f64.format.order 0 0 != some .eq) = false := self_ne 0
        have o2 : (FloatKind.f64.format.order 0 0 == some .eq) = true := zero_eq 0
        have E := Lib.hid h2
        rw [h1] at M
        clear K C h1 h2
        go_wp2_with fail
        refine M.out.mono ?_; rintro e w' ⟨rfl, rfl⟩
        go_wp2_with fail
        refine (nan_any _).mono ?_; rintro e w' ⟨rfl, rfl⟩
        go_wp2_with fail
        go_ret
        exact ⟨ret_f64 E.out.symm, rfl⟩
      · have o1 := self_ne (ofV (held l))
        have o2 := zero_eq (ofV (held l))
        rw [h1] at o1
        rw [decide_eq_false h2] at o2
        obtain ⟨z, hz⟩ : ∃ z, unV (held l) = z := ⟨_, rfl⟩
        rw [hz] at h3
        have hq := quo_is h3
        have E := Lib.hid hz
        clear K C h1 h2 h3 hz
        generalize ofV (held l) = y at *
        generalize top (held l) = t at *
        go_wp2_with fail
        refine M.out.mono ?_; rintro e w' ⟨rfl, rfl⟩
        go_wp2_with fail
        go_ret
        exact ⟨ret_f64 E.out.symm, rfl⟩

theorem runev_any (v : Value) (l : List Int) (w : World) (h : RIm w v l) (hm : l.length ≤ maxLen) :
    Calls Try.prog 21 #[v] w fun e w' => e = .returned (.float .f64 (unV (held l))) ∧ w = w' := by
  obtain ⟨p, cap, rfl, rfl | ⟨b, off, rfl, hc⟩⟩ := h
  · exact runev_nil p cap w
  · exact runev_some l b off cap w hm hc

theorem below_drew {w w' : World} (h : ∃ n, w' = w.drewN n) : Below w.heap.size w w' := by
  obtain ⟨n, rfl⟩ := h; exact below_drewN (Below.refl _ _) n

theorem below_alloc_drew {w w1 w2 : World} {o : Obj} (h : Below w.heap.size w w1) (h2 : ∃ n, w2 = (w1.alloc o).drewN n) : Below w.heap.size w w2 := by
  obtain ⟨n, rfl⟩ := h2; exact below_drewN (h.alloc h.size o) n

/-- the calls of 'awake', each at its own numbers -/
theorem two_ri {w : World} {b x y : Nat} (h0 : w.cell? ⟨b, 0, none⟩ = some (.int .i64 (x : Int))) (h1 : w.cell? ⟨b, 1, none⟩ = some (.int .i64 (y : Int))) (cap : Nat) : RIm w (.slice (some ⟨b, 0, none⟩) 2 cap) [(x : Int), (y : Int)] := by
  refine ⟨_, cap, rfl, .inr ⟨b, 0, rfl, fun i hi => ?_⟩⟩
  have : i = 0 ∨ i = 1 := by simp at hi; omega
  rcases this with rfl | rfl
  · exact h0
  · exact h1
theorem k_of : ofV (held [1, 2]) = 4609434218613702656 := by decide +kernel
theorem k_var : varV (held [1, 3]) = 4607182418800017408 := by decide +kernel
theorem k_un : unV (held [1, 3]) = 4609434218613702656 := by decide +kernel
theorem k_rat : ratV (hn 1) (hn 0) = 9218868437227405312 := by decide +kernel
theorem c_none (w : World) : Calls Try.prog 47 #[.slice none 0 0] w fun e w' => e = .returned (.float .f64 9221120237041090561) ∧ ∃ n, w' = w.drewN n :=
  mof_any _ [] w ⟨none, 0, rfl, .inl rfl⟩ (by decide)
theorem c_of (b : Nat) (w : World) (h0 : w.cell? ⟨b, 0, none⟩ = some (.int .i64 1)) (h1 : w.cell? ⟨b, 1, none⟩ = some (.int .i64 2)) (cap : Nat) :
    Calls Try.prog 47 #[.slice (some ⟨b, 0, none⟩) 2 cap] w fun e w' => e = .returned (.float .f64 4609434218613702656) ∧ ∃ n, w' = w.drewN n := by
  have := mof_any _ _ w (two_ri (x := 1) (y := 2) h0 h1 cap) (by decide)
  rwa [show held [((1 : Nat) : Int), ((2 : Nat) : Int)] = held [1, 2] from rfl, k_of] at this
theorem c_un (b : Nat) (w : World) (h0 : w.cell? ⟨b, 0, none⟩ = some (.int .i64 1)) (h1 : w.cell? ⟨b, 1, none⟩ = some (.int .i64 3)) (cap : Nat) :
    Calls Try.prog 36 #[.slice (some ⟨b, 0, none⟩) 2 cap] w fun e w' => e = .returned (.float .f64 4609434218613702656) ∧ ∃ n, w' = w.drewN n := by
  have := mun_any _ _ w (two_ri (x := 1) (y := 3) h0 h1 cap) (by decide)
  rwa [show held [((1 : Nat) : Int), ((3 : Nat) : Int)] = held [1, 3] from rfl, k_un] at this
theorem c_rat (w : World) : Calls Try.prog 26 #[.int .i64 1, .int .i64 0] w fun e w' => e = .returned (.float .f64 9218868437227405312) ∧ ∃ n, w' = w.drewN n := by
  have := mrat_any 1 0 w
  rwa [k_rat] at this

/-- math.IsInf of the greatest infinity, asked for it -/
theorem isInf_pos (w : World) : Calls Try.prog 23 #[.float .f64 9218868437227405312, .int .i64 1] w fun e w' => e = .returned (.bool true) ∧ w = w' := by
  have A := Lib.hid (abs_any 9218868437227405312 · (by decide))
  have o1 : (FloatKind.f64.format.order (rung 9218868437227405312) 9218868437227405311 == some .gt) = true := by decide +kernel
  have o2 : (FloatKind.f64.format.order 9218868437227405312 9218868437227405311 == some .gt) = true := by decide +kernel
  have o3 : (FloatKind.f64.format.order 9218868437227405312 0 == some .gt) = true := by decide +kernel
  have o4 : (FloatKind.f64.format.order 9218868437227405312 0 == some .lt) = false := by decide +kernel
  go_enter Try.func23, Try.ntmps23
  go_wp2_with (go_at_call 40; refine (A.out _).mono ?_; rintro e w' ⟨rfl, rfl⟩)
  go_ret
  exact ⟨rfl, rfl⟩

end Go.Proofs.Ythcecfenjbdgmaa
