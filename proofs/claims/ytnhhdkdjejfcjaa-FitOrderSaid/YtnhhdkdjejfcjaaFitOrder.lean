/-
  Where all counts are the same the lowest place is chosen; with a count more in its page alone it is the first one of the size in another page, if there is one. No conditions.
-/
import Derived.Test.YtnhhdkdjejfcjaaFtw
import Derived.Test.YtnhhdkdjejfcjaaBkd
import Derived.Test.YtnhhdkdjejfcjaaOwi
namespace Go.Proofs.Ytnhhdkdjejfcjaa.fitOrder
set_option maxRecDepth 100000
open Go.Proofs.Ytnhhdkdjejfcjaa Go.ChangeShapes Go.WideShapes Go.ChangeAt Go.RowKit

/-- the first one in another page -/
def firstO (p : Nat) (l : List Bk) (c : Nat) : List Nat → Nat
  | [] => c
  | i :: r => if (atL l i / 32).toNat = p then firstO p l c r else i
theorem firstO_same {p : Nat} {l : List Bk} {c i : Nat} {r : List Nat} (h : (atL l i / 32).toNat = p) : firstO p l c (i :: r) = firstO p l c r := if_pos h
theorem firstO_else {p : Nat} {l : List Bk} {c i : Nat} {r : List Nat} (h : ¬ (atL l i / 32).toNat = p) : firstO p l c (i :: r) = i := if_neg h
theorem rise {n : Int} : ∀ {l : List Bk} {a : Int} {f : Bool}, mayF n a f l = true → ∀ {i j : Nat}, i < j → j < l.length → (l.getD i default).a < (l.getD j default).a
  | [], _, _, _, _, _, _, h => by simp at h
  | b :: r, a, f, h, 0, j + 1, _, hj => by
    obtain ⟨ha, ⟨h1, _⟩, _, h⟩ := mayF_cons.1 h
    have := (mayF_sizes h (r.getD j default) (getD_mem (by simpa using hj))).2.1
    simp only [List.getD_cons_zero, List.getD_cons_succ]
    omega
  | b :: r, a, f, h, i + 1, j + 1, hij, hj => by
    obtain ⟨_, _, _, h⟩ := mayF_cons.1 h
    simpa using rise h (i := i) (j := j) (by omega) (by simpa using hj)
/-- nothing turns behind one whose page was not written -/
theorem stays {cs : List Int} {l : List Bk} {c : Nat} (hc : wrN cs (atL l c) = 0) : ∀ (f : List Nat), (∀ i ∈ f, 0 ≤ wrN cs (atL l i) ∧ atL l c < atL l i) → chO cs l (some c) f = some c
  | [], _ => rfl
  | i :: r, h => by
    obtain ⟨h1, h2⟩ := h i (List.mem_cons_self ..)
    rw [chO, if_neg (by rw [ahd_iff]; omega)]
    exact stays hc r fun j hj => h j (List.mem_cons_of_mem _ hj)
theorem turns {cs : List Int} {l : List Bk} {p c : Nat} (hw : ∀ x : Int, 0 ≤ x → x < 512 → wrN cs x = if (x / 32).toNat = p then 1 else 0) (hc : (atL l c / 32).toNat = p) (hc0 : 0 ≤ atL l c ∧ atL l c < 512) :
    ∀ (f : List Nat), (∀ i ∈ f, atL l c < atL l i ∧ atL l i < 512) → f.Pairwise (fun i j => atL l i < atL l j) → chO cs l (some c) f = some (firstO p l c f)
  | [], _, _ => rfl
  | i :: r, h, hp => by
    obtain ⟨h1, h2⟩ := h i (List.mem_cons_self ..)
    obtain ⟨p1, p2⟩ := List.pairwise_cons.1 hp
    have e := hw (atL l i) (by omega) h2
    have ec := hw (atL l c) hc0.1 hc0.2
    rw [if_pos hc] at ec
    by_cases hi : (atL l i / 32).toNat = p
    · rw [if_pos hi] at e
      rw [firstO_same hi, chO, if_neg (by rw [ahd_iff]; omega)]
      exact turns hw hc hc0 r (fun j hj => h j (List.mem_cons_of_mem _ hj)) p2
    · rw [if_neg hi] at e
      rw [firstO_else hi, chO, if_pos (by rw [ahd_iff]; omega)]
      refine stays e r fun j hj => ?_
      have := h j (List.mem_cons_of_mem _ hj)
      refine ⟨?_, p1 j hj⟩
      rw [hw _ (by omega) this.2]
      split <;> decide
theorem one_wr (p : Nat) (hp : p < 16) : ∀ x : Int, 0 ≤ x → x < 512 → wrN ((List.replicate 16 (0 : Int)).set p 1) x = if (x / 32).toNat = p then 1 else 0 := by
  intro x h0 h1
  rw [wrN, if_neg (by omega)]
  have hq : (x / 32).toNat < 16 := by omega
  generalize (x / 32).toNat = q at *
  rw [List.getD_eq_getElem?_getD, List.getElem?_set]
  by_cases h : p = q
  · subst h
    rw [if_pos rfl, if_pos rfl, if_pos (by simpa using hp)]; rfl
  · rw [if_neg h, if_neg (fun e => h e.symm), List.getElem?_replicate, if_pos hq]; rfl
theorem wr_nil (x : Int) : wrN [] x = 0 := by
  unfold wrN
  split <;> simp
/-- what is chosen -/
theorem plain {N n : Int} {l : List Bk} {i : Nat} {r : List Nat} (hm : mayL N l = true) (hf : fitN n l = i :: r) :
    chN n [] l = some i ∧ i < l.length ∧ (∀ j ∈ i :: r, j < l.length) ∧ (∀ j, j < l.length → 0 ≤ atL l j ∧ atL l j < 512) ∧ chN n ((List.replicate 16 (0 : Int)).set (atL l i / 32).toNat 1) l = some (firstO (atL l i / 32).toNat l i (i :: r)) := by
  obtain ⟨⟨_, h5, _⟩, hF⟩ := mayL_yes.1 hm
  have hmem : ∀ j ∈ i :: r, j < l.length := fun j hj => (fitN_mem (n := n) (l := l) (by rw [hf]; exact hj)).1
  have hat : ∀ j, j < l.length → 0 ≤ atL l j ∧ atL l j < 512 := fun j hj => by
    obtain ⟨⟨s1, _⟩, s2, s3⟩ := mayF_sizes hF (l.getD j default) (getD_mem hj)
    unfold atL
    omega
  have hi := hmem i (List.mem_cons_self ..)
  have hr : (i :: r).Pairwise (· < ·) := by rw [← hf]; exact fitN_rise
  obtain ⟨hr1, hr2⟩ := List.pairwise_cons.1 hr
  have hup : ∀ j ∈ r, atL l i < atL l j := fun j hj => rise hF (hr1 j hj) (hmem j (List.mem_cons_of_mem _ hj))
  refine ⟨?_, hi, hmem, hat, ?_⟩
  · rw [chN, hf, chO_none]
    exact stays (wr_nil _) r fun j hj => ⟨by rw [wr_nil]; decide, hup j hj⟩
  · rw [chN, hf, chO_none, firstO_same rfl]
    have := hat i hi
    refine turns (one_wr _ (by omega)) rfl this r (fun j hj => ⟨hup j hj, (hat j (hmem j (List.mem_cons_of_mem _ hj))).2⟩) ?_
    refine hr2.imp_of_mem fun {a b} ha hb hab => rise hF hab (hmem b (List.mem_cons_of_mem _ hb))

theorem far (l : List Bk) (p : Option Addr) (c : Nat) (n x : Int) (w : World) (h : 300 < l.length) :
    Calls Try.prog 5 #[.slice p l.length c, .int .i64 n, .int .i64 x] w fun e w' => e = .returned (.bool true) ∧ Below w.heap.size w w' := by
  generalize l.length = L at *
  have i1 : (L : Int) > 300 := by omega
  go_enter Try.func5, Try.ntmps5
  go_wp2_with fail
  refine (awake_any _).mono ?_; rintro e w' ⟨rfl, hb⟩
  go_wp2_with fail
  go_ret
  exact ⟨rfl, hb⟩
theorem bad (l : List Bk) (p : Option Addr) (c : Nat) (n x : Int) (w : World) (hv : RA blkE w (.slice p l.length c) l) (h1 : l.length ≤ 300) (h3 : mayL n l = false) :
    Calls Try.prog 5 #[.slice p l.length c, .int .i64 n, .int .i64 x] w fun e w' => e = .returned (.bool true) ∧ Below w.heap.size w w' := by
  have M := Lib.hid (rmay_is n l _ false w hv (by omega) h3)
  have i1 : ¬ (l.length : Int) > 300 := by omega
  clear hv h1 h3
  generalize l.length = L at *
  go_enter Try.func5, Try.ntmps5
  go_wp2_with fail
  refine (M.out).mono ?_; rintro e w1 ⟨rfl, b1⟩
  have D1 := Lib.hid b1
  clear b1
  go_wp2_with fail
  refine (awake_any _).mono ?_; rintro e w3 ⟨rfl, b3⟩
  have D3 := Lib.hid (below_more D1.out b3)
  clear b3
  go_wp2_with fail
  go_ret
  exact ⟨rfl, D3.out⟩

set_option maxHeartbeats 2000000 in
theorem near (l : List Bk) (p : Option Addr) (cp : Nat) (N a2 : Int) (w : World) (hv : RA blkE w (.slice p l.length cp) l) (h : l.length ≤ 300) (hm : mayL N l = true) :
    Calls Try.prog 5 #[.slice p l.length cp, .int .i64 N, .int .i64 a2] w fun e w' => e = .returned (.bool true) ∧ Below w.heap.size w w' := by
  obtain ⟨x, hx, _⟩ := u64_nat a2
  have t1 : (x : Int).tmod 60 = ((x % 60 : Nat) : Int) := tmod_nat x 60
  obtain ⟨p1, hp⟩ : ∃ p, x % 60 = p := ⟨_, rfl⟩
  rw [hp] at t1
  have t3 : IntKind.i64.wrap (p1 : Int) = p1 := i64_nat _ (by omega)
  obtain ⟨n, hn⟩ : ∃ n, 2 + p1 = n := ⟨_, rfl⟩
  have t5 : IntKind.i64.wrap (2 + (p1 : Int)) = (n : Int) := by rw [show 2 + (p1 : Int) = (n : Int) by omega]; exact i64_nat _ (by omega)
  have M := Lib.hid (rmay_is N l _ true w hv (by omega) hm)
  have C1 := Lib.hid (fun w' (hb : Below w.heap.size w w') => fits_is n l _ w' (ra_below hv hb) (by omega))
  obtain ⟨rr, hrr⟩ : ∃ r, chN n [] l = r := ⟨_, rfl⟩
  have C2 := Lib.hid (fun w' (hb : Below w.heap.size w w') => choose_is n [] l _ _ rr w' (ra_below hv hb) (ri_nil w') (by omega) hrr)
  have i1 : ¬ (l.length : Int) > 300 := by omega
  obtain ⟨F, hF⟩ : ∃ F, fitN n l = F := ⟨_, rfl⟩
  rw [hF] at C1
  cases F with
  | nil =>
    rw [chN_none hF] at hrr
    subst hrr
    clear hv h hm hp hn hF
    simp only [oi] at C2
    generalize l.length = L at *
    go_enter Try.func5, Try.ntmps5
    go_wp2_with fail
    refine (M.out).mono ?_; rintro e w1 ⟨rfl, b1⟩
    have D1 := Lib.hid b1
    clear b1
    go_wp2_with fail
    refine (C1.out _ D1.out).mono ?_; rintro e w2 ⟨⟨v2, rfl, o2⟩, b2⟩
    obtain ⟨p2, c2, rfl⟩ := o2.shape
    have D2 := Lib.hid (below_more D1.out b2)
    clear b2 o2
    go_wp2_with fail
    refine (C2.out _ D2.out).mono ?_; rintro e w3 ⟨rfl, b3⟩
    have D3 := Lib.hid (below_more D2.out b3)
    clear b3
    go_wp2_with fail
    refine (awake_any _).mono ?_; rintro e w4 ⟨rfl, b4⟩
    have D4 := Lib.hid (below_more D3.out b4)
    clear b4
    go_wp2_with fail
    go_ret
    exact ⟨rfl, D4.out⟩
  | cons c r =>
    obtain ⟨hc1, hcl, hmem, hat, hc2⟩ := plain hm hF
    rw [hc1] at hrr
    subst hrr
    obtain ⟨b, off, rfl, _, _⟩ := blk_at hv (by omega)
    have HX : Hid (∀ w', Below w.heap.size w w' → ∀ j, j < l.length → w'.cell? ⟨b, off + j * 3, none⟩ = some (.int .i64 (atL l j))) := Lib.hid fun w' hb j hj => by
      obtain ⟨_, _, e, _, hx⟩ := blk_at (ra_below hv hb) (by omega)
      cases e
      exact (hx j hj).2.1
    obtain ⟨A, hA⟩ : ∃ A : Nat, atL l c = A := ⟨(atL l c).toNat, by have := hat c hcl; omega⟩
    obtain ⟨P, hP⟩ : ∃ P, A / 32 = P := ⟨_, rfl⟩
    have hP16 : P < 16 := by have := hat c hcl; omega
    have hPe : (atL l c / 32).toNat = P := by omega
    rw [hPe] at hc2
    obtain ⟨D, hD⟩ : ∃ D, firstO P l c (c :: r) = D := ⟨_, rfl⟩
    rw [hD] at hc2
    have C3 := Lib.hid (fun v w' (hb : Below w.heap.size w w') (hr : RI w' v ((List.replicate 16 (0 : Int)).set P 1)) => choose_is n _ l _ v _ w' (ra_below hv hb) hr (by omega) hc2)
    have q1 : ¬ (c : Int) < 0 := by omega
    have q2 : ¬ (c : Int) ≥ (l.length : Int) := by omega
    have q3 : (c : Int) < (l.length : Int) := by omega
    have q4 : (0 : Int) ≤ (c : Int) := by omega
    have q5 : (A : Int).tdiv 32 = (P : Int) := by rw [← hP]; exact tdiv_nat A 32
    have q6 : IntKind.i64.wrap (P : Int) = (P : Int) := i64_nat _ (by omega)
    have q7 : (P : Int) < 16 := by omega
    have q8 : ¬ (P : Int) < 0 := by omega
    have q9 : (0 : Int) ≤ (P : Int) := by omega
    have hmk : ∀ w : World, (Instr.makeSlice 23 (.int .i64 16) (.int .i64 16)).run Try.prog w = .ok (.slice (some ⟨w.heap.size, 0, none⟩) 16 16) (w.alloc (.cells (madeCells #[.int .i64 0] 16) 3)) := fun w => by
      have := run_make_row' (P := Try.prog) 23 3 (.int .i64 0) 8 Try.underlying23 info_int rfl .i64 .i64 16 (by omega) (by omega) (w := w)
      exact this
    have HC0 := Lib.hid (HX.out)
    have HAC := Lib.hid hA
    have HMM := Lib.hid hmem
    have HAT := Lib.hid hat
    have HDD := Lib.hid hD
    have HL := Lib.hid h
    have HCL := Lib.hid hcl
    have HPE := Lib.hid hPe
    simp only [oi] at C2 C3
    clear hv h hm hp hn hF hc1 hcl hmem hat hc2 hA hP hPe hD hP16
    go_enter Try.func5, Try.ntmps5
    go_wp2_with fail
    refine (M.out).mono ?_; rintro e w1 ⟨rfl, b1⟩
    have D1 := Lib.hid b1
    clear b1 M
    go_wp2_with fail
    refine (C1.out _ D1.out).mono ?_; rintro e w2 ⟨⟨v2, rfl, o2⟩, b2⟩
    have D2 := Lib.hid (below_more D1.out b2)
    have R2 := Lib.hid o2.ri
    have HFL : Hid ((c :: r).length ≤ 9223372036854775807) := Lib.hid (by
      obtain ⟨_, _, _, h1, h2, _⟩ := o2.ri
      rw [ins_length] at h1
      unfold maxLen at h2
      omega)
    obtain ⟨p2, c2, rfl⟩ := o2.shape
    rw [ins_length] at R2 ⊢
    have hF0 : (c :: r).getD 0 0 = c := rfl
    have HF0 := Lib.hid hF0
    obtain ⟨F, hF⟩ : ∃ F, c :: r = F := ⟨_, rfl⟩
    rw [hF] at R2 HFL HMM HDD HF0 ⊢
    have HF1 : Hid (0 < F.length) := Lib.hid (by rw [← hF]; simp)
    clear b2 o2 hF hF0
    obtain ⟨bf, of, rfl, _, _⟩ := ri_some R2.out (by rw [ins_length]; exact HF1.out)
    have HF2 : Hid (∀ w', Below w2.heap.size w2 w' → ∀ k, k < F.length → w'.cell? ⟨bf, of + k, none⟩ = some (.int .i64 ((F.getD k 0 : Nat) : Int))) := Lib.hid fun w' hb k hk => by
      obtain ⟨_, _, e, _, hx⟩ := ri_some (ri_below R2.out hb) (by rw [ins_length]; exact HF1.out)
      cases e
      rw [hx k (by rw [ins_length]; exact hk), ins_getD hk]
    go_wp2_with fail
    refine (C2.out _ D2.out).mono ?_; rintro e w3 ⟨rfl, b3⟩
    have E3 := Lib.hid b3
    have D3 := Lib.hid (below_more D2.out b3)
    have f0 := HF2.out w3 b3 0 HF1.out
    rw [HF0.out, Nat.add_zero] at f0
    have f1 : ¬ F.length = 0 := by have := HF1.out; omega
    have f2 : ((F.length : Int) == 0) = false := beq_eq_false_iff_ne.2 (by omega)
    have f3 : (0 : Int) < (F.length : Int) := by omega
    have f4 : 0 < F.length := by omega
    obtain ⟨W, hW⟩ : ∃ W, w3.alloc (.cells (madeCells #[.int .i64 0] 16) 3) = W := ⟨_, rfl⟩
    have oW : OwnI w3.heap.size W (.slice (some ⟨w3.heap.size, 0, none⟩) 16 16) (List.replicate 16 0) := by rw [← hW]; exact made_own_i w3 16 (by unfold maxLen; omega)
    have bW : Below w3.heap.size w3 W := by rw [← hW]; exact bal (Below.refl _ _)
    have hP16 : P < 16 := by omega
    obtain ⟨g1, g2⟩ := own_cell_i oW (j := P) (by simpa using hP16)
    have hz : (List.replicate 16 (0 : Int)).getD P 0 = 0 := by rw [List.getD_eq_getElem?_getD, List.getElem?_replicate, if_pos hP16]; rfl
    rw [hz] at g1
    have gA := HX.out W (below_more D3.out bW) c HCL.out
    rw [HAC.out] at gA
    obtain ⟨V, hV⟩ : ∃ V, W.setCell ⟨w3.heap.size, P, none⟩ (.int .i64 1) = V := ⟨_, rfl⟩
    have oV : OwnI w3.heap.size V (.slice (some ⟨w3.heap.size, 0, none⟩) 16 16) ((List.replicate 16 (0 : Int)).set P 1) := by rw [← hV]; exact own_stored_i oW P 1
    have bV : Below w3.heap.size w3 V := by rw [← hV]; exact bW.setCell (p := ⟨w3.heap.size, P, none⟩) (Nat.le_refl _) _
    have E4 := Lib.hid (below_more E3.out bV)
    have D4 := Lib.hid (below_more D3.out bV)
    have O4 := Lib.hid oV.ri
    clear b3 oW bW hz oV bV hP16 C1 C2
    go_wp2_with fail
    refine (C3.out _ _ D4.out O4.out).mono ?_; rintro e w5 ⟨rfl, b5⟩
    have E5 := Lib.hid (below_more E4.out b5)
    have D5 := Lib.hid (below_more D4.out b5)
    clear b5 C3 f0 gA g1 g2 hW hV O4 f1 f2 f3 f4 hmk
    go_wp2
    go_loopw [75] (fun i wr => ∃ k : Nat, k ≤ F.length ∧ i = .int .i64 k ∧ Hid (firstO P l c (F.drop k) = D ∧ ∃ m, wr = w5.drewN m)) (fun i _ => F.length - (intOf i).toNat)
    case atStart => exact ⟨0, Nat.zero_le _, rfl, Lib.hid ⟨HDD.out, 0, rfl⟩⟩
    case round =>
      obtain ⟨k, hk, rfl, H⟩ := hrel
      obtain ⟨hH, mm, rfl⟩ := H.out
      by_cases hlt : k < F.length
      · obtain ⟨V5, hV5⟩ : ∃ V, w5.drewN mm = V := ⟨_, rfl⟩
        have HV5 : Hid (∀ m, V5.drewN m = w5.drewN (mm + m)) := Lib.hid fun m => by rw [← hV5, World.drewN_drewN]
        have cf1 := HF2.out _ (below_drewN E5.out mm) k hlt
        rw [hV5] at cf1 ⊢
        have hil := HMM.out _ (getD_mem_n hlt)
        have hati := HAT.out _ hil
        rw [getD_cut_n hlt] at hH
        have i0 : (0 : Int) ≤ (k : Int) := by omega
        have i1 : (k : Int) < (F.length : Int) := by omega
        have i2 : ¬ (k : Int) < 0 := by omega
        have i3 : IntKind.i64.wrap ((k : Int) + 1) = ((k + 1 : Nat) : Int) := by rw [show (k : Int) + 1 = ((k + 1 : Nat) : Int) by omega]; exact i64_nat _ (by have := HFL.out; omega)
        have HK := Lib.hid hlt
        generalize F.getD k 0 = I at *
        obtain ⟨B, hB⟩ : ∃ B : Nat, atL l I = B := ⟨(atL l I).toNat, by omega⟩
        obtain ⟨Q, hQ⟩ : ∃ Q, B / 32 = Q := ⟨_, rfl⟩
        have d5 : (B : Int).tdiv 32 = (Q : Int) := by rw [← hQ]; exact tdiv_nat B 32
        have d6 : IntKind.i64.wrap (Q : Int) = (Q : Int) := i64_nat _ (by omega)
        have hQe : (atL l I / 32).toNat = Q := by omega
        have e1 : ∀ m, (V5.drewN m).cell? ⟨b, off + I * 3, none⟩ = some (.int .i64 B) := fun m => by
          rw [HV5.out, ← hB]; exact HX.out _ (below_drewN D5.out _) I hil
        have e2 : ∀ m, (V5.drewN m).cell? ⟨b, off + c * 3, none⟩ = some (.int .i64 A) := fun m => by
          rw [HV5.out, ← HAC.out]; exact HX.out _ (below_drewN D5.out _) c HCL.out
        have d1 : (I : Int) ≥ 0 := by omega
        have d2 : (I : Int) < (l.length : Int) := by omega
        have d3 : I < l.length := hil
        have d4 : (0 : Int) ≤ (I : Int) := by omega
        by_cases hPQ : Q = P
        · rw [firstO_same (by rw [hQe]; exact hPQ)] at hH
          have HH := Lib.hid hH
          have s1 : ((Q : Int) != (P : Int)) = false := by rw [hPQ]; simp
          have s2 : ((Q : Int) == (P : Int)) = true := by rw [hPQ]; simp
          have s3 : (Q == P) = true := by rw [hPQ]; simp
          clear hH H hk hil hati hB hQ hQe hPQ hV5
          go_wp2_with fail
          go_quiet (fail)
          go_wp2
          go_roundw
          case rel => exact ⟨k + 1, by have := HK.out; omega, by go_num, Lib.hid ⟨HH.out, _, HV5.out _⟩⟩
          case measure => have := HK.out; simp [intOf]; omega
        · rw [firstO_else (by rw [hQe]; exact hPQ)] at hH
          subst hH
          have s1 : ((Q : Int) != (P : Int)) = true := bne_iff_ne.2 (by omega)
          have s2 : ((Q : Int) == (P : Int)) = false := beq_eq_false_iff_ne.2 (by omega)
          have s3 : (Q == P) = false := beq_eq_false_iff_ne.2 hPQ
          clear H hk hil hati hB hQ hQe hPQ hV5 i3
          go_wp2_with fail
          go_quiet (fail)
          have HB : Hid (Below w.heap.size w (V5.drewN nq)) := Lib.hid (by rw [HV5.out]; exact below_drewN D5.out _)
          go_wp2_with fail
          refine (awake_any _).mono ?_; rintro e w6 ⟨rfl, b6⟩
          have D6 := Lib.hid (below_more HB.out b6)
          clear b6
          go_wp2_with fail
          go_ret
          exact ⟨rfl, D6.out⟩
      · obtain rfl : k = F.length := by omega
        rw [List.drop_length, firstO] at hH
        subst hH
        have HB := Lib.hid (below_drewN D5.out mm)
        clear H hk
        go_wp2_with fail
        refine (awake_any _).mono ?_; rintro e w6 ⟨rfl, b6⟩
        have D6 := Lib.hid (below_more HB.out b6)
        clear b6
        go_wp2_with fail
        go_ret
        exact ⟨rfl, D6.out⟩

theorem walk (l0 : List Bk) (v0 : Value) (a1 a2 : Int) (w : World) (h0 : RA blkE w v0 l0) (_ : (Lit.int .i64 a1).wf = true) (_ : (Lit.int .i64 a2).wf = true) :
    Calls Try.prog 5 #[v0, .int .i64 a1, .int .i64 a2] w fun e w' => e = .returned (.bool true) ∧ Below w.heap.size w w' := by
  obtain ⟨p, c, rfl, _⟩ := ra_shape h0
  by_cases h : 300 < l0.length
  · exact far l0 p c a1 a2 w h
  · cases e : mayL a1 l0
    · exact bad l0 p c a1 a2 w h0 (by omega) e
    · exact near l0 p c a1 a2 w h0 (by omega) e

set_option maxRecDepth 100000 in
theorem lifted (os : Os) (started : os.Started) (H : Type) (enc : TypeId × Value → H) :
    ReturnsInHanded {} Try.checked os 5 .any (Rows.fitOrderSpec.pre6 enc Try.prog Try.f5 Rows.fitOrderRow.domain false) (Rows.fitOrderSpec.post enc Try.prog Try.f5 false true false false) := by
  refine returnsInHanded_of_change (C := Try.checked) own started (by kernel_rfl) Try.func5
    (ChangeSpec.witness6 (enc := enc) (C := Try.checked) false ⟨#[], #[.slice none 0 0, .int .i64 0, .int .i64 0], []⟩ 8 (by kernel_rfl) (by kernel_rfl) (by kernel_rfl) (by kernel_rfl)) ?_
  intro W base args ds gs before hval0 hW hcnd _
  have hval : ∀ (j : Nat) t v, Try.f5.params[j]? = some t → args[j]? = some v → Value.okWide Try.prog W .any base t v := hval0
  have hW' := hW
  have hlt := hW.lt
  obtain ⟨p, q, hA0, hV, hpq, hfz, hnd⟩ := hW
  have hA : DataW.TrodAll enc Try.prog W 0 (fun _ => true) true Try.f5.params.toList args.toList ds p := hA0
  rw [Try.params5] at hA hval
  obtain ⟨v0, vs0, d0, ds0, p0, q0, hargs, rfl, hp, h0, r0⟩ := trodAll_cons hA
  obtain ⟨v1, vs1, d1, ds1, p1, q1, rfl, rfl, rfl, h1, r1⟩ := trodAll_cons r0
  obtain ⟨v2, vs2, d2, ds2, p2, q2, rfl, rfl, rfl, h2, r2⟩ := trodAll_cons r1
  obtain ⟨rfl, rfl, rfl⟩ := trodAll_nil r2
  obtain rfl : args = #[v0, v1, v2] := by cases args; simp_all
  obtain ⟨rfl, rfl⟩ := trodVars_none hV
  have hlt' : ∀ x ∈ before, x.block < W.heap.size := fun x hx => hlt x hx
  obtain ⟨l0, w0⟩ := blocks_in (hval 0 22 v0 rfl rfl) h0
  obtain ⟨a1, rfl, rfl, rfl, w1⟩ := open_int Try.underlying3 (hval 1 3 v1 rfl rfl) h1
  obtain ⟨a2, rfl, rfl, rfl, w2⟩ := open_int Try.underlying3 (hval 2 3 v2 rfl rfl) h2
  refine (walk l0 v0 a1 a2 W w0 w1 w2).mono fun e W' ⟨he, hb⟩ => ?_
  subst he
  exact ⟨_, rfl, law_post rfl (by kernel_rfl) hW' (by rw [Try.params5]; intro t ht; simp only [List.mem_cons, List.not_mem_nil, or_false] at ht; (repeat' (first | (rcases ht with rfl | ht) | subst ht)) <;> exact ⟨by kernel_rfl, of_decide_eq_true (by kernel_rfl)⟩) rfl hb⟩

theorem over : Rows.fitOrderRow.holds Try.pinned (OpenSpec.ofChange Rows.fitOrderSpec) :=
  OpenClaim.holds_of_wide 5 Try.f5 rfl rfl rfl rfl rfl rfl rfl ⟨rfl, rfl, rfl, rfl, rfl⟩ rfl rfl rfl rfl rfl (by kernel_rfl) Try.func5 (by kernel_rfl)
    (of_decide_eq_true (by kernel_rfl)) (by unfold Func.isWrapper; first | (rw [if_pos (by decide +kernel)]; kernel_rfl) | (rw [if_neg (by decide +kernel)]; exact ⟨rfl, rfl⟩))
    (fun os started H enc _ => lifted os started H enc)

theorem proved : Rows.FitOrderSaid := over
end Go.Proofs.Ytnhhdkdjejfcjaa.fitOrder
