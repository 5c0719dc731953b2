/-
  Spare lines that are dead from the first are passed over, and used up. No conditions.
-/
import Derived.Test.YtlpmpnhkghbdmaaLnw
import Derived.Test.YtlpmpnhkghbdmaaBls
namespace Go.Proofs.Ytlpmpnhkghbdmaa.linesDead
open Go.Proofs.Ytlpmpnhkghbdmaa Go.ChangeShapes Go.WideShapes Go.ChangeAt Go.RowKit

/-- z is the first good one among the first k, or -1 -/
def First (l : List Bool) (k : Nat) (z : Int) : Prop := (z = -1 ∧ ∀ j, j < k → l.getD j false = true) ∨ ∃ g : Nat, z = (g : Int) ∧ g < k ∧ l.getD g false = false ∧ ∀ j, j < g → l.getD j false = true
def lim (b : Bool) : Int := if b then 0 else -1
def ls (l : List Bool) (k : Nat) : List Int := 0 :: (l.take k).map lim
theorem ls_next {l : List Bool} {k : Nat} (h : k < l.length) : ls l k ++ [lim (l.getD k false)] = ls l (k + 1) := by
  unfold ls
  rw [List.take_add_one, List.map_append, List.getD_eq_getElem?_getD, List.getElem?_eq_getElem h]
  simp
theorem ls_length {l : List Bool} {k : Nat} (h : k ≤ l.length) : (ls l k).length = 1 + k := by simp [ls]; omega
theorem ls_at {l : List Bool} {k : Nat} (h : k < l.length) : (ls l l.length).getD (1 + k) 0 = lim (l.getD k false) := by
  have e : 1 + k = k + 1 := by omega
  simp [ls, e, h]

/-- ahead of the k-th try: all before are dead -/
structure St (l : List Bool) (k : Nat) (s : Nv) : Prop where
  calm : s.calm
  ok : s.Ok
  n : s.n = 1 + l.length
  la : ∀ i, i < l.length → s.la (1 + i) = lim (l.getD i false)
  wr : ∀ i, i < l.length → s.wr (1 + i) = 0
  tb : s.tb l.length = chainT l.length k 2
  all : ∀ i, i < k → l.getD i false = true
theorem tries (l : List Bool) (d : List Int) (hd : d.length = 8) (h16 : l.length ≤ 16) : ∀ (n k : Nat) (s : Nv), St l k s → k ≤ l.length → l.length < n + k →
    (∃ g : Nat, g < l.length ∧ l.getD g false = false ∧ (∀ i, i < g → l.getD i false = true) ∧ (repl 1 0 d n (s.tb l.length) s).1 = 0 ∧ leftT ((repl 1 0 d n (s.tb l.length) s).2.tb l.length) = l.length - g - 1) ∨
    ((∀ i, i < l.length → l.getD i false = true) ∧ (repl 1 0 d n (s.tb l.length) s).1 = 3)
  | 0, k, s, _, h1, h2 => by omega
  | n + 1, k, s, H, h1, h2 => by
    have hT := H.tb
    have hlen := s.tb_length l.length
    by_cases hk : k < l.length
    · have hz : zeroT (s.tb l.length) = k := by
        rw [hT]
        exact zeroT_eq (by rw [chainT_length h1]; exact hk) (by rw [chainT_getD, if_neg (by omega)]) fun i hi => by rw [chainT_getD, if_pos hi]; decide
      have hkn : 1 + k < s.n := by rw [H.n]; omega
      have pe := H.calm.putE hkn
      have ps := H.calm.put H.ok hkn hd
      have hw : s.worn (1 + k) = l.getD k false := by
        unfold Nv.worn
        rw [H.la k hk, H.wr k hk]
        cases l.getD k false <;> rfl
      rw [hw] at pe ps
      have C1 := H.calm.put_ ((1 + k : Nat) : Int) d
      have O1 := H.ok.put hd ((1 + k : Nat) : Int)
      have se := C1.setE (k := 3 + k) (by omega)
      cases hb : l.getD k false
      · rw [hb] at pe ps
        simp only [Bool.false_eq_true, if_false] at pe ps
        have hr := repl_ok (a := 0) (n := n) (d := d) hz (by omega) pe
        have ss := C1.set (k := 3 + k) (by omega) (0 + 1)
        rw [se, ss, ps] at hr
        left
        refine ⟨k, hk, hb, H.all, by rw [hr], ?_⟩
        rw [hr]
        have t2 := Nv.tb_set (s := s) (s' := { s with c := s.c + 1 + 1, wr := upd s.wr (1 + k) (s.wr (1 + k) + 1), h := upd s.h (1 + k) d, rg := upd s.rg (3 + k) (0 + 1) }) hk rfl
        have t3 := leftT_set (l := s.tb l.length) (x := 0 + 1) (by omega : k < (s.tb l.length).length) (by rw [hT, chainT_getD, if_neg (by omega)]) (by decide)
        rw [← t2, hT, chainT_left h1 (by decide)] at t3
        have t4 : ∀ x y : Nv, x.rg = y.rg → leftT (x.tb l.length) = leftT (y.tb l.length) := fun x y e => congrArg leftT (Nv.tb_congr e _)
        refine (t4 _ _ rfl).trans (Nat.eq_sub_of_add_eq t3.symm)
      · rw [hb] at pe ps
        simp only [if_true] at pe ps
        have hr := repl_worn (a := 0) (n := n) (d := d) hz (by omega) pe se
        have ss := C1.set (k := 3 + k) (by omega) (((1 : Nat) : Int) + 1)
        have C2 := C1.set_ ((3 + k : Nat) : Int) (((1 : Nat) : Int) + 1)
        have O2 := O1.set ((3 + k : Nat) : Int) (((1 : Nat) : Int) + 1)
        rw [hr]
        rw [ps] at ss C2 O2 ⊢
        rw [ss] at C2 O2 ⊢
        have t2 := Nv.tb_set (s := s) (s' := { s with c := s.c + 1 + 1, rg := upd s.rg (3 + k) (((1 : Nat) : Int) + 1) }) hk rfl
        rw [← t2]
        refine tries l d hd h16 n (k + 1) _ ⟨C2, O2, H.n, fun i hi => H.la i hi, fun i hi => H.wr i hi, ?_, fun i hi => ?_⟩ hk (by omega)
        · exact t2.trans (by rw [hT]; exact chainT_set hk)
        · by_cases e : i = k
          · subst e; exact hb
          · exact H.all i (by omega)
    · right
      have hk' : k = l.length := by omega
      refine ⟨fun i hi => H.all i (by omega), ?_⟩
      rw [repl_none]
      rw [hT, zeroT_none fun i hi => by rw [chainT_length h1] at hi; rw [chainT_getD, if_pos (by omega)]; decide]
      omega

/-- a Put of slot 0 -/
theorem plain (l : List Bool) (d : List Int) (hd : d.length = 8) (h16 : l.length ≤ 16) (z : Int) (hz : First l l.length z) :
    ∃ s', LOk (newNv (1 + l.length) (ls l l.length)) 1 l.length ∧ (newNv (1 + l.length) (ls l l.length)).c = 0 ∧ LOk s' 1 l.length ∧
      ((z = -1 ∧ lput 1 l.length 0 d (newNv (1 + l.length) (ls l l.length)) = (3, s') ∧ leftT (s'.tb l.length) = 0 ∧ hold s' 1 l.length 0 = zeros) ∨
       (∃ g : Nat, z = (g : Int) ∧ g < l.length ∧ lput 1 l.length 0 d (newNv (1 + l.length) (ls l l.length)) = (0, s') ∧ leftT (s'.tb l.length) = l.length - g - 1 ∧ hold s' 1 l.length 0 = d)) := by
  have H := newNv_lok (S := 1) (P := l.length) (by decide) h16 (by omega) (ls l l.length)
  have hT := newNv_tb (1 + l.length) l.length (ls l l.length)
  have hlen := ls_length (Nat.le_refl l.length)
  have hla : ∀ i, i < 1 + l.length → (newNv (1 + l.length) (ls l l.length)).la i = (ls l l.length).getD i 0 := fun i hi => by
    show (if i < 1 + l.length then (if i < (ls l l.length).length then (ls l l.length).getD i 0 else -1) else 0) = _
    rw [if_pos hi, if_pos (by omega)]
  have hh0 : hold (newNv (1 + l.length) (ls l l.length)) 1 l.length 0 = zeros := rfl
  have hc0 : (newNv (1 + l.length) (ls l l.length)).c = 0 := rfl
  have C : (newNv (1 + l.length) (ls l l.length)).calm := newNv_calm _ _
  have hn : (newNv (1 + l.length) (ls l l.length)).n = 1 + l.length := rfl
  have hwr : ∀ i, (newNv (1 + l.length) (ls l l.length)).wr i = 0 := fun i => rfl
  generalize newNv (1 + l.length) (ls l l.length) = s0 at *
  have hpl : placeT (s0.tb l.length) ((1 : Nat) : Int) 0 = ((0 : Nat) : Int) := by
    unfold placeT
    rw [if_pos (by decide), plT_none]; · rfl
    intro k hk
    rw [hT] at hk ⊢
    have : k < l.length := by simpa using hk
    simp [this]
  have hw0 : s0.worn 0 = true := by
    unfold Nv.worn
    rw [hla 0 (by omega), hwr]; rfl
  have pe := C.putE (k := 0) (by omega)
  have ps := C.put H.ok (k := 0) (by omega) hd
  rw [hw0] at pe ps
  simp only [if_true] at pe ps
  have O1 := H.ok.put hd ((0 : Nat) : Int)
  rw [ps] at O1
  have hres : lput 1 l.length 0 d s0 = repl 1 0 d (l.length + 1) (s0.tb l.length) { s0 with c := s0.c + 1 } := by
    have hl : ¬ s0.dark = true := by rw [H.live]; decide
    rw [lput, if_pos (by decide), if_neg hl, hpl, pe, if_pos rfl, ps]
  have S1 : St l 0 { s0 with c := s0.c + 1 } := ⟨C, O1, hn, fun i hi => by
      show s0.la (1 + i) = _
      rw [hla _ (by omega), ls_at hi], fun i _ => hwr _, by
      refine (Nv.tb_congr (s := s0) rfl _).trans (hT.trans ?_)
      rw [chainT_zero], fun i hi => by omega⟩
  have htb : ({ s0 with c := s0.c + 1 } : Nv).tb l.length = s0.tb l.length := Nv.tb_congr rfl _
  have ht := tries l d hd h16 (l.length + 1) 0 _ S1 (Nat.zero_le _) (by omega)
  rw [htb, ← hres] at ht
  obtain ⟨o, _⟩ := lput_out (a := 0) H hd (by decide)
  have e0 : lput 1 l.length ((0 : Nat) : Int) d s0 = lput 1 l.length 0 d s0 := rfl
  rw [e0] at o
  rcases ht with ⟨g, g1, g2, g3, g4, g5⟩ | ⟨g1, g2⟩
  · rcases hz with ⟨_, hz⟩ | ⟨g', rfl, z1, z2, z3⟩
    · rw [hz g g1] at g2; cases g2
    · have : g' = g := by
        rcases Nat.lt_trichotomy g g' with h | h | h
        · rw [z3 g h] at g2; cases g2
        · exact h.symm
        · rw [g3 g' h] at z2; cases z2
      subst this
      rw [g4] at o
      rcases o.own with ⟨_, h1, h2⟩ | ⟨h, _⟩ | ⟨h, _⟩
      · exact ⟨_, H, hc0, o.lok H h1, .inr ⟨g', rfl, g1, Prod.ext g4 rfl, g5, h2⟩⟩
      · cases h
      · cases h
  · rcases hz with ⟨rfl, hz⟩ | ⟨g', rfl, z1, z2, z3⟩
    · rw [g2] at o
      rcases o.own with ⟨h, _⟩ | ⟨_, h1, h2, h3⟩ | ⟨h, _⟩
      · cases h
      · exact ⟨_, H, hc0, o.lok H h1, .inl ⟨rfl, Prod.ext g2 rfl, h2, h3.trans hh0⟩⟩
      · cases h
    · rw [g1 g' z1] at z2; cases z2

theorem bit_any (b : Bool) (w : World) : Calls Try.prog 20 #[.bool b] w fun e w' => e = .returned (.int .i64 (if b then 1 else 0)) ∧ w = w' := by
  cases b
  · go_enter Try.func20, Try.ntmps20
    go_wp2_with fail
    go_ret
    exact ⟨rfl, rfl⟩
  · go_enter Try.func20, Try.ntmps20
    go_wp2_with fail
    go_ret
    exact ⟨rfl, rfl⟩

theorem First.next {l : List Bool} {k : Nat} {z : Int} (h : First l k z) (hb : l.getD k false = true ∨ 0 ≤ z) : First l (k + 1) z := by
  rcases h with ⟨rfl, h⟩ | ⟨g, rfl, h1, h2, h3⟩
  · refine .inl ⟨rfl, fun j hj => ?_⟩
    rcases hb with hb | hb
    · by_cases e : j = k
      · subst e; exact hb
      · exact h j (by omega)
    · omega
  · exact .inr ⟨g, rfl, by omega, h2, h3⟩
theorem First.here {l : List Bool} {k : Nat} {z : Int} (h : First l k z) (hb : l.getD k false = false) (hz : z < 0) : First l (k + 1) k := by
  rcases h with ⟨rfl, h⟩ | ⟨g, rfl, h1, h2, h3⟩
  · exact .inr ⟨k, rfl, by omega, hb, h⟩
  · omega

theorem small (l : List Bool) (v : Value) (x : Int) (w : World) (h : RBl w v l) (hl : 16 < l.length) :
    Calls Try.prog 7 #[v, .int .u64 x] w fun e w' => e = .returned (.bool true) ∧ Below w.heap.size w w' := by
  obtain ⟨p, cap, rfl, h1, h2, _⟩ := h
  unfold maxLen at h2
  have i1 : (16 : Int) < (l.length : Int) := by omega
  generalize l.length = n at *
  go_enter Try.func7, Try.ntmps7
  go_wp2_with fail
  refine (awake_any _).mono ?_; rintro e w' ⟨rfl, hb⟩
  go_wp2_with fail
  go_ret
  exact ⟨rfl, hb⟩

set_option maxHeartbeats 4000000 in
theorem main (l : List Bool) (v : Value) (x : Int) (w : World) (h : RBl w v l) (hl : l.length ≤ 16) :
    Calls Try.prog 7 #[v, .int .u64 x] w fun e w' => e = .returned (.bool true) ∧ Below w.heap.size w w' := by
  have HB := Lib.hid h
  obtain ⟨p, cap, rfl, h1, h2, h3⟩ := h
  have i1 : ¬ (16 : Int) < (l.length : Int) := by omega
  have LN : Hid (∃ N, l.length = N) := Lib.hid ⟨_, rfl⟩
  obtain ⟨N, hN⟩ := LN.out
  have EN := Lib.hid hN
  rw [hN]
  rw [hN] at i1
  have i2 : N ≤ 16 := by omega
  have O0 : OwnI w.heap.size (w.alloc (.cells #[.int .i64 0] 3)) (.slice (some ⟨w.heap.size, 0, none⟩) 1 1) (ls l 0) := own_lit w [0] (by unfold maxLen; simp)
  have O := Lib.hid O0
  have B := Lib.hid (bal (o := .cells #[.int .i64 0] 3) (Below.refl w.heap.size w))
  have CE : Hid (∀ k, k < N → ∃ b off, p = some ⟨b, off, none⟩ ∧ b < w.heap.size ∧ w.cell? ⟨b, off + k, none⟩ = some (.bool (l.getD k false))) := Lib.hid fun k hk => by
    rcases h3 with rfl | ⟨b, off, rfl, hb, hc⟩
    · simp at hN; omega
    · exact ⟨b, off, rfl, hb, hc k (by omega)⟩
  have F0 : Hid (First l 0 (-1)) := Lib.hid (.inl ⟨rfl, fun j hj => by omega⟩)
  clear O0 h1 h2 h3 hl hN HB LN
  go_enter Try.func7, Try.ntmps7
  go_wp2
  go_loopw [5, 6, 21] (fun v5 v6 i wr => ∃ k z, k ≤ N ∧ i = .int .i64 (k : Nat) ∧ v6 = .int .i64 z ∧ Hid (OwnI w.heap.size wr v5 (ls l k) ∧ Below w.heap.size w wr ∧ First l k z)) (fun _ _ i _ => N - (intOf i).toNat)
  case atStart => exact ⟨0, -1, Nat.zero_le _, rfl, rfl, Lib.hid ⟨O.out, B.out, F0.out⟩⟩
  case round =>
    obtain ⟨k, z, hk, rfl, rfl, H⟩ := hrel
    clear O B F0
    by_cases hlt : k < N
    · obtain ⟨b, off, rfl, hb, hc⟩ := CE.out k hlt
      have ck := (H.out.2.1.cell (p := ⟨b, off + k, none⟩) hb).trans hc
      have hlen : Hid ((ls l k).length + 1 ≤ 1000000) := Lib.hid (by rw [ls_length (by rw [EN.out]; exact hk)]; omega)
      have hsz : Hid (w.heap.size ≤ wr.heap.size) := Lib.hid H.out.2.1.size
      have NX := Lib.hid (ls_next (l := l) (k := k) (by rw [EN.out]; exact hlt))
      have FB := Lib.hid H.out.2.2.next
      have FH := Lib.hid H.out.2.2.here
      have i3 : (0 : Int) ≤ (k : Int) := by omega
      have i4 : (k : Int) < (N : Int) := by omega
      obtain ⟨y, hy⟩ : ∃ y, l.getD k false = y := ⟨_, rfl⟩
      rw [hy] at ck NX FB FH
      clear hc hy
      cases y
      · by_cases hz : z < 0
        · have hszA : Hid (w.heap.size ≤ (wr.alloc (.cells #[.int .i64 (-1)] 3)).heap.size) := Lib.hid (by rw [size_alloc]; exact Nat.le_succ_of_le hsz.out)
          go_wp2_with fail
          refine (bit_any _ _).mono ?_; rintro e w' ⟨rfl, rfl⟩
          go_wp2_with (at_builtin; refine list_app_int (o := ⟨some 32, _, _, _, _, _⟩) rfl (.tmp 26) (.tmp 31) rfl w.heap.size _ (ls l k) rfl (World.ownsRow.alloc H.out.1 _) _ [-1] rfl (ri_one _ (-1)) hlen.out hszA.out ?_; intro v1 w1 hown hg _)
          have HF : Hid (OwnI w.heap.size w1 v1 (ls l (k + 1)) ∧ Below w.heap.size w w1 ∧ First l (k + 1) (k : Int)) := Lib.hid ⟨(show ls l k ++ [-1] = ls l (k + 1) from NX.out) ▸ hown, Below.grown (bal H.out.2.1) hg hszA.out (fun q hq => (World.ownsRow.lt H.out.1 q hq).1), FH.out (by first | rfl | trivial) hz⟩
          clear hown hg
          go_wp2
          exact ⟨⟨k + 1, _, by omega, by go_num, rfl, HF⟩, by simp [intOf]; omega⟩
        · have hszA : Hid (w.heap.size ≤ (wr.alloc (.cells #[.int .i64 (-1)] 3)).heap.size) := Lib.hid (by rw [size_alloc]; exact Nat.le_succ_of_le hsz.out)
          go_wp2_with fail
          refine (bit_any _ _).mono ?_; rintro e w' ⟨rfl, rfl⟩
          go_wp2_with (at_builtin; refine list_app_int (o := ⟨some 32, _, _, _, _, _⟩) rfl (.tmp 26) (.tmp 31) rfl w.heap.size _ (ls l k) rfl (World.ownsRow.alloc H.out.1 _) _ [-1] rfl (ri_one _ (-1)) hlen.out hszA.out ?_; intro v1 w1 hown hg _)
          have HF : Hid (OwnI w.heap.size w1 v1 (ls l (k + 1)) ∧ Below w.heap.size w w1 ∧ First l (k + 1) z) := Lib.hid ⟨(show ls l k ++ [-1] = ls l (k + 1) from NX.out) ▸ hown, Below.grown (bal H.out.2.1) hg hszA.out (fun q hq => (World.ownsRow.lt H.out.1 q hq).1), FB.out (.inr (by omega))⟩
          clear hown hg
          go_wp2
          exact ⟨⟨k + 1, _, by omega, by go_num, rfl, HF⟩, by simp [intOf]; omega⟩
      · have hszA : Hid (w.heap.size ≤ (wr.alloc (.cells #[.int .i64 (0)] 3)).heap.size) := Lib.hid (by rw [size_alloc]; exact Nat.le_succ_of_le hsz.out)
        go_wp2_with fail
        refine (bit_any _ _).mono ?_; rintro e w' ⟨rfl, rfl⟩
        go_wp2_with (at_builtin; refine list_app_int (o := ⟨some 32, _, _, _, _, _⟩) rfl (.tmp 26) (.tmp 31) rfl w.heap.size _ (ls l k) rfl (World.ownsRow.alloc H.out.1 _) _ [0] rfl (ri_one _ (0)) hlen.out hszA.out ?_; intro v1 w1 hown hg _)
        have HF : Hid (OwnI w.heap.size w1 v1 (ls l (k + 1)) ∧ Below w.heap.size w w1 ∧ First l (k + 1) z) := Lib.hid ⟨(show ls l k ++ [0] = ls l (k + 1) from NX.out) ▸ hown, Below.grown (bal H.out.2.1) hg hszA.out (fun q hq => (World.ownsRow.lt H.out.1 q hq).1), FB.out (.inl (by first | rfl | trivial))⟩
        clear hown hg
        go_wp2
        exact ⟨⟨k + 1, _, by omega, by go_num, rfl, HF⟩, by simp [intOf]; omega⟩
    · obtain rfl : k = N := by omega
      have RL := Lib.hid H.out.1.ri
      have B1 := Lib.hid H.out.2.1
      have hPL := plain l [x, 0, 0, 0, 0, 0, 0, 0] rfl (by rw [EN.out]; exact i2) z (by rw [EN.out]; exact H.out.2.2)
      rw [EN.out] at hPL
      obtain ⟨s1, p1, p2, p3, p4⟩ := hPL
      have P1 := Lib.hid p1
      have P3 := Lib.hid p3
      have K9 : Hid ((newNv (1 + k) (ls l k)).c + 200 < 4611686018427387904) := Lib.hid (by rw [p2]; decide)
      have E4 := Lib.hid p4
      clear H CE p1 p2 p3 p4 hlt hk
      obtain ⟨M, hM⟩ : ∃ M : Nat, M = 1 + k := ⟨_, rfl⟩
      have k1 : IntKind.i64.wrap (1 + (k : Int)) = (M : Int) := by rw [show 1 + (k : Int) = (M : Int) by omega]; exact IntWalk.i64_in _ (by omega)
      rw [← hM] at P1 E4 K9
      have hM1 : Hid (1 ≤ M ∧ M ≤ 200 ∧ M = 1 + k) := Lib.hid ⟨by omega, by omega, hM⟩
      have HI2 := Lib.hid i2
      clear hM i2
      go_wp2_with fail
      refine (new_yes M _ _ wr hM1.out.1 hM1.out.2.1 RL.out).mono ?_; rintro e w1 ⟨g, rfl, hg, hN, hb⟩
      have G1 : Hid (w.heap.size ≤ g) := Lib.hid (Nat.le_trans B1.out.size hg)
      have N1 := Lib.hid hN
      have B2 := Lib.hid (below_more B1.out hb)
      clear hN hg hb
      go_wp2_with fail
      refine (lnew_yes P1.out N1.out).mono ?_; rintro e w2 ⟨q, rfl, hq, hQ, hb⟩
      have KK : Hid (q ≠ g) := Lib.hid (by have := N1.out.lt; omega)
      have N2 := Lib.hid (N1.out.below hb)
      have Q2 := Lib.hid hQ
      have B3 := Lib.hid (below_more B2.out hb)
      clear hq hQ hb
      rcases E4.out with ⟨rfl, e1, e2, e3⟩ | ⟨gd, rfl, e0, e1, e2, e3⟩
      · have E1 := Lib.hid e1; have E2 := Lib.hid e2; have E3 := Lib.hid e3
        clear e1 e2 e3 E4
        go_wp2_with fail
        refine (lput_is E1.out P1.out rfl KK.out K9.out Q2.out N2.out).mono ?_; rintro e w3 ⟨rfl, hN, hC⟩
        have N3 := Lib.hid hN
        have Q3 := Lib.hid (Q2.out.chg hC (by simpa using KK.out))
        have B4 := Lib.hid (hC.own B3.out G1.out)
        clear hN hC
        go_wp2_with fail
        refine (lget_is E3.out P3.out (by decide) Q3.out N3.out).mono ?_; rintro e w4 ⟨rfl, hb⟩
        obtain ⟨W, hW, H⟩ := boxed1 w4 (a := [0, 0, 0, 0, 0, 0, 0, 0]) rfl
        have N5 := Lib.hid ((N3.out.below hb).below H.out.2)
        have Q5 := Lib.hid ((Q3.out.below hb).below H.out.2)
        have B5 := Lib.hid (below_more (below_more B4.out hb) H.out.2)
        have hst : (lineStore (.pointer (some ⟨w4.heap.size, 0, none⟩)) (.agg (lc zeros))).run Try.prog W = .ok () W := by rw [← hW]; exact store_new w4 zeros zeros rfl rfl
        have ll := H.out.1.load
        clear hb
        go_wp2_with fail
        refine (lleft_is E2.out P3.out Q5.out N5.out).mono ?_; rintro e w5 ⟨rfl, hb⟩
        have B6 := Lib.hid (below_more B5.out hb)
        have l5 := (H.out.1.below hb).load
        clear hb
        go_wp2_with fail
        refine (awake_any _).mono ?_; rintro e w6 ⟨rfl, hb⟩
        have B7 := Lib.hid (below_more B6.out hb)
        go_wp2
        go_ret
        exact ⟨rfl, B7.out⟩
      · have E1 := Lib.hid e1; have E2 := Lib.hid e2; have E3 := Lib.hid e3
        obtain ⟨df, hdf⟩ : ∃ df : Nat, k - gd - 1 = df := ⟨_, rfl⟩
        rw [hdf] at E2
        have k2 : IntKind.i64.wrap ((k : Int) - (gd : Int)) = ((k - gd : Nat) : Int) := by rw [show (k : Int) - (gd : Int) = ((k - gd : Nat) : Int) by omega]; exact IntWalk.i64_in _ (by have := HI2.out; omega)
        have k3 : IntKind.i64.wrap (((k - gd : Nat) : Int) - 1) = (df : Int) := by rw [show ((k - gd : Nat) : Int) - 1 = (df : Int) by omega]; exact IntWalk.i64_in _ (by have := HI2.out; omega)
        clear e0 e1 e2 e3 E4 hdf
        go_wp2_with fail
        refine (lput_is E1.out P1.out rfl KK.out K9.out Q2.out N2.out).mono ?_; rintro e w3 ⟨rfl, hN, hC⟩
        have N3 := Lib.hid hN
        have Q3 := Lib.hid (Q2.out.chg hC (by simpa using KK.out))
        have B4 := Lib.hid (hC.own B3.out G1.out)
        clear hN hC
        go_wp2_with fail
        refine (lget_is E3.out P3.out (by decide) Q3.out N3.out).mono ?_; rintro e w4 ⟨rfl, hb⟩
        obtain ⟨W, hW, H⟩ := boxed1 w4 (a := [x, 0, 0, 0, 0, 0, 0, 0]) rfl
        have N5 := Lib.hid ((N3.out.below hb).below H.out.2)
        have Q5 := Lib.hid ((Q3.out.below hb).below H.out.2)
        have B5 := Lib.hid (below_more (below_more B4.out hb) H.out.2)
        have ll := H.out.1.load
        clear hb
        go_wp2_with fail
        refine (lleft_is E2.out P3.out Q5.out N5.out).mono ?_; rintro e w5 ⟨rfl, hb⟩
        have B6 := Lib.hid (below_more B5.out hb)
        clear hb
        go_wp2_with fail
        refine (awake_any _).mono ?_; rintro e w6 ⟨rfl, hb⟩
        have B7 := Lib.hid (below_more B6.out hb)
        go_wp2
        go_ret
        exact ⟨rfl, B7.out⟩
theorem walk (l : List Bool) (v : Value) (x : Int) (w : World) (h : RBl w v l) (_ : (Lit.int .u64 x).wf = true) :
    Calls Try.prog 7 #[v, .int .u64 x] w fun e w' => e = .returned (.bool true) ∧ Below w.heap.size w w' := by
  by_cases hl : l.length ≤ 16
  · exact main l v x w h hl
  · exact small l v x w h (by omega)

set_option maxRecDepth 100000 in
theorem lifted (os : Os) (started : os.Started) (H : Type) (enc : TypeId × Value → H) :
    ReturnsInHanded {} Try.checked os 7 .any (Rows.linesDeadSpec.pre6 enc Try.prog Try.f7 Rows.linesDeadRow.domain false) (Rows.linesDeadSpec.post enc Try.prog Try.f7 false true false false) := by
  refine returnsInHanded_of_change (C := Try.checked) own started (by kernel_rfl) Try.func7
    (ChangeSpec.witness6 (enc := enc) (C := Try.checked) false ⟨#[], #[.slice none 0 0, .int .u64 0], []⟩ 8 (by kernel_rfl) (by kernel_rfl) (by kernel_rfl) (by kernel_rfl)) ?_
  intro W base args ds gs before hval0 hW hcnd _
  have hval : ∀ (j : Nat) t v, Try.f7.params[j]? = some t → args[j]? = some v → Value.okWide Try.prog W .any base t v := hval0
  have hW' := hW
  have hlt := hW.lt
  obtain ⟨p, q, hA0, hV, hpq, hfz, hnd⟩ := hW
  have hA : DataW.TrodAll enc Try.prog W 0 (fun _ => true) true Try.f7.params.toList args.toList ds p := hA0
  rw [Try.params7] at hA hval
  obtain ⟨v0, vs0, d0, ds0, p0, q0, hargs, rfl, hp, h0, r0⟩ := trodAll_cons hA
  obtain ⟨v1, vs1, d1, ds1, p1, q1, rfl, rfl, rfl, h1, r1⟩ := trodAll_cons r0
  obtain ⟨rfl, rfl, rfl⟩ := trodAll_nil r1
  obtain rfl : args = #[v0, v1] := by cases args; simp_all
  obtain ⟨rfl, rfl⟩ := trodVars_none hV
  have hlt' : ∀ x ∈ before, x.block < W.heap.size := fun x hx => hlt x hx
  obtain ⟨l0, w0⟩ := bools_in (hval 0 49 v0 rfl rfl) h0
  obtain ⟨a1, rfl, rfl, rfl, w1⟩ := open_int Try.underlying25 (hval 1 25 v1 rfl rfl) h1
  refine (walk l0 v0 a1 W w0 w1).mono fun e W' ⟨he, hb⟩ => ?_
  subst he
  exact ⟨_, rfl, law_post rfl (by kernel_rfl) hW' (by rw [Try.params7]; intro t ht; simp only [List.mem_cons, List.not_mem_nil, or_false] at ht; (repeat' (first | (rcases ht with rfl | ht) | subst ht)) <;> exact ⟨by kernel_rfl, of_decide_eq_true (by kernel_rfl)⟩) rfl hb⟩

theorem over : Rows.linesDeadRow.holds Try.pinned (OpenSpec.ofChange Rows.linesDeadSpec) :=
  OpenClaim.holds_of_wide 7 Try.f7 rfl rfl rfl rfl rfl rfl rfl ⟨rfl, rfl, rfl, rfl, rfl⟩ rfl rfl rfl rfl rfl (by kernel_rfl) Try.func7 (by kernel_rfl)
    (of_decide_eq_true (by kernel_rfl)) (by unfold Func.isWrapper; first | (rw [if_pos (by decide +kernel)]; kernel_rfl) | (rw [if_neg (by decide +kernel)]; exact ⟨rfl, rfl⟩))
    (fun os started H enc _ => lifted os started H enc)

theorem proved : Rows.LinesDeadSaid := over
end Go.Proofs.Ytlpmpnhkghbdmaa.linesDead
