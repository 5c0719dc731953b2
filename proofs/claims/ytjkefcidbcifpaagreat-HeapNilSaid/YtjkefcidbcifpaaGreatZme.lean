import Derived.Test.YtjkefcidbcifpaaGreatZmd
set_option maxRecDepth 100000
set_option maxHeartbeats 8000000
namespace Go.Proofs.YtjkefcidbcifpaaGreat
open Go.ChangeShapes Go.WideShapes Go.ChangeAt Go.RowKit
def Op0 (V : World) (b10 : Nat) (a : Ha) (ct : Ct) (sb : Bool) (w' : World) : Prop :=
 ∃ k kg w1 w5, Below V.heap.size V w1 ∧ Below w1.heap.size (w1.setCell ⟨b10, 0, none⟩ (.bool sb)) w5 ∧ Cq w5 k kg ct ∧ w1.heap.size ≤ k ∧ w1.heap.size ≤ kg ∧ w' = w5.setCell ⟨a.z, 7, none⟩ (.pointer (some ⟨k, 0, none⟩))
theorem size_set (w : World) (p : Addr) (u : Value) : (w.setCell p u).heap.size = w.heap.size := by simp [World.setCell]
theorem hopen1_is {V : World} {a : Ha} {s : Nv} {p : Nat} {X : List Int} {r : Nat} {F : Nat → Nat} {b8 b10 b3 : Nat} (h : Hb V a (.pointer none) false s p) (hn : HNum a) (L : LgOk s (16 + a.N) a.P) (hd : s.dark = false) (H : Has s a.N a.P X) (hw : WordsOk X) (hr : s.rg 2 = (r : Int)) (hr2 : r < 4611686018427387904) (hF : ∀ q, q < (a.N + 3) / 4 → s.rg (19 + q) = (F q : Int) ∧ F q < 4611686018427387904)
 (c8 : V.cell? ⟨b8, 0, none⟩ = some (.pointer (some ⟨a.z, 0, none⟩))) (w10 : Whole V b10 4 #[.bool false]) (h3 : Pq V b3 (a.N : Int) (a.P : Int) (a.per : Int) (a.b : Int)) (hne : b10 ≠ b8 ∧ b10 ≠ b3 ∧ b10 ≠ a.z ∧ b10 ≠ a.g ∧ b10 ≠ a.y ∧ b10 ≠ a.q ∧ b10 ≠ a.x ∧ b8 ≠ a.z ∧ b3 ≠ a.z ∧ b8 < V.heap.size) :
 Calls Tryz.prog 76 #[.pointer (some ⟨b8, 0, none⟩), .pointer (some ⟨b10, 0, none⟩), .pointer (some ⟨b3, 0, none⟩)] V fun e w' => e = .returned (.tuple #[]) ∧ Op0 V b10 a (cnew a.b ((a.N + 3) / 4) (byF ((a.N + 3) / 4) fun q => (F q : Int)) ((a.N + 3) / 4)) (soundB X (r : Int)) w' := by
 have C1 := Lib.hid (hsound_is h hn L hd H hw hr hr2)
 obtain ⟨G, hG⟩ : ∃ G, (byF ((a.N + 3) / 4) fun q => (F q : Int)) = G := ⟨_, rfl⟩
 obtain ⟨n, hnn⟩ : ∃ n, (a.N + 3) / 4 = n := ⟨_, rfl⟩
 have hGl : G.length = n := by rw [← hG, byF_length, hnn]
 have C2 := Lib.hid (fun w' (q : Hb w' a (.pointer none) false s p) => hkept_is q hn hd hF)
 rw [hG] at C2 ⊢
 rw [hnn] at ⊢
 have C3 := Lib.hid (fun w' v (q : RI w' v G) => cnew_yes a.b v G w' q hn.b.1 hn.b.2 (by have := hn.N; omega))
 rw [hGl] at C3
 have HH := Lib.hid h
 have HW10 := Lib.hid w10
 have H3 := Lib.hid h3
 have NE := Lib.hid hne
 have hc8w : Hid (∀ w', Below V.heap.size V w' → w'.cell? ⟨b8, 0, none⟩ = some (.pointer (some ⟨a.z, 0, none⟩))) := Lib.hid fun w' hb => (hb.cell (p := ⟨b8, 0, none⟩) hne.2.2.2.2.2.2.2.2.2).trans c8
 clear h hn L hd H hw hr hr2 hF w10 h3 hne hG hnn hGl
 generalize soundB X (r : Int) = sb at *
 generalize hct : cnew a.b n G n = ct at *
 obtain ⟨z, hz⟩ : ∃ z, a.z = z := ⟨_, rfl⟩
 have HZ := Lib.hid hz
 rw [hz] at C1 C2 c8 hc8w
 clear hz
 go_enter Tryz.func76, Tryz.ntmps76
 go_wp2_with fail
 refine (C1.out).mono ?_; rintro e w1 ⟨rfl, b1⟩
 have D1 := Lib.hid b1
 have W10 := Lib.hid ((b1.block _ (Whole.lt HW10.out)).trans HW10.out : Whole w1 b10 4 #[.bool false])
 have f10 := Whole.free W10.out 0
 have c10 : w1.cell? ⟨b10, 0, none⟩ = some (.bool false) := by rw [Whole.at_ W10.out]; rfl
 obtain ⟨V1, hV1⟩ : ∃ V1, w1.setCell ⟨b10, 0, none⟩ (.bool sb) = V1 := ⟨_, rfl⟩
 have CV : Chg [b10] w1 V1 := by rw [← hV1]; exact (Chg.refl _ w1).setCell (p := ⟨b10, 0, none⟩) (.inl (by simp)) _
 have HS : Hid (V1.heap.size = w1.heap.size ∧ w1.setCell ⟨b10, 0, none⟩ (.bool sb) = V1) := Lib.hid ⟨by rw [← hV1, size_set], hV1⟩
 have HB1 : Hid (Hb V1 a (.pointer none) false s p) := Lib.hid ((HH.out.below b1).chg CV (by simpa using fun e => NE.out.2.2.1 e.symm) (by simpa using fun e => NE.out.2.2.2.1 e.symm) (by simpa using fun e => NE.out.2.2.2.2.1 e.symm) (by simpa using fun e => NE.out.2.2.2.2.2.1 e.symm) (by simpa using fun e => NE.out.2.2.2.2.2.2.1 e.symm))
 have h8V1 : V1.cell? ⟨b8, 0, none⟩ = some (.pointer (some ⟨z, 0, none⟩)) := by
  rw [← hV1, World.cell?_setCell_other w1 _ _ _ (by simpa using fun e => NE.out.1 e)]
  exact hc8w.out w1 b1
 have h3V1 : Pq V1 b3 (a.N : Int) (a.P : Int) (a.per : Int) (a.b : Int) := CV.whole (H3.out.below b1) (by simpa using fun e => NE.out.2.1 e.symm)
 have lt8 : b8 < V1.heap.size := by rw [← hV1, size_set]; exact Nat.lt_of_lt_of_le NE.out.2.2.2.2.2.2.2.2.2 b1.size
 have l8 : ∀ w', Chg [z] V1 w' → w'.cell? ⟨b8, 0, none⟩ = some (.pointer (some ⟨z, 0, none⟩)) := fun w' hc => by
  have e := hc.block b8 lt8 (by rw [List.mem_singleton, ← HZ.out]; exact NE.out.2.2.2.2.2.2.2.1)
  rw [World.cell?_of_block (w := V1) e]; exact h8V1
 have l3 : ∀ w', Chg [z] V1 w' → w'.cell? ⟨b3, 3, none⟩ = some (.int .i64 (a.b : Int)) := fun w' hc => by
  rw [Whole.at_ (hc.whole h3V1 (by rw [List.mem_singleton, ← HZ.out]; exact NE.out.2.2.2.2.2.2.2.2.1))]; rfl
 have hbd : Below V1.heap.size V1 V1.drew := (Below.refl _ _).drew
 have HO := Lib.hid hbd
 have C2' := Lib.hid (C2.out V1.drew (HB1.out.below hbd))
 have HZt : Hid (∀ w', Below V1.heap.size V1 w' → w'.frozen? ⟨z, 7, none⟩ = false ∧ w'.cell? ⟨z, 7, none⟩ = some (.pointer none)) := Lib.hid fun w' hb => by
  have := (HB1.out.below hb)
  rw [← HZ.out]
  exact ⟨this.free 7, this.c7⟩
 clear b1 CV hbd h8V1 h3V1 lt8 C2
 generalize (a.b : Int) = ab at *
 go_wp2_with fail
 go_region_held3 (fun w' => Chg [z] V1 w')
  (first | assumption | exact (Chg.refl _ _).drew | exact (Hid.out ‹Hid (Chg [z] V1 _)›).setCell (p := ⟨z, 7, none⟩) (.inl (by simp)) _)
  (first
    | (go_at_call 79; refine (C2'.out).mono ?_; rintro e wz ⟨⟨xv, rfl, ox⟩, hbz⟩
       have OX := Lib.hid ox.ri
       obtain ⟨qx, cx, rfl, _⟩ := ox.ri
       have BZ := Lib.hid (HO.out.trans hbz)
       have CZ := Lib.hid (Chg.of_below (HO.out.trans hbz) [z])
       clear hbz ox)
    | (go_at_call 78; refine (C3.out _ _ OX.out).mono ?_; rintro e wy ⟨k, kg, rfl, q1, q2, q3, hby⟩
       have HX : Hid (Op0 V b10 a ct sb (wy.setCell ⟨z, 7, none⟩ (.pointer (some ⟨k, 0, none⟩)))) := Lib.hid ⟨k, kg, w1, wy, D1.out, by rw [HS.out.2, ← HS.out.1]; exact below_more BZ.out hby, q3, Nat.le_trans (HS.out.1 ▸ BZ.out.size) q1, Nat.le_trans (HS.out.1 ▸ BZ.out.size) q2, by rw [HZ.out]⟩
       obtain ⟨f7, c7⟩ := HZt.out wy (below_more BZ.out hby)
       have CY := Lib.hid (Chg.of_below (below_more BZ.out hby) [z])
       clear hby q1 q2 q3))
 go_wp2
 go_end0
 exact ⟨rfl, HX.out⟩
theorem below_set_h {B : Nat} {w w1 : World} {g i : Nat} {u : Value} (h : Below B w w1) (hg : B ≤ g) : Below B w (w1.setCell ⟨g, i, none⟩ u) := h.setCell (p := ⟨g, i, none⟩) hg u
def IsPtr (w : World) (g : Nat) : Prop := ∃ v, Whole w g 29 #[v]
theorem IsPtr.fresh (w : World) (g : Nat) {v : Value} (e : g = w.heap.size) : IsPtr (w.alloc (.cells #[v] 29)) g := by subst e; exact ⟨v, heap_alloc_new w _⟩
theorem IsPtr.up {w : World} {g : Nat} (h : IsPtr w g) (o : Obj) : IsPtr (w.alloc o) g := h.elim fun v h => ⟨v, h.alloc o⟩
theorem IsPtr.drew {w : World} {g : Nat} (h : IsPtr w g) : IsPtr w.drew g := h
theorem IsPtr.call {w w' : World} {g : Nat} (hb : Below w.heap.size w w') (h : IsPtr w g) : IsPtr w' g := h.elim fun v h => ⟨v, (hb.block g (Whole.lt h)).trans h⟩
def hpStore (p v : Value) : Sem Unit := Instr.storeAt 29 p v
theorem run_hpStore {w : World} {g : Nat} (h : IsPtr w g) (z : Option Addr) : (hpStore (.pointer (some ⟨g, 0, none⟩)) (.pointer z)).run Tryz.prog w = .ok () (w.setCell ⟨g, 0, none⟩ (.pointer z)) := by
 obtain ⟨v, h⟩ := h
 have hc : w.cell? ⟨g, 0, none⟩ = some v := by rw [Whole.at_ h]; rfl
 have hf := Whole.free h 0
 show (Instr.storeAt 29 (.pointer (some ⟨g, 0, none⟩)) (.pointer z)).run Tryz.prog w = _
 simp [go_sem, hc, hf]
@[go_sem ↓] theorem storeAt_hp (p v : Value) : Instr.storeAt 29 p v = hpStore p v := rfl
theorem put_ptr {w : World} {g g' : Nat} {z : Value} (e : g = g') (h : IsPtr w g) : Whole (w.setCell ⟨g', 0, none⟩ z) g 29 #[z] := by
 subst e
 obtain ⟨v, h⟩ := h
 exact h.set_ 0 z
theorem whole_fresh (w : World) (g : Nat) {cs : Array Value} {t : TypeId} (e : g = w.heap.size) : Whole (w.alloc (.cells cs t)) g t cs := by subst e; exact heap_alloc_new w _
theorem whole_past {w : World} {g g' i : Nat} {cs : Array Value} {t : TypeId} {u : Value} (h : Whole w g t cs) (hne : g ≠ g') : Whole (w.setCell ⟨g', i, none⟩ u) g t cs := Whole.other h (p := ⟨g', i, none⟩) hne u
theorem Lg.past {w : World} {x g y q n P per p b : Nat} {s : Nv} {u : Value} (h : Lg w x g y q n P per p s) (hb : b ≠ x ∧ b ≠ g ∧ b ≠ y ∧ b ≠ q) : Lg (w.setCell ⟨b, 0, none⟩ u) x g y q n P per p s :=
 h.chg ((Chg.refl [b] w).setCell (p := ⟨b, 0, none⟩) (.inl (by simp)) u) (by simpa using fun e => hb.1 e.symm) (by simpa using fun e => hb.2.1 e.symm) (by simpa using fun e => hb.2.2.1 e.symm) (by simpa using fun e => hb.2.2.2 e.symm)
theorem Lg.alloc_h {w : World} {x g y q n P per p : Nat} {s : Nv} (h : Lg w x g y q n P per p s) (o : Obj) : Lg (w.alloc o) x g y q n P per p s := h.below (bal (Below.refl _ _))
theorem built_heap (g : Nat) (a b c d : Int) (y x : Nat) : Tryz.prog.built 98 [(0, .pointer (some ⟨g, 0, none⟩)), (1, (Value.agg #[Value.int IntKind.i64 a, Value.int IntKind.i64 b, Value.int IntKind.i64 c, Value.int IntKind.i64 d])), (2, .pointer (some ⟨y, 0, none⟩)), (3, .pointer (some ⟨x, 0, none⟩))] = some #[.pointer (some ⟨g, 0, none⟩), .int .i64 a, .int .i64 b, .int .i64 c, .int .i64 d, .pointer (some ⟨y, 0, none⟩), .pointer (some ⟨x, 0, none⟩), .pointer none, .bool false] := by kernel_rfl
def hpBuild (ps : Array (Nat × Value)) : Sem Value := Instr.build 98 ps
@[go_sem ↓] theorem build_hp (ps : Array (Nat × Value)) : Instr.build 98 ps = hpBuild ps := rfl
@[go_sem] theorem run_hpBuild (w : World) (g : Nat) (a b c d : Int) (y x : Nat) : (hpBuild #[(0, .pointer (some ⟨g, 0, none⟩)), (1, (Value.agg #[Value.int IntKind.i64 a, Value.int IntKind.i64 b, Value.int IntKind.i64 c, Value.int IntKind.i64 d])), (2, .pointer (some ⟨y, 0, none⟩)), (3, .pointer (some ⟨x, 0, none⟩))]).run Tryz.prog w = .ok (.agg #[.pointer (some ⟨g, 0, none⟩), .int .i64 a, .int .i64 b, .int .i64 c, .int .i64 d, .pointer (some ⟨y, 0, none⟩), .pointer (some ⟨x, 0, none⟩), .pointer none, .bool false]) w := run_build w _ _ _ (built_heap g a b c d y x)
theorem op0_err {V w' : World} {a : Ha} {ct : Ct} {sb : Bool} {b10 be : Nat} {t : TypeId} {cs : Array Value} (q : Op0 V b10 a ct sb w') (qe : Whole V be t cs) (h1 : be ≠ b10) (h2 : be ≠ a.z) : Whole w' be t cs := by
 obtain ⟨k, kg, w1, w5, B1, B5, hc, hk, hkg, rfl⟩ := q
 have e1 : Whole w1 be t cs := (B1.block _ (Whole.lt qe)).trans qe
 have e2 : Whole (w1.setCell ⟨b10, 0, none⟩ (.bool sb)) be t cs := Whole.other e1 (p := ⟨b10, 0, none⟩) h1 _
 have e3 : Whole w5 be t cs := (B5.block _ (Whole.lt e1)).trans e2
 exact Whole.other e3 (p := ⟨a.z, 7, none⟩) h2 _
theorem open_end {V w' : World} {a : Ha} {s : Nv} {p : Nat} {ct : Ct} {sb : Bool} {b8 b10 be : Nat} (h : Hb V a (.pointer none) false s p) (q : Op0 V b10 a ct sb w') (w8 : Whole V b8 29 #[.pointer (some ⟨a.z, 0, none⟩)]) (w10 : Whole V b10 4 #[.bool false])
 (n8 : b8 ≠ b10 ∧ b8 ≠ a.z ∧ b8 ≠ be) (n10 : b10 ≠ a.z ∧ b10 ≠ be ∧ b10 ≠ a.g ∧ b10 ≠ a.y ∧ b10 ≠ a.q ∧ b10 ≠ a.x) (ne : be ≠ a.z ∧ be ≠ a.g ∧ be ≠ a.y ∧ be ≠ a.q ∧ be ≠ a.x ∧ be < V.heap.size) :
 ∃ k kg, V.heap.size ≤ k ∧ V.heap.size ≤ kg ∧ Hp (w'.setCell ⟨be, 0, none⟩ (.int .i64 0)) ⟨a.z, a.g, a.y, a.q, a.x, k, kg, a.N, a.P, a.per, a.b⟩ ⟨s, p, ct, false⟩ ∧ (w'.setCell ⟨be, 0, none⟩ (.int .i64 0)).cell? ⟨b8, 0, none⟩ = some (.pointer (some ⟨a.z, 0, none⟩)) ∧ (w'.setCell ⟨be, 0, none⟩ (.int .i64 0)).cell? ⟨b10, 0, none⟩ = some (.bool sb) ∧ Chg [b10, a.z, be] V (w'.setCell ⟨be, 0, none⟩ (.int .i64 0)) := by
 obtain ⟨k, kg, w1, w5, B1, B5, hc, hk, hkg, rfl⟩ := q
 have s1 : w1.heap.size ≤ w5.heap.size := by have := B5.size; rwa [size_set] at this
 have sV := B1.size
 have hz := Whole.lt h.top
 have hg := h.lg.nm.lt
 have hy := Whole.lt h.lg.tq
 have hq := Whole.lt h.lg.lq
 have hx := h.lg.xlt
 have cV1 : Chg [b10] V (w1.setCell ⟨b10, 0, none⟩ (.bool sb)) := (Chg.of_below B1 _).trans ((Chg.refl _ w1).setCell (p := ⟨b10, 0, none⟩) (.inl (by simp)) _)
 have B5' : Below (w1.setCell ⟨b10, 0, none⟩ (.bool sb)).heap.size (w1.setCell ⟨b10, 0, none⟩ (.bool sb)) w5 := by rw [size_set]; exact B5
 have e10a : Whole w1 b10 4 #[.bool false] := (B1.block _ (Whole.lt w10)).trans w10
 have e10 : Whole (w1.setCell ⟨b10, 0, none⟩ (.bool sb)) b10 4 #[.bool sb] := e10a.set_ 0 _
 have e8 : Whole (w1.setCell ⟨b10, 0, none⟩ (.bool sb)) b8 29 #[.pointer (some ⟨a.z, 0, none⟩)] := cV1.whole w8 (by simpa using n8.1)
 have h5 : Hb w5 a (.pointer none) false s p := (h.chg cV1 (by simpa using fun e => n10.1 e.symm) (by simpa using fun e => n10.2.2.1 e.symm) (by simpa using fun e => n10.2.2.2.1 e.symm) (by simpa using fun e => n10.2.2.2.2.1 e.symm) (by simpa using fun e => n10.2.2.2.2.2 e.symm)).below B5'
 have e10' : Whole w5 b10 4 #[.bool sb] := (B5'.block _ (Whole.lt e10)).trans e10
 have e8' : Whole w5 b8 29 #[.pointer (some ⟨a.z, 0, none⟩)] := (B5'.block _ (Whole.lt e8)).trans e8
 have c6 : Chg [a.z, be] w5 ((w5.setCell ⟨a.z, 7, none⟩ (.pointer (some ⟨k, 0, none⟩))).setCell ⟨be, 0, none⟩ (.int .i64 0)) := ((Chg.refl _ w5).setCell (p := ⟨a.z, 7, none⟩) (.inl (by simp)) _).setCell (p := ⟨be, 0, none⟩) (.inl (by simp)) _
 have zz := h.zz
 have t6 : Whole ((w5.setCell ⟨a.z, 7, none⟩ (.pointer (some ⟨k, 0, none⟩))).setCell ⟨be, 0, none⟩ (.int .i64 0)) a.z 98 #[.pointer (some ⟨a.g, 0, none⟩), .int .i64 (a.N : Int), .int .i64 (a.P : Int), .int .i64 (a.per : Int), .int .i64 (a.b : Int), .pointer (some ⟨a.y, 0, none⟩), .pointer (some ⟨a.x, 0, none⟩), .pointer (some ⟨k, 0, none⟩), .bool false] := by
  have := Whole.other (h5.top.set_ 7 (.pointer (some ⟨k, 0, none⟩))) (p := ⟨be, 0, none⟩) (fun e => ne.1 e.symm) (.int .i64 0)
  simpa [htop] using this
 have i8 : b8 ∉ [a.z, be] := by simp; exact ⟨n8.2.1, n8.2.2⟩
 have i10 : b10 ∉ [a.z, be] := by simp; exact ⟨n10.1, n10.2.1⟩
 have m8 := c6.whole e8' i8
 have m10 := c6.whole e10' i10
 refine ⟨k, kg, Nat.le_trans sV hk, Nat.le_trans sV hkg, ⟨⟨?_, ?_, zz⟩, ?_, ?_⟩, ?_, ?_, ?_⟩
 · unfold htop; exact t6
 · refine h5.lg.chg c6 ?_ ?_ ?_ ?_ <;> simp <;> omega
 · refine hc.chg c6 ?_ ?_ <;> simp <;> omega
 · dsimp only; omega
 · exact (Whole.at_ m8 0).trans rfl
 · exact (Whole.at_ m10 0).trans rfl
 · exact ((cV1.mono (by simp)).trans (Chg.of_below B5' _)).trans (c6.mono (by simp))
def OOut (w w' : World) (a0 : Ha) (R : Int × Nat × Nv) (G : List Int) (sb : Bool) (e : Ending) : Prop :=
 Chg [a0.g] w w' ∧ ((R.1 = 0 ∧ sb = true ∧ ∃ z y q x k kg, e = .returned (.tuple #[.pointer (some ⟨z, 0, none⟩), .int .i64 0]) ∧ (w.heap.size ≤ z ∧ w.heap.size ≤ y ∧ w.heap.size ≤ q ∧ w.heap.size ≤ x ∧ w.heap.size ≤ k ∧ w.heap.size ≤ kg) ∧
  Hp w' ⟨z, a0.g, y, q, x, k, kg, a0.N, a0.P, a0.per, a0.b⟩ ⟨R.2.2, R.2.1, cnew a0.b G.length G G.length, false⟩) ∨
  (R.1 = 0 ∧ sb = false ∧ e = .returned (.tuple #[.pointer none, .int .i64 6]) ∧ Nm w' a0.g R.2.2) ∨
  (R.1 ≠ 0 ∧ e = .returned (.tuple #[.pointer none, .int .i64 R.1]) ∧ Nm w' a0.g R.2.2))
structure OIn (a : Ha) (s : Nv) (X : List Int) (r : Nat) (F : Nat → Nat) : Prop where
 num : HNum a
 lg : LgOk s (16 + a.N) a.P
 live : s.dark = false
 has : Has s a.N a.P X
 ok : WordsOk X
 rt : s.rg 2 = (r : Int)
 rlt : r < 4611686018427387904
 rgs : ∀ q, q < (a.N + 3) / 4 → s.rg (19 + q) = (F q : Int) ∧ F q < 4611686018427387904
 m : tm s + 30 < 1099511627776
 c : s.c + 20000 < 4611686018427387904
theorem hopen_is {w : World} {a : Ha} {s : Nv} {X : List Int} {r : Nat} {F : Nat → Nat} {R : Int × Nat × Nv} (h : OIn a s X r F) (hN : Nm w a.g s) (hR : lrec (16 + a.N) a.P a.per 0 s = R) :
 Calls Tryz.prog 33 #[.pointer (some ⟨a.g, 0, none⟩), (Value.agg #[Value.int IntKind.i64 (a.N : Int), Value.int IntKind.i64 (a.P : Int), Value.int IntKind.i64 (a.per : Int), Value.int IntKind.i64 (a.b : Int)])] w fun e w' => OOut w w' a R (byF ((a.N + 3) / 4) fun q => (F q : Int)) (soundB X (r : Int)) e := by
 have hmf : ∀ (fn : Fn) (first cap : Array Value) (w : World), (Instr.makeFunc fn first cap).run Tryz.prog w = .ok (.func fn first cap) w := fun _ _ _ _ => rfl
 obtain ⟨W, hW, H⟩ := plan_boxed w (a.N : Int) (a.P : Int) (a.per : Int) (a.b : Int)
 have hn := h.num
 have hnN := hn.N
 have hnP := hn.P
 have hsn : (s.n : Int) = dvM (a.N : Int) (a.P : Int) := by have := h.lg.g.nn; unfold dvM; omega
 have PQ := Lib.hid H.out.1
 have HB := Lib.hid H.out.2
 have C1 := Lib.hid (fun w' (hb : Below W.heap.size W w') => hready_up (hn.may.may) ((hN.below H.out.2).below hb) hsn h.live)
 have C3 := Lib.hid (fun w' (hb : Below W.heap.size W w') => hlines_is hn ((hN.below H.out.2).below hb) (h.lg.g.tok h.live) (by have := h.m; omega))
 have HN0 := Lib.hid (hN.below H.out.2)
 have HNn := Lib.hid (And.intro hnN (And.intro hnP hn.per))
 have HGW : Hid (a.g < w.heap.size) := Lib.hid hN.lt
 have HCL := Lib.hid (fun w' (hb : Below W.heap.size W w') => (PQ.out.below hb).load)
 have HH := Lib.hid h
 have HRR := Lib.hid hR
 have HLW : Hid (W.heap.size = w.heap.size + 1) := Lib.hid (by rw [← hW, size_alloc])
 have hr2 := lrec_out a.per 0 h.lg h.live (by have := h.m; omega)
 have hrh := fun k (hk : 19 ≤ k) => lrec_rgh (16 + a.N) a.P a.per 0 s (k := k) hk hnP
 rw [hR] at hr2 hrh
 have HR2 := Lib.hid (And.intro hr2 hrh)
 have l0 := HCL.out W (Below.refl _ _)
 clear h hN hn hnN hnP hsn H hR hr2 hrh
 obtain ⟨g, hg⟩ : ∃ g, a.g = g := ⟨_, rfl⟩
 have HG := Lib.hid hg
 rw [hg] at C1 C3 HN0 HGW ⊢
 clear hg
 generalize hNN : (a.N : Int) = iN at *
 generalize hPP : (a.P : Int) = iP at *
 generalize hpp : (a.per : Int) = ip at *
 generalize hbb : (a.b : Int) = ib at *
 have HNB := Lib.hid (And.intro hNN (And.intro hPP (And.intro hpp hbb)))
 clear hNN hPP hpp hbb
 go_enter Tryz.func33, Tryz.ntmps33
 go_wp2_with fail
 refine (C1.out _ (Below.refl _ _)).mono ?_; rintro e w1 ⟨rfl, b1⟩
 have D1 := Lib.hid b1
 clear b1 l0
 have l1 := HCL.out _ D1.out
 go_wp2_with fail
 refine (C3.out _ D1.out).mono ?_; rintro e w2 ⟨y, q, rfl, hy, hq, hyq, hQ, hT, b2⟩
 have D2 := Lib.hid (below_more D1.out b2)
 have TQ := Lib.hid (And.intro hQ hT)
 have NE := Lib.hid (And.intro hyq (And.intro (Nat.le_trans D1.out.size hy) (Nat.le_trans D1.out.size hq)))
 clear b2 hy hq hyq hQ hT l1 C1 C3
 have HLT : Hid (y < w2.heap.size ∧ q < w2.heap.size ∧ g < w2.heap.size) := Lib.hid ⟨Whole.lt TQ.out.2, Whole.lt TQ.out.1, Nat.lt_of_lt_of_le HGW.out (Nat.le_trans HB.out.size D2.out.size)⟩
 have lp : ∀ w', Kept (Below w2.heap.size w2 w') → (planLoad (.pointer (some ⟨w.heap.size, 0, none⟩))).run Tryz.prog w' = .ok (Value.agg #[Value.int IntKind.i64 iN, Value.int IntKind.i64 iP, Value.int IntKind.i64 ip, Value.int IntKind.i64 ib]) w' := fun w' hb => HCL.out w' (below_more D2.out hb.out)
 have NC := Lib.hid (fun w' (hb : Kept (Below w2.heap.size w2 w')) => lg_new (TQ.out.2.below hb.out) (TQ.out.1.below hb.out) ((HN0.out.below D2.out).below hb.out) (by have := NE.out; have := HGW.out; have := HB.out.size; omega) (by have := NE.out; have := HGW.out; have := HB.out.size; omega) NE.out.1 (by have := HNn.out; omega))
 go_upto_region 7 with fail
 go_cut [8] from 23 to 30 (fun v8 wx => ∃ g' z' x' : Nat, v8 = .pointer (some ⟨g', 0, none⟩) ∧ Hid (Whole wx g' 29 #[.pointer (some ⟨z', 0, none⟩)] ∧ Whole wx z' 98 #[.pointer (some ⟨g, 0, none⟩), .int .i64 iN, .int .i64 iP, .int .i64 ip, .int .i64 ib, .pointer (some ⟨y, 0, none⟩), .pointer (some ⟨x', 0, none⟩), .pointer none, .bool false] ∧ Lg wx x' g y q (16 + a.N) a.P a.per 0 s ∧ Below w2.heap.size w2 wx ∧ w2.heap.size ≤ g' ∧ w2.heap.size ≤ z' ∧ w2.heap.size ≤ x' ∧ g' ≠ z' ∧ z' ≠ x' ∧ g' ≠ x'))
 case first =>
  go_region_held3 (fun w' => Kept (Below w2.heap.size w2 w'))
   (((refine ⟨?_⟩); (repeat' (with_reducible (first | exact Below.refl _ _ | refine Below.drew ?_ | refine below_more ?_ (by assumption) | refine bal ?_ | refine below_set_h ?_ ?_ | (simp only [Hid, size_alloc, size_drew] at *; omega))))))
   (first
     | (go_at_call 74; refine (NC.out _ (by first | assumption | ((refine ⟨?_⟩); (repeat' (with_reducible (first | exact Below.refl _ _ | refine Below.drew ?_ | refine below_more ?_ (by assumption) | refine bal ?_)))))).mono ?_; rintro e wq ⟨x', rfl, hx', hLx, hbq⟩; have zq := Lib.hid (And.intro hbq.size (And.intro hx' hLx.xlt)); clear hx')
     | (rw [run_hpStore (by (repeat' (first
         | ((with_reducible refine IsPtr.fresh _ _ ?_); (focus (first | (with_reducible rfl) | (simp only [size_alloc]; done))))
         | (with_reducible refine IsPtr.up ?_ _) | (with_reducible refine IsPtr.drew ?_) | (with_reducible refine IsPtr.call (by assumption) ?_))))]))
  all_goals (go_wp2_with fail; go_meet)
  all_goals
   apply Exists.intro
   apply Exists.intro
   apply Exists.intro
   refine ⟨rfl, Lib.hid ⟨?_, ?_, ?_, Kept.out ‹Kept (Below w2.heap.size w2 _)›, ?_, ?_, ?_, ?_, ?_, ?_⟩⟩
  all_goals (repeat' (first
   | (with_reducible refine put_ptr rfl ?_)
   | ((with_reducible refine IsPtr.fresh _ _ ?_); (focus (first | (with_reducible rfl) | (simp only [size_alloc]; done))))
   | (with_reducible refine IsPtr.up ?_ _) | (with_reducible refine IsPtr.drew ?_) | (with_reducible refine IsPtr.call (by assumption) ?_)
   | (with_reducible refine whole_past ?_ (by simp only [Hid, size_alloc, size_drew] at *; omega))
   | ((with_reducible refine whole_fresh _ _ ?_); (focus (first | (with_reducible rfl) | (simp only [size_alloc]; done))))
   | (with_reducible refine Whole.alloc ?_ _)
   | (with_reducible refine Lg.past ?_ (by simp only [Hid, size_alloc, size_drew] at *; omega))
   | (with_reducible refine Lg.alloc_h ?_ _)
   | assumption
   | (simp only [Hid, size_alloc, size_drew] at *; omega)))
 case rest =>
  obtain ⟨g', z', x', rfl, HX⟩ := hcut
  obtain ⟨t8, tz, hLx, BX, k1, k2, k3, k4, k5, k6⟩ := HX.out
  obtain ⟨f1, f2, f3, f4⟩ := HNB.out
  have zne : z' ≠ g ∧ z' ≠ y ∧ z' ≠ q ∧ z' ≠ x' := by have := HLT.out; omega
  have HB0 : Hb wc ⟨z', g, y, q, x', 0, 0, a.N, a.P, a.per, a.b⟩ (.pointer none) false s 0 := ⟨by unfold htop; dsimp only; rw [f1, f2, f3, f4]; exact tz, hLx, zne⟩
  have c8 : wc.cell? ⟨g', 0, none⟩ = some (.pointer (some ⟨z', 0, none⟩)) := by rw [Whole.at_ t8]; rfl
  have c6 : wc.cell? ⟨z', 6, none⟩ = some (.pointer (some ⟨x', 0, none⟩)) := HB0.c6
  have RC := Lib.hid (rcv_is HRR.out hLx HH.out.lg HH.out.live ⟨by have := HNn.out; omega, by omega, by have := HH.out.m; omega, HH.out.c, by have := HNn.out; omega⟩)
  have DX := Lib.hid (below_more HB.out (below_more D2.out BX))
  have SX := Lib.hid BX.size
  have PQx : Hid (Pq wc w.heap.size iN iP ip ib) := Lib.hid ((PQ.out.below D2.out).below BX)
  -- behind the recovery
  have HREC : Hid (∀ w4, Lg w4 x' g y q (16 + a.N) a.P a.per R.2.1 R.2.2 → Chg [g, y] wc w4 → Chg [g] w w4 ∧ Hb w4 ⟨z', g, y, q, x', 0, 0, a.N, a.P, a.per, a.b⟩ (.pointer none) false R.2.2 R.2.1 ∧ Whole w4 g' 29 #[.pointer (some ⟨z', 0, none⟩)] ∧ Pq w4 w.heap.size iN iP ip ib ∧ wc.heap.size ≤ w4.heap.size) := Lib.hid fun w4 q1 q2 => by
   have n1 := NE.out
   have n2 := HLT.out
   have n3 := HLW.out
   have n4 := HGW.out
   exact ⟨chg_less DX.out q2 (by omega), ⟨q2.whole HB0.top (by simp; omega), q1, zne⟩, q2.whole t8 (by simp; omega), q2.whole PQx.out (by simp; omega), q2.size⟩
  have K1 := Lib.hid (And.intro k1 (And.intro k2 (And.intro k3 (And.intro k4 (And.intro k5 (And.intro k6 zne))))))
  clear t8 tz hLx BX k1 k2 k3 k4 k5 k6 zne HB0 lp NC TQ HN0 HCL HX PQ
  go_wp2_with fail
  refine (RC.out).mono ?_; rintro e w4 ⟨rfl, q1, q2⟩
  have H4 := Lib.hid (HREC.out w4 q1 q2)
  have N4 := Lib.hid q1.nm
  clear q1 q2 c8 c6 RC HREC
  by_cases h0 : R.1 = 0
  · rw [h0]
    obtain ⟨G1, G2, G3, G4, G5⟩ := H4.out
    obtain ⟨⟨SM, _, SV, SD⟩, SR⟩ := HR2.out
    have hd0 : R.2.2.dark = false := by
     rcases SD with ⟨_, q⟩ | ⟨q, _⟩
     · exact q
     · omega
    obtain ⟨W3, hW3⟩ : ∃ W3, w4.alloc (.cells #[.bool false] 4) = W3 := ⟨_, rfl⟩
    obtain ⟨V, hV⟩ : ∃ V, W3.alloc (.cells #[.int .i64 0] 45) = V := ⟨_, rfl⟩
    have s3 : W3.heap.size = w4.heap.size + 1 := by rw [← hW3, size_alloc]
    have sV : V.heap.size = w4.heap.size + 2 := by rw [← hV, size_alloc, s3]
    have B3 : Below w4.heap.size w4 W3 := by rw [← hW3]; exact bal (Below.refl _ _)
    have BV : Below W3.heap.size W3 V := by rw [← hV]; exact bal (Below.refl _ _)
    have HBV : Below w4.heap.size w4 V := below_more B3 BV
    have q10 : Whole W3 w4.heap.size 4 #[.bool false] := by rw [← hW3]; exact heap_alloc_new w4 _
    have q10V : Whole V w4.heap.size 4 #[.bool false] := (BV.block _ (Whole.lt q10)).trans q10
    have qe : Whole V (w4.heap.size + 1) 45 #[.int .i64 0] := by rw [← s3, ← hV]; exact heap_alloc_new W3 _
    have q8V : Whole V g' 29 #[.pointer (some ⟨z', 0, none⟩)] := (HBV.block _ (Whole.lt G3)).trans G3
    have cz3 : W3.cell? ⟨g', 0, none⟩ = some (.pointer (some ⟨z', 0, none⟩)) := by
     have : Whole W3 g' 29 #[.pointer (some ⟨z', 0, none⟩)] := (B3.block _ (Whole.lt G3)).trans G3
     rw [Whole.at_ this]; rfl
    have l8 := Whole.lt G3
    have lz := Whole.lt G2.top
    have lg := G2.lg.nm.lt
    have ly := Whole.lt G2.lg.tq
    have lq := Whole.lt G2.lg.lq
    have lx := G2.lg.xlt
    have l3 := Whole.lt G4
    dsimp only at lz lg ly lq lx
    have kk := K1.out
    obtain ⟨f1, f2, f3, f4⟩ := HNB.out
    have G4V : Pq V w.heap.size (a.N : Int) (a.P : Int) (a.per : Int) (a.b : Int) := by rw [f1, f2, f3, f4]; exact G4.below HBV
    have OC := hopen1_is (r := r) (F := F) (b8 := g') (b10 := w4.heap.size) (b3 := w.heap.size) (G2.below HBV) ⟨HH.out.num.N, HH.out.num.P, HH.out.num.per, HH.out.num.b⟩ SM.lg hd0 (HH.out.has.same fun b _ hb => SV b (by omega)) HH.out.ok (SM.r2.trans HH.out.rt) HH.out.rlt (fun q hq => by have := HH.out.rgs q hq; exact ⟨(SR (19 + q) (by omega)).trans this.1, this.2⟩) (by rw [Whole.at_ q8V]; rfl) q10V G4V (by
     have := HLW.out
     have := D2.out.size
     dsimp only
     omega)
    generalize hct : cnew a.b ((a.N + 3) / 4) (byF ((a.N + 3) / 4) fun q => (F q : Int)) ((a.N + 3) / 4) = ct at *
    have HPW := Lib.hid (powered_is 76 #[.pointer (some ⟨g', 0, none⟩), .pointer (some ⟨w4.heap.size, 0, none⟩), .pointer (some ⟨w.heap.size, 0, none⟩)] W3 (Op0 V w4.heap.size ⟨z', g, y, q, x', 0, 0, a.N, a.P, a.per, a.b⟩ ct (soundB X (r : Int))) (fun _ => False) (fun _ => rfl) (by
     rw [hV]
     refine OC.mono ?_
     rintro e w' ⟨he, hq⟩
     have e2 := op0_err hq qe (by omega) (by dsimp only; omega)
     refine ⟨?_, .inl ⟨he, hq⟩⟩
     unfold OkErr
     rw [s3]
     exact ⟨(Whole.at_ e2 0).trans rfl, Whole.free e2 0⟩))
    have HF := Lib.hid (fun w' (hq : Op0 V w4.heap.size ⟨z', g, y, q, x', 0, 0, a.N, a.P, a.per, a.b⟩ ct (soundB X (r : Int)) w') => open_end (be := w4.heap.size + 1) (G2.below HBV) hq q8V q10V (by dsimp only; omega) (by dsimp only; omega) (by dsimp only; omega))
    have HO := Lib.hid (fun w' (hq : Op0 V w4.heap.size ⟨z', g, y, q, x', 0, 0, a.N, a.P, a.per, a.b⟩ ct (soundB X (r : Int)) w') => (show
     (w'.setCell ⟨W3.heap.size, 0, none⟩ (.int .i64 0)).cell? ⟨g', 0, none⟩ = some (.pointer (some ⟨z', 0, none⟩)) ∧ (w'.setCell ⟨W3.heap.size, 0, none⟩ (.int .i64 0)).cell? ⟨w4.heap.size, 0, none⟩ = some (.bool (soundB X (r : Int))) ∧
     OOut w (w'.setCell ⟨W3.heap.size, 0, none⟩ (.int .i64 0)) a R (byF ((a.N + 3) / 4) fun q => (F q : Int)) (soundB X (r : Int)) (.returned (.tuple #[if soundB X (r : Int) then .pointer (some ⟨z', 0, none⟩) else .pointer none, .int .i64 (if soundB X (r : Int) then 0 else 6)])) from by
     obtain ⟨k, kg, m1, m2, m3, m4, m5, m6⟩ := HF.out w' hq
     rw [s3]
     have hw := HLW.out
     have hd2 := D2.out.size
     have hb := HB.out.size
     have hsx := DX.out.size
     have hne := NE.out
     have hsx2 := SX.out
     refine ⟨m4, m5, ?_, ?_⟩
     · rw [HG.out]
       have c := (G1.trans (Chg.of_below HBV [g]))
       refine ⟨m6.os.trans c.os, m6.tape.trans c.tape, m6.output.trans c.output, Nat.le_trans c.size m6.size, fun j hj hD => (m6.block j (Nat.lt_of_lt_of_le hj c.size) (by simp; omega)).trans (c.block j hj hD)⟩
     · have hl : (byF ((a.N + 3) / 4) fun q => (F q : Int)).length = (a.N + 3) / 4 := byF_length _ _
       cases hsb : soundB X (r : Int) with
       | true =>
         refine .inl ⟨h0, rfl, z', y, q, x', k, kg, rfl, by omega, ?_⟩
         rw [hl, HG.out, hct]
         exact m3
       | false => exact .inr (.inl ⟨h0, rfl, rfl, by rw [HG.out]; exact m3.hb.lg.nm⟩)))
    have hb8 := HF
    have c10a : W3.cell? ⟨w4.heap.size, 0, none⟩ = some (.bool false) := (Whole.at_ q10 0).trans rfl
    have f10a : W3.frozen? ⟨w4.heap.size, 0, none⟩ = false := Whole.free q10 0
    have hst : W3.setCell ⟨w4.heap.size, 0, none⟩ (.bool false) = W3 := by rw [← hW3]; simp [go_sem]
    clear G1 G2 G3 G4 G5 SM SV SD SR B3 BV HBV q10 q10V qe q8V l8 lz lg ly lq lx l3 kk f1 f2 f3 f4 G4V OC HF hb8 sV hV hct h0 hd0 H4 N4
    obtain ⟨sb, hsb⟩ : ∃ sb, soundB X (r : Int) = sb := ⟨_, rfl⟩
    rw [hsb] at HO HPW
    have HSB := Lib.hid hsb
    clear hsb
    go_wp2_with fail
    refine (HPW.out).mono ?_; rintro e w5 (⟨rfl, w6, hq, rfl⟩ | ⟨_, w6, hq, _⟩)
    · obtain ⟨c8, c10, hO⟩ := HO.out w6 hq
      have HO2 := Lib.hid hO
      clear hq hO HO HPW cz3
      generalize w6.setCell ⟨W3.heap.size, 0, none⟩ (.int .i64 0) = w7 at *
      cases sb with
      | true =>
        go_wp2_with fail
        go_ret2
        rw [HSB.out]
        exact HO2.out
      | false =>
        go_wp2_with fail
        go_ret2
        rw [HSB.out]
        exact HO2.out
    · exact hq.elim
  · have i4 : (R.1 == 0) = false := beq_eq_false_iff_ne.2 h0
    have i5 : (R.1 != 0) = true := by simpa using h0
    have HO : Hid (OOut w w4 a R (byF ((a.N + 3) / 4) fun q => (F q : Int)) (soundB X (r : Int)) (.returned (.tuple #[.pointer none, .int .i64 R.1]))) := Lib.hid ⟨by rw [HG.out]; exact H4.out.1, .inr (.inr ⟨h0, rfl, by rw [HG.out]; exact N4.out⟩)⟩
    clear h0 H4 N4
    generalize R.1 = R1 at *
    go_wp2_with fail
    go_ret2
    exact HO.out
theorem br_nat {v : Nat} (h : v ≤ 1099511627776) : br (v : Int) = v := by
 unfold br
 split
 · omega
 · split <;> omega
theorem cnew_c {b n : Nat} {l : List Int} {F : Nat → Nat} (hl : l = byF n fun q => (F q : Int)) (hF : ∀ q, q < n → F q ≤ 1099511627776) : ∀ q, q < n → (cnew b n l n).c q = F q ∧ (cnew b n l n).k q = F q := fun q hq => by
 have e : br (l.getD q 0) = F q := by
  rw [hl, byF_getD _ hq]
  exact br_nat (hF q hq)
 unfold cnew
 dsimp only
 rw [if_pos hq]
 exact ⟨e, e⟩
theorem rec_out {s : Nv} {N P per K : Nat} {X : List Int} {r : Nat} {R : Int × Nat × Nv} (h : HC s N P K X r) (hP : P ≤ 16) (hK : K < 1000) (hd : s.dark = false) (hR : lrec (16 + N) P per 0 s = R) :
 HC R.2.2 N P (K + 1) X r ∧ R.2.1 ≤ 14 ∧ R.2.2.la = s.la ∧ R.2.2.comes = s.comes ∧ R.2.2.n = s.n ∧ (∀ q, R.2.2.rg (19 + q) = s.rg (19 + q)) ∧ (lk s = 0 → R = (0, 0, s)) ∧ (Free s → R.1 = 0 ∧ Free R.2.2 ∧ lk R.2.2 = 0) ∧ ((R.1 = 0 ∧ R.2.2.dark = false) ∨ (R.1 = 2 ∧ s.comes = true)) := by
 have hm := h.m
 have hc := h.c
 obtain ⟨S, hp, hv, ho⟩ := lrec_out per 0 h.lg hd (by omega)
 have hr := fun k (hk : 19 ≤ k) => lrec_rgh (16 + N) P per 0 s (k := k) hk hP
 have h0 : lk s = 0 → lrec (16 + N) P per 0 s = (0, 0, s) := fun q => by rw [lrec, if_pos q]
 have hf : Free s → (lrec (16 + N) P per 0 s).1 = 0 ∧ Free (lrec (16 + N) P per 0 s).2.2 ∧ lk (lrec (16 + N) P per 0 s).2.2 = 0 := fun F => by
  by_cases q : lk s = 0
  · rw [h0 q]; exact ⟨rfl, F, q⟩
  · rw [lrec, if_neg q]
    exact lfin_go per 0 h.lg.g (by rcases h.lg.fo with e | e; exact absurd e q; exact e) (com_wide h.lg.g.ok _ _) h.lg.n17 F (by omega)
 rw [hR] at S hp hv ho hr h0 hf
 have sh := S.hi
 have sc := S.c
 refine ⟨⟨S.lg, h.has.same fun b _ hb => hv b (by omega), h.ok, h.snd, S.r2.trans h.rt, h.rlt, fun q hq => ?_, by omega, by omega, by omega⟩, by omega, S.la, S.comes, S.lg.g.nn.trans h.lg.g.nn.symm, fun q => hr _ (by omega), h0, hf, ho⟩
 obtain ⟨v, e1, e2⟩ := h.rgs q hq
 exact ⟨v, (hr (19 + q) (by omega)).trans e1, by omega⟩
def ROut (w w' : World) (a0 : Ha) (s : Nv) (K : Nat) (X : List Int) (r : Nat) (e : Ending) : Prop :=
 Chg [a0.g] w w' ∧
 ((∃ a S, e = .returned (.tuple #[.pointer (some ⟨a.z, 0, none⟩), .int .i64 0]) ∧ (a.g = a0.g ∧ a.N = a0.N ∧ a.P = a0.P ∧ a.per = a0.per ∧ a.b = a0.b) ∧ (w.heap.size ≤ a.z ∧ w.heap.size ≤ a.y ∧ w.heap.size ≤ a.q ∧ w.heap.size ≤ a.x ∧ w.heap.size ≤ a.k ∧ w.heap.size ≤ a.kg) ∧
    Hp w' a S ∧ HI a S (K + 1) X r ∧ S.wf = false ∧ S.s.la = s.la ∧ S.s.comes = s.comes ∧ S.s.n = s.n ∧ (lk s = 0 → S.s = s) ∧ (Free s → Free S.s ∧ lk S.s = 0) ∧ (∀ q, q < (a0.N + 3) / 4 → s.rg (19 + q) = (S.ct.c q : Int))) ∨
  (e = .returned (.tuple #[.pointer none, .int .i64 2]) ∧ s.comes = true ∧ ∃ s', Nm w' a0.g s' ∧ HC s' a0.N a0.P (K + 1) X r ∧ s'.la = s.la ∧ s'.comes = s.comes ∧ s'.n = s.n))
theorem hopen_hc {w : World} {a : Ha} {s : Nv} {K : Nat} {X : List Int} {r : Nat} (hn : HNum a) (h : HC s a.N a.P K X r) (hK : K < 1000) (hd : s.dark = false) (hN : Nm w a.g s) :
 Calls Tryz.prog 33 #[.pointer (some ⟨a.g, 0, none⟩), (Value.agg #[Value.int IntKind.i64 (a.N : Int), Value.int IntKind.i64 (a.P : Int), Value.int IntKind.i64 (a.per : Int), Value.int IntKind.i64 (a.b : Int)])] w fun e w' => ROut w w' a s K X r e := by
 have hnN := hn.N
 have hq16 : ∀ q, q < (a.N + 3) / 4 → q < 16 := fun q hq => by omega
 have hF : ∀ q, q < (a.N + 3) / 4 → s.rg (19 + q) = (((s.rg (19 + q)).toNat : Nat) : Int) ∧ (s.rg (19 + q)).toNat ≤ 14 * K := fun q hq => by
  obtain ⟨v, e1, e2⟩ := h.rgs q (hq16 q hq)
  rw [e1]
  omega
 have hm := h.m
 have hc := h.c
 have hrl := h.rlt
 have hIn : OIn a s X r (fun q => (s.rg (19 + q)).toNat) := ⟨hn, h.lg, hd, h.has, h.ok, h.rt, by omega, fun q hq => by have := hF q hq; exact ⟨this.1, by omega⟩, by omega, by omega⟩
 refine (hopen_is hIn hN rfl).mono ?_
 rintro e w' ⟨c1, o⟩
 obtain ⟨g1, g2, g3, g4, g5, g6, g7, g8, g9⟩ := rec_out (per := a.per) h hn.P hK hd rfl
 have hwl : (lrec (16 + a.N) a.P a.per 0 s).1 = 0 → lk (lrec (16 + a.N) a.P a.per 0 s).2.2 ≠ 0 → leftT ((lrec (16 + a.N) a.P a.per 0 s).2.2.tb a.P) = 0 := lrec_left
 generalize lrec (16 + a.N) a.P a.per 0 s = R at *
 have hs : soundB X (r : Int) = true := h.snd
 refine ⟨c1, ?_⟩
 rcases o with ⟨e0, _, z, y, qq, x, k, kg, he, hnew, hp⟩ | ⟨_, e1, _⟩ | ⟨e0, he, hN'⟩
 · have hd' : R.2.2.dark = false := by
    rcases g9 with ⟨_, q⟩ | ⟨q, _⟩
    · exact q
    · omega
   obtain ⟨G, hG⟩ : ∃ G, (byF ((a.N + 3) / 4) fun q => (((s.rg (19 + q)).toNat : Nat) : Int)) = G := ⟨_, rfl⟩
   have hl : G.length = (a.N + 3) / 4 := by rw [← hG, byF_length]
   rw [hG, hl] at hp
   have hcc := cnew_c (b := a.b) hG.symm (fun q hq => by have := (hF q hq).2; omega)
   have hok := cnew_ok hn.b.1 hn.b.2 (l := G) (by omega) G.length
   rw [hl] at hok
   refine .inl ⟨⟨z, a.g, y, qq, x, k, kg, a.N, a.P, a.per, a.b⟩, ⟨R.2.2, R.2.1, cnew a.b ((a.N + 3) / 4) G ((a.N + 3) / 4), false⟩, he, ⟨rfl, rfl, rfl, rfl, rfl⟩, hnew, hp, ⟨g1, hd', ⟨hn.N, hn.P, hn.per, hn.b⟩, hok, rfl, rfl, fun q (hq : q < (a.N + 3) / 4) => ?_, fun q (hq : q < (a.N + 3) / 4) => ?_, by dsimp only; omega, fun q => hwl e0 (q.resolve_left fun k => by cases k)⟩, rfl, g3, g4, g5, fun q => (by rw [g7 q] : R.2.2 = s), fun F => (g8 F).2, fun q hq => ?_⟩
   · show R.2.2.rg (19 + q) = _
     rw [g6 q, (hcc q hq).2]
     exact (hF q hq).1
   · show (cnew a.b ((a.N + 3) / 4) G ((a.N + 3) / 4)).c q ≤ 14 * (K + 1)
     rw [(hcc q hq).1]
     have := (hF q hq).2
     omega
   · show s.rg (19 + q) = (((cnew a.b ((a.N + 3) / 4) G ((a.N + 3) / 4)).c q : Nat) : Int)
     rw [(hcc q hq).1]
     exact (hF q hq).1
 · rw [hs] at e1; cases e1
 · rcases g9 with ⟨q, _⟩ | ⟨q, co⟩
   · exact absurd q e0
   · exact .inr ⟨by rw [he, q], co, R.2.2, hN', g1, g3, g4, g5⟩
theorem HC.more {s : Nv} {N P K J : Nat} {X : List Int} {r : Nat} (h : HC s N P K X r) (hJ : K ≤ J) (h2 : J ≤ 1000) : HC s N P J X r :=
 ⟨h.lg, h.has, h.ok, h.snd, h.rt, h.rlt, fun q hq => by obtain ⟨v, e1, e2⟩ := h.rgs q hq; exact ⟨v, e1, by omega⟩, by have := h.m; omega, by have := h.c; omega, h2⟩
theorem HI.more {a : Ha} {S : Hs} {K J : Nat} {X : List Int} {r : Nat} (h : HI a S K X r) (hJ : K ≤ J) (h2 : J ≤ 1000) : HI a S J X r :=
 ⟨h.hc.more hJ h2, h.live, h.num, h.ct, h.cn, h.cb, h.kp, fun q hq => by have := h.cm q hq; omega, by have := h.p; omega, h.wl⟩
theorem fst_hc {s0 s : Nv} {a : Ha} {p : Nat} (hn : HNum a) (h : Fst s0 s a.N a.P p a.N (firstL (8 * a.N : Nat))) : HC s a.N a.P 2 (firstL (8 * a.N : Nat)) 0 ∧ lk s = 0 := by
 have hnN := hn.N
 obtain ⟨f1, f2, f3⟩ := first_blk (mw_of hn)
 have hk : lk s = 0 := lk_of h.r1
 have hm := h.m
 have hc := h.c
 refine ⟨⟨⟨h.g, by omega, by rw [hk]; exact h.r1, .inl hk⟩, ⟨f2, fun i hi => ?_⟩, f3, sound_of f1 (.inl rfl), h.r2, by omega, fun q _ => ⟨0, h.rgs _ (by omega), by omega⟩, by omega, by omega, by omega⟩, hk⟩
 rw [view_none hk, h.at_ i hi, if_pos hi]

theorem plan_rest {X : List Int} {r : Nat} {cs : List Int} {d o n : Int} {bl : List Int} {pl : Aim} (h : PlanOf X r cs d o n bl pl) (hc : pl.ch = true → pl.e ≠ 0) : pl.X = X ∧ pl.r = r ∧ pl.L = [] := by
 unfold PlanOf at h
 by_cases c1 : d = 1
 · rw [if_pos c1] at h
   subst h
   unfold plA plNo at *
   split
   · exact ⟨rfl, rfl, rfl⟩
   · rename_i q
     rw [if_neg q] at hc
     split
     · rename_i q2
       rw [if_pos q2] at hc
       exact absurd rfl (hc rfl)
     · exact ⟨rfl, rfl, rfl⟩
 rw [if_neg c1] at h
 by_cases c2 : d = 2
 · rw [if_pos c2] at h
   subst h
   unfold plF plNo at *
   split
   · exact ⟨rfl, rfl, rfl⟩
   · rename_i q
     rw [if_neg q] at hc
     split
     · exact ⟨rfl, rfl, rfl⟩
     · rename_i q2
       rw [if_neg q2] at hc
       exact absurd rfl (hc rfl)
 rw [if_neg c2] at h
 by_cases c3 : d = 3
 · rw [if_pos c3] at h
   subst h
   exact ⟨rfl, rfl, rfl⟩
 rw [if_neg c3] at h
 by_cases c4 : d = 4
 · rw [if_pos c4] at h
   obtain ⟨M, _, rfl⟩ := h
   unfold plW plNo at *
   split
   · exact ⟨rfl, rfl, rfl⟩
   · rename_i q
     rw [if_neg q] at hc
     exact absurd rfl (hc rfl)
 rw [if_neg c4] at h
 by_cases c5 : d = 5
 · rw [if_pos c5] at h
   subst h
   unfold plR plNo at *
   split
   · rename_i q
     rw [if_pos q] at hc
     exact absurd rfl (hc rfl)
   · exact ⟨rfl, rfl, rfl⟩
 rw [if_neg c5] at h
 by_cases c6 : d = 6
 · rw [if_pos c6] at h
   subst h
   exact ⟨rfl, rfl, rfl⟩
 rw [if_neg c6] at h
 subst h
 exact ⟨rfl, rfl, rfl⟩
inductive CalmD (w w' : World) (a : Ha) (S S' : Hs) (K : Nat) (X : List Int) (r : Nat) (x : Px) (e : Ending) : Prop
 | goes (pl : Aim) (v : Value) (h1 : PlanOf X r S.ct.ints x.d x.o x.nn x.bl pl) (h2 : e = .returned (.agg (anc pl.e pl.off v))) (h3 : OwnA byE w.heap.size w' v pl.data) (h4 : pl.ch = true → S.worn = false) (h5 : HI a S' (K + 1) pl.X pl.r) (h6 : S'.ct = nts S.ct (pgs pl.L)) (h7 : Free S.s → lk S.s = 0 → Free S'.s ∧ lk S'.s = 0) (h8 : S'.wf = S.wf) (h9 : pl.ch = false ∨ pl.e ≠ 0 → S' = S)
 | worn (pl : Aim) (v : Value) (h1 : PlanOf X r S.ct.ints x.d x.o x.nn x.bl pl) (h2 : e = .returned (.agg (anc 3 0 v))) (h3 : OwnA byE w.heap.size w' v []) (h4 : pl.ch = true) (h5 : S.worn = true) (h6 : S' = S)
 | wears (pl : Aim) (v : Value) (h1 : PlanOf X r S.ct.ints x.d x.o x.nn x.bl pl) (h2 : e = .returned (.agg (anc 3 0 v))) (h3 : OwnA byE w.heap.size w' v []) (h4 : pl.ch = true ∧ pl.e = 0 ∧ x.d ≠ 5) (h5 : S.worn = false) (h6 : HI a S' (K + 1) X r) (h7 : S'.ct = S.ct) (h8 : S'.worn = true) (h9 : ¬ Free S.s)
theorem tld_own (pl : Aim) : tld pl pl.e = (pl.off, pl.data) := by unfold tld; rw [if_pos rfl]
theorem tld_three {X : List Int} {r : Nat} {cs : List Int} {d o n : Int} {bl : List Int} {pl : Aim} (h : PlanOf X r cs d o n bl pl) : tld pl 3 = (0, []) := by
 unfold tld
 split
 · rename_i q
   exfalso
   unfold PlanOf at h
   have hr : ∀ a b, refF X a b ≠ 3 := fun a b e => by rcases refF_cases X a b with c | c | c <;> omega
   have ha : ∀ n cs, (alR X n cs).2.2 ≠ 3 := fun n cs e => by
    unfold alR at e
    split at e
    · cases e
    · split at e
      · cases e
      · split at e <;> cases e
   have hf : ∀ o, (frR X o).2 ≠ 3 := fun o e => by
    unfold frR at e
    split at e
    · cases e
    · split at e <;> cases e
   by_cases c1 : d = 1
   · rw [if_pos c1] at h
     subst h
     unfold plA plNo at q
     split at q
     · cases q
     · split at q
       · cases q
       · exact ha _ _ q.symm
   rw [if_neg c1] at h
   by_cases c2 : d = 2
   · rw [if_pos c2] at h
     subst h
     unfold plF plNo at q
     split at q
     · exact hf _ q.symm
     · split at q <;> cases q
   rw [if_neg c2] at h
   by_cases c3 : d = 3
   · rw [if_pos c3] at h
     subst h
     exact hr _ _ q.symm
   rw [if_neg c3] at h
   by_cases c4 : d = 4
   · rw [if_pos c4] at h
     obtain ⟨M, _, rfl⟩ := h
     unfold plW plNo at q
     split at q
     · exact hr _ _ q.symm
     · cases q
   rw [if_neg c4] at h
   by_cases c5 : d = 5
   · rw [if_pos c5] at h
     subst h
     unfold plR plNo at q
     split at q <;> cases q
   rw [if_neg c5] at h
   by_cases c6 : d = 6
   · rw [if_pos c6] at h
     subst h
     cases q
   rw [if_neg c6] at h
   subst h
   cases q
 · rfl
theorem do_calm {w w' : World} {a : Ha} {S : Hs} {K : Nat} {X : List Int} {r : Nat} {x : Px} {e : Ending} (hi : HI a S K X r) (hK : K < 1000) (hc : S.s.comes = false) (h : DoOut w w' a S K X r x e) :
 ∃ S', Hp w' a S' ∧ Chg a.D w w' ∧ S'.s.la = S.s.la ∧ S'.s.comes = false ∧ S'.s.n = S.s.n ∧ CalmD w w' a S S' K X r x e := by
 obtain ⟨pl, t, v, h1, h2, h3, S', g1, g2, g3, g4, g5, h⟩ := h
 refine ⟨S', g1, g2, g3, g4.trans hc, g5, ?_⟩
 rcases h with ⟨rfl, q1, q2, rfl⟩ | ⟨rfl, q1, rfl⟩ | ⟨rfl, q1, q2, q3, q4, q5, q6, q7⟩ | ⟨rfl, q1, q2, q3, q4, q5, q6, q7, q8⟩ | ⟨q0, q1, q2, q3, q4, q5⟩
 · have t3 := tld_three h1
   simp only [dE, dO] at h2 h3
   rw [t3] at h2 h3
   exact .worn pl v h1 h2 h3 q1 q2 rfl
 · simp only [dE, dO] at h2 h3
   rw [tld_own] at h2 h3
   obtain ⟨p1, p2, p3⟩ := plan_rest h1 fun q => (q1 q).1
   refine .goes pl v h1 h2 h3 (fun q => (q1 q).2) (by rw [p1, p2]; exact hi.more (by omega) (by omega)) (by rw [p3]; rfl) (fun F q => ⟨F, q⟩) rfl fun _ => rfl
 · simp only [dE, dO] at h2 h3
   rw [show tld pl 0 = (pl.off, pl.data) by rw [← q2]; exact tld_own pl] at h2 h3
   refine .goes pl v h1 (by rw [q2]; exact h2) h3 (fun _ => q3) q4 q5 (fun F _ => q7 F) q6 fun q => ?_
   rcases q with q | q
   · rw [q1] at q; cases q
   · exact absurd q2 q
 · have t3 := tld_three h1
   simp only [dE, dO] at h2 h3
   rw [t3] at h2 h3
   exact .wears pl v h1 h2 h3 ⟨q1, q2, q4⟩ q3 q5 q6 (by unfold Hs.worn; rw [q7]; rfl) q8
 · rw [hc] at q4; cases q4
theorem free_calm {s : Nv} (F : Free s) : s.comes = false := F.calm.2
theorem do_free {w w' : World} {a : Ha} {S : Hs} {K : Nat} {X : List Int} {r : Nat} {x : Px} {e : Ending} (hi : HI a S K X r) (hK : K < 1000) (F : Free S.s) (hw : S.worn = false) (h : DoOut w w' a S K X r x e) :
 ∃ S' pl v, Hp w' a S' ∧ Chg a.D w w' ∧ PlanOf X r S.ct.ints x.d x.o x.nn x.bl pl ∧ e = .returned (.agg (anc pl.e pl.off v)) ∧ OwnA byE w.heap.size w' v pl.data ∧ HI a S' (K + 1) pl.X pl.r ∧ S'.ct = nts S.ct (pgs pl.L) ∧ Free S'.s ∧ S'.worn = false ∧ (pl.ch = false ∨ pl.e ≠ 0 → S' = S) := by
 obtain ⟨S', g1, g2, g3, g4, g5, h⟩ := do_calm hi hK (free_calm F) h
 have hw2 := worn_no hw
 cases h with
 | goes pl v h1 h2 h3 h4 h5 h6 h7 h8 h9 =>
   obtain ⟨f1, f2⟩ := h7 F hw2.2
   exact ⟨S', pl, v, g1, g2, h1, h2, h3, h5, h6, f1, by unfold Hs.worn; rw [h8, hw2.1, f2]; rfl, h9⟩
 | worn pl v h1 h2 h3 h4 h5 h6 => rw [hw] at h5; cases h5
 | wears pl v h1 h2 h3 h4 h5 h6 h7 h8 h9 => exact absurd F h9
def MdOut (w w' : World) (N P per b : Nat) (lim : List Int) (e : Ending) : Prop :=
 Below w.heap.size w w' ∧
 ((∃ a S, (a.N = N ∧ a.P = P ∧ a.per = per ∧ a.b = b) ∧ e = .returned (.tuple #[.pointer (some ⟨a.z, 0, none⟩), .pointer (some ⟨a.g, 0, none⟩)]) ∧ (w.heap.size ≤ a.z ∧ w.heap.size ≤ a.g ∧ w.heap.size ≤ a.y ∧ w.heap.size ≤ a.q ∧ w.heap.size ≤ a.x ∧ w.heap.size ≤ a.k ∧ w.heap.size ≤ a.kg) ∧
    Hp w' a S ∧ HI a S 3 (firstL (8 * N : Nat)) 0 ∧ S.worn = false ∧ S.s.comes = false ∧ (lim = [] → Free S.s) ∧ (∀ q, q < (N + 3) / 4 → S.ct.c q = 0)) ∨
  (lim ≠ [] ∧ ∃ g, e = .returned (.tuple #[.pointer none, .pointer (some ⟨g, 0, none⟩)])))
theorem made_is {w : World} {N P per b : Nat} {v : Value} {lim : List Int} (hn : MayN N P per b) (hv : RI w v lim) :
 Calls Tryz.prog 15 #[(Value.agg #[Value.int IntKind.i64 (N : Int), Value.int IntKind.i64 (P : Int), Value.int IntKind.i64 (per : Int), Value.int IntKind.i64 (b : Int)]), v] w fun e w' => MdOut w w' N P per b lim e := by
 obtain ⟨W, hW, H⟩ := plan_boxed w (N : Int) (P : Int) (per : Int) (b : Int)
 have hn' : ∀ g, HNum ⟨0, g, 0, 0, 0, 0, 0, N, P, per, b⟩ := fun g => ⟨hn.1, hn.2.1, hn.2.2.1, hn.2.2.2⟩
 have hN64 : 1 ≤ N ∧ N ≤ 64 ∧ P ≤ 16 := ⟨hn.1.1, hn.1.2, hn.2.1⟩
 have PQ := Lib.hid H.out.1
 have HB := Lib.hid H.out.2
 have l0 := H.out.1.load
 have HCL := Lib.hid (fun w' (hb : Below W.heap.size W w') => (PQ.out.below hb).load)
 have C1 := Lib.hid (fun w => device_yes hn (v := 16 + N + 1 + P) (by omega) w)
 have C2 := Lib.hid (fun w' (hb : Below W.heap.size W w') => new_yes (16 + N + 1 + P) v lim w' (by omega) (by omega) (ri_below hv (below_more H.out.2 hb)))
 have C3 := Lib.hid (fun w' g (q : Nm w' g (newNv (16 + N + 1 + P) lim)) => hformat_is (a := ⟨0, g, 0, 0, 0, 0, 0, N, P, per, b⟩) (hn' g) q)
 have C4 := Lib.hid (fun w' g s p (q : Nm w' g s) (f : Fst (newNv (16 + N + 1 + P) lim) s N P p N (firstL (8 * N : Nat))) => hopen_hc (w := w') (a := ⟨0, g, 0, 0, 0, 0, 0, N, P, per, b⟩) (hn' g) (fst_hc (hn' g) f).1 (by decide) f.live q)
 have HNN := Lib.hid hN64
 have HM := Lib.hid hn'
 have HWs : Hid (W.heap.size = w.heap.size + 1) := Lib.hid (by rw [← hW, size_alloc])
 obtain ⟨pv, cv, rfl, _⟩ := hv
 clear hn hn' hN64 H
 go_enter Tryz.func15, Tryz.ntmps15
 go_wp2_with fail
 refine (C1.out _).mono ?_; rintro e w1 ⟨rfl, b1⟩
 have D1 := Lib.hid b1
 clear b1 C1 l0
 go_wp2_with fail
 refine (C2.out _ D1.out).mono ?_; rintro e w2 ⟨g, rfl, hg, hNm, b2⟩
 have D2 := Lib.hid (below_more D1.out b2)
 have N2 := Lib.hid hNm
 have G2 : Hid (w.heap.size ≤ g ∧ W.heap.size ≤ g) := Lib.hid ⟨Nat.le_trans HB.out.size (Nat.le_trans D1.out.size hg), Nat.le_trans D1.out.size hg⟩
 have l2 := HCL.out _ D2.out
 clear b2 hg hNm C2
 go_wp2_with fail
 refine (C3.out _ _ N2.out).mono ?_; rintro e w3 ⟨E, s, rfl, hN3, hc3, ho⟩
 have W3 : Hid (Chg [g] w2 w3 ∧ Nm w3 g s) := Lib.hid ⟨hc3, hN3⟩
 have l3 : (planLoad (.pointer (some ⟨w.heap.size, 0, none⟩))).run Tryz.prog w3 = .ok (Value.agg #[Value.int IntKind.i64 (N : Int), Value.int IntKind.i64 (P : Int), Value.int IntKind.i64 (per : Int), Value.int IntKind.i64 (b : Int)]) w3 := Pq.load (hc3.whole (PQ.out.below D2.out) (by have := HWs.out; have := G2.out; simp; omega))
 have B3 : Hid (Below w.heap.size w w3) := Lib.hid (hc3.below (below_more HB.out D2.out) (below_more HB.out D2.out).size (fun k hk => by rw [List.mem_singleton.1 hk]; exact G2.out.1))
 clear hN3 hc3 l2
 rcases ho with ⟨rfl, p, hF⟩ | ⟨hE, hF⟩
 · have HF := Lib.hid hF
   clear hF
   go_wp2_with fail
   refine (C4.out _ _ _ p W3.out.2 HF.out).mono ?_; rintro e w4 ⟨c4, o⟩
   rcases o with ⟨a, S, rfl, ⟨a1, a2, a3, a4, a5⟩, hnew, hp, hi, hwf, hla, hco, hsn, hs0, hfr, hct⟩ | ⟨_, hco, _⟩
   · have HO : Hid (MdOut w w4 N P per b lim (.returned (.tuple #[.pointer (some ⟨a.z, 0, none⟩), .pointer (some ⟨g, 0, none⟩)]))) := Lib.hid (by
      have hlk := (fst_hc (HM.out g) HF.out).2
      have hB4 : Below w.heap.size w w4 := c4.below B3.out B3.out.size (fun k hk => by rw [List.mem_singleton.1 hk]; exact G2.out.1)
      have h3 := B3.out.size
      refine ⟨hB4, .inl ⟨a, S, ⟨a2, a3, a4, a5⟩, by rw [a1], by have := G2.out.1; dsimp only at a1; omega, hp, hi, ?_, hco.trans HF.out.comes, fun hl => (hfr (HF.out.free (by rw [hl]; exact newNv_free _))).1, fun q hq => ?_⟩⟩
      · unfold Hs.worn
        rw [hwf, hs0 hlk, hlk]; rfl
      · have := hct q hq
        rw [HF.out.rgs (19 + q) (by omega)] at this
        omega)
     clear a1 a2 a3 a4 a5 hnew hp hi hwf hla hco hsn hs0 hfr hct c4 l3
     go_wp2_with fail
     go_ret2
     exact HO.out
   · rw [HF.out.comes] at hco; cases hco
 · have i1 : (E == 0) = false := beq_eq_false_iff_ne.2 hE
   have i2 : (E != 0) = true := by simpa using hE
   have HO : Hid (MdOut w w3 N P per b lim (.returned (.tuple #[.pointer none, .pointer (some ⟨g, 0, none⟩)]))) := Lib.hid ⟨B3.out, .inr ⟨fun hl => hF (by rw [hl]; exact newNv_free _), g, rfl⟩⟩
   clear hE hF
   go_wp2_with fail
   go_ret2
   exact HO.out
def plnStore (p v : Value) : Sem Unit := Instr.storeAt 23 p v
@[go_sem ↓] theorem storeAt_pln (p v : Value) : Instr.storeAt 23 p v = plnStore p v := rfl
theorem Pq.pstore {w : World} {g : Nat} {l s p b l' s' p' b' : Int} (h : Pq w g l s p b) : (plnStore (.pointer (some ⟨g, 0, none⟩)) (Value.agg #[Value.int IntKind.i64 l', Value.int IntKind.i64 s', Value.int IntKind.i64 p', Value.int IntKind.i64 b'])).run Tryz.prog w = .ok () (w.setRow g #[Value.int IntKind.i64 l', Value.int IntKind.i64 s', Value.int IntKind.i64 p', Value.int IntKind.i64 b']) := by
 unfold plnStore
 simp only [Instr.storeAt, Instr.sureAddr, Sem.run_bind, Sem.run_pure, Result.andThen]
 exact run_storeVar_row w g 23 23 #[Value.int IntKind.i64 l, Value.int IntKind.i64 s, Value.int IntKind.i64 p, Value.int IntKind.i64 b] #[Value.int IntKind.i64 l', Value.int IntKind.i64 s', Value.int IntKind.i64 p', Value.int IntKind.i64 b'] h (by rw [info_plan]; rfl) rfl (by simp [Value.oneCell'])
theorem Pq.pput {w : World} {g : Nat} {l s p b l' s' p' b' : Int} (h : Pq w g l s p b) : Pq (w.setRow g #[Value.int IntKind.i64 l', Value.int IntKind.i64 s', Value.int IntKind.i64 p', Value.int IntKind.i64 b']) g l' s' p' b' := by
 have q : w.heap[g]? = some (.cells #[Value.int IntKind.i64 l, Value.int IntKind.i64 s, Value.int IntKind.i64 p, Value.int IntKind.i64 b] 23 (0, 0)) := h
 unfold Pq Whole
 simp [World.setRow, Array.getElem?_modify, q]
theorem plan_raw (a0 a1 a2 a3 : Int) (w : World) : Calls Tryz.prog 14 #[.int .i64 a0, .int .i64 a1, .int .i64 a2, .int .i64 a3] w fun e w' => (∃ N P per b : Nat, e = .returned (Value.agg #[Value.int IntKind.i64 (N : Int), Value.int IntKind.i64 (P : Int), Value.int IntKind.i64 (per : Int), Value.int IntKind.i64 (b : Int)]) ∧ 1 ≤ N ∧ N ≤ 24 ∧ P ≤ 16 ∧ 1 ≤ per ∧ per ≤ 30 ∧ 1 ≤ b ∧ b ≤ 10) ∧ Below w.heap.size w w' := by
 obtain ⟨u0, hu0, _⟩ := u64_nat a0
 obtain ⟨u1, hu1, _⟩ := u64_nat a1
 obtain ⟨u2, hu2, _⟩ := u64_nat a2
 obtain ⟨u3, hu3, _⟩ := u64_nat a3
 have m0 : u0 % 24 < 24 := Nat.mod_lt _ (by decide)
 have m1 : u1 % 17 < 17 := Nat.mod_lt _ (by decide)
 have m2 : u2 % 30 < 30 := Nat.mod_lt _ (by decide)
 have m3 : u3 % 10 < 10 := Nat.mod_lt _ (by decide)
 have t0 : (u0 : Int).tmod 24 = ((u0 % 24 : Nat) : Int) := tmod_nat u0 24
 have t1 : (u1 : Int).tmod 17 = ((u1 % 17 : Nat) : Int) := tmod_nat u1 17
 have t2 : (u2 : Int).tmod 30 = ((u2 % 30 : Nat) : Int) := tmod_nat u2 30
 have t3 : (u3 : Int).tmod 10 = ((u3 % 10 : Nat) : Int) := tmod_nat u3 10
 generalize u0 % 24 = n0 at *
 generalize u1 % 17 = n1 at *
 generalize u2 % 30 = n2 at *
 generalize u3 % 10 = n3 at *
 have k0 : IntKind.i64.wrap (n0 : Int) = n0 := i64_nat _ (by omega)
 have k1 : IntKind.i64.wrap (n1 : Int) = n1 := i64_nat _ (by omega)
 have k2 : IntKind.i64.wrap (n2 : Int) = n2 := i64_nat _ (by omega)
 have k3 : IntKind.i64.wrap (n3 : Int) = n3 := i64_nat _ (by omega)
 have j0 : IntKind.i64.wrap (1 + (n0 : Int)) = ((1 + n0 : Nat) : Int) := by rw [show 1 + (n0 : Int) = ((1 + n0 : Nat) : Int) by omega]; exact i64_nat _ (by omega)
 have j2 : IntKind.i64.wrap (1 + (n2 : Int)) = ((1 + n2 : Nat) : Int) := by rw [show 1 + (n2 : Int) = ((1 + n2 : Nat) : Int) by omega]; exact i64_nat _ (by omega)
 have j3 : IntKind.i64.wrap (1 + (n3 : Int)) = ((1 + n3 : Nat) : Int) := by rw [show 1 + (n3 : Int) = ((1 + n3 : Nat) : Int) by omega]; exact i64_nat _ (by omega)
 have HK : Hid (1 ≤ 1 + n0 ∧ 1 + n0 ≤ 24 ∧ n1 ≤ 16 ∧ 1 ≤ 1 + n2 ∧ 1 + n2 ≤ 30 ∧ 1 ≤ 1 + n3 ∧ 1 + n3 ≤ 10) := Lib.hid (by omega)
 obtain ⟨W, hW⟩ : ∃ W, w.alloc (.cells #[.int .i64 0, .int .i64 0, .int .i64 0, .int .i64 0] 23) = W := ⟨_, rfl⟩
 have hWh : Pq W w.heap.size 0 0 0 0 := by rw [← hW]; exact heap_alloc_new w _
 have hst := hWh.pstore (l' := ((1 + n0 : Nat) : Int)) (s' := (n1 : Int)) (p' := ((1 + n2 : Nat) : Int)) (b' := ((1 + n3 : Nat) : Int))
 have HV := Lib.hid (And.intro (hWh.pput (l' := ((1 + n0 : Nat) : Int)) (s' := (n1 : Int)) (p' := ((1 + n2 : Nat) : Int)) (b' := ((1 + n3 : Nat) : Int))) (show Below w.heap.size w (W.setRow w.heap.size #[Value.int IntKind.i64 ((1 + n0 : Nat) : Int), Value.int IntKind.i64 (n1 : Int), Value.int IntKind.i64 ((1 + n2 : Nat) : Int), Value.int IntKind.i64 ((1 + n3 : Nat) : Int)]) from by rw [← hW]; exact below_row (bal (Below.refl _ _)) (Nat.le_refl _)))
 clear m0 m1 m2 m3 hWh
 generalize 1 + n0 = N0 at *
 generalize 1 + n2 = N2 at *
 generalize 1 + n3 = N3 at *
 obtain ⟨V, hV⟩ : ∃ V, W.setRow w.heap.size #[Value.int IntKind.i64 (N0 : Int), Value.int IntKind.i64 (n1 : Int), Value.int IntKind.i64 (N2 : Int), Value.int IntKind.i64 (N3 : Int)] = V := ⟨_, rfl⟩
 rw [hV] at hst HV
 go_enter Tryz.func14, Tryz.ntmps14
 go_wp2
 exact bodyPost_ret (v := (Value.agg #[Value.int IntKind.i64 (N0 : Int), Value.int IntKind.i64 (n1 : Int), Value.int IntKind.i64 (N2 : Int), Value.int IntKind.i64 (N3 : Int)])) (results_cell_row rfl _ _ _ _ _ _ _ rfl HV.out.1 Tryz.underlying23 rfl (by rw [info_plan]; rfl)) rfl ⟨⟨_, _, _, _, rfl, HK.out⟩, HV.out.2⟩
def opBuild (ps : Array (Nat × Value)) : Sem Value := Instr.build 37 ps
@[go_sem ↓] theorem build_op (ps : Array (Nat × Value)) : Instr.build 37 ps = opBuild ps := rfl
theorem built_op0 (d : Int) : Tryz.prog.built 37 [(0, .int .i64 d)] = some (pxc ⟨d, 0, 0, 0, .slice none 0 0, []⟩) := by kernel_rfl
theorem built_op01 (d o : Int) : Tryz.prog.built 37 [(0, .int .i64 d), (1, .int .i64 o)] = some (pxc ⟨d, o, 0, 0, .slice none 0 0, []⟩) := by kernel_rfl
theorem built_op02 (d n : Int) : Tryz.prog.built 37 [(0, .int .i64 d), (2, .int .i64 n)] = some (pxc ⟨d, 0, n, 0, .slice none 0 0, []⟩) := by kernel_rfl
theorem built_op012 (d o n : Int) : Tryz.prog.built 37 [(0, .int .i64 d), (1, .int .i64 o), (2, .int .i64 n)] = some (pxc ⟨d, o, n, 0, .slice none 0 0, []⟩) := by kernel_rfl
theorem built_op014 (d o : Int) (p : Option Addr) (n c : Nat) : Tryz.prog.built 37 [(0, .int .i64 d), (1, .int .i64 o), (4, .slice p n c)] = some (pxc ⟨d, o, 0, 0, .slice p n c, []⟩) := by kernel_rfl
@[go_sem] theorem run_opBuild0 (w : World) (d : Int) : (opBuild #[(0, .int .i64 d)]).run Tryz.prog w = .ok (.agg (pxc ⟨d, 0, 0, 0, .slice none 0 0, []⟩)) w := run_build w _ _ _ (built_op0 d)
@[go_sem] theorem run_opBuild01 (w : World) (d o : Int) : (opBuild #[(0, .int .i64 d), (1, .int .i64 o)]).run Tryz.prog w = .ok (.agg (pxc ⟨d, o, 0, 0, .slice none 0 0, []⟩)) w := run_build w _ _ _ (built_op01 d o)
@[go_sem] theorem run_opBuild02 (w : World) (d n : Int) : (opBuild #[(0, .int .i64 d), (2, .int .i64 n)]).run Tryz.prog w = .ok (.agg (pxc ⟨d, 0, n, 0, .slice none 0 0, []⟩)) w := run_build w _ _ _ (built_op02 d n)
@[go_sem] theorem run_opBuild012 (w : World) (d o n : Int) : (opBuild #[(0, .int .i64 d), (1, .int .i64 o), (2, .int .i64 n)]).run Tryz.prog w = .ok (.agg (pxc ⟨d, o, n, 0, .slice none 0 0, []⟩)) w := run_build w _ _ _ (built_op012 d o n)
@[go_sem] theorem run_opBuild014 (w : World) (d o : Int) (p : Option Addr) (n c : Nat) : (opBuild #[(0, .int .i64 d), (1, .int .i64 o), (4, .slice p n c)]).run Tryz.prog w = .ok (.agg (pxc ⟨d, o, 0, 0, .slice p n c, []⟩)) w := run_build w _ _ _ (built_op014 d o p n c)
theorem pxc_bl (d o n m : Int) (v : Value) (l l' : List Int) : pxc ⟨d, o, n, m, v, l⟩ = pxc ⟨d, o, n, m, v, l'⟩ := rfl
theorem px_nil (w : World) (d o n : Int) (ho : -9223372036854775808 ≤ o ∧ o ≤ 9223372036854775807) (hn : -9223372036854775808 ≤ n ∧ n ≤ 9223372036854775807) : PxOk w ⟨d, o, n, 0, .slice none 0 0, []⟩ := ⟨(own_nil_a byE 0 w).ra, by simp, ho, hn⟩
theorem an_boxed (w : World) (e o : Int) {v : Value} (h1 : v.oneCell' = true) : ∃ W, w.alloc (.cells (anc e o v) 60) = W ∧ (anStore (.pointer (some ⟨w.heap.size, 0, none⟩)) (.agg (anc e o v))).run Tryz.prog (w.alloc (.cells #[.int .i64 0, .int .i64 0, .slice none 0 0] 60)) = .ok () W ∧ Hid (Anv W w.heap.size e o v ∧ Below w.heap.size w W) := by
 refine ⟨_, rfl, ?_, Lib.hid ⟨Anv.new w e o v, bal (Below.refl _ _)⟩⟩
 have h : Anv (w.alloc (.cells #[.int .i64 0, .int .i64 0, .slice none 0 0] 60)) w.heap.size 0 0 (.slice none 0 0) := Anv.new w 0 0 _
 rw [h.store (e' := e) (o' := o) h1, World.setRow_alloc_new]
def hx0 : List Int := 64 :: List.replicate 31 0
def hx1 : List Int := 5 :: 0 :: 60 :: List.replicate 29 0
def hx2 : List Int := 5 :: 7 :: 60 :: List.replicate 29 0
theorem hx_first : firstL (8 * 4 : Nat) = hx0 := by kernel_rfl
theorem hx_al : alR hx0 8 [0] = ([⟨0, 5⟩, ⟨1, 0⟩, ⟨2, 60⟩], 8, 0) := by kernel_rfl
theorem hx_ap1 : appF hx0 [⟨0, 5⟩, ⟨1, 0⟩, ⟨2, 60⟩] = hx1 := by kernel_rfl
theorem hx_ap2 : appF hx1 [⟨1, 7⟩] = hx2 := by kernel_rfl
theorem hx_ref1 : refF hx1 8 1 = 0 := by kernel_rfl
theorem hx_ref2 : refF hx2 8 2 = 0 := by kernel_rfl
theorem hx_rd : rdR hx2 8 2 = [7, 0] := by kernel_rfl
theorem hx_str : strOfNums [7, 0] = ⟨#[7, 0]⟩ := by kernel_rfl
theorem hx_wr {L : List Ed} (h : WrT hx1 [7] 8 L) : L = [⟨1, 7⟩] := by
 unfold WrT at h
 rw [if_pos (show refF hx1 8 ([7] : List Int).length = 0 from hx_ref1)] at h
 unfold Tells at h
 rw [if_pos (by decide)] at h
 refine h.one (c' := fun k => [(7 : Int)].getD k 0) ⟨by decide, fun j hj => ?_⟩ (fun _ _ => rfl)
 obtain rfl : j = 0 := by simpa using hj
 refine ⟨rfl, ⟨by decide, by decide⟩, fun k hk => ?_⟩
 rcases (by omega : k = 0 ∨ k = 1 ∨ k = 2 ∨ k = 3 ∨ k = 4 ∨ k = 5 ∨ k = 6 ∨ k = 7) with rfl | rfl | rfl | rfl | rfl | rfl | rfl | rfl <;> decide
theorem hx_pl1 {pl : Aim} {bl : List Int} (h : PlanOf hx0 0 [0] 1 0 8 bl pl) : pl.e = 0 ∧ pl.off = 8 ∧ pl.X = hx1 ∧ pl.r = 0 ∧ pl.data = [] := by
 unfold PlanOf at h
 rw [if_pos rfl] at h
 rw [h]
 unfold plA
 rw [if_neg (by decide), hx_al, if_pos rfl]
 exact ⟨rfl, rfl, hx_ap1, rfl, rfl⟩
theorem hx_pl2 {pl : Aim} {cs : List Int} {n : Int} (h : PlanOf hx1 0 cs 4 8 n [7] pl) : pl.e = 0 ∧ pl.off = 0 ∧ pl.X = hx2 ∧ pl.r = 0 ∧ pl.data = [] := by
 unfold PlanOf at h
 rw [if_neg (by decide), if_neg (by decide), if_neg (by decide), if_pos rfl] at h
 obtain ⟨M, hM, rfl⟩ := h
 have e := hx_wr hM
 subst e
 unfold plW
 rw [if_neg (by rw [show refF hx1 8 ([7] : List Int).length = 0 from hx_ref1]; simp)]
 exact ⟨rfl, rfl, hx_ap2, rfl, rfl⟩
theorem hx_pl3 {pl : Aim} {cs : List Int} {bl : List Int} (h : PlanOf hx2 0 cs 3 8 2 bl pl) : pl.e = 0 ∧ pl.off = 0 ∧ pl.X = hx2 ∧ pl.r = 0 ∧ pl.data = [7, 0] := by
 unfold PlanOf at h
 rw [if_neg (by decide), if_neg (by decide), if_pos rfl] at h
 rw [h]
 exact ⟨hx_ref2, rfl, rfl, rfl, hx_rd⟩
theorem built_plan3 : Tryz.prog.built 23 [(0, .int .i64 4), (2, .int .i64 3), (3, .int .i64 2)] = some #[Value.int IntKind.i64 ((4 : Nat) : Int), Value.int IntKind.i64 ((0 : Nat) : Int), Value.int IntKind.i64 ((3 : Nat) : Int), Value.int IntKind.i64 ((2 : Nat) : Int)] := by kernel_rfl
def plnBuild (ps : Array (Nat × Value)) : Sem Value := Instr.build 23 ps
@[go_sem ↓] theorem build_pln (ps : Array (Nat × Value)) : Instr.build 23 ps = plnBuild ps := rfl
@[go_sem] theorem run_plnBuild3 (w : World) : (plnBuild #[(0, .int .i64 4), (2, .int .i64 3), (3, .int .i64 2)]).run Tryz.prog w = .ok (Value.agg #[Value.int IntKind.i64 ((4 : Nat) : Int), Value.int IntKind.i64 ((0 : Nat) : Int), Value.int IntKind.i64 ((3 : Nat) : Int), Value.int IntKind.i64 ((2 : Nat) : Int)]) w := run_build w _ _ _ built_plan3
theorem byte_lit_h (w : World) {x : Int} (h : By x) : ∃ W, w.alloc (.cells #[.int .u8 x] 5) = W ∧ Hid (RA byE W (.slice (some ⟨w.heap.size, 0, none⟩) 1 1) [x] ∧ Below w.heap.size w W) :=
 ⟨_, rfl, Lib.hid ⟨(by_one w h).ra, bal (Below.refl _ _)⟩⟩
theorem below_do {B : Nat} {w0 w w' : World} {a : Ha} (hb : Below B w0 w) (hc : Chg a.D w w') (hB : B ≤ w.heap.size) (hn : B ≤ a.z ∧ B ≤ a.g ∧ B ≤ a.y ∧ B ≤ a.kg) : Below B w0 w' :=
 hc.below hb hB (fun k hk => by simp [Ha.D] at hk; omega)
theorem awake_any (w : World) : Calls Tryz.prog 13 #[] w fun e w' => e = .returned (.bool true) ∧ Below w.heap.size w w' := by
 have C1 := Lib.hid (made_is (w := w) (N := 4) (P := 0) (per := 3) (b := 2) (v := .slice none 0 0) (lim := []) (by unfold MayN; omega) (ri_nil w))
 go_enter Tryz.func13, Tryz.ntmps13
 go_wp2_with fail
 refine (C1.out).mono ?_; rintro e w1 ⟨b1, ⟨a, S, ⟨a1, a2, a3, a4⟩, rfl, hnew, hp, hi, hw, hco, hfr, hct⟩ | ⟨hl, _⟩⟩
 rotate_left
 · exact absurd rfl hl
 have F := hfr rfl
 rw [hx_first] at hi
 have hcs : S.ct.ints = [0] := by
  have := hi.cn
  rw [a1] at this
  unfold Ct.ints
  rw [this]
  show [((S.ct.c 0 : Nat) : Int)] = _
  rw [hct 0 (by decide)]; rfl
 have HN := Lib.hid hnew
 have D1 := Lib.hid b1
 have H1 := Lib.hid (And.intro hp (And.intro hi (And.intro F hw)))
 have HCS := Lib.hid hcs
 have HA1 := Lib.hid a1
 have C2 := Lib.hid (hdo_is ⟨1, 0, 8, 0, .slice none 0 0, []⟩ hp hi (by decide) (px_nil w1 1 0 8 (by decide) (by decide)))
 clear b1 a1 a2 a3 a4 hnew hp hi hw hco hfr hct F hcs C1
 go_wp2_with fail
 refine (C2.out).mono ?_; rintro e w2 ho
 obtain ⟨S2, pl, v, g1, g2, g3, rfl, g5, g6, g7, g8, g9, _⟩ := do_free H1.out.2.1 (by decide) H1.out.2.2.1 H1.out.2.2.2 ho
 rw [HCS.out] at g3
 obtain ⟨p1, p2, p3, p4, p5⟩ := hx_pl1 g3
 rw [p3, p4] at g6
 rw [p1, p2]
 have B2 := Lib.hid (below_do D1.out g2 D1.out.size ⟨HN.out.1, HN.out.2.1, HN.out.2.2.1, HN.out.2.2.2.2.2.2⟩)
 have K2 := Lib.hid (And.intro g1 (And.intro g6 (And.intro g8 g9)))
 have hv1 := ra_one g5.ra
 obtain ⟨W3, hW3, hst3, HV3⟩ := an_boxed w2 0 8 hv1
 have A3 := Lib.hid HV3.out.1
 have B3 := Lib.hid (below_more B2.out HV3.out.2)
 have K3 := Lib.hid (K2.out.1.below HV3.out.2)
 clear ho g1 g2 g3 g5 g6 g7 g8 g9 p1 p2 p3 p4 p5 C2 H1 HCS hv1
 obtain ⟨W4, hW4, H4⟩ := byte_lit_h W3 (x := 7) ⟨by decide, by decide⟩
 have B4 := Lib.hid (below_more B3.out H4.out.2)
 have A4 := Lib.hid (A3.out.below H4.out.2)
 have C3 := Lib.hid (hdo_is ⟨4, 8, 0, 0, .slice (some ⟨W3.heap.size, 0, none⟩) 1 1, [7]⟩ (K3.out.below H4.out.2) K2.out.2.1 (by decide) ⟨H4.out.1, by simp, by dsimp only; omega, by dsimp only; omega⟩)
 rw [pxc_bl _ _ _ _ _ [7] []] at C3
 go_wp2_with fail
 refine (C3.out).mono ?_; rintro e w5 ho
 obtain ⟨S5, pl, v5, g1, g2, g3, rfl, g5, g6, g7, g8, g9, _⟩ := do_free K2.out.2.1 (by decide) K2.out.2.2.1 K2.out.2.2.2 ho
 obtain ⟨p1, p2, p3, p4, p5⟩ := hx_pl2 g3
 rw [p3, p4] at g6
 rw [p1, p2]
 have hfar : ∀ k, w.heap.size ≤ k → True := fun _ _ => trivial
 have B5 := Lib.hid (below_do B4.out g2 B4.out.size ⟨HN.out.1, HN.out.2.1, HN.out.2.2.1, HN.out.2.2.2.2.2.2⟩)
 have K5 := Lib.hid (And.intro g1 (And.intro g6 (And.intro g8 g9)))
 have ha := K2.out.1.all
 have hvb : w2.heap.size ∉ a.D := fun q => by simp [Ha.D] at q; omega
 have A5 := Lib.hid (A4.out.chg g2 hvb)
 have hv5 := ra_one g5.ra
 obtain ⟨W6, hW6, hst6, HV6⟩ := an_boxed w5 0 0 hv5
 have A6 := Lib.hid (A5.out.below HV6.out.2)
 have A6b := Lib.hid HV6.out.1
 have B6 := Lib.hid (below_more B5.out HV6.out.2)
 have C4 := Lib.hid (hdo_is ⟨3, 8, 2, 0, .slice none 0 0, []⟩ (K5.out.1.below HV6.out.2) K5.out.2.1 (by decide) (px_nil W6 3 8 2 (by decide) (by decide)))
 clear ho g1 g2 g3 g5 g6 g7 g8 g9 p1 p2 p3 p4 p5 C3 hv5 hfar ha hvb
 go_wp2_with fail
 refine (C4.out).mono ?_; rintro e w7 ho
 obtain ⟨S7, pl, v7, g1, g2, g3, rfl, g5, g6, g7, g8, g9, _⟩ := do_free K5.out.2.1 (by decide) K5.out.2.2.1 K5.out.2.2.2 ho
 obtain ⟨p1, p2, p3, p4, p5⟩ := hx_pl3 g3
 rw [p5] at g5
 rw [p1, p2]
 have B7 := Lib.hid (below_do B6.out g2 B6.out.size ⟨HN.out.1, HN.out.2.1, HN.out.2.2.1, HN.out.2.2.2.2.2.2⟩)
 have K7 := Lib.hid (And.intro g1 (And.intro g6 g9))
 have ha := K5.out.1.all
 have ha2 := K2.out.1.all
 have s65 : w5.heap.size ≤ W6.heap.size := HV6.out.2.size
 have hvb : w2.heap.size ∉ a.D := fun q => by simp [Ha.D] at q; omega
 have hvb2 : w5.heap.size ∉ a.D := fun q => by simp [Ha.D] at q; omega
 have A7 := Lib.hid (A6.out.chg g2 hvb)
 have A7b := Lib.hid (A6b.out.chg g2 hvb2)
 obtain ⟨qv, cv, hvv, _⟩ := ra_shape g5.ra
 obtain rfl : v7 = .slice qv 2 cv := hvv
 have hv7 := ra_one g5.ra
 obtain ⟨W8, hW8, hst8, HV8⟩ := an_boxed w7 0 0 hv7
 have BB := Lib.hid HV8.out.2
 have q0 := (A7.out.below BB.out).c0
 have q1 := (A7.out.below BB.out).c1
 have q2 := (A7b.out.below BB.out).c0
 have q3 := HV8.out.1.c2
 have hs := run_strConv (ra_below g5.ra BB.out)
 rw [hx_str] at hs
 have B8 := Lib.hid (below_more B7.out BB.out)
 have hWn := K7.out.2.2
 have C5 := Lib.hid (hworn_is (K7.out.1.below BB.out) K7.out.2.1.live K7.out.2.1.hc.lg.r1)
 have C6 := Lib.hid (hcnt_is (K7.out.1.below BB.out) (by have := K7.out.2.1.cn; have := K7.out.2.1.num.N; omega))
 rw [hWn] at C5
 have hl1 : S7.ct.ints.length = 1 := by
  unfold Ct.ints
  rw [byF_length, K7.out.2.1.cn, HA1.out]
 clear ho g1 g2 g3 g5 g6 g7 g8 g9 p1 p2 p3 p4 p5 C4 hv7 ha ha2 hvb hvb2 s65 hWn
 go_wp2_with fail
 refine (C5.out).mono ?_; rintro e w9 ⟨rfl, rfl⟩
 go_wp2_with fail
 refine (C6.out).mono ?_; rintro e w9 ⟨⟨u, rfl, ou⟩, b9⟩
 have B9 := Lib.hid (below_more B8.out b9)
 obtain ⟨qu, cu, rfl, _⟩ := ou.ri
 rw [hl1]
 clear ou b9
 go_wp2_with fail
 go_ret
 exact ⟨rfl, B9.out⟩
theorem ofNat_inj {x y : Int} (hx : By x) (hy : By y) (h : UInt8.ofNat x.toNat = UInt8.ofNat y.toNat) : x = y := by
 obtain ⟨x0, x1⟩ := hx
 obtain ⟨y0, y1⟩ := hy
 have := congrArg UInt8.toNat h
 rw [UInt8.toNat_ofNat', UInt8.toNat_ofNat'] at this
 omega
theorem map_inj_by : ∀ {l m : List Int}, (∀ x ∈ l, By x) → (∀ x ∈ m, By x) → (l.map fun n => UInt8.ofNat n.toNat) = (m.map fun n => UInt8.ofNat n.toNat) → l = m
 | [], [], _, _, _ => rfl
 | [], _ :: _, _, _, h => by simp at h
 | _ :: _, [], _, _, h => by simp at h
 | x :: l, y :: m, hl, hm, h => by
   rw [List.map_cons, List.map_cons, List.cons.injEq] at h
   rw [ofNat_inj (hl x (List.mem_cons_self ..)) (hm y (List.mem_cons_self ..)) h.1, map_inj_by (fun z hz => hl z (List.mem_cons_of_mem _ hz)) (fun z hz => hm z (List.mem_cons_of_mem _ hz)) h.2]
theorem strOf_inj {l m : List Int} (hl : ∀ x ∈ l, By x) (hm : ∀ x ∈ m, By x) (h : (strOfNums l).toList = (strOfNums m).toList) : l = m := by
 unfold strOfNums at h
 rw [ByteArray.toList_mk, ByteArray.toList_mk] at h
 exact map_inj_by hl hm h
theorem rsame_is {w : World} {e o e' o' : Int} {v v' : Value} {l l' : List Int} (hv : RA byE w v l) (hv' : RA byE w v' l') :
 Calls Tryz.prog 41 #[.agg (anc e o v), .agg (anc e' o' v')] w fun f w' => f = .returned (.bool (decide (e = e' ∧ o = o' ∧ l = l'))) ∧ Below w.heap.size w w' := by
 obtain ⟨W0, hW0⟩ : ∃ W0, w.alloc (.cells (anc e o v) 60) = W0 := ⟨_, rfl⟩
 obtain ⟨W, hW⟩ : ∃ W, W0.alloc (.cells (anc e' o' v') 60) = W := ⟨_, rfl⟩
 have s0 : W0.heap.size = w.heap.size + 1 := by rw [← hW0, size_alloc]
 have B0 : Below w.heap.size w W0 := by rw [← hW0]; exact bal (Below.refl _ _)
 have B1 : Below W0.heap.size W0 W := by rw [← hW]; exact bal (Below.refl _ _)
 have HB := Lib.hid (below_more B0 B1)
 have A0 : Anv W w.heap.size e o v := by
  have : Anv W0 w.heap.size e o v := by rw [← hW0]; exact Anv.new w e o v
  exact this.below B1
 have A1 : Anv W (w.heap.size + 1) e' o' v' := by rw [← s0, ← hW]; exact Anv.new W0 e' o' v'
 have c0 := A0.c0
 have c1 := A0.c1
 have c2 := A0.c2
 have d0 := A1.c0
 have d1 := A1.c1
 have d2 := A1.c2
 have hs := run_strConv (ra_below hv HB.out)
 have hs' := run_strConv (ra_below hv' HB.out)
 have HI' : Hid ((strOfNums l).toList = (strOfNums l').toList → l = l') := Lib.hid (strOf_inj (fun x hx => ra_ok hv x hx) (fun x hx => ra_ok hv' x hx))
 obtain ⟨q, c, hvv, _⟩ := ra_shape hv
 obtain ⟨q', c', hvv', _⟩ := ra_shape hv'
 subst hvv hvv'
 by_cases h0 : e = e'
 · subst h0
   by_cases h1 : o = o'
   · subst h1
     by_cases h2 : l = l'
     · subst h2
       have hd : decide (e = e ∧ o = o ∧ l = l) = true := by simp
       rw [hd]
       generalize strOfNums l = sl at *
       generalize l.length = n at *
       clear hv hv' B0 B1 A0 A1 HI'
       go_enter Tryz.func41, Tryz.ntmps41
       go_wp2_with fail
       go_ret
       exact ⟨by simp, HB.out⟩
     · have hd : decide (e = e ∧ o = o ∧ l = l') = false := by simp [h2]
       rw [hd]
       have hne : ¬ (strOfNums l).toList = (strOfNums l').toList := fun q => h2 (HI'.out q)
       generalize strOfNums l = sl at *
       generalize strOfNums l' = sl' at *
       generalize l.length = n at *
       generalize l'.length = n' at *
       clear hv hv' B0 B1 A0 A1 HI' h2
       go_enter Tryz.func41, Tryz.ntmps41
       go_wp2_with fail
       go_ret
       exact ⟨by simp [hne], HB.out⟩
   · have hd : decide (e = e ∧ o = o' ∧ l = l') = false := by simp [h1]
     rw [hd]
     have i1 : (o == o') = false := beq_eq_false_iff_ne.2 h1
     generalize l.length = n at *
     generalize l'.length = n' at *
     clear hv hv' B0 B1 A0 A1 HI' hs hs'
     go_enter Tryz.func41, Tryz.ntmps41
     go_wp2_with fail
     go_ret
     exact ⟨by simp, HB.out⟩
 · have hd : decide (e = e' ∧ o = o' ∧ l = l') = false := by simp [h0]
   rw [hd]
   have i1 : (e == e') = false := beq_eq_false_iff_ne.2 h0
   generalize l.length = n at *
   generalize l'.length = n' at *
   clear hv hv' B0 B1 A0 A1 HI' hs hs'
   go_enter Tryz.func41, Tryz.ntmps41
   go_wp2_with fail
   go_ret
   exact ⟨by simp, HB.out⟩
structure Light (l : List Px) (lim : List Int) : Prop where
 lim : lim.length ≤ 200
 len : l.length ≤ 80
 bl : ∀ k, k < l.length → (l.getD k default).bl.length ≤ 500
theorem heavy21 {W0 w : World} (l : List Px) (lim : List Int) (v u : Value) (hv : RA (opE W0) w v l) (hu : RI w u lim) :
 Calls Tryz.prog 12 #[v, u] w fun e w' => (∃ r : Nat, e = .returned (.int .i64 (r : Int)) ∧ (r = 0 → Light l lim)) ∧ Below w.heap.size w w' := by
 have HV := Lib.hid hv
 obtain ⟨p, cap, rfl, h1, h2⟩ := ra_shape hv
 obtain ⟨p2, cap2, rfl, h3, h4, _⟩ := hu
 unfold maxLen at h2 h4
 by_cases c2 : 200 < lim.length
 · have i2 : (lim.length : Int) > 200 := by omega
   clear hv h1 h2 h3 h4 c2
   generalize lim.length = L2 at *
   generalize l.length = L at *
   go_enter Tryz.func12, Tryz.ntmps12
   go_wp2_with fail
   go_ret
   exact ⟨⟨1, rfl, fun h => by cases h⟩, Below.refl _ _⟩
 have i2 : ¬ (lim.length : Int) > 200 := by omega
 have HL2 : Hid (lim.length ≤ 200) := Lib.hid (by omega)
 clear hv h1 h2 h3 h4 c2
 generalize hm : lim.length = L2 at *
 have HM := Lib.hid hm
 clear hm
 obtain ⟨L, hL⟩ : ∃ L, l.length = L := ⟨_, rfl⟩
 have HLL := Lib.hid hL
 rw [hL]
 clear hL
 go_enter Tryz.func12, Tryz.ntmps12
 go_wp2
 go_loopw [12] (fun i wr => ∃ k : Nat, k ≤ L ∧ i = .int .i64 k ∧ Hid (Below w.heap.size w wr ∧ k ≤ 80 ∧ ∀ j, j < k → (l.getD j default).bl.length ≤ 500)) (fun i _ => L - (intOf i).toNat)
 case atStart => exact ⟨0, Nat.zero_le _, rfl, Lib.hid ⟨Below.refl _ _, by omega, fun j hj => by omega⟩⟩
 case round =>
  obtain ⟨k, hk, rfl, H⟩ := hrel
  by_cases hlt : k < L
  · obtain ⟨b, off, hpp, hb, hx⟩ := px_at (ra_below HV.out H.out.1) (by rw [HLL.out]; omega)
    subst hpp
    obtain ⟨hld, hwf⟩ := hx k (by rw [HLL.out]; exact hlt)
    have HX := Lib.hid (show ∀ j, j < k + 1 → ((l.getD k default).bl.length ≤ 500 → (l.getD j default).bl.length ≤ 500) from fun j hj hh => by
     by_cases e : j = k
     · subst e; exact hh
     · exact H.out.2.2 j (by omega))
    have hvl : ∃ q c, (l.getD k default).v = .slice q (l.getD k default).bl.length c := by
     obtain ⟨q, c, e, _⟩ := ra_shape hwf.rv
     exact ⟨q, c, e⟩
    have hone := hwf.one
    generalize l.getD k default = x at *
    obtain ⟨W1, hW1, hst, HB⟩ := px_boxed wr x hone
    have c4 := HB.out.1.c4
    obtain ⟨q, c, hvv⟩ := hvl
    rw [hvv] at c4
    have B1 := Lib.hid (below_more H.out.1 HB.out.2)
    have HK := Lib.hid (And.intro hlt H.out.2.1)
    have i0 : (0 : Int) ≤ (k : Int) := by omega
    have i1 : (k : Int) < (L : Int) := by omega
    have i3 : ¬ (k : Int) < 0 := by omega
    have i4 : IntKind.i64.wrap ((k : Int) + 1) = ((k + 1 : Nat) : Int) := by rw [show (k : Int) + 1 = ((k + 1 : Nat) : Int) by omega]; exact i64_nat _ (by have := HK.out; omega)
    generalize hbl : x.bl.length = n at *
    by_cases c8 : 80 ≤ k
    · have i5 : (k : Int) ≥ 80 := by omega
      clear hx hb hk hlt hwf hone hvv hbl H HX c8
      go_wp2
      go_ret
      exact ⟨⟨k + 1, rfl, fun h => by omega⟩, B1.out⟩
    have i5 : ¬ (k : Int) ≥ 80 := by omega
    have i5' : ¬ 80 ≤ k := c8
    by_cases c5 : 500 < n
    · have i6 : (n : Int) > 500 := by omega
      have i6' : 500 < n := c5
      clear hx hb hk hlt hwf hone hvv hbl H HX c8 c5
      go_wp2
      go_ret
      exact ⟨⟨k + 1, rfl, fun h => by omega⟩, B1.out⟩
    · have i6 : ¬ (n : Int) > 500 := by omega
      have i6' : ¬ 500 < n := c5
      have HN : Hid (Below w.heap.size w W1 ∧ k + 1 ≤ 80 ∧ ∀ j, j < k + 1 → (l.getD j default).bl.length ≤ 500) := Lib.hid ⟨B1.out, by omega, fun j hj => HX.out j hj (by omega)⟩
      clear hx hb hk hlt hwf hone hvv hbl H HX c8 c5
      go_wp2
      go_roundw
      case rel => exact ⟨k + 1, by have := HK.out; omega, by go_num, HN⟩
      case measure => have := HK.out; simp [intOf]; omega
  · obtain rfl : k = L := by omega
    have HF : Hid (Light l lim ∧ Below w.heap.size w wr) := Lib.hid ⟨⟨by rw [HM.out]; exact HL2.out, by rw [HLL.out]; exact H.out.2.1, fun j hj => H.out.2.2 j (by rw [HLL.out] at hj; exact hj)⟩, H.out.1⟩
    clear H
    go_wp2
    go_ret
    exact ⟨⟨0, rfl, fun _ => HF.out.1⟩, HF.out.2⟩
def opSlice (n : Nat) (ps : Array (Nat × Value)) : Sem Value := Instr.buildSlice 25 n ps
theorem built_ops1 (w : World) (a b c d : Int) (p : Option Addr) (n cc : Nat) : (Instr.buildSlice 25 1 #[(0, .agg #[.int .i64 a, .int .i64 b, .int .i64 c, .int .i64 d, .slice p n cc])]).run Tryz.prog w = .ok (.slice (some ⟨w.heap.size, 0, none⟩) 1 1) (w.alloc (.cells #[.int .i64 a, .int .i64 b, .int .i64 c, .int .i64 d, .slice p n cc] 37)) := by
 simp [Instr.buildSlice, run_underlying Tryz.underlying25, Instr.fill, go_sem]
@[go_sem ↓] theorem slice_op (n : Nat) (ps : Array (Nat × Value)) : Instr.buildSlice 25 n ps = opSlice n ps := rfl
theorem run_opSlice1 (w : World) (x : Px) {p : Option Addr} {n c : Nat} (hv : x.v = .slice p n c) : (opSlice 1 #[(0, .agg (pxc x))]).run Tryz.prog w = .ok (.slice (some ⟨w.heap.size, 0, none⟩) 1 1) (w.alloc (.cells (pxc x) 37)) := by
 have := built_ops1 w x.d x.o x.nn x.msk p n c
 rw [← hv] at this
 exact this
theorem ops_one (W w : World) {x : Px} (h : x.Wf W) : RA (opE W) (w.alloc (.cells (pxc x) 37)) (.slice (some ⟨w.heap.size, 0, none⟩) 1 1) [x] := by
 have := (own_lit_a (opE W) w (l := [x]) (fun y hy => by rw [List.mem_singleton.1 hy]; exact h) (by unfold maxLen; simp)).ra
 simpa [opE, pxc] using this
theorem hformat_err {w : World} {gv : Value} {l s p b E : Int} (hE : E ≠ 0) (hR : ∀ W, Below w.heap.size w W → Calls Tryz.prog 72 #[gv, (Value.agg #[Value.int IntKind.i64 l, Value.int IntKind.i64 s, Value.int IntKind.i64 p, Value.int IntKind.i64 b])] W fun e w' => e = .returned (.int .i64 E) ∧ Below W.heap.size W w') :
 Calls Tryz.prog 36 #[gv, (Value.agg #[Value.int IntKind.i64 l, Value.int IntKind.i64 s, Value.int IntKind.i64 p, Value.int IntKind.i64 b])] w fun e w' => e = .returned (.int .i64 E) ∧ Below w.heap.size w w' := by
 obtain ⟨W, hW, H⟩ := plan_boxed w l s p b
 have l0 := H.out.1.load
 have HB := Lib.hid H.out.2
 have C := Lib.hid (hR W H.out.2)
 have i1 : (E == 0) = false := beq_eq_false_iff_ne.2 hE
 have i2 : (E != 0) = true := by simpa using hE
 clear hR hE
 go_enter Tryz.func36, Tryz.ntmps36
 go_wp2_with fail
 refine (C.out).mono ?_; rintro e w1 ⟨rfl, b1⟩
 have D1 := Lib.hid (below_more HB.out b1)
 clear b1
 go_wp2_with fail
 go_ret
 exact ⟨rfl, D1.out⟩
theorem hready_arg {w : World} {gv : Value} {l s p b nl : Int} (hL : ∀ w', Below w.heap.size w w' → Calls Tryz.prog 117 #[gv] w' fun e w2 => e = .returned (.int .i64 nl) ∧ w' = w2) (hl : May l s p b → nl ≠ dvM l s) :
 Calls Tryz.prog 72 #[gv, (Value.agg #[Value.int IntKind.i64 l, Value.int IntKind.i64 s, Value.int IntKind.i64 p, Value.int IntKind.i64 b])] w fun e w' => e = .returned (.int .i64 1) ∧ Below w.heap.size w w' := by
 by_cases h : May l s p b
 · exact hready_len h hL (hl h)
 · exact hready_may h
section
variable {ops : Array Oper} {rest : List Oper} {o : Oper} {a : Act} {w : World} {Q : Exit → Act → World → Prop} {K : Act → World → Prop}
end
def xlens (ls : List (List Ex)) : Nat := (ls.map List.length).sum

theorem rneed_is (n : Int) (w : World) : Calls Tryz.prog 65 #[.int .i64 n] w fun e w' => e = .returned (.int .i64 (needN n)) ∧ w = w' := by
 by_cases h1 : n < 1
 · rw [needN, if_neg (by omega)]
   go_enter Tryz.func65, Tryz.ntmps65
   go_wp2_with fail
   go_ret
   exact ⟨rfl, rfl⟩
 · by_cases h2 : n > 448
   · rw [needN, if_neg (by omega)]
     go_enter Tryz.func65, Tryz.ntmps65
     go_wp2_with fail
     go_ret
     exact ⟨rfl, rfl⟩
   · rw [needN, if_pos (by omega)]
     obtain ⟨k, rfl⟩ : ∃ k : Nat, n = k := ⟨n.toNat, by omega⟩
     obtain ⟨q, hq⟩ : ∃ q, (k + 7) / 8 = q := ⟨_, rfl⟩
     obtain ⟨b, hb⟩ : ∃ a, k + 7 = a := ⟨_, rfl⟩
     obtain ⟨c, hc⟩ : ∃ a, q + 1 = a := ⟨_, rfl⟩
     have j2 : IntKind.i64.wrap ((k : Int) + 7) = (b : Int) := by rw [show (k : Int) + 7 = (b : Int) by omega]; exact i64_nat _ (by omega)
     have j3 : (b : Int).tdiv 8 = (q : Int) := by rw [← hq, ← hb]; exact tdiv_nat (k + 7) 8
     have j4 : IntKind.i64.wrap (q : Int) = (q : Int) := i64_nat _ (by omega)
     have j5 : IntKind.i64.wrap (1 + (q : Int)) = (c : Int) := by rw [show 1 + (q : Int) = (c : Int) by omega]; exact i64_nat _ (by omega)
     have e : ((k : Int) + 7) / 8 + 1 = (c : Int) := by omega
     rw [e]
     clear hb hc hq e
     go_enter Tryz.func65, Tryz.ntmps65
     go_wp2_with fail
     go_ret
     exact ⟨rfl, rfl⟩
theorem rcnt_at (a : Int) (cs : List Int) (v : Value) (x : Int) (w : World) (hv : RI w v cs) (ha : (Lit.int .i64 a).wf = true) (hx : wrN cs a = x) : Calls Tryz.prog 108 #[.int .i64 a, v] w fun e w' => e = .returned (.int .i64 x) ∧ w = w' := by
 obtain ⟨a1, a2⟩ := i64_wf ha
 subst hx
 have hv' := hv
 obtain ⟨p, c, rfl, _, hc, _⟩ := hv'
 unfold maxLen at hc
 by_cases h1 : a < 0
 · rw [wrN, if_pos h1]
   clear hv hc ha a1
   go_enter Tryz.func108, Tryz.ntmps108
   go_wp2_with fail
   go_ret
   exact ⟨rfl, rfl⟩
 · rw [wrN, if_neg h1]
   obtain ⟨k, rfl⟩ : ∃ k : Nat, a = k := ⟨a.toNat, by omega⟩
   obtain ⟨q, hq⟩ : ∃ q, k / 32 = q := ⟨_, rfl⟩
   have j3 : (k : Int).tdiv 32 = (q : Int) := by rw [← hq]; exact tdiv_nat k 32
   have j4 : IntKind.i64.wrap (q : Int) = (q : Int) := i64_nat _ (by omega)
   have e : ((k : Int) / 32).toNat = q := by omega
   rw [e]
   by_cases h2 : q < cs.length
   · obtain ⟨b, off, rfl, _, hr⟩ := ri_some hv (by omega)
     have c1 := hr q h2
     have h3 : ¬ (q : Int) ≥ (cs.length : Int) := by omega
     have h4 : ¬ (cs.length : Int) ≤ (q : Int) := by omega
     have h5 : ¬ (q : Int) < 0 := by omega
     have h6 : (q : Int) < (cs.length : Int) := by omega
     generalize cs.getD q 0 = y at *
     generalize cs.length = L at *
     clear hv hc ha hr hq e a1 a2
     go_enter Tryz.func108, Tryz.ntmps108
     go_wp2_with fail
     go_ret
     exact ⟨rfl, rfl⟩
   · have h3 : (q : Int) ≥ (cs.length : Int) := by omega
     have e0 : cs.getD q 0 = 0 := by rw [List.getD_eq_getElem?_getD, List.getElem?_eq_none (by omega)]; rfl
     rw [e0]
     generalize cs.length = L at *
     clear hv hc ha hq e e0 a1 a2
     go_enter Tryz.func108, Tryz.ntmps108
     go_wp2_with fail
     go_ret
     exact ⟨rfl, rfl⟩
theorem rcnt_q {cs : List Int} {v : Value} {w : World} (hv : RI w v cs) : ∀ n a x, (Lit.int .i64 a).wf = true → wrN cs a = x → Calls Tryz.prog 108 #[.int .i64 a, v] (w.drewN n) fun e w' => e = .returned (.int .i64 x) ∧ ∃ k, w' = (w.drewN n).drewN k :=
 fun n a x ha hx => (rcnt_at a cs v x _ (ri_below hv (below_drewN (Below.refl _ _) n)) ha hx).mono fun _ _ h => ⟨h.1, 0, h.2.symm⟩
theorem tgS_snoc (n : Int) (b : Bk) : ∀ (l : List Bk) (m : Int), tgS n m (l ++ [b]) = if fitB n b = true ∧ (tgS n m l = 0 ∨ b.s < tgS n m l) then b.s else tgS n m l
 | [], m => by rw [List.nil_append, tgS, tgS, tgS]
 | c :: r, m => by rw [List.cons_append, tgS, tgS_snoc n b r, tgS]
theorem plS_snoc (z : Int) (b : Bk) : ∀ (l : List Bk) (k : Nat), plS z k (l ++ [b]) = plS z k l ++ (if hasS z b = true then [k + l.length] else [])
 | [], k => by rw [List.nil_append, plS, plS, plS, List.nil_append]; rfl
 | c :: r, k => by
   rw [List.cons_append, plS, plS_snoc z b r, plS, List.length_cons, show k + 1 + r.length = k + (r.length + 1) by omega]
   split
   · rw [List.cons_append]
   · rfl
theorem plS_len (z : Int) : ∀ (l : List Bk) (k : Nat), (plS z k l).length ≤ l.length
 | [], k => by rw [plS]; exact Nat.le_refl _
 | b :: r, k => by
   have := plS_len z r (k + 1)
   rw [plS, List.length_cons]
   split
   · rw [List.length_cons]; omega
   · omega
theorem plS_nil {z : Int} {l : List Bk} (h : ∀ b ∈ l, hasS z b = false) : plS z 0 l = [] := by
 cases e : plS z 0 l with
 | nil => rfl
 | cons i r =>
   obtain ⟨_, h1, h2⟩ := plS_mem (l := l) (k := 0) (i := i) (by rw [e]; exact List.mem_cons_self ..)
   rw [h _ (getD_mem h1)] at h2
   cases h2
theorem fitN_ne {n : Int} {l : List Bk} (h : fitN n l ≠ []) : tgS n 0 l ≠ 0 ∧ 0 < (fitN n l).length ∧ (fitN n l).getD 0 0 < l.length ∧ (l.getD ((fitN n l).getD 0 0) default).s = tgS n 0 l := by
 have h0 : tgS n 0 l ≠ 0 := fun e => h (by rw [fitN, if_pos e])
 have hl : 0 < (fitN n l).length := List.length_pos_iff.2 h
 obtain ⟨g1, _, _, g4⟩ := fitN_mem (n := n) (l := l) (getD_mem_n hl)
 exact ⟨h0, hl, g1, g4⟩
theorem fitN_snoc_no {n : Int} {l : List Bk} {b : Bk} (h : fitB n b = false) : fitN n (l ++ [b]) = fitN n l := by
 have e : tgS n 0 (l ++ [b]) = tgS n 0 l := by rw [tgS_snoc, if_neg (by rw [h]; simp)]
 rw [fitN, fitN, e]
 split
 · rfl
 · rename_i h0
   obtain ⟨g, _, _⟩ := tgS_spec n l 0 (Int.le_refl _)
   rw [plS_snoc, if_neg, List.append_nil]
   intro hs
   obtain ⟨hu, hz⟩ := hasS_iff.1 hs
   rcases g with g | ⟨c, _, hc, ec⟩
   · exact h0 g
   · obtain ⟨_, q1, q2⟩ := fitB_iff.1 hc
     rw [fitB_iff.2 ⟨hu, q1, by omega⟩] at h
     cases h
theorem fitN_snoc_first {n : Int} {l : List Bk} {b : Bk} (h : fitB n b = true) (hl : tgS n 0 l = 0 ∨ b.s < tgS n 0 l) : fitN n (l ++ [b]) = [l.length] := by
 obtain ⟨hu, h1, h2⟩ := fitB_iff.1 h
 have e : tgS n 0 (l ++ [b]) = b.s := by rw [tgS_snoc, if_pos ⟨h, hl⟩]
 rw [fitN, e, if_neg (by omega), plS_snoc, if_pos (hasS_iff.2 ⟨hu, rfl⟩), plS_nil, List.nil_append, Nat.zero_add]
 intro c hc
 rw [Bool.eq_false_iff, Ne, hasS_iff]
 rintro ⟨cu, cs⟩
 obtain ⟨_, g, _⟩ := tgS_spec n l 0 (Int.le_refl _)
 have := g c hc (fitB_iff.2 ⟨cu, h1, by omega⟩)
 omega
theorem fitN_snoc_more {n : Int} {l : List Bk} {b : Bk} (h : fitB n b = true) (hl : tgS n 0 l ≠ 0) (hs : b.s = tgS n 0 l) : fitN n (l ++ [b]) = fitN n l ++ [l.length] := by
 obtain ⟨hu, h1, h2⟩ := fitB_iff.1 h
 have e : tgS n 0 (l ++ [b]) = tgS n 0 l := by rw [tgS_snoc, if_neg (by omega)]
 rw [fitN, fitN, e, if_neg hl, if_neg hl, plS_snoc, if_pos (hasS_iff.2 ⟨hu, hs⟩), Nat.zero_add]
theorem fitN_snoc_less {n : Int} {l : List Bk} {b : Bk} (hl : tgS n 0 l ≠ 0) (hs : tgS n 0 l < b.s) : fitN n (l ++ [b]) = fitN n l := by
 have e : tgS n 0 (l ++ [b]) = tgS n 0 l := by rw [tgS_snoc, if_neg (by omega)]
 rw [fitN, fitN, e, if_neg hl, if_neg hl, plS_snoc, if_neg, List.append_nil]
 rw [hasS_iff]
 omega
theorem take_snoc {l : List Bk} {k : Nat} (hk : k < l.length) : l.take (k + 1) = l.take k ++ [l.getD k default] := by
 rw [List.take_add_one, List.getElem?_eq_getElem hk, List.getD_eq_getElem?_getD, List.getElem?_eq_getElem hk]; rfl
structure Rg (n : Int) (l : List Bk) (w0 wr : World) (lv : Value) (k : Nat) : Prop where
 own : OwnI w0.heap.size wr lv (ins (fitN n (l.take k)))
 up : Below w0.heap.size w0 wr
theorem Rg.skip {n : Int} {l : List Bk} {w0 wr w' : World} {lv : Value} {k : Nat} (h : Rg n l w0 wr lv k) (hb : Below wr.heap.size wr w') (he : fitN n (l.take (k + 1)) = fitN n (l.take k)) : Rg n l w0 w' lv (k + 1) :=
 ⟨by rw [he]; exact own_below_i' h.own hb, below_more h.up hb⟩
theorem Rg.app {n : Int} {l : List Bk} {w0 W : World} {lv : Value} {k : Nat} {f : List Nat} (ho : OwnI w0.heap.size W lv (ins f)) (hf : f.length ≤ 1000) (hB : Below w0.heap.size w0 W) (he : fitN n (l.take (k + 1)) = f ++ [k]) :
 Hid ((ins f).length + 1 ≤ 1000000) ∧ OwnI w0.heap.size (W.alloc (.cells #[.int .i64 (k : Int)] 3)) lv (ins f) ∧ w0.heap.size ≤ (W.alloc (.cells #[.int .i64 (k : Int)] 3)).heap.size ∧
  ∀ v' w', OwnI w0.heap.size w' v' (ins f ++ [(k : Int)]) → (W.alloc (.cells #[.int .i64 (k : Int)] 3)).grownBy w' lv.ownBlock → Rg n l w0 w' v' (k + 1) :=
 ⟨Lib.hid (by rw [ins_length]; omega), World.ownsRow.alloc ho _, by rw [size_alloc]; exact Nat.le_succ_of_le hB.size, fun v' w' h1 h2 => ⟨by rw [he, ins_app]; exact h1, Below.grown (bal hB) h2 (by rw [size_alloc]; exact Nat.le_succ_of_le hB.size) (fun q hq => (World.ownsRow.lt ho q hq).1)⟩⟩
theorem rfits_is (n : Int) (l : List Bk) (v : Value) (w : World) (hv : RA blkE w v l) (hl : l.length ≤ 1000) :
 Calls Tryz.prog 95 #[v, .int .i64 n] w fun e w' => (∃ u, e = .returned u ∧ OwnI w.heap.size w' u (ins (fitN n l))) ∧ Below w.heap.size w w' := by
 obtain ⟨p, cap, rfl, hlc, hcm⟩ := ra_shape hv
 have HL := Lib.hid hl
 have HV := Lib.hid hv
 clear hcm hlc hv hl
 by_cases h2 : n < 2
 · have e0 : fitN n l = [] := fitN_none fun b _ => by rw [Bool.eq_false_iff, Ne, fitB_iff]; omega
   rw [e0]
   generalize l.length = L at *
   go_enter Tryz.func95, Tryz.ntmps95
   go_wp2_with fail
   go_ret
   exact ⟨⟨_, rfl, ownI_nil' _ _⟩, Below.refl _ _⟩
 · have HN2 : Hid (2 ≤ n) := Lib.hid (by omega)
   go_enter Tryz.func95, Tryz.ntmps95
   go_wp2
   go_loopw [5, 12] (fun y i wr => ∃ (k : Nat) (lv : Value), k ≤ l.length ∧ i = .int .i64 k ∧ y = lv ∧ Hid (Rg n l w wr lv k)) (fun _ i _ => l.length - (intOf i).toNat)
   case atStart => exact ⟨0, _, Nat.zero_le _, rfl, rfl, Lib.hid ⟨by rw [List.take_zero, fitN_none (fun b hb => by cases hb)]; exact ownI_nil' _ _, Below.refl _ _⟩⟩
   case round =>
    obtain ⟨k, lv, hk, rfl, rfl, H⟩ := hrel
    by_cases hlt : k < l.length
    · obtain ⟨b, off, rfl, hb, hx⟩ := blk_at (ra_below HV.out H.out.up) (by omega)
      obtain ⟨hld, _, _, _, hwf⟩ := hx k hlt
      have i0 : (0 : Int) ≤ (k : Int) := by omega
      have i1 : (k : Int) < (l.length : Int) := by omega
      have i2 : ¬ (k : Int) < 0 := by omega
      have i3 : IntKind.i64.wrap ((k : Int) + 1) = ((k + 1 : Nat) : Int) := by rw [show (k : Int) + 1 = ((k + 1 : Nat) : Int) by omega]; exact i64_nat _ (by have := HL.out; omega)
      have HK := Lib.hid hlt
      have HT := Lib.hid (take_snoc hlt)
      have HTL : Hid ((l.take k).length = k) := Lib.hid (by rw [List.length_take]; omega)
      have HC : Hid (∀ w', Below w.heap.size w w' → ∀ j, j < l.length → w'.cell? ⟨b, off + j * 3 + 1, none⟩ = some (.int .i64 (l.getD j default).s)) := Lib.hid fun w' hb j hj => by
       obtain ⟨_, _, e, _, hx'⟩ := blk_at (ra_below HV.out hb) (by omega)
       cases e
       exact (hx' j hj).2.2.1
      have HFL : Hid ((fitN n (l.take k)).length ≤ 1000) := Lib.hid (by
       unfold fitN
       split
       · simp
       · exact Nat.le_trans (plS_len _ _ _) (by rw [List.length_take]; have := HL.out; omega))
      generalize l.getD k default = y at *
      obtain ⟨a, s, u⟩ := y
      obtain ⟨W, hW, HW⟩ := blk_boxed wr ⟨a, s, u⟩
      have c1 : W.cell? ⟨wr.heap.size, 1, none⟩ = some (.int .i64 s) := HW.out.1.c1
      have c2 : W.cell? ⟨wr.heap.size, 2, none⟩ = some (.bool u) := HW.out.1.c2
      have HB := Lib.hid HW.out.2
      clear hx hk hb hwf
      have SKIP := Lib.hid (fun (h : fitN n (l.take (k + 1)) = fitN n (l.take k)) (w' : World) (hb : Below W.heap.size W w') => H.out.skip (below_more HB.out hb) h)
      cases u
      · by_cases h3 : s < n
        · have HN := Lib.hid (SKIP.out (by rw [HT.out]; exact fitN_snoc_no (by rw [Bool.eq_false_iff, Ne, fitB_iff]; simp only; omega)) W (Below.refl _ _))
          clear SKIP
          go_wp2
          go_roundw
          case rel => exact ⟨k + 1, _, by have := HK.out; omega, by go_num, rfl, HN⟩
          case measure => have := HK.out; simp [intOf]; omega
        · have HF : Hid (fitB n ⟨a, s, false⟩ = true) := Lib.hid (fitB_iff.2 ⟨rfl, HN2.out, by simp only; omega⟩)
          have HO := Lib.hid (own_below_i' H.out.own HB.out)
          have HU := Lib.hid (below_more H.out.up HB.out)
          by_cases hf0 : fitN n (l.take k) = []
          · have ht0 : tgS n 0 (l.take k) = 0 := by
             by_cases q : tgS n 0 (l.take k) = 0
             · exact q
             · exfalso
               obtain ⟨g, _, _⟩ := tgS_spec n (l.take k) 0 (Int.le_refl _)
               rcases g with g | ⟨c, hc, hcf, _⟩
               · exact q g
               · exact fitN_some hc hcf hf0
            have hfin : fitN n (l.take (k + 1)) = [] ++ [k] := by rw [HT.out, fitN_snoc_first HF.out (.inl ht0), HTL.out, List.nil_append]
            obtain ⟨q, cq, rfl⟩ := HO.out.shape
            rw [hf0] at HO ⊢
            have HFIN := Lib.hid hfin
            clear hf0 ht0 hfin SKIP HFL
            simp only [ins, List.map_nil, List.length_nil] at HO ⊢
            go_wp2_with fail
            go_quiet (fail)
            have hV1 : Below W.heap.size W (W.drewN nq) := below_drewN (Below.refl _ _) _
            generalize W.drewN nq = V1 at *
            have HV1 := Lib.hid hV1
            clear hV1
            go_wp2_with fail
            go_quiet (fail)
            have hV2 : Below W.heap.size W (V1.drewN nq) := below_drewN HV1.out _
            generalize V1.drewN nq = V2 at *
            obtain ⟨hlen, o1, hB, hmore⟩ := Rg.app (f := []) (n := n) (l := l) (w0 := w) (W := V2) (k := k) (own_below_i' HO.out hV2) (by simp) (below_more HU.out hV2) HFIN.out
            have O1 := Lib.hid o1
            have HB1 := Lib.hid hB
            have HM := Lib.hid hmore
            clear o1 hB hmore hV2
            simp only [ins, List.map_nil] at O1 HM hlen
            go_wp2_with (at_builtin; refine list_app_int (o := ⟨some 58, _, _, _, _, _⟩) rfl (.tmp 55) (.tmp 57) rfl w.heap.size _ [] rfl O1.out _ [(k : Int)] rfl (ri_one _ _) hlen.out HB1.out ?_; intro v1 w2 hown hg _)
            have HN := Lib.hid (HM.out _ _ hown hg)
            clear hown hg
            go_wp2
            go_roundw
            case rel => exact ⟨k + 1, _, by have := HK.out; omega, by go_num, rfl, HN⟩
            case measure => have := HK.out; simp [intOf]; omega
          · obtain ⟨ht0, hl0, hfk, hfs⟩ := fitN_ne hf0
            rw [HTL.out] at hfk
            obtain ⟨q, cq, rfl⟩ := HO.out.shape
            have HR := Lib.hid HO.out.ri
            rw [ins_length] at HO HR ⊢
            obtain ⟨bq, oq, rfl, _, _⟩ := ri_some HR.out (by rw [ins_length]; omega)
            have hfl : (fitN n (l.take k)).getD 0 0 < l.length := by have := HK.out; omega
            have hfs2 : (l.getD ((fitN n (l.take k)).getD 0 0) default).s = tgS n 0 (l.take k) := by
             rw [← hfs]
             rw [List.getD_eq_getElem?_getD, List.getD_eq_getElem?_getD (l := l.take k), List.getElem?_take_of_lt hfk]
            have HC2 : Hid (∀ w', Below W.heap.size W w' → w'.cell? ⟨bq, oq, none⟩ = some (.int .i64 ((fitN n (l.take k)).getD 0 0 : Nat)) ∧ w'.cell? ⟨b, off + (fitN n (l.take k)).getD 0 0 * 3 + 1, none⟩ = some (.int .i64 (tgS n 0 (l.take k))) ∧ w'.cell? ⟨wr.heap.size, 1, none⟩ = some (.int .i64 s)) := Lib.hid fun w' hb => by
             obtain ⟨_, _, e, _, hfr⟩ := ri_some (ri_below HR.out hb) (by rw [ins_length]; omega)
             cases e
             have cf1 := hfr 0 (by rw [ins_length]; exact hl0)
             rw [ins_getD hl0, Nat.add_zero] at cf1
             have cf2 := HC.out w' (below_more HU.out hb) _ hfl
             rw [hfs2] at cf2
             exact ⟨cf1, cf2, (HW.out.1.below hb).c1⟩
            have FIRST := Lib.hid (fun (h : s < tgS n 0 (l.take k)) => show fitN n (l.take (k + 1)) = [] ++ [k] by rw [HT.out, fitN_snoc_first HF.out (.inr h), HTL.out, List.nil_append])
            have MORE := Lib.hid (fun (h : s = tgS n 0 (l.take k)) => show fitN n (l.take (k + 1)) = fitN n (l.take k) ++ [k] by rw [HT.out, fitN_snoc_more HF.out ht0 h, HTL.out])
            have LESS := Lib.hid (fun (h : tgS n 0 (l.take k) < s) => show fitN n (l.take (k + 1)) = fitN n (l.take k) by rw [HT.out, fitN_snoc_less ht0 h])
            have g1 : decide (((fitN n (l.take k)).length : Int) > 0) = true := decide_eq_true (by omega)
            have g2 : (((fitN n (l.take k)).length : Int) == 0) = false := beq_eq_false_iff_ne.2 (by omega)
            have q1 : (((fitN n (l.take k)).getD 0 0 : Nat) : Int) < (l.length : Int) := by omega
            have q2 : ¬ (((fitN n (l.take k)).getD 0 0 : Nat) : Int) < 0 := by omega
            have q3 : (0 : Int) ≤ (((fitN n (l.take k)).getD 0 0 : Nat) : Int) := by omega
            have q4 : 0 < (fitN n (l.take k)).length := hl0
            clear hfs hfs2 hfl hfk ht0 hl0 hf0
            generalize tgS n 0 (l.take k) = m at *
            generalize fitN n (l.take k) = f at *
            generalize f.getD 0 0 = I at *
            have HFF := Lib.hid (show f.length ≤ 1000 from HFL.out)
            obtain ⟨F, hF⟩ : ∃ F, f.length = F := ⟨_, rfl⟩
            rw [hF] at g1 g2 q4 HO ⊢
            obtain ⟨k1, k2, k3⟩ := HC2.out W (Below.refl _ _)
            by_cases c1' : m > s
            · have d1 : decide (m > s) = true := decide_eq_true c1'
              have HFIN := Lib.hid (FIRST.out c1')
              clear FIRST MORE LESS SKIP c1'
              go_wp2_with fail
              go_quiet (fail)
              have hV1 : Below W.heap.size W (W.drewN nq) := below_drewN (Below.refl _ _) _
              generalize W.drewN nq = V1 at *
              have HV1 := Lib.hid hV1
              clear hV1
              go_wp2_with fail
              go_quiet (fail)
              have hV2 : Below W.heap.size W (V1.drewN nq) := below_drewN HV1.out _
              generalize V1.drewN nq = V2 at *
              obtain ⟨hlen, o1, hB, hmore⟩ := Rg.app (f := []) (n := n) (l := l) (w0 := w) (W := V2) (k := k) (ownI_nil' _ _) (by simp) (below_more HU.out hV2) HFIN.out
              have O1 := Lib.hid o1
              have HB1 := Lib.hid hB
              have HM := Lib.hid hmore
              clear o1 hB hmore hV2
              simp only [ins, List.map_nil] at O1 HM hlen
              go_wp2_with (at_builtin; refine list_app_int (o := ⟨some 58, _, _, _, _, _⟩) rfl (.tmp 55) (.tmp 57) rfl w.heap.size _ [] rfl O1.out _ [(k : Int)] rfl (ri_one _ _) hlen.out HB1.out ?_; intro v1 w2 hown hg _)
              have HN := Lib.hid (HM.out _ _ hown hg)
              clear hown hg
              go_wp2
              go_roundw
              case rel => exact ⟨k + 1, _, by have := HK.out; omega, by go_num, rfl, HN⟩
              case measure => have := HK.out; simp [intOf]; omega
            · have d1 : decide (m > s) = false := decide_eq_false c1'
              have BV1 : Hid (∀ n, Below W.heap.size W (W.drewN n)) := Lib.hid fun n => below_drewN (Below.refl _ _) n
              by_cases c2' : m = s
              · have d2 : (m == s) = true := by rw [c2']; simp
                have HFIN := Lib.hid (MORE.out c2'.symm)
                clear FIRST MORE LESS SKIP c1' c2'
                go_wp2_with fail
                go_quiet (fail)
                have hV1 := BV1.out nq
                generalize W.drewN nq = V1 at *
                have HV1 := Lib.hid hV1
                obtain ⟨k4, k5, k6⟩ := HC2.out V1 HV1.out
                clear hV1 k1 k2 k3
                go_wp2_with fail
                go_quiet (fail)
                have hV2 : Below W.heap.size W (V1.drewN nq) := below_drewN HV1.out _
                generalize V1.drewN nq = V2 at *
                obtain ⟨hlen, o1, hB, hmore⟩ := Rg.app (f := f) (n := n) (l := l) (w0 := w) (W := V2) (k := k) (own_below_i' HO.out hV2) HFF.out (below_more HU.out hV2) HFIN.out
                have O1 := Lib.hid o1
                have HB1 := Lib.hid hB
                have HM := Lib.hid hmore
                clear o1 hB hmore hV2
                go_wp2_with (at_builtin; refine list_app_int (o := ⟨some 58, _, _, _, _, _⟩) rfl (.tmp 55) (.tmp 57) rfl w.heap.size _ (ins f) rfl O1.out _ [(k : Int)] rfl (ri_one _ _) hlen.out HB1.out ?_; intro v1 w2 hown hg _)
                have HN := Lib.hid (HM.out _ _ hown hg)
                clear hown hg
                go_wp2
                go_roundw
                case rel => exact ⟨k + 1, _, by have := HK.out; omega, by go_num, rfl, HN⟩
                case measure => have := HK.out; simp [intOf]; omega
              · have d2 : (m == s) = false := beq_eq_false_iff_ne.2 c2'
                have HFIN := Lib.hid (LESS.out (by omega))
                clear FIRST MORE LESS c1' c2'
                go_wp2_with fail
                go_quiet (fail)
                have hV1 := BV1.out nq
                generalize W.drewN nq = V1 at *
                have HV1 := Lib.hid hV1
                obtain ⟨k4, k5, k6⟩ := HC2.out V1 HV1.out
                clear hV1 k1 k2 k3
                go_wp2_with fail
                go_quiet (fail)
                have hV2 : Below W.heap.size W (V1.drewN nq) := below_drewN HV1.out _
                generalize V1.drewN nq = V2 at *
                have HN := Lib.hid (SKIP.out HFIN.out V2 hV2)
                rw [ins_length, hF] at HN
                clear hV2 SKIP
                go_wp2
                go_roundw
                case rel => exact ⟨k + 1, _, by have := HK.out; omega, by go_num, rfl, HN⟩
                case measure => have := HK.out; simp [intOf]; omega
      · have HN := Lib.hid (SKIP.out (by rw [HT.out]; exact fitN_snoc_no (by simp [fitB])) W (Below.refl _ _))
        clear SKIP
        go_wp2
        go_roundw
        case rel => exact ⟨k + 1, _, by have := HK.out; omega, by go_num, rfl, HN⟩
        case measure => have := HK.out; simp [intOf]; omega
    · obtain rfl : k = l.length := by omega
      have h1 := H.out.own
      rw [List.take_length] at h1
      have HO := Lib.hid h1
      have HB := Lib.hid H.out.up
      clear h1
      go_wp2
      go_ret
      exact ⟨⟨_, rfl, HO.out⟩, HB.out⟩
theorem rchoose_is (n : Int) (cs : List Int) (l : List Bk) (v u : Value) (R : Option Nat) (w : World) (hv : RA blkE w v l) (hu : RI w u cs) (hl : l.length ≤ 1000) (hR : chN n cs l = R) :
 Calls Tryz.prog 67 #[v, .int .i64 n, u] w fun e w' => e = .returned (.int .i64 (oi R)) ∧ Below w.heap.size w w' := by
 have T := Lib.hid (rfits_is n l v w hv hl)
 have hm : ∀ i ∈ fitN n l, i < l.length := fun i hi => (fitN_mem hi).1
 rw [chN] at hR
 generalize fitN n l = F at *
 obtain ⟨p, cap, rfl, hlc, hcm⟩ := ra_shape hv
 obtain ⟨pu, cu, rfl, _, _, _⟩ := id hu
 have HL := Lib.hid hl
 have HV := Lib.hid hv
 have HU := Lib.hid hu
 have HR := Lib.hid hR
 have HM := Lib.hid hm
 clear hcm hlc hv hu hl hR hm
 go_enter Tryz.func67, Tryz.ntmps67
 go_wp2_with fail
 refine (T.out).mono ?_; rintro e w1 ⟨⟨v1, rfl, o1⟩, b1⟩
 have D1 := Lib.hid b1
 have HV1 := Lib.hid (ra_below HV.out b1)
 have HU1 := Lib.hid (ri_below HU.out b1)
 have HF1 := Lib.hid o1.ri
 have HFL : Hid (F.length ≤ 9223372036854775807) := Lib.hid (by
  obtain ⟨_, _, _, h1, h2, _⟩ := o1.ri
  rw [ins_length] at h1
  unfold maxLen at h2
  omega)
 obtain ⟨pf, cf, rfl⟩ := o1.shape
 clear b1 o1 T HV HU
 rw [ins_length] at HF1 ⊢
 go_wp2
 go_loopw [7, 14] (fun y i wr => ∃ (k : Nat) (o : Option Nat), k ≤ F.length ∧ i = .int .i64 k ∧ y = .int .i64 (oi o) ∧ Hid (Chs cs l F R k o ∧ Below w1.heap.size w1 wr)) (fun _ i _ => F.length - (intOf i).toNat)
 case atStart => exact ⟨0, none, Nat.zero_le _, rfl, rfl, Lib.hid ⟨⟨HR.out, fun _ e => by cases e⟩, Below.refl _ _⟩⟩
 case round =>
  obtain ⟨k, o, hk, rfl, rfl, H⟩ := hrel
  by_cases hlt : k < F.length
  · obtain ⟨bf, of, rfl, _, hfr⟩ := ri_some (ri_below HF1.out H.out.2) (by rw [ins_length]; omega)
    have cf1 := hfr k (by rw [ins_length]; exact hlt)
    rw [ins_getD hlt] at cf1
    have hi := HM.out _ (getD_mem_n hlt)
    have i0 : (0 : Int) ≤ (k : Int) := by omega
    have i1 : (k : Int) < (F.length : Int) := by omega
    have i2 : ¬ (k : Int) < 0 := by omega
    have i3 : IntKind.i64.wrap ((k : Int) + 1) = ((k + 1 : Nat) : Int) := by rw [show (k : Int) + 1 = ((k + 1 : Nat) : Int) by omega]; exact i64_nat _ (by have := HFL.out; omega)
    have HK := Lib.hid hlt
    cases o with
    | none =>
      have HN := Lib.hid (H.out.1.first hlt HM.out)
      have HB := Lib.hid H.out.2
      simp only [oi]
      obtain ⟨y, hy, hy2⟩ : ∃ y : Int, (-1 : Int) = y ∧ decide (y < 0) = true := ⟨-1, rfl, rfl⟩
      rw [hy]
      generalize F.getD k 0 = I at *
      clear hfr hk hy
      go_wp2_with fail
      go_quiet (fail)
      go_wp2
      go_roundw
      case rel => exact ⟨k + 1, some I, by have := HK.out; omega, by go_num, rfl, Lib.hid ⟨HN.out, below_drewN HB.out _⟩⟩
      case measure => have := HK.out; simp [intOf]; omega
    | some c =>
      have hc := H.out.1.2 c rfl
      obtain ⟨r, hr⟩ : ∃ r, ahd cs (atL l (F.getD k 0)) (atL l c) = r := ⟨_, rfl⟩
      obtain ⟨b, off, rfl, _, hx⟩ := blk_at (ra_below HV1.out H.out.2) (by omega)
      obtain ⟨_, ci, _, _, wi⟩ := hx _ hi
      obtain ⟨_, cc, _, _, wc⟩ := hx _ hc
      have wi := wi.wa
      have wc := wc.wa
      have C := Lib.hid (rcnt_q (ri_below HU1.out H.out.2))
      have HN : Hid (Chs cs l F R (k + 1) (if r = true then some (F.getD k 0) else some c)) := Lib.hid (by
       cases r
       · exact H.out.1.stay hlt hr
       · exact H.out.1.turn hlt HM.out hr)
      have HB := Lib.hid H.out.2
      have q0 : (c : Int) < (l.length : Int) := by omega
      have q1 : ((F.getD k 0 : Nat) : Int) < (l.length : Int) := by omega
      have q2 : ¬ (c : Int) < 0 := by omega
      have q3 : ¬ ((F.getD k 0 : Nat) : Int) < 0 := by omega
      have q4 : (0 : Int) ≤ (c : Int) := by omega
      have q5 : (0 : Int) ≤ ((F.getD k 0 : Nat) : Int) := by omega
      have q6 : decide ((c : Int) < 0) = false := decide_eq_false q2
      simp only [oi, atL] at hr ⊢
      obtain ⟨x, hx1⟩ : ∃ x, wrN cs (l.getD (F.getD k 0) default).a = x := ⟨_, rfl⟩
      obtain ⟨y, hy1⟩ : ∃ y, wrN cs (l.getD c default).a = y := ⟨_, rfl⟩
      rw [ahd, hx1, hy1] at hr
      generalize F.getD k 0 = I at *
      generalize l.getD I default = X at *
      generalize l.getD c default = Y at *
      generalize l.length = L at *
      obtain ⟨a, s, u⟩ := X
      obtain ⟨a', s', u'⟩ := Y
      simp only at hr hx1 hy1 ci cc wi wc
      clear hfr hk hx H HV1 HU1 hi hc
      by_cases h1 : x < y
      · rw [if_neg (by omega), decide_eq_true h1] at hr
        subst hr
        have t1 : decide (x < y) = true := decide_eq_true h1
        clear h1
        go_wp2_with fail
        go_quiet (refine Calls.quiet_of (C.out _ _ _ (by assumption) (by assumption)))
        go_wp2
        go_roundw
        case rel => exact ⟨k + 1, some I, by have := HK.out; omega, by go_num, rfl, Lib.hid ⟨HN.out, below_drewN HB.out _⟩⟩
        case measure => have := HK.out; simp [intOf]; omega
      · have t1 : decide (x < y) = false := decide_eq_false h1
        by_cases h2 : x = y
        · rw [if_pos h2] at hr
          have t2 : (x == y) = true := by rw [h2]; simp
          clear h1 h2
          by_cases h3 : a < a'
          · have t3 : decide (a < a') = true := decide_eq_true h3
            rw [t3] at hr
            subst hr
            clear h3
            go_wp2_with fail
            go_quiet (refine Calls.quiet_of (C.out _ _ _ (by assumption) (by assumption)))
            go_wp2
            go_roundw
            case rel => exact ⟨k + 1, some I, by have := HK.out; omega, by go_num, rfl, Lib.hid ⟨HN.out, below_drewN HB.out _⟩⟩
            case measure => have := HK.out; simp [intOf]; omega
          · have t3 : decide (a < a') = false := decide_eq_false h3
            rw [t3] at hr
            subst hr
            clear h3
            go_wp2_with fail
            go_quiet (refine Calls.quiet_of (C.out _ _ _ (by assumption) (by assumption)))
            go_wp2
            go_roundw
            case rel => exact ⟨k + 1, some c, by have := HK.out; omega, by go_num, rfl, Lib.hid ⟨HN.out, below_drewN HB.out _⟩⟩
            case measure => have := HK.out; simp [intOf]; omega
        · rw [if_neg h2, t1] at hr
          subst hr
          have t2 : (x == y) = false := beq_eq_false_iff_ne.2 h2
          clear h1 h2
          go_wp2_with fail
          go_quiet (refine Calls.quiet_of (C.out _ _ _ (by assumption) (by assumption)))
          go_wp2
          go_roundw
          case rel => exact ⟨k + 1, some c, by have := HK.out; omega, by go_num, rfl, Lib.hid ⟨HN.out, below_drewN HB.out _⟩⟩
          case measure => have := HK.out; simp [intOf]; omega
  · obtain rfl : k = F.length := by omega
    obtain ⟨h1, _⟩ := H.out.1
    rw [List.drop_length, chO] at h1
    subst h1
    have HB := Lib.hid (below_more D1.out H.out.2)
    go_wp2
    go_ret
    exact ⟨rfl, HB.out⟩
def fbl (n : Int) (l : List Bk) : List Bk := (fitN n l).map fun i => l.getD i default
def fos (n : Int) (l : List Bk) : List Int := (fbl n l).map fun b => offB b.a

def alQ (N : Int) (l : List Bk) (o : Int) : Option Nat := (fitN N l).find? fun d => decide (offB (l.getD d default).a = o)
def alW (wl : List Int) (N : Int) (l : List Bk) (o : Int) : List Int := match alQ N l o with
 | none => wl
 | some d => appF wl (cedF l d N)
def alB (N : Int) (l : List Bk) (o : Int) : List Bk := match alQ N l o with
 | none => l
 | some d => crvF l d N
def srQ (l : List Bk) (o : Int) : Int := if o ≠ 0 ∧ isN o l = none then 1 else 0
def feQ (l : List Bk) (o r : Int) : Int := match isN o l with
 | none => 1
 | some _ => if o = r then 5 else 0
def feW (wl : List Int) (l : List Bk) (o r : Int) : List Int := match isN o l with
 | none => wl
 | some k => if o = r then wl else appF wl [medF l k]
def feB (l : List Bk) (o r : Int) : List Bk := match isN o l with
 | none => l
 | some k => if o = r then l else mrgF l k
def hoQ (l : List Bk) (o n : Int) : Option Nat := if 0 ≤ n ∧ n ≤ 448 then ixF (inO o n) 0 (usd l) else none

section
variable {ops : Array Oper} {o : Oper} {a : Act} {w : World} {Q : Exit → Act → World → Prop} {K : Act → World → Prop}
theorem step_blk {F : Prop} (hgd : o.guard = none) (s x : Operand) (ho : o.op = .call { callee := .builtin .append, args := #[s, x], argTypes := #[86, 86] }) (B : Nat) (v : Value) (l : List Bk) (hs : a.eval s = v) (hown : OwnA blkE B w v l)
 (u : Value) (r : List Bk) (hx : a.eval x = u) (hr : RA blkE w u r) (hlen : Hid (l.length + r.length ≤ 2000)) (hB : B ≤ w.heap.size)
 (h : ∀ v' w', OwnA blkE B w' v' (l ++ r) → w.grownBy w' v.ownBlock → (v'.ownBlock = v.ownBlock ∨ v'.ownBlock = some w.heap.size) → K (a.put o.dst v') w') : if Region.wanted o (yielded ops a.tmps) = true then o.wp Tryz.prog a w K Q else F :=
 step_app blkE hgd s x ho B v l hs hown u r hx hr (by have := hlen.out; show _ * 24 ≤ _; omega) hB h
end
theorem rcarved_no (l : List Bk) (i n : Int) (v : Value) (w : World) (hv : RA blkE w v l) (hl : l.length ≤ 1000) (h : canC l i n = false) :
 Calls Tryz.prog 109 #[v, .int .i64 i, .int .i64 n] w fun e w' => e = .returned (.tuple #[.slice none 0 0, .bool false]) ∧ Below w.heap.size w w' := by
 have C1 := Lib.hid (rsizes_is l v w hv hl)
 have C2 := Lib.hid (fun (w' : World) (hb : Below w.heap.size w w') => rmay_is (szR l) l v (mayS l) w' (ra_below hv hb) hl (may_szR l))
 have H0 := Lib.hid (fun (w' : World) (hb : Below w.heap.size w w') => ra_below hv hb)
 obtain ⟨p, cap, rfl, hlc, hcm⟩ := ra_shape hv
 generalize szR l = z at *
 cases hm : mayS l
 · rw [hm] at C2
   generalize l.length = L at *
   clear hv hl h hlc hcm
   go_enter Tryz.func109, Tryz.ntmps109
   go_wp2_with fail
   refine (C1.out).mono ?_; rintro e w1 ⟨rfl, b1⟩
   have D1 := Lib.hid b1
   go_wp2_with fail
   refine (C2.out w1 D1.out).mono ?_; rintro e w2 ⟨rfl, b2⟩
   have D2 := Lib.hid (below_more D1.out b2)
   clear b1 b2
   go_wp2_with fail
   go_ret2
   exact ⟨rfl, D2.out⟩
 rw [hm] at C2
 rcases canC_no h with h | h | h | ⟨h0, h1, h⟩
 · rw [h] at hm
   cases hm
 · generalize l.length = L at *
   clear hv hl hm hlc hcm
   go_enter Tryz.func109, Tryz.ntmps109
   go_wp2_with fail
   refine (C1.out).mono ?_; rintro e w1 ⟨rfl, b1⟩
   have D1 := Lib.hid b1
   go_wp2_with fail
   refine (C2.out w1 D1.out).mono ?_; rintro e w2 ⟨rfl, b2⟩
   have D2 := Lib.hid (below_more D1.out b2)
   clear b1 b2
   go_wp2_with fail
   go_ret2
   exact ⟨rfl, D2.out⟩
 · have h2 : ¬ i < 0 := by omega
   have h3 : i ≥ (l.length : Int) := h
   generalize l.length = L at *
   clear hv hl hm hlc hcm h
   go_enter Tryz.func109, Tryz.ntmps109
   go_wp2_with fail
   refine (C1.out).mono ?_; rintro e w1 ⟨rfl, b1⟩
   have D1 := Lib.hid b1
   go_wp2_with fail
   refine (C2.out w1 D1.out).mono ?_; rintro e w2 ⟨rfl, b2⟩
   have D2 := Lib.hid (below_more D1.out b2)
   clear b1 b2
   go_wp2_with fail
   go_ret2
   exact ⟨rfl, D2.out⟩
 · obtain ⟨k, rfl⟩ : ∃ k : Nat, i = k := ⟨i.toNat, by omega⟩
   have h2 : ¬ (k : Int) < 0 := by omega
   have h3 : ¬ (k : Int) ≥ (l.length : Int) := by omega
   have h4 : ¬ (l.length : Int) ≤ (k : Int) := by omega
   have hk : k < l.length := by omega
   have HX := Lib.hid (fun (w' : World) (hb : Below w.heap.size w w') => blk_at (H0.out w' hb) (Nat.lt_of_le_of_lt (Nat.zero_le _) hk))
   have hwf := (ra_ok hv).at_ hk
   have HK := Lib.hid hk
   have hB : bAt l (k : Int) = l.getD k default := by rw [bAt, Int.toNat_natCast]
   rw [hB] at h
   obtain ⟨⟨a, s, u⟩, hb⟩ : ∃ c, l.getD k default = c := ⟨_, rfl⟩
   rw [hb] at h hwf
   simp only at h
   have HB := Lib.hid hb
   have HW := Lib.hid hwf
   clear hv hl hm hlc hcm hk h0 hB hb hwf
   go_enter Tryz.func109, Tryz.ntmps109
   go_wp2_with fail
   refine (C1.out).mono ?_; rintro e w1 ⟨rfl, b1⟩
   have D1 := Lib.hid b1
   go_wp2_with fail
   refine (C2.out w1 D1.out).mono ?_; rintro e w2 ⟨rfl, b2⟩
   have D2 := Lib.hid (below_more D1.out b2)
   clear b1 b2
   obtain ⟨b, off, rfl, _, hx⟩ := HX.out w2 D2.out
   obtain ⟨hld, _, hs, hu, _⟩ := hx k HK.out
   rw [HB.out] at hld hu hs
   have hu : w2.cell? ⟨b, off + k * 3 + 2, none⟩ = some (.bool u) := hu
   have hs : w2.cell? ⟨b, off + k * 3 + 1, none⟩ = some (.int .i64 s) := hs
   clear hx
   cases u with
   | true =>
     clear h
     generalize l.length = L at *
     go_wp2_with fail
     go_ret2
     exact ⟨rfl, D2.out⟩
   | false =>
     have h : takN s n = 0 := by
      rcases h with h | h
      · cases h
      · exact h
     have C3 := Lib.hid (rtakes_is s n 0 HW.out.ws h w2)
     clear h
     generalize l.length = L at *
     go_wp2_with fail
     refine (C3.out).mono ?_; rintro e w' ⟨rfl, rfl⟩
     go_wp2_with fail
     go_ret2
     exact ⟨rfl, D2.out⟩
theorem rcarved_yes (l : List Bk) (i n : Int) (v : Value) (w : World) (hv : RA blkE w v l) (hl : l.length ≤ 1000) (h : canC l i n = true) :
 Calls Tryz.prog 109 #[v, .int .i64 i, .int .i64 n] w fun e w' => (∃ u, e = .returned (.tuple #[u, .bool true]) ∧ OwnA blkE w.heap.size w' u (crvF l i n)) ∧ Below w.heap.size w w' := by
 have C1 := Lib.hid (rsizes_is l v w hv hl)
 have C2 := Lib.hid (fun (w' : World) (hb : Below w.heap.size w w') => rmay_is (szR l) l v (mayS l) w' (ra_below hv hb) hl (may_szR l))
 have H0 := Lib.hid (fun (w' : World) (hb : Below w.heap.size w w') => ra_below hv hb)
 obtain ⟨p, cap, rfl, hlc, hcm⟩ := ra_shape hv
 obtain ⟨hm, h0, h1, hu, ht⟩ := canC_yes.1 h
 have hz := mayF_sizes (mayL_yes.1 hm).2 _ (bAt_mem h0 h1)
 have hz2 := (mayL_yes.1 hm).1
 rw [hm] at C2
 generalize szR l = z at *
 obtain ⟨k, rfl⟩ : ∃ k : Nat, i = k := ⟨i.toNat, by omega⟩
 have hc : crvF l k n = l.take k ++ (prtB (bAt l k) n ++ l.drop (k + 1)) := by rw [crvF, if_pos h, Int.toNat_natCast]
 rw [hc]
 have hk : k < l.length := by omega
 have hB : bAt l (k : Int) = l.getD k default := by rw [bAt, Int.toNat_natCast]
 have hwf := (ra_ok hv).at_ hk
 rw [hB] at hu ht hz ⊢
 obtain ⟨⟨a, s, u⟩, hb⟩ : ∃ c, l.getD k default = c := ⟨_, rfl⟩
 rw [hb] at hu ht hwf hz ⊢
 simp only at hu ht hz
 subst hu
 obtain ⟨b, off, rfl, _, _⟩ := blk_at hv (by omega)
 have HX : Hid (∀ w', Below w.heap.size w w' → w'.cell? ⟨b, off + k * 3, none⟩ = some (.int .i64 a) ∧ w'.cell? ⟨b, off + k * 3 + 1, none⟩ = some (.int .i64 s) ∧ w'.cell? ⟨b, off + k * 3 + 2, none⟩ = some (.bool false)) := Lib.hid fun w' hb' => by
  obtain ⟨_, _, e, _, hx⟩ := blk_at (H0.out w' hb') (by omega)
  cases e
  obtain ⟨_, x1, x2, x3, _⟩ := hx k hk
  rw [hb] at x1 x2 x3
  exact ⟨x1, x2, x3⟩
 obtain ⟨⟨s1, s2⟩, a1, a2⟩ := hz
 obtain ⟨q1, q2, q3⟩ := hz2
 obtain ⟨t, hte⟩ : ∃ t, takN s n = t := ⟨_, rfl⟩
 obtain ⟨t1, t2, t3, t4⟩ := takN_some ht
 rw [hte] at ht t2 t3 t4
 have HS : Hid (2 ≤ s ∧ s ≤ 512 ∧ 0 ≤ a ∧ a ≤ 512 ∧ 2 ≤ t ∧ t ≤ s) := Lib.hid ⟨s1, s2, a1, by omega, by omega, t3⟩
 have C3 := Lib.hid (fun w => rtakes_is s n t hwf.ws hte w)
 have n1 : (t == 0) = false := beq_eq_false_iff_ne.2 ht
 obtain ⟨K1, hK1⟩ : ∃ x, k + 1 = x := ⟨_, rfl⟩
 rw [hK1]
 have j1 : IntKind.i64.wrap ((k : Int) + 1) = (K1 : Int) := by rw [show (k : Int) + 1 = (K1 : Int) by omega]; exact i64_nat _ (by omega)
 have i1 : (K1 : Int) ≤ (l.length : Int) := by omega
 have i2 : (k : Int) ≤ (cap : Int) := by omega
 have i3 : (K1 : Int) ≤ (cap : Int) := by omega
 have i4 : ¬ cap = 0 := by omega
 have h2 : ¬ (k : Int) < 0 := by omega
 have h3 : ¬ (k : Int) ≥ (l.length : Int) := by omega
 have h4 : ¬ (l.length : Int) ≤ (k : Int) := by omega
 obtain ⟨q, hq⟩ : ∃ q : Addr, q = if cap = K1 then ⟨b, off, none⟩ else ⟨b, off + K1 * 3, none⟩ := ⟨_, rfl⟩
 have HP : Hid (∀ w', Below w.heap.size w w' → RA blkE w' (.slice (some ⟨b, off, none⟩) k cap) (l.take k) ∧ RA blkE w' (.slice (some q) (l.length - K1) (cap - K1)) (l.drop K1)) := Lib.hid fun w' hb => by
  unfold maxLen at hcm
  refine ⟨?_, ?_⟩
  · have := ra_take (H0.out w' hb) k
    rwa [Nat.min_eq_left (by omega)] at this
  · by_cases hlt : K1 < l.length
    · have := ra_drop (H0.out w' hb) hlt
      rw [if_neg (by omega)] at hq
      rw [hq]; exact this
    · rw [List.drop_eq_nil_of_le (by omega), show l.length - K1 = 0 by omega]
      exact ⟨_, _, rfl, Nat.zero_le _, by unfold maxLen; omega, (fun _ h => by cases h), .inl rfl⟩
 have N1 : Hid (([] : List Bk).length + (l.take k).length ≤ 2000) := Lib.hid (by rw [List.length_take]; simp; omega)
 have N2 : Hid (([] ++ l.take k).length + [(⟨a, t, true⟩ : Bk)].length ≤ 2000) := Lib.hid (by rw [List.nil_append, List.length_take]; simp; omega)
 have N3 : Hid ((([] ++ l.take k) ++ [(⟨a, t, true⟩ : Bk)]).length + [(⟨a + t, s - t, false⟩ : Bk)].length ≤ 2000) := Lib.hid (by rw [List.nil_append, List.length_append, List.length_take]; simp; omega)
 have N4 : Hid ((([] ++ l.take k) ++ [(⟨a, t, true⟩ : Bk)]).length + (l.drop K1).length ≤ 2000) := Lib.hid (by rw [List.nil_append, List.length_append, List.length_take, List.length_drop]; simp; omega)
 have N5 : Hid (((([] ++ l.take k) ++ [(⟨a, t, true⟩ : Bk)]) ++ [(⟨a + t, s - t, false⟩ : Bk)]).length + (l.drop K1).length ≤ 2000) := Lib.hid (by rw [List.nil_append, List.length_append, List.length_append, List.length_take, List.length_drop]; simp; omega)
 have R1 : Hid (∀ w1 : World, RA blkE (w1.alloc (.cells (bc ⟨a, t, true⟩) 92)) (.slice (some ⟨w1.heap.size, 0, none⟩) 1 1) [⟨a, t, true⟩]) := Lib.hid fun w1 => (blk_one w1 (c := ⟨a, t, true⟩) (Bk.wf_of (by have := HS.out; simp only; omega) (by have := HS.out; simp only; omega) (by have := HS.out; simp only; omega) (by have := HS.out; simp only; omega))).ra
 have R2 : Hid (∀ w1 : World, RA blkE (w1.alloc (.cells (bc ⟨a + t, s - t, false⟩) 92)) (.slice (some ⟨w1.heap.size, 0, none⟩) 1 1) [⟨a + t, s - t, false⟩]) := Lib.hid fun w1 => (blk_one w1 (c := ⟨a + t, s - t, false⟩) (Bk.wf_of (by have := HS.out; simp only; omega) (by have := HS.out; simp only; omega) (by have := HS.out; simp only; omega) (by have := HS.out; simp only; omega))).ra
 have HPR : Hid ((t < s → prtB ⟨a, s, false⟩ n = [⟨a, t, true⟩, ⟨a + t, s - t, false⟩]) ∧ (¬ t < s → prtB ⟨a, s, false⟩ n = [⟨a, t, true⟩])) := Lib.hid ⟨fun e => by
  rw [prtB, if_neg (by rw [hte]; simp only; omega)]
  simp only [hte], fun e => by
  rw [prtB, if_pos (by rw [hte]; simp only; omega)]
  have : t = s := by omega
  rw [this]⟩
 have j2 : IntKind.i64.wrap (a + t) = a + t := IntWalk.i64_in _ (by omega)
 have j3 : IntKind.i64.wrap (s - t) = s - t := IntWalk.i64_in _ (by omega)
 obtain ⟨T, hT⟩ : ∃ T, l.take k = T := ⟨_, rfl⟩
 obtain ⟨U, hU⟩ : ∃ T, l.drop K1 = T := ⟨_, rfl⟩
 rw [hT] at HP N1 N2 N3 N4 N5 ⊢
 rw [hU] at HP N4 N5 ⊢
 clear hT hU hv hl h hc hlc hcm hk h0 hB hb hwf s1 s2 a1 a2 q1 q2 q3 hm h1 t1 t2 t3 t4 ht hte hK1 H0
 generalize l.length = L at *
 have SZ : Hid (∀ x : World, Below w.heap.size w x → w.heap.size ≤ x.heap.size) := Lib.hid fun _ h => h.size
 have GR : Hid (∀ (x y : World) (r : Option Nat), Below w.heap.size w x → x.grownBy y r → r = none → Below w.heap.size w y) := Lib.hid fun x y r h g e => by subst e; exact h.grown g h.size (fun k hk => by cases hk)
 go_enter Tryz.func109, Tryz.ntmps109
 go_wp2_with fail
 refine (C1.out).mono ?_; rintro e w1 ⟨rfl, b1⟩
 have D1 := Lib.hid b1
 go_wp2_with fail
 refine (C2.out w1 D1.out).mono ?_; rintro e w2 ⟨rfl, b2⟩
 have D2 := Lib.hid (below_more D1.out b2)
 clear b1 b2
 obtain ⟨x1, x2, x3⟩ := HX.out w2 D2.out
 go_wp2_with fail
 refine (C3.out w2).mono ?_; rintro e w' ⟨rfl, rfl⟩
 go_wp2_with fail
 refine (C3.out w2).mono ?_; rintro e w' ⟨rfl, rfl⟩
 go_wp2_with fail
 go_region_law (first
  | (refine step_blk (o := ⟨some 52, _, _, _, _, _⟩) rfl (.const (.slice none 0 0)) (.tmp 51) rfl w.heap.size (.slice none 0 0) [] (by simp [Act.eval]) (own_nil_a _ _ _) (.slice (some ⟨b, off, none⟩) k cap) T (by simp [Act.eval, Act.put]) (HP.out _ (by repeat' (first | (with_reducible exact D2.out) | (with_reducible refine Below.drew ?_) | (with_reducible refine bal ?_)))).1 N1.out (SZ.out _ (by repeat' (first | (with_reducible exact D2.out) | (with_reducible refine Below.drew ?_) | (with_reducible refine bal ?_)))) ?_
     intro vb wb ob gb _
     have OB := Lib.hid ob
     have GB : Hid (Below w.heap.size w wb) := Lib.hid (GR.out _ _ _ (by repeat' (first | (with_reducible exact D2.out) | (with_reducible refine Below.drew ?_) | (with_reducible refine bal ?_))) gb rfl)
     have GX := Lib.hid ((Below.refl _ _).grown gb (Nat.le_refl _) (by intro k hk; cases hk))
     obtain ⟨y1, y2, y3⟩ := HX.out wb GB.out
     clear ob)
  | (refine step_blk (o := ⟨some 61, _, _, _, _, _⟩) rfl (.tmp 52) (.tmp 60) rfl w.heap.size vb ([] ++ T) (by simp [Act.eval]) (OB.out.alloc _) (.slice (some ⟨wb.heap.size, 0, none⟩) 1 1) [⟨a, t, true⟩] (by simp [Act.eval]) (R1.out wb) N2.out (SZ.out _ (bal GB.out)) ?_
     intro vc wc oc gc _
     have OC := Lib.hid oc
     have GC := Lib.hid (below_app (bal GB.out) (SZ.out _ (bal GB.out)) (OB.out.alloc _) gc)
     obtain ⟨z1, z2, z3⟩ := HX.out wc GC.out
     clear oc gc)
  | (refine step_blk (o := ⟨some 61, _, _, _, _, _⟩) rfl (.tmp 52) (.tmp 60) rfl w.heap.size vb ([] ++ T) (by simp [Act.eval]) OB.out (.slice (some ⟨w2.heap.size, 0, none⟩) 1 1) [⟨a, t, true⟩] (by simp [Act.eval]) (ra_below (ra_below (R1.out w2) ((Below.refl _ _).drew)) GX.out) N2.out (SZ.out _ GB.out) ?_
     intro vc wc oc gc _
     have OC := Lib.hid oc
     have GC := Lib.hid (below_app GB.out (SZ.out _ GB.out) OB.out gc)
     obtain ⟨z1, z2, z3⟩ := HX.out wc GC.out
     clear oc gc))
 all_goals
  clear C1 C2 C3 R1 x1 x2 x3 gb
  by_cases e : t < s
  · go_wp2_with fail
    go_region_law (first
     | (refine step_blk (o := ⟨some 86, _, _, _, _, _⟩) rfl (.tmp 69) (.tmp 85) rfl w.heap.size vc (([] ++ T) ++ [(⟨a, t, true⟩ : Bk)]) (by simp [Act.eval]) ((OC.out.alloc _).drew) (.slice (some ⟨wc.heap.size, 0, none⟩) 1 1) [⟨a + t, s - t, false⟩] (by simp [Act.eval]) (ra_below (R2.out wc) ((Below.refl _ _).drew)) N3.out (SZ.out _ ((bal GC.out).drew)) ?_
        intro vd wd od gd _
        have OD := Lib.hid od
        have GD := Lib.hid (below_app ((bal GC.out).drew) (SZ.out _ ((bal GC.out).drew)) ((OC.out.alloc _).drew) gd)
        clear od gd))
    all_goals
     by_cases e9 : cap = K1
     · rw [if_pos e9] at hq
       subst hq
       have e2 : K1 = cap := e9.symm
       subst e2
       rw [Nat.sub_self] at HP
       go_wp2_with (at_builtin; refine app_blk (o := ⟨some 92, _, _, _, _, _⟩) rfl (.tmp 87) (.tmp 91) rfl w.heap.size vd ((([] ++ T) ++ [(⟨a, t, true⟩ : Bk)]) ++ [(⟨a + t, s - t, false⟩ : Bk)]) rfl OD.out _ U rfl (HP.out _ GD.out).2 N5.out (SZ.out _ GD.out) ?_)
       intro ve we oe ge _
       have OE : Hid (OwnA blkE w.heap.size we ve (T ++ (prtB ⟨a, s, false⟩ n ++ U))) := Lib.hid (by rw [HPR.out.1 e]; simpa using oe)
       have GE := Lib.hid (below_app GD.out (SZ.out _ GD.out) OD.out ge)
       clear oe ge
       go_wp2
       go_ret2
       exact ⟨⟨_, rfl, OE.out⟩, GE.out⟩
     · rw [if_neg e9] at hq
       subst hq
       go_wp2_with (at_builtin; refine app_blk (o := ⟨some 92, _, _, _, _, _⟩) rfl (.tmp 87) (.tmp 91) rfl w.heap.size vd ((([] ++ T) ++ [(⟨a, t, true⟩ : Bk)]) ++ [(⟨a + t, s - t, false⟩ : Bk)]) rfl OD.out _ U rfl (HP.out _ GD.out).2 N5.out (SZ.out _ GD.out) ?_)
       intro ve we oe ge _
       have OE : Hid (OwnA blkE w.heap.size we ve (T ++ (prtB ⟨a, s, false⟩ n ++ U))) := Lib.hid (by rw [HPR.out.1 e]; simpa using oe)
       have GE := Lib.hid (below_app GD.out (SZ.out _ GD.out) OD.out ge)
       clear oe ge
       go_wp2
       go_ret2
       exact ⟨⟨_, rfl, OE.out⟩, GE.out⟩
  · clear N3 N5 R2
    have e0 : ¬ t < s := e
    by_cases e9 : cap = K1
    · rw [if_pos e9] at hq
      subst hq
      have e2 : K1 = cap := e9.symm
      subst e2
      rw [Nat.sub_self] at HP
      go_wp2_with (at_builtin; refine app_blk (o := ⟨some 92, _, _, _, _, _⟩) rfl (.tmp 87) (.tmp 91) rfl w.heap.size vc (([] ++ T) ++ [(⟨a, t, true⟩ : Bk)]) rfl OC.out _ U rfl (HP.out _ GC.out).2 N4.out (SZ.out _ GC.out) ?_)
      intro ve we oe ge _
      have OE : Hid (OwnA blkE w.heap.size we ve (T ++ (prtB ⟨a, s, false⟩ n ++ U))) := Lib.hid (by rw [HPR.out.2 e]; simpa using oe)
      have GE := Lib.hid (below_app GC.out (SZ.out _ GC.out) OC.out ge)
      clear oe ge
      go_wp2
      go_ret2
      exact ⟨⟨_, rfl, OE.out⟩, GE.out⟩
    · rw [if_neg e9] at hq
      subst hq
      go_wp2_with (at_builtin; refine app_blk (o := ⟨some 92, _, _, _, _, _⟩) rfl (.tmp 87) (.tmp 91) rfl w.heap.size vc (([] ++ T) ++ [(⟨a, t, true⟩ : Bk)]) rfl OC.out _ U rfl (HP.out _ GC.out).2 N4.out (SZ.out _ GC.out) ?_)
      intro ve we oe ge _
      have OE : Hid (OwnA blkE w.heap.size we ve (T ++ (prtB ⟨a, s, false⟩ n ++ U))) := Lib.hid (by rw [HPR.out.2 e]; simpa using oe)
      have GE := Lib.hid (below_app GC.out (SZ.out _ GC.out) OC.out ge)
      clear oe ge
      go_wp2
      go_ret2
      exact ⟨⟨_, rfl, OE.out⟩, GE.out⟩
theorem rcarved_is (l : List Bk) (i n : Int) (v : Value) (w : World) (hv : RA blkE w v l) (hl : l.length ≤ 1000) (r : Bool) (h : canC l i n = r) :
 Calls Tryz.prog 109 #[v, .int .i64 i, .int .i64 n] w fun e w' => (∃ u, e = .returned (.tuple #[u, .bool r]) ∧ OwnA blkE w.heap.size w' u (crvF l i n)) ∧ Below w.heap.size w w' := by
 cases r with
 | false => exact (rcarved_no l i n v w hv hl h).mono fun e w' ⟨h1, h2⟩ => ⟨⟨_, h1, by rw [crvF_no h]; exact own_nil_a _ _ _⟩, h2⟩
 | true => exact rcarved_yes l i n v w hv hl h
theorem rise_hd (a hd : Int) (k : Nat) : rise a (hd :: List.replicate (k + 1) 0) = rise a (hd :: List.replicate k 0) ++ [⟨a + ((k + 1 : Nat) : Int), 0⟩] := by
 rw [List.replicate_succ', ← List.cons_append, rise_app, List.length_cons, List.length_replicate]
 rfl
theorem rcedits_is (l : List Bk) (i n : Int) (v : Value) (w : World) (hv : RA blkE w v l) (hl : l.length ≤ 1000) :
 Calls Tryz.prog 68 #[v, .int .i64 i, .int .i64 n] w fun e w' => (∃ u, e = .returned u ∧ OwnA edE w.heap.size w' u (cedF l i n)) ∧ Below w.heap.size w w' := by
 cases h : canC l i n with
 | false =>
   have C1 := Lib.hid (rcarved_is l i n v w hv hl false h)
   rw [cedF_no h]
   obtain ⟨p, cap, rfl, _⟩ := ra_shape hv
   generalize l.length = L at *
   clear hv hl h
   go_enter Tryz.func68, Tryz.ntmps68
   go_wp2_with fail
   refine (C1.out).mono ?_; rintro e w1 ⟨⟨u1, rfl, _⟩, b1⟩
   have D1 := Lib.hid b1
   clear b1
   go_wp2_with fail
   go_ret
   exact ⟨⟨_, rfl, own_nil_a _ _ _⟩, D1.out⟩
 | true =>
   have C1 := Lib.hid (rcarved_is l i n v w hv hl true h)
   have hc : cedF l i n = edF (prtB (bAt l i) n) := by rw [cedF, if_pos h]
   have H0 := Lib.hid (fun (w' : World) (hb : Below w.heap.size w w') => ra_below hv hb)
   obtain ⟨p, cap, rfl, _⟩ := ra_shape hv
   obtain ⟨hm, h0, h1, hu, ht⟩ := canC_yes.1 h
   have hz := mayF_sizes (mayL_yes.1 hm).2 _ (bAt_mem h0 h1)
   have hz2 := (mayL_yes.1 hm).1
   obtain ⟨k0, rfl⟩ : ∃ k : Nat, i = k := ⟨i.toNat, by omega⟩
   rw [hc, edF_prt ht]
   have hk : k0 < l.length := by omega
   have hB : bAt l (k0 : Int) = l.getD k0 default := by rw [bAt, Int.toNat_natCast]
   have hwf := (ra_ok hv).at_ hk
   rw [hB] at hu ht hz ⊢
   obtain ⟨⟨a, s, u⟩, hb⟩ : ∃ c, l.getD k0 default = c := ⟨_, rfl⟩
   rw [hb] at hu ht hwf hz ⊢
   simp only at hu ht hz ⊢
   obtain ⟨b, off, rfl, _, _⟩ := blk_at hv (by omega)
   have HX : Hid (∀ w', Below w.heap.size w w' → w'.cell? ⟨b, off + k0 * 3, none⟩ = some (.int .i64 a) ∧ w'.cell? ⟨b, off + k0 * 3 + 1, none⟩ = some (.int .i64 s)) := Lib.hid fun w' hb' => by
    obtain ⟨_, _, e, _, hx⟩ := blk_at (H0.out w' hb') (by omega)
    cases e
    obtain ⟨_, x1, x2, _, _⟩ := hx k0 hk
    rw [hb] at x1 x2
    exact ⟨x1, x2⟩
   obtain ⟨⟨s1, s2⟩, a1, a2⟩ := hz
   obtain ⟨q1, q2, q3⟩ := hz2
   obtain ⟨t', hte⟩ : ∃ t, takN s n = t := ⟨_, rfl⟩
   obtain ⟨t1, t2, t3, t4⟩ := takN_some ht
   rw [hte] at ht t2 t3 t4
   obtain ⟨t, rfl⟩ : ∃ t : Nat, t' = t := ⟨t'.toNat, by omega⟩
   obtain ⟨z, rfl⟩ : ∃ z : Nat, a = z := ⟨a.toNat, by omega⟩
   obtain ⟨m, rfl⟩ : ∃ m : Nat, s = m := ⟨s.toNat, by omega⟩
   have HS : Hid (2 ≤ m ∧ m ≤ 512 ∧ z ≤ 512 ∧ 2 ≤ t ∧ t ≤ m) := Lib.hid (by omega)
   have C3 := Lib.hid (fun w => rtakes_is m n t hwf.ws hte w)
   have CW := Lib.hid (fun n u w => rwordb_is n u w)
   obtain ⟨hd, hhd⟩ : ∃ x, hdB t true = x := ⟨_, rfl⟩
   obtain ⟨he, hhe⟩ : ∃ x, hdB ((m : Int) - t) false = x := ⟨_, rfl⟩
   have hin := hdB_in t true
   have hin2 := hdB_in ((m : Int) - t) false
   rw [hhd] at hin
   rw [hhe] at hin2
   have CW1 : Hid (∀ w, Calls Tryz.prog 92 #[.int .i64 t, .bool true] w fun e w' => e = .returned (.int .u64 hd) ∧ w = w') := Lib.hid fun w => by rw [← hhd]; exact CW.out t true w
   obtain ⟨D, hD⟩ : ∃ D : Int, (m : Int) - t = D := ⟨_, rfl⟩
   have CW2 : Hid (∀ w, Calls Tryz.prog 92 #[.int .i64 D, .bool false] w fun e w' => e = .returned (.int .u64 he) ∧ w = w') := Lib.hid fun w => by rw [← hhe, ← hD]; exact CW.out _ false w
   have hTV : takV ⟨z, m, u⟩ n = (hd :: List.replicate (t - 1) 0) ++ (if t = m then [] else [he]) := by
    rw [takV]
    simp only [hte, hhd, hhe]
    have e1 : ((t : Int) - 1).toNat = t - 1 := by omega
    rw [e1]
    by_cases e : t = m
    · rw [if_pos e, if_pos (by omega)]; rfl
    · rw [if_neg e, if_neg (by omega)]; rfl
   have HT : Hid ((t = m → rise (z : Int) (takV ⟨z, m, u⟩ n) = rise (z : Int) (hd :: List.replicate (t - 1) 0)) ∧ (¬ t = m → rise (z : Int) (takV ⟨z, m, u⟩ n) = rise (z : Int) (hd :: List.replicate (t - 1) 0) ++ [⟨((z + t : Nat) : Int), he⟩])) := Lib.hid ⟨fun e => by rw [hTV, if_pos e, List.append_nil], fun e => by
    rw [hTV, if_neg e, rise_app, List.length_cons, List.length_replicate]
    congr 2
    first | omega | (rw [show (z : Int) + ((t - 1 + 1 : Nat) : Int) = ((z + t : Nat) : Int) by omega]; rfl)⟩
   have j1 : IntKind.i64.wrap ((z : Int) + (t : Int)) = ((z + t : Nat) : Int) := by rw [show (z : Int) + (t : Int) = ((z + t : Nat) : Int) by omega]; exact i64_nat _ (by omega)
   have j2 : IntKind.i64.wrap ((m : Int) - (t : Int)) = D := by rw [hD]; exact IntWalk.i64_in _ (by omega)
   have h2 : ¬ (k0 : Int) < 0 := by omega
   have h3 : ¬ (k0 : Int) ≥ (l.length : Int) := by omega
   have h4 : ¬ (l.length : Int) ≤ (k0 : Int) := by omega
   obtain ⟨ZT, hZT⟩ : ∃ x, z + t = x := ⟨_, rfl⟩
   rw [hZT] at HT j1
   have O1 : Hid (∀ w1 : World, Below w.heap.size w w1 → OwnA edE w.heap.size (w1.alloc (.cells (ec ⟨z, hd⟩) 105)).drew (.slice (some ⟨w1.heap.size, 0, none⟩) 1 1) (rise (z : Int) (hd :: List.replicate 0 0))) := Lib.hid fun w1 hb => ((ed_one w1 (c := ⟨z, hd⟩) (Ed.wf_of (by simp only; omega) (by simp only; omega) hin.1 hin.2)).mono hb.size).drew
   have R1 : Hid (∀ (x : Nat) (w1 : World), x ≤ 2000 → RA edE (w1.alloc (.cells (ec ⟨x, 0⟩) 105)) (.slice (some ⟨w1.heap.size, 0, none⟩) 1 1) [⟨x, 0⟩]) := Lib.hid fun x w1 hx => (ed_one w1 (c := ⟨x, 0⟩) (Ed.wf_of (by simp only; omega) (by simp only; omega) (by simp only; omega) (by simp only; omega))).ra
   have R2 : Hid (∀ w1 : World, RA edE (w1.alloc (.cells (ec ⟨ZT, he⟩) 105)).drew (.slice (some ⟨w1.heap.size, 0, none⟩) 1 1) [⟨ZT, he⟩]) := Lib.hid fun w1 => ra_below (ed_one w1 (c := ⟨ZT, he⟩) (Ed.wf_of (by simp only; omega) (by simp only; omega) hin2.1 hin2.2)).ra ((Below.refl _ _).drew)
   generalize rise (z : Int) (takV ⟨z, m, u⟩ n) = RT at *
   have SZ : Hid (∀ x : World, Below w.heap.size w x → w.heap.size ≤ x.heap.size) := Lib.hid fun _ h => h.size
   clear CW hTV hhd hhe hin hin2 hD hv hl h hc hk h0 hB hb hwf s1 s2 a1 a2 q1 q2 q3 hm h1 t1 t2 t3 t4 ht hte H0 hu hZT
   generalize l.length = L at *
   go_enter Tryz.func68, Tryz.ntmps68
   go_wp2_with fail
   refine (C1.out).mono ?_; rintro e w1 ⟨⟨u1, rfl, _⟩, b1⟩
   have D1 := Lib.hid b1
   obtain ⟨x1, x2⟩ := HX.out w1 D1.out
   clear b1
   go_wp2_with fail
   refine (C3.out w1).mono ?_; rintro e w' ⟨rfl, rfl⟩
   go_wp2_with fail
   go_region_law (first
    | (go_simp; go_at_call 92; refine (CW1.out _).mono ?_; rintro e wq ⟨rfl, rfl⟩))
   all_goals
    have OX := Lib.hid (O1.out w1 D1.out)
    have DX : Hid (Below w.heap.size w (w1.alloc (.cells (ec ⟨z, hd⟩) 105)).drew) := Lib.hid ((bal D1.out).drew)
    clear C1 C3 CW1 x1 x2
    go_wp2
    go_loopw [10, 11] (fun e i wr => ∃ k : Nat, k + 1 ≤ t ∧ i = .int .i64 ((k + 1 : Nat) : Int) ∧ Hid (OwnA edE w.heap.size wr e (rise (z : Int) (hd :: List.replicate k 0)) ∧ Below w.heap.size w wr)) (fun _ i _ => t - (intOf i).toNat)
    case atStart => exact ⟨0, by have := HS.out; omega, by go_num, Lib.hid ⟨OX.out, DX.out⟩⟩
    case round =>
     obtain ⟨k, hk, rfl, H⟩ := hrel
     obtain ⟨x1, x2⟩ := HX.out wr H.out.2
     obtain ⟨K, hK⟩ : ∃ x, k + 1 = x := ⟨_, rfl⟩
     rw [hK]
     by_cases hlt : K < t
     · have i1 : (K : Int) < (t : Int) := by omega
       have i3 : IntKind.i64.wrap ((K : Int) + 1) = ((K + 1 : Nat) : Int) := by rw [show (K : Int) + 1 = ((K + 1 : Nat) : Int) by omega]; exact i64_nat _ (by have := HS.out; omega)
       have i4 : IntKind.i64.wrap ((z : Int) + (K : Int)) = ((z + K : Nat) : Int) := by rw [show (z : Int) + (K : Int) = ((z + K : Nat) : Int) by omega]; exact i64_nat _ (by have := HS.out; omega)
       have hR := rise_hd (z : Int) hd k
       rw [hK] at hR
       obtain ⟨x, hx⟩ : ∃ x, z + K = x := ⟨_, rfl⟩
       rw [hx] at i4
       rw [show (z : Int) + ((K : Nat) : Int) = (x : Int) by omega] at hR
       have HR := Lib.hid hR
       have RX := Lib.hid (R1.out x wr (by have := HS.out; omega))
       have DW : Hid (Below w.heap.size w (wr.alloc (.cells (ec ⟨x, 0⟩) 105))) := Lib.hid (bal H.out.2)
       have NL : Hid ((rise (z : Int) (hd :: List.replicate k 0)).length + [(⟨x, 0⟩ : Ed)].length ≤ 4000) := Lib.hid (by rw [rise_length, List.length_cons, List.length_replicate]; simp; have := HS.out; omega)
       have OW : Hid (OwnA edE w.heap.size (wr.alloc (.cells (ec ⟨x, 0⟩) 105)) _ (rise (z : Int) (hd :: List.replicate k 0))) := Lib.hid (H.out.1.alloc _)
       have HK := Lib.hid (And.intro hK hlt)
       clear hR hx hk hK hlt
       go_wp2_with (at_builtin; refine app_ed rfl _ _ rfl w.heap.size _ (rise (z : Int) (hd :: List.replicate k 0)) rfl OW.out _ [⟨x, 0⟩] rfl RX.out NL (SZ.out _ DW.out) ?_)
       intro v' w' ho hg _
       have HN : Hid (OwnA edE w.heap.size w' v' (rise (z : Int) (hd :: List.replicate K 0)) ∧ Below w.heap.size w w') := Lib.hid ⟨by rw [HR.out]; exact ho, below_app DW.out (SZ.out _ DW.out) OW.out hg⟩
       clear ho hg
       go_wp2
       go_roundw
       case rel => exact ⟨K, by have := HK.out; omega, by go_num, HN⟩
       case measure => have := HK.out; simp [intOf]; omega
     · have i1 : ¬ (K : Int) < (t : Int) := by omega
       have ek : k = t - 1 := by omega
       have HO := H.out.1
       rw [ek] at HO
       have HO := Lib.hid HO
       have DR := Lib.hid H.out.2
       clear ek hK H hk hlt
       by_cases e : t = m
       · have i5 : ¬ (t : Int) < (m : Int) := by omega
         rw [← HT.out.1 e] at HO
         go_wp2
         go_ret
         exact ⟨⟨_, rfl, HO.out⟩, DR.out⟩
       · have i5 : (t : Int) < (m : Int) := by have := HS.out; omega
         have DW : Hid (Below w.heap.size w (wr.alloc (.cells (ec ⟨ZT, he⟩) 105)).drew) := Lib.hid ((bal DR.out).drew)
         have NL : Hid ((rise (z : Int) (hd :: List.replicate (t - 1) 0)).length + [(⟨ZT, he⟩ : Ed)].length ≤ 4000) := Lib.hid (by rw [rise_length, List.length_cons, List.length_replicate]; simp; have := HS.out; omega)
         have OW := Lib.hid ((HO.out.alloc (.cells (ec ⟨ZT, he⟩) 105)).drew)
         go_wp2_with fail
         go_region_law (first
          | (go_simp; go_at_call 92; refine (CW2.out _).mono ?_; rintro e wq ⟨rfl, rfl⟩)
          | (refine step_ed (o := ⟨some 78, _, _, _, _, _⟩) rfl (.tmp 60) (.tmp 77) rfl w.heap.size _ (rise (z : Int) (hd :: List.replicate (t - 1) 0)) (by simp [Act.eval]) OW.out (.slice (some ⟨wr.heap.size, 0, none⟩) 1 1) [⟨ZT, he⟩] (by simp [Act.eval]) (R2.out wr) NL (SZ.out _ DW.out) ?_
             intro vb wb ob gb _
             have OB : Hid (OwnA edE w.heap.size wb vb RT) := Lib.hid (by rw [HT.out.2 e]; exact ob)
             have GB := Lib.hid (below_app DW.out (SZ.out _ DW.out) OW.out gb)
             clear ob gb))
         all_goals
          go_wp2
          go_ret
          exact ⟨⟨_, rfl, OB.out⟩, GB.out⟩
theorem rmerged_no (l : List Bk) (i : Int) (v : Value) (w : World) (hv : RA blkE w v l) (hl : l.length ≤ 1000) (h : canM l i = false) :
 Calls Tryz.prog 91 #[v, .int .i64 i] w fun e w' => e = .returned (.tuple #[.slice none 0 0, .int .i64 0, .bool false]) ∧ Below w.heap.size w w' := by
 have C1 := Lib.hid (rsizes_is l v w hv hl)
 have C2 := Lib.hid (fun (w' : World) (hb : Below w.heap.size w w') => rmay_is (szR l) l v (mayS l) w' (ra_below hv hb) hl (may_szR l))
 have H0 := Lib.hid (fun (w' : World) (hb : Below w.heap.size w w') => ra_below hv hb)
 obtain ⟨p, cap, rfl, hlc, hcm⟩ := ra_shape hv
 generalize szR l = z at *
 cases hm : mayS l
 · rw [hm] at C2
   generalize l.length = L at *
   clear hv hl h hlc hcm
   go_enter Tryz.func91, Tryz.ntmps91
   go_wp2_with fail
   refine (C1.out).mono ?_; rintro e w' ⟨rfl, b1⟩
   have D1 := Lib.hid b1
   go_wp2_with fail
   refine (C2.out _ D1.out).mono ?_; rintro e w2 ⟨rfl, b2⟩
   have D2 := Lib.hid (below_more D1.out b2)
   clear b1 b2
   go_wp2_with fail
   go_ret3
   exact ⟨rfl, D2.out⟩
 rw [hm] at C2
 rcases canM_no h with h | h | h | ⟨h0, h1, h⟩
 · rw [h] at hm
   cases hm
 · generalize l.length = L at *
   clear hv hl hm hlc hcm
   go_enter Tryz.func91, Tryz.ntmps91
   go_wp2_with fail
   refine (C1.out).mono ?_; rintro e w' ⟨rfl, b1⟩
   have D1 := Lib.hid b1
   go_wp2_with fail
   refine (C2.out _ D1.out).mono ?_; rintro e w2 ⟨rfl, b2⟩
   have D2 := Lib.hid (below_more D1.out b2)
   clear b1 b2
   go_wp2_with fail
   go_ret3
   exact ⟨rfl, D2.out⟩
 · have h2 : ¬ i < 0 := by omega
   have h3 : i ≥ (l.length : Int) := h
   generalize l.length = L at *
   clear hv hl hm hlc hcm h
   go_enter Tryz.func91, Tryz.ntmps91
   go_wp2_with fail
   refine (C1.out).mono ?_; rintro e w' ⟨rfl, b1⟩
   have D1 := Lib.hid b1
   go_wp2_with fail
   refine (C2.out _ D1.out).mono ?_; rintro e w2 ⟨rfl, b2⟩
   have D2 := Lib.hid (below_more D1.out b2)
   clear b1 b2
   go_wp2_with fail
   go_ret3
   exact ⟨rfl, D2.out⟩
 · obtain ⟨k, rfl⟩ : ∃ k : Nat, i = k := ⟨i.toNat, by omega⟩
   have h2 : ¬ (k : Int) < 0 := by omega
   have h3 : ¬ (k : Int) ≥ (l.length : Int) := by omega
   have h4 : ¬ (l.length : Int) ≤ (k : Int) := by omega
   have hk : k < l.length := by omega
   have HX := Lib.hid (fun (w' : World) (hb : Below w.heap.size w w') => blk_at (H0.out w' hb) (Nat.lt_of_le_of_lt (Nat.zero_le _) hk))
   have HK := Lib.hid hk
   rw [bAt_nat] at h
   have HU := Lib.hid h
   clear hv hl hm hlc hcm hk h0 h
   go_enter Tryz.func91, Tryz.ntmps91
   go_wp2_with fail
   refine (C1.out).mono ?_; rintro e w' ⟨rfl, b1⟩
   have D1 := Lib.hid b1
   go_wp2_with fail
   refine (C2.out _ D1.out).mono ?_; rintro e w2 ⟨rfl, b2⟩
   have D2 := Lib.hid (below_more D1.out b2)
   clear b1 b2
   obtain ⟨b, off, rfl, _, hx⟩ := HX.out w2 D2.out
   obtain ⟨_, _, _, hu, _⟩ := hx k HK.out
   rw [HU.out] at hu
   clear hx
   generalize l.length = L at *
   go_wp2_with fail
   go_ret3
   exact ⟨rfl, D2.out⟩
theorem ahead_b (l : List Bk) (k : Nat) (hk : k < l.length) (hl : l.length ≤ 1000) : ∃ (K0 F : Nat) (f : Bool), frm l k = F ∧ (f = true → IntKind.i64.wrap ((k : Int) - 1) = (F : Int)) ∧ (f = false → k = F) ∧
 ((¬ (k : Int) > 0 ∧ f = false) ∨ ((k : Int) > 0 ∧ IntKind.i64.wrap ((k : Int) - 1) = (K0 : Int) ∧ K0 < l.length ∧ (l.getD K0 default).u = !f)) := by
 obtain ⟨K0, F, h, h1 | ⟨h1, h2, h3, h4 | h4⟩⟩ := ahead_of l k hk hl
 · exact ⟨K0, F, false, h, (fun e => by cases e), (fun _ => h1.2.symm), .inl ⟨h1.1, rfl⟩⟩
 · exact ⟨K0, F, false, h, (fun e => by cases e), (fun _ => h4.2.symm), .inr ⟨h1, h2, h3, h4.1⟩⟩
 · exact ⟨K0, F, true, h, (fun _ => by rw [h2, h4.2]), (fun e => by cases e), .inr ⟨h1, h2, h3, h4.1⟩⟩
theorem behind_b (l : List Bk) (k : Nat) (hk : k < l.length) (hl : l.length ≤ 1000) : ∃ (K1 T : Nat) (f : Bool), too l k = T ∧ IntKind.i64.wrap ((k : Int) + 1) = (K1 : Int) ∧ (f = true → IntKind.i64.wrap ((K1 : Int) + 1) = (T : Int)) ∧ (f = false → K1 = T) ∧
 ((¬ (K1 : Int) < (l.length : Int) ∧ f = false) ∨ ((K1 : Int) < (l.length : Int) ∧ K1 < l.length ∧ (l.getD K1 default).u = !f)) := by
 obtain ⟨K1, K2, T, h, _, j1, j2, h1 | ⟨h1, h3, h4 | h4⟩⟩ := behind_of l k hk hl
 · exact ⟨K1, T, false, h, j1, (fun e => by cases e), (fun _ => h1.2.symm), .inl ⟨h1.1, rfl⟩⟩
 · exact ⟨K1, T, false, h, j1, (fun e => by cases e), (fun _ => h4.2.symm), .inr ⟨h1, h3, h4.1⟩⟩
 · exact ⟨K1, T, true, h, j1, (fun _ => by rw [j2, h4.2]), (fun e => by cases e), .inr ⟨h1, h3, h4.1⟩⟩
theorem szs_drop {m : List Bk} {j : Nat} (h : j < m.length) : szs (m.drop j) = (m.getD j default).s + szs (m.drop (j + 1)) := by rw [getD_cut h, szs]
theorem rmerged_yes (l : List Bk) (k : Nat) (v : Value) (w : World) (hv : RA blkE w v l) (hl : l.length ≤ 1000) (h : canM l k = true) :
 Calls Tryz.prog 91 #[v, .int .i64 k] w fun e w' => (∃ u, e = .returned (.tuple #[u, .int .i64 (frm l k : Nat), .bool true]) ∧ OwnA blkE w.heap.size w' u (mrgF l k)) ∧ Below w.heap.size w w' := by
 have C1 := Lib.hid (rsizes_is l v w hv hl)
 have C2 := Lib.hid (fun (w' : World) (hb : Below w.heap.size w w') => rmay_is (szR l) l v (mayS l) w' (ra_below hv hb) hl (may_szR l))
 have H0 := Lib.hid (fun (w' : World) (hb : Below w.heap.size w w') => ra_below hv hb)
 obtain ⟨p, cap, rfl, hlc, hcm⟩ := ra_shape hv
 obtain ⟨hm, hk, hu⟩ := canM_nat h
 have hz := (mayL_yes.1 hm).2
 rw [hm] at C2
 generalize szR l = z at *
 obtain ⟨b, off, rfl, _, _⟩ := blk_at hv (by omega)
 have HX : Hid (∀ w', Below w.heap.size w w' → ∀ j, j < l.length → w'.cell? ⟨b, off + j * 3, none⟩ = some (.int .i64 (l.getD j default).a) ∧ w'.cell? ⟨b, off + j * 3 + 2, none⟩ = some (.bool (l.getD j default).u)) := Lib.hid fun w' hb' j hj => by
  obtain ⟨_, _, e, _, hx⟩ := blk_at (H0.out w' hb') (by omega)
  cases e
  exact ⟨(hx j hj).2.1, (hx j hj).2.2.2.1⟩
 obtain ⟨K0, F, f0, hF, hA1, hA2, hA⟩ := ahead_b l k hk hl
 obtain ⟨K1, T, f1, hT, j1, hB1, hB2, hB⟩ := behind_b l k hk hl
 have h2 : ¬ (k : Int) < 0 := by omega
 have h3 : ¬ (k : Int) ≥ (l.length : Int) := by omega
 have h4 : ¬ (l.length : Int) ≤ (k : Int) := by omega
 have HU := Lib.hid (And.intro hk hu)
 rw [mrgF_yes h, hF, hT]
 have hft := frm_too hk
 have HM := Lib.hid (fun (w' : World) (hb : Below w.heap.size w w') => ra_mid hk (H0.out w' hb))
 have hml := mid_length hk
 rw [hF, hT] at hft HM hml
 have HS : Hid (∀ j, j < (midB l k).length → ∃ n : Nat, ((midB l k).getD j default).s = n ∧ n ≤ 512) := Lib.hid fun j hj => by
  have hmem : (midB l k).getD j default ∈ l := mid_in hk _ (by rw [List.getD_eq_getElem?_getD, List.getElem?_eq_getElem hj]; exact List.getElem_mem _)
  obtain ⟨g1, g2⟩ := (mayF_sizes hz _ hmem).1
  exact ⟨((midB l k).getD j default).s.toNat, by omega, by omega⟩
 obtain ⟨howf, hos, hoa, hoa2⟩ := one_wf h
 have hz0 : szs ((midB l k).drop 0) = (oneB l k).s := rfl
 have hla : (l.getD F default).a = (oneB l k).a := by rw [← hF]; rfl
 have eo : oneB l k = ⟨(oneB l k).a, (oneB l k).s, false⟩ := rfl
 obtain ⟨a, ha⟩ : ∃ a, (oneB l k).a = a := ⟨_, rfl⟩
 obtain ⟨s, hs⟩ : ∃ a, (oneB l k).s = a := ⟨_, rfl⟩
 rw [ha, hs] at eo
 rw [eo] at howf ⊢
 rw [hs] at hz0
 rw [ha] at hla
 have HZ := Lib.hid hz0
 have HLA := Lib.hid hla
 obtain ⟨q, hq⟩ : ∃ q : Addr, q = if cap = T then ⟨b, off, none⟩ else ⟨b, off + T * 3, none⟩ := ⟨_, rfl⟩
 have HP : Hid (∀ w', Below w.heap.size w w' → RA blkE w' (.slice (some ⟨b, off, none⟩) F cap) (l.take F) ∧ RA blkE w' (.slice (some q) (l.length - T) (cap - T)) (l.drop T)) := Lib.hid fun w' hb => by
  unfold maxLen at hcm
  refine ⟨?_, ?_⟩
  · have := ra_take (H0.out w' hb) F
    rwa [Nat.min_eq_left (by omega)] at this
  · by_cases hlt : T < l.length
    · have := ra_drop (H0.out w' hb) hlt
      rw [if_neg (by omega)] at hq
      rw [hq]; exact this
    · rw [List.drop_eq_nil_of_le (by omega), show l.length - T = 0 by omega]
      exact ⟨_, _, rfl, Nat.zero_le _, by unfold maxLen; omega, (fun _ h => by cases h), .inl rfl⟩
 have N1 : Hid (([] : List Bk).length + (l.take F).length ≤ 2000) := Lib.hid (by rw [List.length_take]; simp; omega)
 have N2 : Hid (([] ++ l.take F).length + [(⟨a, s, false⟩ : Bk)].length ≤ 2000) := Lib.hid (by rw [List.nil_append, List.length_take]; simp; omega)
 have N4 : Hid ((([] ++ l.take F) ++ [(⟨a, s, false⟩ : Bk)]).length + (l.drop T).length ≤ 2000) := Lib.hid (by rw [List.nil_append, List.length_append, List.length_take, List.length_drop]; simp; omega)
 have R1 : Hid (∀ w1 : World, RA blkE (w1.alloc (.cells (bc ⟨a, s, false⟩) 92)) (.slice (some ⟨w1.heap.size, 0, none⟩) 1 1) [⟨a, s, false⟩]) := Lib.hid fun w1 => (blk_one w1 howf).ra
 obtain ⟨U0, hU0⟩ : ∃ T, l.take F = T := ⟨_, rfl⟩
 obtain ⟨U1, hU1⟩ : ∃ x, l.drop T = x := ⟨_, rfl⟩
 rw [hU0] at HP N1 N2 N4 ⊢
 rw [hU1] at HP N4 ⊢
 have i1 : (F : Int) ≤ (T : Int) := by omega
 have i2 : (T : Int) ≤ (l.length : Int) := by omega
 have i3 : (F : Int) ≤ (cap : Int) := by omega
 have i4 : (T : Int) ≤ (cap : Int) := by omega
 have i5 : ¬ cap = 0 := by omega
 have i6 : ¬ cap = F := by omega
 have i7 : ¬ (F : Int) < 0 := by omega
 have i8 : ¬ (l.length : Int) ≤ (F : Int) := by omega
 have HF : Hid (F < l.length ∧ T - F ≤ 3) := Lib.hid (by omega)
 rw [hml] at HS
 have HML := Lib.hid hml
 clear hv h hlc hcm hm hk hu hF hT H0 hz hz0 hla eo ha hs howf hos hoa hoa2 hft hl hU0 hU1 hml
 generalize midB l k = M at *
 have SZ : Hid (∀ x : World, Below w.heap.size w x → w.heap.size ≤ x.heap.size) := Lib.hid fun _ h => h.size
 have GR : Hid (∀ (x y : World) (r : Option Nat), Below w.heap.size w x → x.grownBy y r → r = none → Below w.heap.size w y) := Lib.hid fun x y r h g e => by subst e; exact h.grown g h.size (fun k hk => by cases hk)
 go_enter Tryz.func91, Tryz.ntmps91
 go_wp2_with fail
 refine (C1.out).mono ?_; rintro e w' ⟨rfl, b1⟩
 have D1 := Lib.hid b1
 go_wp2_with fail
 refine (C2.out _ D1.out).mono ?_; rintro e w2 ⟨rfl, b2⟩
 have D2 := Lib.hid (below_more D1.out b2)
 clear b1 b2 C1 C2 D1
 have x1 := (HX.out w2 D2.out k HU.out.1).2
 rw [HU.out.2] at x1
 have HA1 := Lib.hid hA1
 have HA2 := Lib.hid hA2
 have HB1 := Lib.hid hB1
 have HB2 := Lib.hid hB2
 clear hA1 hA2 hB1 hB2
 go_upto_region 4 with fail
 go_cut [49] (fun v49 wx => v49 = .bool f0 ∧ wx = w2)
 case first =>
  rcases hA with ⟨a1, rfl⟩ | ⟨a1, a2, a3, a4⟩
  · go_wp2_with fail
    go_meet
    exact ⟨rfl, rfl⟩
  · have z1 := (HX.out w2 D2.out K0 a3).2
    have a5 : (K0 : Int) < (l.length : Int) := by omega
    have a6 : ¬ (l.length : Int) ≤ (K0 : Int) := by omega
    rw [a4] at z1
    cases f0 <;> (go_wp2_with fail; go_meet; exact ⟨rfl, rfl⟩)
 case rest =>
  obtain ⟨rfl, rfl⟩ := hcut
  clear hA
  go_upto_if 49 with fail
  go_cut [7] (fun v7 wx => v7 = .int .i64 (F : Int) ∧ wx = wc)
  case first =>
   cases f0
   · have e := HA2.out rfl
     subst e
     go_wp2_with fail
     go_meet
     exact ⟨rfl, rfl⟩
   · have e := HA1.out rfl
     go_wp2_with fail
     go_meet
     exact ⟨rfl, rfl⟩
  case rest =>
   obtain ⟨rfl, rfl⟩ := hcut
   clear HA1 HA2
   go_upto_region 6 with fail
   go_cut [63] (fun v63 wx => v63 = .bool f1 ∧ wx = wc)
   case first =>
    rcases hB with ⟨a1, rfl⟩ | ⟨a1, a3, a4⟩
    · go_wp2_with fail
      go_meet
      exact ⟨rfl, rfl⟩
    · have z1 := (HX.out _ D2.out K1 a3).2
      have a6 : ¬ (l.length : Int) ≤ (K1 : Int) := by omega
      rw [a4] at z1
      cases f1 <;> (go_wp2_with fail; go_meet; exact ⟨rfl, rfl⟩)
   case rest =>
    obtain ⟨rfl, rfl⟩ := hcut
    clear hB
    go_upto_if 63 with fail
    go_cut [8] (fun v8 wx => v8 = .int .i64 (T : Int) ∧ wx = wc)
    case first =>
     cases f1
     · have e := HB2.out rfl
       subst e
       go_wp2_with fail
       go_meet
       exact ⟨rfl, rfl⟩
     · have e := HB1.out rfl
       go_wp2_with fail
       go_meet
       exact ⟨rfl, rfl⟩
    case rest =>
     obtain ⟨rfl, rfl⟩ := hcut
     clear HB1 HB2
     clear x1 HU j1
     go_wp2
     go_loopw [9, 11, 71] (fun z x i wr => ∃ j z' : Nat, j ≤ T - F ∧ i = .int .i64 j ∧ z = .int .i64 z' ∧ z' ≤ 512 * j ∧ Hid ((z' : Int) + szs (M.drop j) = s ∧ Below w.heap.size w wr)) (fun _ _ i _ => (T - F) - (intOf i).toNat)
     case atStart => exact ⟨0, 0, Nat.zero_le _, rfl, rfl, Nat.zero_le _, Lib.hid ⟨by have := HZ.out; simpa using this, D2.out⟩⟩
     case round =>
      obtain ⟨j, z', hj, rfl, rfl, hz', H⟩ := hrel
      by_cases hlt : j < T - F
      · have hjm : j < M.length := by rw [HML.out]; exact hlt
        obtain ⟨_, _, e, _, hx⟩ := blk_at (HM.out wr H.out.2) (by omega)
        cases e
        obtain ⟨hld, _, _, _, _⟩ := hx j hjm
        obtain ⟨n, hn, hn2⟩ := HS.out j hlt
        have hF := H.out.1
        rw [szs_drop hjm, hn] at hF
        obtain ⟨⟨ya, ys, yu⟩, hy⟩ : ∃ y, M.getD j default = y := ⟨_, rfl⟩
        rw [hy] at hld hn
        simp only at hn
        subst hn
        obtain ⟨W, hW, HW⟩ := blk_boxed wr ⟨ya, n, yu⟩
        have c1 : W.cell? ⟨wr.heap.size, 1, none⟩ = some (.int .i64 n) := HW.out.1.c1
        have HB := Lib.hid (below_more H.out.2 HW.out.2)
        have k0 : (0 : Int) ≤ (j : Int) := by omega
        have k1 : (j : Int) < ((T - F : Nat) : Int) := by omega
        have k2 : ¬ (j : Int) < 0 := by omega
        have k3 : IntKind.i64.wrap ((j : Int) + 1) = ((j + 1 : Nat) : Int) := by rw [show (j : Int) + 1 = ((j + 1 : Nat) : Int) by omega]; exact i64_nat _ (by have := HF.out; omega)
        have k4 : IntKind.i64.wrap ((z' : Int) + (n : Int)) = ((z' + n : Nat) : Int) := by rw [show (z' : Int) + (n : Int) = ((z' + n : Nat) : Int) by omega]; exact i64_nat _ (by have := HF.out; omega)
        have k5 : ¬ ((T - F : Nat) : Int) ≤ (j : Int) := by omega
        have k6 : ¬ T - F ≤ j := by omega
        have HK := Lib.hid (And.intro hlt (And.intro hz' hn2))
        have HN : Hid (((z' + n : Nat) : Int) + szs (M.drop (j + 1)) = s ∧ Below w.heap.size w W) := Lib.hid ⟨by rw [← hF]; push_cast; rw [Int.add_assoc], HB.out⟩
        clear hx hF hz' hn2 hjm hj hy
        go_wp2
        go_roundw
        case rel => exact ⟨j + 1, z' + n, by have := HK.out; omega, by go_num, rfl, by have := HK.out; omega, HN⟩
        case measure => have := HK.out; simp [intOf]; omega
      · obtain rfl : j = T - F := by omega
        have hF := H.out.1
        rw [← HML.out, List.drop_length, szs, Int.add_zero] at hF
        have DR := Lib.hid H.out.2
        have HFS := Lib.hid hF
        subst hF
        have x := (HX.out wr DR.out F HF.out.1).1
        rw [HLA.out] at x
        have HXF : Hid (∀ w', Below w.heap.size w w' → w'.cell? ⟨b, off + F * 3, none⟩ = some (.int .i64 a)) := Lib.hid fun w' hb => by
         have := (HX.out w' hb F HF.out.1).1
         rw [HLA.out] at this
         exact this
        clear H hj hlt hz' HM HS HML HZ HX HLA
        generalize l.length = L at *
        go_wp2_with fail
        go_region_law (first
         | (refine step_blk (o := ⟨some 83, _, _, _, _, _⟩) rfl (.const (.slice none 0 0)) (.tmp 82) rfl w.heap.size (.slice none 0 0) [] (by simp [Act.eval]) (own_nil_a _ _ _) (.slice (some ⟨b, off, none⟩) F cap) U0 (by simp [Act.eval, Act.put]) (HP.out _ (by repeat' (first | (with_reducible exact DR.out) | (with_reducible refine Below.drew ?_) | (with_reducible refine bal ?_)))).1 N1.out (SZ.out _ (by repeat' (first | (with_reducible exact DR.out) | (with_reducible refine Below.drew ?_) | (with_reducible refine bal ?_)))) ?_
            intro vb wb ob gb _
            have OB := Lib.hid ob
            have GB : Hid (Below w.heap.size w wb) := Lib.hid (GR.out _ _ _ (by repeat' (first | (with_reducible exact DR.out) | (with_reducible refine Below.drew ?_) | (with_reducible refine bal ?_))) gb rfl)
            have GX := Lib.hid ((Below.refl _ _).grown gb (Nat.le_refl _) (by intro k hk; cases hk))
            have y1 := HXF.out wb GB.out
            clear ob)
         | (refine step_blk (o := ⟨some 92, _, _, _, _, _⟩) rfl (.tmp 83) (.tmp 91) rfl w.heap.size vb ([] ++ U0) (by simp [Act.eval]) (OB.out.alloc _) (.slice (some ⟨wb.heap.size, 0, none⟩) 1 1) [⟨a, z', false⟩] (by simp [Act.eval]) (R1.out wb) N2.out (SZ.out _ (bal GB.out)) ?_
            intro vc wc oc gc _
            have OC := Lib.hid oc
            have GC := Lib.hid (below_app (bal GB.out) (SZ.out _ (bal GB.out)) (OB.out.alloc _) gc)
            clear oc gc)
         | (refine step_blk (o := ⟨some 92, _, _, _, _, _⟩) rfl (.tmp 83) (.tmp 91) rfl w.heap.size vb ([] ++ U0) (by simp [Act.eval]) OB.out (.slice (some ⟨wr.heap.size, 0, none⟩) 1 1) [⟨a, z', false⟩] (by simp [Act.eval]) (ra_below (ra_below (R1.out wr) ((Below.refl _ _).drew)) GX.out) N2.out (SZ.out _ GB.out) ?_
            intro vc wc oc gc _
            have OC := Lib.hid oc
            have GC := Lib.hid (below_app GB.out (SZ.out _ GB.out) OB.out gc)
            clear oc gc))
        all_goals
         clear R1 gb
         by_cases e9 : cap = T
         · rw [if_pos e9] at hq
           subst hq
           have e2 : T = cap := e9.symm
           subst e2
           rw [Nat.sub_self] at HP
           go_wp2_with (at_builtin; refine app_blk (o := ⟨some 97, _, _, _, _, _⟩) rfl (.tmp 93) (.tmp 96) rfl w.heap.size vc (([] ++ U0) ++ [(⟨a, z', false⟩ : Bk)]) rfl OC.out _ U1 rfl (HP.out _ GC.out).2 N4.out (SZ.out _ GC.out) ?_)
           intro ve we oe ge _
           have OE : Hid (OwnA blkE w.heap.size we ve (U0 ++ (⟨a, z', false⟩ :: U1))) := Lib.hid (by simpa using oe)
           have GE := Lib.hid (below_app GC.out (SZ.out _ GC.out) OC.out ge)
           clear oe ge
           go_wp2
           go_ret3
           exact ⟨⟨_, rfl, OE.out⟩, GE.out⟩
         · rw [if_neg e9] at hq
           subst hq
           go_wp2_with (at_builtin; refine app_blk (o := ⟨some 97, _, _, _, _, _⟩) rfl (.tmp 93) (.tmp 96) rfl w.heap.size vc (([] ++ U0) ++ [(⟨a, z', false⟩ : Bk)]) rfl OC.out _ U1 rfl (HP.out _ GC.out).2 N4.out (SZ.out _ GC.out) ?_)
           intro ve we oe ge _
           have OE : Hid (OwnA blkE w.heap.size we ve (U0 ++ (⟨a, z', false⟩ :: U1))) := Lib.hid (by simpa using oe)
           have GE := Lib.hid (below_app GC.out (SZ.out _ GC.out) OC.out ge)
           clear oe ge
           go_wp2
           go_ret3
           exact ⟨⟨_, rfl, OE.out⟩, GE.out⟩
theorem rmerged_is (l : List Bk) (i : Int) (v : Value) (w : World) (hv : RA blkE w v l) (hl : l.length ≤ 1000) (r : Bool) (h : canM l i = r) :
 Calls Tryz.prog 91 #[v, .int .i64 i] w fun e w' => (∃ u, e = .returned (.tuple #[u, .int .i64 (if r = true then frm l i.toNat else 0 : Nat), .bool r]) ∧ OwnA blkE w.heap.size w' u (mrgF l i)) ∧ Below w.heap.size w w' := by
 cases r with
 | false =>
   refine (rmerged_no l i v w hv hl h).mono ?_
   rintro e w' ⟨rfl, hb⟩
   rw [mrgF_no h]
   exact ⟨⟨_, rfl, own_nil_a _ _ _⟩, hb⟩
 | true =>
   obtain ⟨k, rfl⟩ : ∃ k : Nat, i = k := ⟨i.toNat, by have := (canM_yes.1 h).2.1; omega⟩
   rw [if_pos rfl, Int.toNat_natCast]
   exact rmerged_yes l k v w hv hl h
theorem ral_is (wl : List Int) (n : Int) (cs : List Int) (v u : Value) (w : World) (hv : RU w v wl) (hl : wl.length ≤ 1000) (hw : WordsOk wl) (hu : RI w u cs) :
 Calls Tryz.prog 25 #[v, .int .i64 n, u] w fun e w' => (∃ x, e = .returned (.tuple #[x, .int .i64 (alR wl n cs).2.1, .int .i64 (alR wl n cs).2.2]) ∧ OwnA edE w.heap.size w' x (alR wl n cs).1) ∧ Below w.heap.size w w' := by
 have C0 := Lib.hid (fun w => rneed_is n w)
 unfold alR
 obtain ⟨N, hN⟩ : ∃ N, needN n = N := ⟨_, rfl⟩
 rw [hN] at C0 ⊢
 by_cases h0 : N = 0
 · rw [if_pos h0]
   have e0 : (N == 0) = true := by rw [h0]; rfl
   clear h0 hv hl hw hu hN
   go_enter Tryz.func25, Tryz.ntmps25
   go_wp2_with fail
   refine (C0.out _).mono ?_; rintro e w1 ⟨rfl, rfl⟩
   go_wp2
   go_ret3
   exact ⟨⟨_, rfl, own_nil_e _ _⟩, Below.refl _ _⟩
 · rw [if_neg h0]
   have e0 : (N == 0) = false := beq_eq_false_iff_ne.2 h0
   have hN2 : 2 ≤ N := by
    unfold needN at hN
    split at hN <;> omega
   cases hB : blkF wl with
   | none =>
     have T := Lib.hid (rblocks_main wl v none w hv hl hw hB)
     clear h0 hv hl hw hu hN hB hN2
     simp only [Option.isSome_none, Option.getD_none] at T ⊢
     go_enter Tryz.func25, Tryz.ntmps25
     go_wp2_with fail
     refine (C0.out _).mono ?_; rintro e w1 ⟨rfl, rfl⟩
     go_wp2_with fail
     refine (T.out).mono ?_; rintro e w1 ⟨⟨v1, rfl, _⟩, b1⟩
     go_wp2
     go_ret3
     exact ⟨⟨_, rfl, own_nil_e _ _⟩, b1⟩
   | some l =>
     have T := Lib.hid (rblocks_main wl v (some l) w hv hl hw hB)
     obtain ⟨hlen, _⟩ := blkF_len hB
     have hm := blkF_some hB
     have HU := Lib.hid (fun (w' : World) (hb : Below w.heap.size w w') => ri_below hu hb)
     simp only [Option.isSome_some, Option.getD_some] at T ⊢
     cases hR : chN N cs l with
     | none =>
       have CC := Lib.hid (fun (v1 : Value) (w' : World) (h : RA blkE w' v1 l) (hb : Below w.heap.size w w') => rchoose_is N cs l v1 u none w' h (HU.out w' hb) (by omega) hR)
       simp only [oi] at CC ⊢
       obtain ⟨y, hy, e1⟩ : ∃ y : Int, (-1 : Int) = y ∧ y < 0 := ⟨_, rfl, by decide⟩
       rw [hy] at CC
       clear h0 hv hl hw hu hN hB hN2 hlen hm hR hy
       go_enter Tryz.func25, Tryz.ntmps25
       go_wp2_with fail
       refine (C0.out _).mono ?_; rintro e w1 ⟨rfl, rfl⟩
       go_wp2_with fail
       refine (T.out).mono ?_; rintro e w1 ⟨⟨v1, rfl, o1⟩, b1⟩
       have D1 := Lib.hid b1
       have O1 := Lib.hid o1.ra
       clear o1 b1 T
       go_wp2_with fail
       refine (C0.out _).mono ?_; rintro e w1 ⟨rfl, rfl⟩
       go_wp2_with fail
       refine (CC.out _ _ O1.out D1.out).mono ?_; rintro e w2 ⟨rfl, b2⟩
       have D2 := Lib.hid (below_more D1.out b2)
       clear b2 CC
       go_wp2
       go_ret3
       exact ⟨⟨_, rfl, own_nil_e _ _⟩, D2.out⟩
     | some d =>
       have CC := Lib.hid (fun (v1 : Value) (w' : World) (h : RA blkE w' v1 l) (hb : Below w.heap.size w w') => rchoose_is N cs l v1 u (some d) w' h (HU.out w' hb) (by omega) hR)
       obtain ⟨hd, hcan, _, _, _⟩ := chN_can hm hR hN2
       have CE := Lib.hid (fun (v1 : Value) (w' : World) (h : RA blkE w' v1 l) => rcedits_is l d N v1 w' h (by omega))
       have LD := Lib.hid (fun (v1 : Value) (w' : World) (h : RA blkE w' v1 l) => blk_ld h hd)
       simp only [oi] at CC ⊢
       have CO := Lib.hid (fun w' => roff_is (l.getD d default) (offB (atL l d)) rfl w')
       have i3 : ¬ (d : Int) < 0 := by omega
       have i0 : (d : Int) < (l.length : Int) := by omega
       have i2 : (0 : Int) ≤ (d : Int) := by omega
       generalize offB (atL l d) = x at *
       generalize cedF l d N = E at *
       clear h0 hv hl hw hu hN hB hN2 hlen hm hR hd hcan
       go_enter Tryz.func25, Tryz.ntmps25
       go_wp2_with fail
       refine (C0.out _).mono ?_; rintro e w1 ⟨rfl, rfl⟩
       go_wp2_with fail
       refine (T.out).mono ?_; rintro e w1 ⟨⟨v1, rfl, o1⟩, b1⟩
       have D1 := Lib.hid b1
       have O1 := Lib.hid o1.ra
       clear o1 b1 T
       go_wp2_with fail
       refine (C0.out _).mono ?_; rintro e w1 ⟨rfl, rfl⟩
       go_wp2_with fail
       refine (CC.out _ _ O1.out D1.out).mono ?_; rintro e w2 ⟨rfl, b2⟩
       have D2 := Lib.hid (below_more D1.out b2)
       have O2 := Lib.hid (ra_below O1.out b2)
       obtain ⟨b, off, c1, rfl, _, _⟩ := LD.out _ _ O2.out
       have ld : ∀ w', Below w2.heap.size w2 w' → (blkLoad (.pointer (some ⟨b, off + d * 3, none⟩))).run Tryz.prog w' = .ok (.agg (bc (l.getD d default))) w' := fun w' hb => by
        obtain ⟨_, _, _, e, hx, _⟩ := LD.out _ _ (ra_below O2.out hb)
        cases e
        exact hx
       have HO2 := Lib.hid (fun w' (hb : Below w2.heap.size w2 w') => ra_below O2.out hb)
       clear b2 CC LD O1 O2
       generalize l.getD d default = X at *
       generalize l.length = L at *
       go_wp2_with fail
       go_region_held3 (fun w' => Below w2.heap.size w2 w')
        (first | assumption | exact (Below.refl _ _).drew | exact below_more ‹Below w2.heap.size w2 _› hby | exact below_more ‹Below w2.heap.size w2 _› hbq)
        (first
          | (go_at_call 65; refine (C0.out _).mono ?_; rintro e wz ⟨rfl, rfl⟩)
          | (go_at_call 68; refine (CE.out _ _ (HO2.out _ (by assumption))).mono ?_; rintro e wy ⟨⟨ue, rfl, oe⟩, hby⟩
             have OE := Lib.hid oe
             clear oe)
          | (go_at_call 55; refine (CO.out _).mono ?_; rintro e wq ⟨rfl, hbq⟩))
       go_wp2
       go_ret3
       exact ⟨⟨_, rfl, (OE.out.below hbq).mono (show w.heap.size ≤ w2.heap.size from D2.out.size)⟩, below_more D2.out (by assumption)⟩
theorem rfr_is (wl : List Int) (o : Int) (v : Value) (w : World) (hv : RU w v wl) (hl : wl.length ≤ 1000) (hw : WordsOk wl) :
 Calls Tryz.prog 45 #[v, .int .i64 o] w fun e w' => (∃ x, e = .returned (.tuple #[x, .int .i64 (frR wl o).2]) ∧ OwnA edE w.heap.size w' x (frR wl o).1) ∧ Below w.heap.size w w' := by
 unfold frR
 cases hB : blkF wl with
 | none =>
   have T := Lib.hid (rblocks_main wl v none w hv hl hw hB)
   clear hv hl hw hB
   simp only [Option.isSome_none, Option.getD_none] at T ⊢
   go_enter Tryz.func45, Tryz.ntmps45
   go_wp2_with fail
   refine (T.out).mono ?_; rintro e w1 ⟨⟨v1, rfl, _⟩, b1⟩
   go_wp2
   go_ret2
   exact ⟨⟨_, rfl, own_nil_e _ _⟩, b1⟩
 | some l =>
   have T := Lib.hid (rblocks_main wl v (some l) w hv hl hw hB)
   obtain ⟨hlen, _⟩ := blkF_len hB
   simp only [Option.isSome_some, Option.getD_some] at T ⊢
   cases hR : isN o l with
   | none =>
     have CU := Lib.hid (fun (v1 : Value) (w' : World) (h : RA blkE w' v1 l) => ris_is o l v1 none w' h hR)
     have CM := Lib.hid (fun (v1 : Value) (w' : World) (h : RA blkE w' v1 l) => rmerged_is l (-1) v1 w' h (by omega) false (canM_neg l))
     rw [mrgF_no (canM_neg l), if_neg Bool.false_ne_true] at CM
     simp only [oi] at CU ⊢
     obtain ⟨y, hy⟩ : ∃ y : Int, (-1 : Int) = y := ⟨_, rfl⟩
     rw [hy] at CU CM
     clear hv hl hw hB hlen hR hy
     go_enter Tryz.func45, Tryz.ntmps45
     go_wp2_with fail
     refine (T.out).mono ?_; rintro e w1 ⟨⟨v1, rfl, o1⟩, b1⟩
     have D1 := Lib.hid b1
     have O1 := Lib.hid o1.ra
     clear o1 b1 T
     go_wp2_with fail
     refine (CU.out _ _ O1.out).mono ?_; rintro e w2 ⟨rfl, b2⟩
     have D2 := Lib.hid (below_more D1.out b2)
     have O2 := Lib.hid (ra_below O1.out b2)
     clear b2 CU
     go_wp2_with fail
     refine (CM.out _ _ O2.out).mono ?_; rintro e w3 ⟨⟨v3, rfl, _⟩, b3⟩
     have D3 := Lib.hid (below_more D2.out b3)
     clear b3 CM
     go_wp2
     go_ret2
     exact ⟨⟨_, rfl, own_nil_e _ _⟩, D3.out⟩
   | some k =>
     have CU := Lib.hid (fun (v1 : Value) (w' : World) (h : RA blkE w' v1 l) => ris_is o l v1 (some k) w' h hR)
     have hcan := isN_can hB hR
     obtain ⟨q1, q2, _⟩ := mrg_length hcan
     have hml : frm l k < (mrgF l k).length := q1
     have CM := Lib.hid (fun (v1 : Value) (w' : World) (h : RA blkE w' v1 l) => rmerged_is l k v1 w' h (by omega) true hcan)
     rw [if_pos rfl, Int.toNat_natCast] at CM
     have LD := Lib.hid (fun (v1 : Value) (w' : World) (h : RA blkE w' v1 (mrgF l k)) => blk_ld h hml)
     rw [mrg_at hcan] at LD
     obtain ⟨⟨a, s, u⟩, hone⟩ : ∃ b, oneB l k = b := ⟨_, rfl⟩
     have hmed : medF l k = ⟨a, hdB s false⟩ := by rw [medF_yes hcan, hone]
     have CW := Lib.hid (fun w' => rwordb_is s false w')
     have hwf : Hid (medF l k).Wf := Lib.hid (by
      rw [medF_yes hcan]
      obtain ⟨g1, g2, g3⟩ := one_in (blkF_some hB) hcan
      obtain ⟨_, h5, _⟩ := (mayL_yes.1 (blkF_some hB)).1
      have := hdB_in (oneB l k).s false
      obtain ⟨g4, _⟩ := g1
      exact Ed.wf_of (by simp only; omega) (by simp only; omega) this.1 this.2)
     simp only [oi] at CU ⊢
     rw [hmed] at hwf ⊢
     rw [hone] at LD
     simp only at LD
     generalize hdB s false = x at *
     have i0 : (frm l k : Int) < ((mrgF l k).length : Int) := by omega
     have i1 : ¬ (frm l k : Int) < 0 := by omega
     have i2 : (0 : Int) ≤ (frm l k : Int) := by omega
     generalize frm l k = F at *
     generalize mrgF l k = M at *
     clear hv hl hw hB hlen hR hcan hmed hone hml q1 q2
     go_enter Tryz.func45, Tryz.ntmps45
     go_wp2_with fail
     refine (T.out).mono ?_; rintro e w1 ⟨⟨v1, rfl, o1⟩, b1⟩
     have D1 := Lib.hid b1
     have O1 := Lib.hid o1.ra
     clear o1 b1 T
     go_wp2_with fail
     refine (CU.out _ _ O1.out).mono ?_; rintro e w2 ⟨rfl, b2⟩
     have D2 := Lib.hid (below_more D1.out b2)
     have O2 := Lib.hid (ra_below O1.out b2)
     clear b2 CU
     go_wp2_with fail
     refine (CM.out _ _ O2.out).mono ?_; rintro e w3 ⟨⟨v3, rfl, o3⟩, b3⟩
     have D3 := Lib.hid (below_more D2.out b3)
     have O3 := Lib.hid o3.ra
     obtain ⟨b, off, c3, rfl, _, _, _⟩ := LD.out _ _ O3.out
     have cc : ∀ w', Below w3.heap.size w3 w' → w'.cell? ⟨b, off + F * 3, none⟩ = some (.int .i64 a) ∧ w'.cell? ⟨b, off + F * 3 + 1, none⟩ = some (.int .i64 s) := fun w' hb => by
      obtain ⟨_, _, _, e, _, h1, h2⟩ := LD.out _ _ (ra_below O3.out hb)
      cases e
      exact ⟨h1, h2⟩
     have c0 : ∀ w', Below w3.heap.size w3 w' → w'.cell? ⟨b, off + F * 3, none⟩ = some (.int .i64 a) := fun w' hb => (cc w' hb).1
     have c1 : ∀ w', Below w3.heap.size w3 w' → w'.cell? ⟨b, off + F * 3 + 1, none⟩ = some (.int .i64 s) := fun w' hb => (cc w' hb).2
     have HE := Lib.hid (fun w' => ed_one w' hwf.out)
     clear b3 CM cc o3 LD O1 O2 O3
     generalize M.length = L at *
     go_wp2_with fail
     go_region_held3 (fun w' => Below w3.heap.size w3 w')
      (first | assumption | exact (Below.refl _ _).drew | exact bal (by assumption))
      (first
        | (go_at_call 92; refine (CW.out _).mono ?_; rintro e wz ⟨rfl, rfl⟩))
     go_wp2
     go_ret2
     exact ⟨⟨_, rfl, ((HE.out w3).drew).mono D3.out.size⟩, below_more D3.out (by assumption)⟩
theorem rwr_is (wl bl : List Int) (o : Int) (v u : Value) (w : World) (hv : RU w v wl) (hu : RA byE w u bl) (hl : wl.length ≤ 1000) (hbl : bl.length ≤ 100000) (hw : WordsOk wl) (ho : -9223372036854775808 ≤ o ∧ o ≤ 9223372036854775807) :
 Calls Tryz.prog 46 #[v, .int .i64 o, u] w fun e w' => (∃ x L, e = .returned (.tuple #[x, .int .i64 (refF wl o bl.length)]) ∧ OwnA edE w.heap.size w' x L ∧ WrT wl bl o L) ∧ Below w.heap.size w w' := by
 have CR := Lib.hid (fun (w' : World) (hb : Below w.heap.size w w') => redits_is wl bl v u o w' (ru_below hv hb) (ra_below hu hb) (wd_ok hw) ho hl hbl)
 have HT : Hid ((∀ X, refF wl o bl.length = 0 → Tells wl bl o X → WrT wl bl o X) ∧ (refF wl o bl.length ≠ 0 → WrT wl bl o [])) := Lib.hid ⟨fun X h0 h => by unfold WrT; rw [if_pos h0]; exact h, fun h0 => by unfold WrT; rw [if_neg h0]⟩
 obtain ⟨p, c, rfl, _, _⟩ := ra_shape hu
 cases hB : blkF wl with
 | none =>
   have T := Lib.hid (rblocks_main wl v none w hv hl hw hB)
   have e0 : refF wl o bl.length = 6 := by unfold refF; rw [hB]
   have HT1 := Lib.hid (HT.out.2 (by rw [e0]; decide))
   rw [e0]
   clear hv hl hw hB ho hu hbl HT e0
   simp only [Option.isSome_none, Option.getD_none] at T ⊢
   generalize bl.length = L at *
   go_enter Tryz.func46, Tryz.ntmps46
   go_wp2_with fail
   refine (T.out).mono ?_; rintro e w1 ⟨⟨v1, rfl, _⟩, b1⟩
   go_wp2
   go_ret2
   exact ⟨⟨_, [], rfl, own_nil_e _ _, HT1.out⟩, b1⟩
 | some l =>
   have T := Lib.hid (rblocks_main wl v (some l) w hv hl hw hB)
   obtain ⟨hlen, _⟩ := blkF_len hB
   have CI := Lib.hid (fun (v1 : Value) (w' : World) (h : RA blkE w' v1 l) => rwi_is l o bl.length v1 w' h (by omega) (sm_of hB))
   simp only [Option.isSome_some, Option.getD_some] at T ⊢
   obtain ⟨r, hr⟩ : ∃ r, inL o bl.length l = r := ⟨_, rfl⟩
   have e0 : refF wl o bl.length = if r = true then 0 else 1 := by unfold refF; rw [hB]; simp only [hr]
   rw [hr] at CI
   rw [e0]
   cases r
   · have HT1 := Lib.hid (HT.out.2 (by rw [e0]; decide))
     rw [if_neg Bool.false_ne_true]
     clear hv hl hw hB ho hu hbl HT e0 hlen hr CR
     generalize bl.length = L at *
     go_enter Tryz.func46, Tryz.ntmps46
     go_wp2_with fail
     refine (T.out).mono ?_; rintro e w1 ⟨⟨v1, rfl, o1⟩, b1⟩
     have D1 := Lib.hid b1
     have O1 := Lib.hid o1.ra
     clear o1 b1 T
     go_wp2_with fail
     refine (CI.out _ _ O1.out).mono ?_; rintro e w2 ⟨rfl, b2⟩
     have D2 := Lib.hid (below_more D1.out b2)
     clear b2 CI
     go_wp2
     go_ret2
     exact ⟨⟨_, [], rfl, own_nil_e _ _, HT1.out⟩, D2.out⟩
   · have HT1 := Lib.hid (fun X => HT.out.1 X (by rw [e0]; rfl))
     rw [if_pos rfl]
     clear hv hl hw hB ho hu hbl HT e0 hlen hr
     generalize bl.length = L at *
     go_enter Tryz.func46, Tryz.ntmps46
     go_wp2_with fail
     refine (T.out).mono ?_; rintro e w1 ⟨⟨v1, rfl, o1⟩, b1⟩
     have D1 := Lib.hid b1
     have O1 := Lib.hid o1.ra
     clear o1 b1 T
     go_wp2_with fail
     refine (CI.out _ _ O1.out).mono ?_; rintro e w2 ⟨rfl, b2⟩
     have D2 := Lib.hid (below_more D1.out b2)
     clear b2 CI
     go_wp2_with fail
     refine (CR.out _ D2.out).mono ?_; rintro e w3 ⟨⟨x, X, rfl, ox, tx⟩, b3⟩
     have D3 := Lib.hid (below_more D2.out b3)
     have OX := Lib.hid (And.intro (ox.mono D2.out.size) tx)
     clear b3 CR ox tx
     go_wp2
     go_ret2
     exact ⟨⟨_, X, rfl, OX.out.1, HT1.out X OX.out.2⟩, D3.out⟩
def rmBuild (ps : Array (Nat × Value)) : Sem Value := Instr.build 54 ps
@[go_sem ↓] theorem build_rm (ps : Array (Nat × Value)) : Instr.build 54 ps = rmBuild ps := rfl
theorem built_rm1 (p : Option Addr) (n c : Nat) : Tryz.prog.built 54 [(0, .slice p n c)] = some #[.slice p n c, .int .i64 0] := by kernel_rfl
theorem built_rm2 (p : Option Addr) (n c : Nat) (r : Int) : Tryz.prog.built 54 [(0, .slice p n c), (1, .int .i64 r)] = some #[.slice p n c, .int .i64 r] := by kernel_rfl
@[go_sem] theorem run_rmBuild1 (w : World) (p : Option Addr) (n c : Nat) : (rmBuild #[(0, .slice p n c)]).run Tryz.prog w = .ok (.agg #[.slice p n c, .int .i64 0]) w := run_build w _ _ _ (built_rm1 p n c)
@[go_sem] theorem run_rmBuild2 (w : World) (p : Option Addr) (n c : Nat) (r : Int) : (rmBuild #[(0, .slice p n c), (1, .int .i64 r)]).run Tryz.prog w = .ok (.agg #[.slice p n c, .int .i64 r]) w := run_build w _ _ _ (built_rm2 p n c r)


theorem aim_free {X : List Int} {l : List Bk} {r : Nat} {o : Int} (hok : WordsOk X) (hB : blkF X = some l) : (plF X r o).e = feQ l o r ∧ (plF X r o).X = feW X l o r ∧ blkF (plF X r o).X = some (feB l o r) ∧ ((plF X r o).ch = true ↔ (plF X r o).e = 0) ∧ (plF X r o).r = r := by
 unfold plF plNo feQ feW feB
 cases hi : isN o l with
 | none =>
   rw [frR_none hB hi, if_pos (by decide)]
   exact ⟨rfl, rfl, hB, ⟨fun q => (by cases q), fun q => (by cases q)⟩, rfl⟩
 | some k =>
   have hf := frR_some hB hi
   rw [hf, if_neg (by simp)]
   by_cases h : o = (r : Int)
   · rw [if_pos h]
     dsimp only
     rw [if_pos h, if_pos h, if_pos h]
     exact ⟨rfl, rfl, hB, ⟨fun q => (by cases q), fun q => (by cases q)⟩, rfl⟩
   · rw [if_neg h]
     dsimp only
     rw [if_neg h, if_neg h, if_neg h]
     exact ⟨rfl, rfl, (given hB hok (isN_can hB hi)).1, ⟨fun _ => rfl, fun _ => rfl⟩, rfl⟩
structure WantP (X : List Int) (pl : Aim) (Q : Int) (X7 : List Int) (r7 : Int) (non : Bool) : Prop where
 e : pl.e = Q
 off : pl.off = 0
 data : pl.data = []
 X : pl.X = X7
 r : ((pl.r : Nat) : Int) = r7
 ch : pl.ch = true ↔ Q = 0 ∧ non = false
 n3 : Q ≠ 3
theorem ra_chg_or {α : Type} [Inhabited α] {P : Program} {E : Elm P α} {D : List Nat} {w w' : World} {v : Value} {l : List α} (h : RA E w v l) (hc : Chg D w w') (hD : l = [] ∨ ∀ g, v.ownBlock = some g → g ∉ D) : RA E w' v l := by
 rcases hD with rfl | hD
 · obtain ⟨p, cap, rfl, h1, h2, h3, _⟩ := h
   exact ⟨p, cap, rfl, h1, h2, h3, .inl rfl⟩
 · exact ra_chg h hc hD
theorem ra_low {α : Type} [Inhabited α] {P : Program} {E : Elm P α} {w : World} {v : Value} {l : List α} (h : RA E w v l) : l = [] ∨ ∀ k, v.ownBlock = some k → k < w.heap.size := by
 obtain ⟨p, cap, rfl, h1, h2, h3, h | ⟨b, off, rfl, hlt, _⟩⟩ := h
 · exact .inl h
 · refine .inr fun k hk => ?_
   injection hk with hk
   rw [← hk]; exact hlt
def SOutH (w w' : World) (a : Ha) (S : Hs) (K : Nat) (D : List Nat) (g : Nat) (e : Ending) : Prop :=
 e = .returned (.int .i64 0) ∧ ∃ S' X' l' r', Hp w' a S' ∧ HI a S' (K + 1) X' r' ∧ S'.s.la = S.s.la ∧ S'.s.comes = false ∧ S'.s.n = S.s.n ∧ Rm w' D g X' l' ((r' : Nat) : Int) ∧ Chg (g :: a.D) w w' ∧ (Free S.s → S.worn = false → Free S'.s ∧ S'.worn = false) ∧ (S'.wf = S.wf ∨ ¬ Free S.s)
structure SOutR (w w' : World) (a : Ha) (S : Hs) (D : List Nat) (g : Nat) (X : List Int) (l : List Bk) (r : Nat) : Prop where
 hp : Hp w' a S
 rm : Rm w' D g X l (r : Int)
 c : Chg (g :: a.D) w w'




structure HRun (w0 wi : World) (a : Ha) (g K : Nat) (fr : Bool) (S : Hs) (X : List Int) (r : Nat) (lb : List Bk) : Prop where
 hp : Hp wi a S
 hi : HI a S K X r
 co : S.s.comes = false
 fr : fr = true → Free S.s ∧ S.worn = false
 rm : Rm wi (g :: a.D) g X lb (r : Int)
 b : Below w0.heap.size w0 wi
 lo : ∀ k ∈ g :: a.D, w0.heap.size ≤ k
 hg : g ∉ a.D
theorem px_ok {W w : World} {x : Px} (h : x.Wf W) (hb : Below W.heap.size W w) (hl : x.bl.length ≤ 100000) : PxOk w x := ⟨ra_below h.rv hb, hl, i64_wf h.wo, i64_wf h.wn⟩
theorem heavy21b {W0 w : World} (l : List Px) (lim : List Int) (v u : Value) (hv : RA (opE W0) w v l) (hu : RI w u lim) :
 Calls Tryz.prog 12 #[v, u] w fun e w' => (∃ r : Nat, e = .returned (.int .i64 (r : Int)) ∧ r ≤ 81 ∧ (r = 0 → Light l lim)) ∧ Below w.heap.size w w' := by
 have HV := Lib.hid hv
 obtain ⟨p, cap, rfl, h1, h2⟩ := ra_shape hv
 obtain ⟨p2, cap2, rfl, h3, h4, _⟩ := hu
 unfold maxLen at h2 h4
 by_cases c2 : 200 < lim.length
 · have i2 : (lim.length : Int) > 200 := by omega
   clear hv h1 h2 h3 h4 c2
   generalize lim.length = L2 at *
   generalize l.length = L at *
   go_enter Tryz.func12, Tryz.ntmps12
   go_wp2_with fail
   go_ret
   exact ⟨⟨1, rfl, by decide, fun h => by cases h⟩, Below.refl _ _⟩
 have i2 : ¬ (lim.length : Int) > 200 := by omega
 have HL2 : Hid (lim.length ≤ 200) := Lib.hid (by omega)
 clear hv h1 h2 h3 h4 c2
 generalize hm : lim.length = L2 at *
 have HM := Lib.hid hm
 clear hm
 obtain ⟨L, hL⟩ : ∃ L, l.length = L := ⟨_, rfl⟩
 have HLL := Lib.hid hL
 rw [hL]
 clear hL
 go_enter Tryz.func12, Tryz.ntmps12
 go_wp2
 go_loopw [12] (fun i wr => ∃ k : Nat, k ≤ L ∧ i = .int .i64 k ∧ Hid (Below w.heap.size w wr ∧ k ≤ 80 ∧ ∀ j, j < k → (l.getD j default).bl.length ≤ 500)) (fun i _ => L - (intOf i).toNat)
 case atStart => exact ⟨0, Nat.zero_le _, rfl, Lib.hid ⟨Below.refl _ _, by omega, fun j hj => by omega⟩⟩
 case round =>
  obtain ⟨k, hk, rfl, H⟩ := hrel
  by_cases hlt : k < L
  · obtain ⟨b, off, hpp, hb, hx⟩ := px_at (ra_below HV.out H.out.1) (by rw [HLL.out]; omega)
    subst hpp
    obtain ⟨hld, hwf⟩ := hx k (by rw [HLL.out]; exact hlt)
    have HX := Lib.hid (show ∀ j, j < k + 1 → ((l.getD k default).bl.length ≤ 500 → (l.getD j default).bl.length ≤ 500) from fun j hj hh => by
     by_cases e : j = k
     · subst e; exact hh
     · exact H.out.2.2 j (by omega))
    have hvl : ∃ q c, (l.getD k default).v = .slice q (l.getD k default).bl.length c := by
     obtain ⟨q, c, e, _⟩ := ra_shape hwf.rv
     exact ⟨q, c, e⟩
    have hone := hwf.one
    generalize l.getD k default = x at *
    obtain ⟨W1, hW1, hst, HB⟩ := px_boxed wr x hone
    have c4 := HB.out.1.c4
    obtain ⟨q, c, hvv⟩ := hvl
    rw [hvv] at c4
    have B1 := Lib.hid (below_more H.out.1 HB.out.2)
    have HK := Lib.hid (And.intro hlt H.out.2.1)
    have i0 : (0 : Int) ≤ (k : Int) := by omega
    have i1 : (k : Int) < (L : Int) := by omega
    have i3 : ¬ (k : Int) < 0 := by omega
    have i4 : IntKind.i64.wrap ((k : Int) + 1) = ((k + 1 : Nat) : Int) := by rw [show (k : Int) + 1 = ((k + 1 : Nat) : Int) by omega]; exact i64_nat _ (by have := HK.out; omega)
    generalize hbl : x.bl.length = n at *
    by_cases c8 : 80 ≤ k
    · have i5 : (k : Int) ≥ 80 := by omega
      clear hx hb hk hlt hwf hone hvv hbl H HX c8
      go_wp2
      go_ret
      exact ⟨⟨k + 1, rfl, by have := HK.out; omega, fun h => by omega⟩, B1.out⟩
    have i5 : ¬ (k : Int) ≥ 80 := by omega
    have i5' : ¬ 80 ≤ k := c8
    by_cases c5 : 500 < n
    · have i6 : (n : Int) > 500 := by omega
      have i6' : 500 < n := c5
      clear hx hb hk hlt hwf hone hvv hbl H HX c8 c5
      go_wp2
      go_ret
      exact ⟨⟨k + 1, rfl, by have := HK.out; omega, fun h => by omega⟩, B1.out⟩
    · have i6 : ¬ (n : Int) > 500 := by omega
      have i6' : ¬ 500 < n := c5
      have HN : Hid (Below w.heap.size w W1 ∧ k + 1 ≤ 80 ∧ ∀ j, j < k + 1 → (l.getD j default).bl.length ≤ 500) := Lib.hid ⟨B1.out, by omega, fun j hj => HX.out j hj (by omega)⟩
      clear hx hb hk hlt hwf hone hvv hbl H HX c8 c5
      go_wp2
      go_roundw
      case rel => exact ⟨k + 1, by have := HK.out; omega, by go_num, HN⟩
      case measure => have := HK.out; simp [intOf]; omega
  · obtain rfl : k = L := by omega
    have HF : Hid (Light l lim ∧ Below w.heap.size w wr) := Lib.hid ⟨⟨by rw [HM.out]; exact HL2.out, by rw [HLL.out]; exact H.out.2.1, fun j hj => H.out.2.2 j (by rw [HLL.out] at hj; exact hj)⟩, H.out.1⟩
    clear H
    go_wp2
    go_ret
    exact ⟨⟨0, rfl, by decide, fun _ => HF.out.1⟩, HF.out.2⟩
theorem Hp.dlt {w : World} {a : Ha} {S : Hs} (h : Hp w a S) : ∀ k ∈ a.D, k < w.heap.size := by
 intro k hk
 simp only [Ha.D, List.mem_cons, List.not_mem_nil, or_false] at hk
 rcases hk with rfl | rfl | rfl | rfl
 · exact h.hb.lt
 · exact h.hb.lg.nm.lt
 · exact Whole.lt h.hb.lg.tq
 · exact h.cq.ltg

def Teq (s t : Ct) : Prop := s.n = t.n ∧ ∀ q, q < s.n → s.c q = t.c q
theorem Teq.ints {s t : Ct} (h : Teq s t) : s.ints = t.ints := by
 unfold Ct.ints
 rw [← h.1]
 unfold byF
 exact List.map_congr_left fun q hq => by rw [h.2 q (List.mem_range.1 hq)]
theorem Teq.nts {s t : Ct} (h : Teq s t) (L : List Nat) : Teq (nts s L) (nts t L) := by
 refine ⟨by rw [nts_n, nts_n, h.1], fun q hq => ?_⟩
 rw [nts_n] at hq
 rw [nts_c, nts_c, h.2 q hq]
def Apa (a b : Ha) : Prop := a.z ∉ b.D ∧ a.g ∉ b.D ∧ a.y ∉ b.D ∧ a.q ∉ b.D ∧ a.x ∉ b.D ∧ a.k ∉ b.D ∧ a.kg ∉ b.D
theorem Hp.apart {w w' : World} {a b : Ha} {S : Hs} (h : Hp w a S) (q : Apa a b) (hc : Chg b.D w w') : Hp w' a S := h.chg hc q.1 q.2.1 q.2.2.1 q.2.2.2.1 q.2.2.2.2.1 q.2.2.2.2.2.1 q.2.2.2.2.2.2
structure Two (w0 wi : World) (a1 a2 : Ha) (K : Nat) (S1 S2 : Hs) (X : List Int) (r : Nat) : Prop where
 p1 : Hp wi a1 S1
 i1 : HI a1 S1 K X r
 f1 : Free S1.s ∧ S1.worn = false
 p2 : Hp wi a2 S2
 i2 : HI a2 S2 K X r
 f2 : Free S2.s ∧ S2.worn = false
 t : Teq S1.ct S2.ct
 b : Below w0.heap.size w0 wi
 lo1 : ∀ k ∈ a1.D, w0.heap.size ≤ k
 lo2 : ∀ k ∈ a2.D, w0.heap.size ≤ k
 far1 : Apa a1 a2
 far2 : Apa a2 a1
theorem Two.below {w0 wi w' : World} {a1 a2 : Ha} {K : Nat} {S1 S2 : Hs} {X : List Int} {r : Nat} (h : Two w0 wi a1 a2 K S1 S2 X r) (hb : Below wi.heap.size wi w') : Two w0 w' a1 a2 K S1 S2 X r :=
 ⟨h.p1.below hb, h.i1, h.f1, h.p2.below hb, h.i2, h.f2, h.t, below_more h.b hb, h.lo1, h.lo2, h.far1, h.far2⟩
structure Half (W w' : World) (a1 : Ha) (K : Nat) (S1 : Hs) (X : List Int) (r : Nat) (x : Px) (pl : Aim) (v : Value) : Prop where
 own : ∃ S1', Hp w' a1 S1' ∧ HI a1 S1' (K + 1) pl.X pl.r ∧ (Free S1'.s ∧ S1'.worn = false) ∧ S1'.ct = nts S1.ct (pgs pl.L)
 plan : PlanOf X r S1.ct.ints x.d x.o x.nn x.bl pl
 v : OwnA byE W.heap.size w' v pl.data
 c : Chg a1.D W w'
theorem two_first {w0 W : World} {a1 a2 : Ha} {K : Nat} {S1 S2 : Hs} {X : List Int} {r : Nat} (x : Px) (h : Two w0 W a1 a2 K S1 S2 X r) (hK : K < 1000) (hx : PxOk W x) :
 Calls Tryz.prog 31 #[.pointer (some ⟨a1.z, 0, none⟩), .agg (pxc x)] W fun e w' => ∃ pl v, e = .returned (.agg (anc pl.e pl.off v)) ∧ Half W w' a1 K S1 X r x pl v := by
 refine (hdo_is x h.p1 h.i1 hK hx).mono ?_
 intro e w' ho
 obtain ⟨S', pl, v, g1, g2, g3, g4, g5, g6, g7, g8, g9, _⟩ := do_free h.i1 hK h.f1.1 h.f1.2 ho
 exact ⟨pl, v, g4, ⟨S', g1, g6, ⟨g8, g9⟩, g7⟩, g3, g5, g2⟩
theorem two_second {w0 W w' : World} {a1 a2 : Ha} {K : Nat} {S1 S2 : Hs} {X : List Int} {r : Nat} {x : Px} {pl : Aim} {v : Value} (h : Two w0 W a1 a2 K S1 S2 X r) (hK : K < 1000) (hx : PxOk W x) (hxf : x.bl = [] ∨ ∀ k, x.v.ownBlock = some k → k ∉ a1.D) (hH : Half W w' a1 K S1 X r x pl v) :
 Calls Tryz.prog 31 #[.pointer (some ⟨a2.z, 0, none⟩), .agg (pxc x)] w' fun e w'' => ∃ v2, e = .returned (.agg (anc pl.e pl.off v2)) ∧ RA byE w'' v2 pl.data ∧ RA byE w'' v pl.data ∧ (∃ S1' S2', Two w0 w'' a1 a2 (K + 1) S1' S2' pl.X pl.r) ∧ Chg (a1.D ++ a2.D) W w'' := by
 have p2 := h.p2.apart h.far2 hH.c
 have hx' : PxOk w' x := ⟨ra_chg_or hx.v hH.c hxf, hx.len, hx.o, hx.n⟩
 refine (hdo_is x p2 h.i2 hK hx').mono ?_
 intro e w'' ho
 obtain ⟨S', pl2, v2, g1, g2, g3, g4, g5, g6, g7, g8, g9, _⟩ := do_free h.i2 hK h.f2.1 h.f2.2 ho
 rw [← h.t.ints] at g3
 obtain rfl : pl2 = pl := g3.one hH.plan
 obtain ⟨S1', q1, q2, q3, q4⟩ := hH.own
 have c1 : Chg (a1.D ++ a2.D) W w'' := (hH.c.mono fun k hk => List.mem_append_left _ hk).trans (g2.mono fun k hk => List.mem_append_right _ hk)
 refine ⟨v2, g4, g5.ra, ?_, ⟨S1', S', q1.apart h.far1 g2, q2, q3, g1, g6, ⟨g8, g9⟩, by rw [q4, g7]; exact h.t.nts _, ?_, h.lo1, h.lo2, h.far1, h.far2⟩, c1⟩
 · refine (hH.v.chg g2 fun k hk q => ?_).ra
   have := (hH.v.lt k hk).1
   have := h.p2.dlt k q
   omega
 · refine c1.below h.b h.b.size fun k hk => ?_
   rcases List.mem_append.1 hk with hk | hk
   · exact h.lo1 k hk
   · exact h.lo2 k hk
theorem same_self {w : World} {e o : Int} {v v' : Value} {l : List Int} (hv : RA byE w v l) (hv' : RA byE w v' l) : Calls Tryz.prog 41 #[.agg (anc e o v), .agg (anc e o v')] w fun f w' => f = .returned (.bool true) ∧ Below w.heap.size w w' := by
 have h := rsame_is (w := w) (e := e) (o := o) (e' := e) (o' := o) hv hv'
 rwa [show decide (e = e ∧ o = o ∧ l = l) = true by simp] at h
theorem two_new {w0 w6 w7 : World} {N : Nat} {a a' : Ha} {S S' : Hs} (hp : Hp w6 a S) (hi : HI a S 3 (firstL (8 * N : Nat)) 0) (f1 : Free S.s ∧ S.worn = false) (hp' : Hp w7 a' S') (hi' : HI a' S' 3 (firstL (8 * N : Nat)) 0) (f2 : Free S'.s ∧ S'.worn = false) (b6 : Below w0.heap.size w0 w6) (b7 : Below w6.heap.size w6 w7) (hN : a.N = N) (hN' : a'.N = N)
 (hct : ∀ q, q < (N + 3) / 4 → S.ct.c q = 0) (hct' : ∀ q, q < (N + 3) / 4 → S'.ct.c q = 0)
 (hn : w0.heap.size ≤ a.z ∧ w0.heap.size ≤ a.g ∧ w0.heap.size ≤ a.y ∧ w0.heap.size ≤ a.q ∧ w0.heap.size ≤ a.x ∧ w0.heap.size ≤ a.k ∧ w0.heap.size ≤ a.kg)
 (hn' : w6.heap.size ≤ a'.z ∧ w6.heap.size ≤ a'.g ∧ w6.heap.size ≤ a'.y ∧ w6.heap.size ≤ a'.q ∧ w6.heap.size ≤ a'.x ∧ w6.heap.size ≤ a'.k ∧ w6.heap.size ≤ a'.kg) : Two w0 w7 a a' 3 S S' (firstL (8 * N : Nat)) 0 := by
 have h0 := b6.size
 have d := hp.dlt
 have l1 := hp.hb.lt
 have l2 := hp.hb.lg.nm.lt
 have l3 : a.y < w6.heap.size := Whole.lt hp.hb.lg.tq
 have l4 : a.q < w6.heap.size := hp.hb.lg.lq.lt
 have l5 : a.x < w6.heap.size := Whole.lt hp.hb.lg.lb
 have l6 := hp.cq.ltx
 have l7 := hp.cq.ltg
 have lo' : ∀ k ∈ a'.D, w6.heap.size ≤ k := fun k hk => by
  simp only [Ha.D, List.mem_cons, List.not_mem_nil, or_false] at hk
  rcases hk with rfl | rfl | rfl | rfl <;> omega
 refine ⟨hp.below b7, hi, f1, hp', hi', f2, ⟨?_, fun q hq => ?_⟩, below_more b6 b7, fun k hk => ?_, fun k hk => by have := lo' k hk; omega, ?_, ?_⟩
 · rw [hi.cn, hi'.cn, hN, hN']
 · rw [hi.cn, hN] at hq
   rw [hct q hq, hct' q hq]
 · simp only [Ha.D, List.mem_cons, List.not_mem_nil, or_false] at hk
   rcases hk with rfl | rfl | rfl | rfl <;> omega
 · refine ⟨?_, ?_, ?_, ?_, ?_, ?_, ?_⟩ <;> (intro q; have := lo' _ q; omega)
 · refine ⟨?_, ?_, ?_, ?_, ?_, ?_, ?_⟩ <;> (intro q; have := d _ q; omega)
theorem roots_take {N n : Nat} (hN : 1 ≤ N ∧ N ≤ 24) (hn : 1 ≤ n ∧ n ≤ 40) (cs : List Int) : ∃ pl l1, plA (firstL (8 * N : Nat)) 0 cs n = pl ∧ pl.e = 0 ∧ pl.off = 8 ∧ pl.r = 0 ∧ blkF pl.X = some l1 ∧ WordsOk pl.X ∧ ∀ o, (∃ j, isN o l1 = some j) ↔ o = 8 := by
 have hm : Mw ((8 * N : Nat) : Int) := by unfold Mw; omega
 obtain ⟨hB, hl, hok⟩ := first_blk hm
 have hmay := blkF_some hB
 have hneed : needN (n : Int) = ((n : Int) + 7) / 8 + 1 := by unfold needN; rw [if_pos (by omega)]
 have hne : needN (n : Int) ≠ 0 := by rw [hneed]; omega
 have h2 : 2 ≤ needN (n : Int) ∧ needN (n : Int) ≤ ((8 * N : Nat) : Int) := by rw [hneed]; omega
 have hf : fitB (needN (n : Int)) ⟨0, ((8 * N : Nat) : Int), false⟩ = true := fitB_iff.2 ⟨rfl, h2⟩
 obtain ⟨d, hd, _⟩ := chN_some (cs := cs) (fitN_some (List.mem_singleton.2 rfl) hf)
 obtain ⟨d1, hcan, _⟩ := chN_can hmay hd h2.1
 obtain rfl : d = 0 := by simpa using d1
 have ha := alR_some hB hne hd
 have hcrv : crvF [⟨0, ((8 * N : Nat) : Int), false⟩] ((0 : Nat) : Int) (needN (n : Int)) = prtB ⟨0, ((8 * N : Nat) : Int), false⟩ (needN (n : Int)) := by
  unfold crvF
  rw [if_pos hcan]
  simp [bAt]
 obtain ⟨t1, _, _, _, _, _, _, _, T⟩ := taken hB hok hcan
 rw [hcrv] at t1
 have hmay1 := blkF_some t1
 have hp : plA (firstL (8 * N : Nat)) 0 cs n = ⟨0, offB (atL [⟨0, ((8 * N : Nat) : Int), false⟩] 0), [], true, appF (firstL (8 * N : Nat)) (cedF [⟨0, ((8 * N : Nat) : Int), false⟩] ((0 : Nat) : Int) (needN (n : Int))), 0, lnsF (cedF [⟨0, ((8 * N : Nat) : Int), false⟩] ((0 : Nat) : Int) (needN (n : Int))), true⟩ := by
  unfold plA
  rw [if_neg hne, ha, if_pos rfl]
 refine ⟨_, _, hp, rfl, rfl, rfl, t1, T.ok, fun o => ⟨fun ⟨j, hj⟩ => ?_, fun ho => ?_⟩⟩
 · obtain ⟨j1, j2, j3⟩ := isN_some hj
   have hb := getD_mem j1
   have h0 : ((prtB ⟨0, ((8 * N : Nat) : Int), false⟩ (needN (n : Int))).getD j default).a = 0 := by
    generalize (prtB ⟨0, ((8 * N : Nat) : Int), false⟩ (needN (n : Int))).getD j default = b at *
    unfold prtB at hb
    split at hb
    · rw [List.mem_singleton.1 hb]
    · rcases List.mem_cons.1 hb with e | e
      · rw [e]
      · rw [List.mem_singleton.1 e] at j2; cases j2
   rw [h0] at j3
   rw [← j3]; rfl
 · rw [ho]
   have : ∃ b ∈ prtB ⟨0, ((8 * N : Nat) : Int), false⟩ (needN (n : Int)), b.u = true ∧ b.a = 0 := by
    unfold prtB
    split
    · exact ⟨_, List.mem_singleton.2 rfl, rfl, rfl⟩
    · exact ⟨_, List.mem_cons_self .., rfl, rfl⟩
   obtain ⟨b, hb, hu, h0⟩ := this
   have := isN_of hmay1 hb hu
   rw [h0] at this
   exact this
theorem roots_free {X : List Int} {l : List Bk} (hB : blkF X = some l) (hok : WordsOk X) (h : ∀ o, (∃ j, isN o l = some j) ↔ o = 8) : (plF X 0 8).e = 0 ∧ (plF X 0 8).r = 0 ∧ ∃ l2, blkF (plF X 0 8).X = some l2 ∧ WordsOk X ∧ ∀ o, isN o l2 = none := by
 obtain ⟨k, hk⟩ := (h 8).2 rfl
 obtain ⟨a1, a2, a3, a4, a5⟩ := aim_free (r := 0) (o := 8) hok hB
 have hm := blkF_some hB
 have hQ : feQ l 8 (0 : Nat) = 0 := by unfold feQ; rw [hk]; rfl
 have hBf : feB l 8 (0 : Nat) = mrgF l k := by unfold feB; rw [hk]; rfl
 refine ⟨by rw [a1, hQ], a5, mrgF l k, by rw [a3, hBf], hok, fun o => ?_⟩
 cases e : isN o (mrgF l k) with
 | none => rfl
 | some j =>
   exfalso
   obtain ⟨j1, j2, j3⟩ := isN_some e
   obtain ⟨k1, k2, k3⟩ := isN_some hk
   obtain ⟨b1, b2⟩ := mrg_from hm (isN_can hB hk) (getD_mem j1) j2
   obtain ⟨q, hq⟩ := isN_of hm b1 j2
   have e8 := (h _).1 ⟨q, hq⟩
   have c1 := (offB_in hm b1).2.2
   have c2 := (offB_in hm (getD_mem k1)).2.2
   omega
structure Hd (w : World) (a : Ha) (S : Hs) (K : Nat) (X : List Int) (r : Nat) : Prop where
 hp : Hp w a S
 hi : HI a S K X r
 fr : Free S.s ∧ S.worn = false
theorem Hd.below {w w' : World} {a : Ha} {S : Hs} {K : Nat} {X : List Int} {r : Nat} (h : Hd w a S K X r) (hb : Below w.heap.size w w') : Hd w' a S K X r := ⟨h.hp.below hb, h.hi, h.fr⟩
theorem chain_do {w : World} {a : Ha} {S : Hs} {K : Nat} {X : List Int} {r : Nat} (x : Px) (h : Hd w a S K X r) (hK : K < 1000) (hx : PxOk w x) :
 Calls Tryz.prog 31 #[.pointer (some ⟨a.z, 0, none⟩), .agg (pxc x)] w fun e w' => ∃ pl v S', PlanOf X r S.ct.ints x.d x.o x.nn x.bl pl ∧ e = .returned (.agg (anc pl.e pl.off v)) ∧ OwnA byE w.heap.size w' v pl.data ∧ Hd w' a S' (K + 1) pl.X pl.r ∧ Chg a.D w w' := by
 refine (hdo_is x h.hp h.hi hK hx).mono ?_
 intro e w' ho
 obtain ⟨S', pl, v, g1, g2, g3, g4, g5, g6, g7, g8, g9, _⟩ := do_free h.hi hK h.fr.1 h.fr.2 ho
 exact ⟨pl, v, S', g3, g4, g5, ⟨g1, g6, ⟨g8, g9⟩⟩, g2⟩
structure One (X : List Int) (l : List Bk) : Prop where
 b : blkF X = some l
 ok : WordsOk X
 one : ∀ o, (∃ j, isN o l = some j) ↔ o = 8
theorem do_take {w : World} {a : Ha} {S : Hs} {K : Nat} {N n : Nat} (hN : 1 ≤ N ∧ N ≤ 24) (hn : 1 ≤ n ∧ n ≤ 40) (h : Hd w a S K (firstL (8 * N : Nat)) 0) (hK : K < 1000) :
 Calls Tryz.prog 31 #[.pointer (some ⟨a.z, 0, none⟩), .agg (pxc ⟨1, 0, (n : Int), 0, .slice none 0 0, []⟩)] w fun e w' => ∃ v S' X l, e = .returned (.agg (anc 0 8 v)) ∧ v.oneCell' = true ∧ Hd w' a S' (K + 1) X 0 ∧ Chg a.D w w' ∧ One X l := by
 refine (chain_do ⟨1, 0, (n : Int), 0, .slice none 0 0, []⟩ h hK (px_nil w _ _ _ (by decide) (by omega))).mono ?_
 rintro e w' ⟨pl, v, S', g1, rfl, g3, g4, g5⟩
 have g7 := ra_one g3.ra
 have hp : pl = plA (firstL (8 * N : Nat)) 0 S.ct.ints n := g1
 obtain ⟨pl0, l1, e0, e1, e2, e3, e4, e5, e6⟩ := roots_take hN hn S.ct.ints
 obtain rfl : pl = pl0 := hp.trans e0
 rw [e3] at g4
 exact ⟨v, S', pl.X, l1, by rw [e1, e2], g7, g4, g5, ⟨e4, e5, e6⟩⟩
theorem do_root8 {w : World} {a : Ha} {S : Hs} {K : Nat} {X : List Int} {l : List Bk} (hO : One X l) (h : Hd w a S K X 0) (hK : K < 1000) :
 Calls Tryz.prog 31 #[.pointer (some ⟨a.z, 0, none⟩), .agg (pxc ⟨5, 8, 0, 0, .slice none 0 0, []⟩)] w fun e w' => ∃ v S', e = .returned (.agg (anc 0 0 v)) ∧ v.oneCell' = true ∧ Hd w' a S' (K + 1) X 8 ∧ Chg a.D w w' := by
 refine (chain_do ⟨5, 8, 0, 0, .slice none 0 0, []⟩ h hK (px_nil w _ _ _ (by decide) (by decide))).mono ?_
 rintro e w' ⟨pl, v, S', g1, rfl, g3, g4, g5⟩
 have g7 := ra_one g3.ra
 have hp : pl = plR X 0 8 := g1
 have hr : rootB X 8 = true := (rootB_iff hO.b 8).2 (.inr ((hO.one 8).2 rfl))
 unfold plR at hp
 rw [if_pos hr] at hp
 subst hp
 exact ⟨v, S', rfl, g7, g4, g5⟩
theorem do_busy {w : World} {a : Ha} {S : Hs} {K : Nat} {X : List Int} {l : List Bk} (hO : One X l) (h : Hd w a S K X 8) (hK : K < 1000) :
 Calls Tryz.prog 31 #[.pointer (some ⟨a.z, 0, none⟩), .agg (pxc ⟨2, 8, 0, 0, .slice none 0 0, []⟩)] w fun e w' => ∃ v S', e = .returned (.agg (anc 5 0 v)) ∧ v.oneCell' = true ∧ Hd w' a S' (K + 1) X 8 ∧ Chg a.D w w' := by
 refine (chain_do ⟨2, 8, 0, 0, .slice none 0 0, []⟩ h hK (px_nil w _ _ _ (by decide) (by decide))).mono ?_
 rintro e w' ⟨pl, v, S', g1, rfl, g3, g4, g5⟩
 have g7 := ra_one g3.ra
 have hp : pl = plF X 8 8 := g1
 obtain ⟨k, hk⟩ := (hO.one 8).2 rfl
 unfold plF at hp
 rw [frR_some hO.b hk, if_neg (by simp), if_pos (by decide)] at hp
 subst hp
 exact ⟨v, S', rfl, g7, g4, g5⟩
theorem do_get8 {w : World} {a : Ha} {S : Hs} {K : Nat} {X : List Int} (h : Hd w a S K X 8) (hK : K < 1000) :
 Calls Tryz.prog 31 #[.pointer (some ⟨a.z, 0, none⟩), .agg (pxc ⟨6, 0, 0, 0, .slice none 0 0, []⟩)] w fun e w' => ∃ v S', e = .returned (.agg (anc 0 8 v)) ∧ v.oneCell' = true ∧ Hd w' a S' (K + 1) X 8 ∧ Chg a.D w w' ∧ OwnA byE w.heap.size w' v [] := by
 refine (chain_do ⟨6, 0, 0, 0, .slice none 0 0, []⟩ h hK (px_nil w _ _ _ (by decide) (by decide))).mono ?_
 rintro e w' ⟨pl, v, S', g1, rfl, g3, g4, g5⟩
 have g7 := ra_one g3.ra
 have hp : pl = plG X 8 := g1
 subst hp
 exact ⟨v, S', rfl, g7, g4, g5, g3⟩
theorem do_rootany {w : World} {a : Ha} {S : Hs} {K : Nat} {X : List Int} {l : List Bk} (o : Int) (ho : -9223372036854775808 ≤ o ∧ o ≤ 9223372036854775807) (hO : One X l) (h : Hd w a S K X 8) (hK : K < 1000) :
 Calls Tryz.prog 31 #[.pointer (some ⟨a.z, 0, none⟩), .agg (pxc ⟨5, o, 0, 0, .slice none 0 0, []⟩)] w fun e w' => ∃ v S' r, e = .returned (.agg (anc (if o = 0 ∨ o = 8 then 0 else 1) 0 v)) ∧ v.oneCell' = true ∧ Hd w' a S' (K + 1) X r ∧ Chg a.D w w' := by
 refine (chain_do ⟨5, o, 0, 0, .slice none 0 0, []⟩ h hK (px_nil w _ _ _ ho (by decide))).mono ?_
 rintro e w' ⟨pl, v, S', g1, rfl, g3, g4, g5⟩
 have g7 := ra_one g3.ra
 have hp : pl = plR X 8 o := g1
 by_cases hc : o = 0 ∨ o = 8
 · have hr : rootB X o = true := (rootB_iff hO.b o).2 (hc.imp id fun q => (hO.one o).2 q)
   unfold plR at hp
   rw [if_pos hr] at hp
   subst hp
   rw [if_pos hc]
   exact ⟨v, S', _, rfl, g7, g4, g5⟩
 · have hr : ¬ rootB X o = true := fun q => hc (((rootB_iff hO.b o).1 q).imp id fun q => (hO.one o).1 q)
   unfold plR at hp
   rw [if_neg hr] at hp
   subst hp
   rw [if_neg hc]
   exact ⟨v, S', _, rfl, g7, g4, g5⟩
theorem do_root0 {w : World} {a : Ha} {S : Hs} {K : Nat} {X : List Int} {l : List Bk} {r : Nat} (hO : One X l) (h : Hd w a S K X r) (hK : K < 1000) :
 Calls Tryz.prog 31 #[.pointer (some ⟨a.z, 0, none⟩), .agg (pxc ⟨5, 0, 0, 0, .slice none 0 0, []⟩)] w fun e w' => ∃ v S', e = .returned (.agg (anc 0 0 v)) ∧ v.oneCell' = true ∧ Hd w' a S' (K + 1) X 0 ∧ Chg a.D w w' := by
 refine (chain_do ⟨5, 0, 0, 0, .slice none 0 0, []⟩ h hK (px_nil w _ _ _ (by decide) (by decide))).mono ?_
 rintro e w' ⟨pl, v, S', g1, rfl, g3, g4, g5⟩
 have g7 := ra_one g3.ra
 have hp : pl = plR X r 0 := g1
 have hr : rootB X 0 = true := (rootB_iff hO.b 0).2 (.inl rfl)
 unfold plR at hp
 rw [if_pos hr] at hp
 subst hp
 exact ⟨v, S', rfl, g7, g4, g5⟩
theorem do_give {w : World} {a : Ha} {S : Hs} {K : Nat} {X : List Int} {l : List Bk} (hO : One X l) (h : Hd w a S K X 0) (hK : K < 1000) :
 Calls Tryz.prog 31 #[.pointer (some ⟨a.z, 0, none⟩), .agg (pxc ⟨2, 8, 0, 0, .slice none 0 0, []⟩)] w fun e w' => ∃ v S' X2 l2, e = .returned (.agg (anc 0 0 v)) ∧ v.oneCell' = true ∧ Hd w' a S' (K + 1) X2 0 ∧ Chg a.D w w' ∧ blkF X2 = some l2 ∧ ∀ o, isN o l2 = none := by
 refine (chain_do ⟨2, 8, 0, 0, .slice none 0 0, []⟩ h hK (px_nil w _ _ _ (by decide) (by decide))).mono ?_
 rintro e w' ⟨pl, v, S', g1, rfl, g3, g4, g5⟩
 have g7 := ra_one g3.ra
 have hp : pl = plF X 0 8 := g1
 obtain ⟨e1, e2, l2, e3, _, e5⟩ := roots_free hO.b hO.ok hO.one
 have eo : (plF X 0 8).off = 0 := by
  unfold plF plNo
  split
  · rfl
  · split <;> rfl
 rw [← hp] at e1 e2 e3 eo
 rw [e2] at g4
 exact ⟨v, S', pl.X, l2, by rw [e1, eo], g7, g4, g5, e3, e5⟩
theorem do_gone {w : World} {a : Ha} {S : Hs} {K : Nat} {X : List Int} {l : List Bk} (hB : blkF X = some l) (hO : ∀ o, isN o l = none) (h : Hd w a S K X 0) (hK : K < 1000) :
 Calls Tryz.prog 31 #[.pointer (some ⟨a.z, 0, none⟩), .agg (pxc ⟨2, 8, 0, 0, .slice none 0 0, []⟩)] w fun e w' => ∃ v S', e = .returned (.agg (anc 1 0 v)) ∧ v.oneCell' = true ∧ Hd w' a S' (K + 1) X 0 ∧ Chg a.D w w' := by
 refine (chain_do ⟨2, 8, 0, 0, .slice none 0 0, []⟩ h hK (px_nil w _ _ _ (by decide) (by decide))).mono ?_
 rintro e w' ⟨pl, v, S', g1, rfl, g3, g4, g5⟩
 have g7 := ra_one g3.ra
 have hp : pl = plF X 0 8 := g1
 unfold plF at hp
 rw [frR_none hB (hO 8), if_pos (by decide)] at hp
 subst hp
 exact ⟨v, S', rfl, g7, g4, g5⟩
theorem same_get {w : World} {v : Value} {r : Int} (hv : RA byE w v []) : Calls Tryz.prog 41 #[.agg (anc 0 r v), .agg (anc 0 r (.slice none 0 0))] w fun f w' => f = .returned (.bool true) ∧ Below w.heap.size w w' := by
 have h := rsame_is (w := w) (e := 0) (o := r) (e' := 0) (o' := r) (l' := []) hv (own_nil_by 0 _).ra
 rwa [show decide ((0 : Int) = 0 ∧ r = r ∧ ([] : List Int) = []) = true by simp] at h
theorem note_ints {ct : Ct} {q : Nat} (hq : q < ct.n) : (ct.note q).ints = ct.ints.set q (ct.ints.getD q 0 + 1) := by
 have h1 : ct.ints.length = ct.n := byF_length _ _
 have h2 : ct.ints.getD q 0 = (ct.c q : Int) := byF_getD _ hq
 rw [h2]
 unfold Ct.ints
 rw [Ct.note_n]
 refine List.ext_getElem (by simp [byF]) fun i i1 i2 => ?_
 rw [List.getElem_set]
 simp only [byF, List.getElem_map, List.getElem_range]
 rw [Ct.note_c]
 by_cases e : q = i
 · subst e
   rw [if_pos rfl]
   simp [at1]
 · rw [if_neg e]
   simp [at1, Ne.symm e]
def bumps (c : List Int) (L : List Int) : List Int := L.foldl (fun c i => c.set (i.toNat / 4) (c.getD (i.toNat / 4) 0 + 1)) c
theorem bumps_ints : ∀ (L : List Int) (ct : Ct), (∀ q ∈ pgs L, q < ct.n) → bumps ct.ints L = (nts ct (pgs L)).ints
 | [], _, _ => rfl
 | i :: L, ct, h => by
   have hq : i.toNat / 4 < ct.n := h _ (List.mem_cons_self ..)
   show bumps (ct.ints.set (i.toNat / 4) (ct.ints.getD (i.toNat / 4) 0 + 1)) L = (nts (ct.note (i.toNat / 4)) (pgs L)).ints
   rw [← note_ints hq]
   exact bumps_ints L _ fun q k => by rw [Ct.note_n]; exact h q (List.mem_cons_of_mem _ k)
theorem bumps_len (c L : List Int) : (bumps c L).length = c.length := by
 unfold bumps
 induction L generalizing c with
 | nil => rfl
 | cons i L ih => rw [List.foldl_cons, ih, List.length_set]
def LinesOf (pl : Aim) (err : Int) (E : List Ed) : Prop := (err = 0 → pl.e = 0 → pl.L = lnsF E) ∧ (¬ (err = 0 ∧ pl.e = 0) → pl.L = [])
theorem lines_alloc {X : List Int} {r : Nat} {n : Int} {cs : List Int} : LinesOf (plA X r cs n) (alR X n cs).2.2 (alR X n cs).1 := by
 unfold LinesOf plA plNo
 by_cases hn : needN n = 0
 · have h := alR_arg (wl := X) (cs := cs) hn
   rw [if_pos hn, h]
   exact ⟨fun q => (by cases q), fun _ => rfl⟩
 · rw [if_neg hn]
   by_cases h0 : (alR X n cs).2.2 = 0
   · rw [if_pos h0]
     exact ⟨fun _ _ => rfl, fun q => absurd ⟨h0, rfl⟩ q⟩
   · rw [if_neg h0]
     exact ⟨fun q => absurd q h0, fun _ => rfl⟩
theorem lines_free {X : List Int} {r : Nat} {o : Int} : LinesOf (plF X r o) (frR X o).2 (frR X o).1 := by
 unfold LinesOf plF plNo
 by_cases h0 : (frR X o).2 ≠ 0
 · rw [if_pos h0]
   exact ⟨fun q => absurd q h0, fun _ => rfl⟩
 · rw [if_neg h0]
   by_cases h1 : o = (r : Int)
   · rw [if_pos h1]
     exact ⟨fun _ q => (by cases q), fun _ => rfl⟩
   · rw [if_neg h1]
     exact ⟨fun _ _ => rfl, fun q => absurd ⟨Classical.not_not.1 h0, rfl⟩ q⟩
theorem lines_write {X bl : List Int} {r : Nat} {o : Int} {M : List Ed} (hM : WrT X bl o M) : LinesOf (plW X r o bl M) (refF X o bl.length) M := by
 unfold LinesOf plW plNo
 by_cases h0 : refF X o bl.length ≠ 0
 · rw [if_pos (.inl h0)]
   exact ⟨fun q => absurd q h0, fun _ => rfl⟩
 · have h0' : refF X o bl.length = 0 := Classical.not_not.1 h0
   by_cases hb : bl = []
   · rw [if_pos (.inr hb)]
     have hnil : M = [] := by
      subst hb
      unfold WrT at hM
      rw [if_pos h0'] at hM
      unfold Tells at hM
      split at hM
      · exact List.eq_nil_of_length_eq_zero (by rw [hM.len]; simp [cnt])
      · exact hM
     subst hnil
     exact ⟨fun _ _ => Eq.symm (List.eq_nil_iff_forall_not_mem.2 fun x h => by have := ((lnsF_is []).mem x).1 h; cases this), fun _ => rfl⟩
   · rw [if_neg (fun q => by rcases q with q | q; exact h0 q; exact hb q)]
     exact ⟨fun _ _ => rfl, fun q => absurd ⟨h0', rfl⟩ q⟩
theorem lines_other {X : List Int} {r : Nat} {cs : List Int} {d o n : Int} {bl : List Int} {pl : Aim} (c1 : d ≠ 1) (c2 : d ≠ 2) (c4 : d ≠ 4) (h : PlanOf X r cs d o n bl pl) : LinesOf pl 1 [] := by
 refine ⟨fun q => (by cases q), fun _ => ?_⟩
 unfold PlanOf at h
 rw [if_neg c1, if_neg c2] at h
 by_cases c3 : d = 3
 · rw [if_pos c3] at h
   subst h
   rfl
 rw [if_neg c3, if_neg c4] at h
 by_cases c5 : d = 5
 · rw [if_pos c5] at h
   subst h
   unfold plR plNo
   split <;> rfl
 rw [if_neg c5] at h
 by_cases c6 : d = 6
 · rw [if_pos c6] at h
   subst h
   rfl
 rw [if_neg c6] at h
 subst h
 rfl
theorem plan_pgs {X : List Int} {r N : Nat} {cs : List Int} {d o n : Int} {bl : List Int} {pl : Aim} (hl : X.length = 8 * N) (hs : soundB X r = true) (hok : WordsOk X) (h : PlanOf X r cs d o n bl pl) : ∀ q ∈ pgs pl.L, q < (N + 3) / 4 := by
 have hnil : ∀ L : List Int, L = [] → ∀ q ∈ pgs L, q < (N + 3) / 4 := fun L e q hq => by rw [e] at hq; cases hq
 unfold PlanOf at h
 by_cases c1 : d = 1
 · rw [if_pos c1] at h
   subst h
   unfold plA plNo
   split
   · exact hnil _ rfl
   · rename_i hn
     split
     · rename_i h0
       obtain ⟨hg, _⟩ := alR_good hl hs hok hn h0
       exact pgs_lt (hg.fit.lines (lnsF_is _))
     · exact hnil _ rfl
 rw [if_neg c1] at h
 by_cases c2 : d = 2
 · rw [if_pos c2] at h
   subst h
   unfold plF plNo
   split
   · exact hnil _ rfl
   · rename_i h0
     split
     · exact hnil _ rfl
     · rename_i hne
       obtain ⟨hg, _⟩ := frR_good hl hs hok (Classical.not_not.1 h0) hne
       exact pgs_lt (hg.fit.lines (lnsF_is _))
 rw [if_neg c2] at h
 by_cases c3 : d = 3
 · rw [if_pos c3] at h
   subst h
   exact hnil _ rfl
 rw [if_neg c3] at h
 by_cases c4 : d = 4
 · rw [if_pos c4] at h
   obtain ⟨M, hM, rfl⟩ := h
   unfold plW plNo
   split
   · exact hnil _ rfl
   · rename_i q
     have h0 : refF X o bl.length = 0 := Classical.byContradiction fun k => q (.inl k)
     obtain ⟨hg, _⟩ := wr_good hl hs hok hM h0 fun k => q (.inr k)
     exact pgs_lt (hg.fit.lines (lnsF_is _))
 rw [if_neg c4] at h
 by_cases c5 : d = 5
 · rw [if_pos c5] at h
   subst h
   unfold plR plNo
   split <;> exact hnil _ rfl
 rw [if_neg c5] at h
 by_cases c6 : d = 6
 · rw [if_pos c6] at h
   subst h
   exact hnil _ rfl
 rw [if_neg c6] at h
 subst h
 exact hnil _ rfl
theorem chain_cnt {w : World} {a : Ha} {S : Hs} {K : Nat} {X : List Int} {r : Nat} (x : Px) (h : Hd w a S K X r) (hK : K < 1000) (hx : PxOk w x) {err : Int} {E : List Ed} (hE : ∀ pl, PlanOf X r S.ct.ints x.d x.o x.nn x.bl pl → LinesOf pl err E) :
 Calls Tryz.prog 31 #[.pointer (some ⟨a.z, 0, none⟩), .agg (pxc x)] w fun e w' => ∃ (pl : Aim) (v : Value) (S' : Hs), e = .returned (.agg (anc pl.e pl.off v)) ∧ OwnA byE w.heap.size w' v pl.data ∧ Hd w' a S' (K + 1) pl.X pl.r ∧ Chg a.D w w' ∧ S'.ct.n = S.ct.n ∧
  ((err = 0 ∧ pl.e = 0 ∧ S'.ct.ints = bumps S.ct.ints (lnsF E) ∧ ∀ q ∈ pgs (lnsF E), q < S.ct.n) ∨ (¬ (err = 0 ∧ pl.e = 0) ∧ S'.ct.ints = S.ct.ints)) := by
 refine (hdo_is x h.hp h.hi hK hx).mono ?_
 intro e w' ho
 obtain ⟨S', pl, v, g1, g2, g3, g4, g5, g6, g7, g8, g9, _⟩ := do_free h.hi hK h.fr.1 h.fr.2 ho
 have hin := plan_pgs h.hi.len.1 h.hi.hc.snd h.hi.hc.ok g3
 rw [← h.hi.cn] at hin
 refine ⟨pl, v, S', g4, g5, ⟨g1, g6, ⟨g8, g9⟩⟩, g2, by rw [g7, nts_n], ?_⟩
 obtain ⟨e1, e2⟩ := hE pl g3
 by_cases hc : err = 0 ∧ pl.e = 0
 · have eL := e1 hc.1 hc.2
   rw [eL] at hin g7
   exact .inl ⟨hc.1, hc.2, by rw [g7, bumps_ints _ _ hin], hin⟩
 · exact .inr ⟨hc, by rw [g7, e2 hc]; rfl⟩
theorem ri_take {w : World} {b off n c : Nat} {l : List Int} (h : RI w (.slice (some ⟨b, off, none⟩) n c) l) {k : Nat} (hk : k ≤ l.length) : RI w (.slice (some ⟨b, off, none⟩) k c) (l.take k) := by
 obtain ⟨p, cap, e, h1, h2, h3⟩ := h
 cases e
 have hl : (l.take k).length = k := by rw [List.length_take]; omega
 refine ⟨_, _, by rw [hl], by rw [hl]; omega, h2, ?_⟩
 rcases h3 with h3 | ⟨b', o', e, hc⟩
 · exact .inl (by rw [h3]; simp)
 · cases e
   refine .inr ⟨b, off, rfl, fun i hi => ?_⟩
   rw [hl] at hi
   rw [hc i (by omega), List.getD_eq_getElem?_getD, List.getD_eq_getElem?_getD, List.getElem?_take, if_pos hi]
theorem ri_drop {w : World} {b off n c : Nat} {l : List Int} (h : RI w (.slice (some ⟨b, off, none⟩) n c) l) {k : Nat} (hk : k < l.length) : RI w (.slice (some ⟨b, off + k, none⟩) (n - k) (c - k)) (l.drop k) := by
 obtain ⟨p, cap, e, h1, h2, h3⟩ := h
 cases e
 have hl : (l.drop k).length = l.length - k := by rw [List.length_drop]
 refine ⟨_, _, by rw [hl], by rw [hl]; omega, by omega, ?_⟩
 rcases h3 with h3 | ⟨b', o', e, hc⟩
 · rw [h3] at hk; simp at hk
 · cases e
   refine .inr ⟨b, off + k, rfl, fun i hi => ?_⟩
   rw [hl] at hi
   rw [Nat.add_assoc, hc (k + i) (by omega), List.getD_eq_getElem?_getD, List.getD_eq_getElem?_getD, List.getElem?_drop]
theorem ri_none {w : World} {p : Option Addr} {c : Nat} (hc : c ≤ maxLen) : RI w (.slice p 0 c) [] := ⟨p, c, rfl, Nat.zero_le _, hc, .inl rfl⟩
theorem rlines_is (es : List Ed) (u : Value) (w : World) (hu : RA edE w u es) (hel : es.length ≤ 4000) :
 Calls Tryz.prog 47 #[u] w fun e w' => (∃ x l, e = .returned x ∧ OwnI w.heap.size w' x l ∧ IsL es l) ∧ Below w.heap.size w w' := by
 obtain ⟨p, c0, rfl, _, _⟩ := ra_shape hu
 have HE := Lib.hid (fun (w' : World) (hb : Below w.heap.size w w') => ra_below hu hb)
 have HL := Lib.hid hel
 clear hu hel
 go_enter Tryz.func47, Tryz.ntmps47
 go_wp2
 go_loopw [3, 5, 10] (fun y x i wr => ∃ (k : Nat) (l : List Int) (lv : Value), k ≤ es.length ∧ i = .int .i64 k ∧ lv = y ∧ Hid (OwnI w.heap.size wr lv l ∧ (IsL (es.take k) l ∧ l.length ≤ k) ∧ Below w.heap.size w wr)) (fun _ _ i _ => es.length - (intOf i).toNat)
 case atStart => exact ⟨0, [], _, Nat.zero_le _, rfl, rfl, Lib.hid ⟨own_nil_i _ _, ⟨by rw [List.take_zero]; exact IsL.nil, Nat.le_refl _⟩, Below.refl _ _⟩⟩
 case round =>
  obtain ⟨k, l, lv, hk, rfl, rfl, H⟩ := hrel
  by_cases hlt : k < es.length
  · obtain ⟨b, off, rfl, hb, hx⟩ := ed_at (HE.out _ H.out.2.2) (by omega)
    obtain ⟨hld, _, _, hwf⟩ := hx k hlt
    have hI := H.out.2.1.1
    have hll := H.out.2.1.2
    obtain ⟨⟨a, x⟩, hy⟩ : ∃ y, es.getD k default = y := ⟨_, rfl⟩
    rw [hy] at hld hwf
    have hwa := i64_wf hwf.ww
    simp only at hwa
    have hya : (es.getD k default).w = a := by rw [hy]
    obtain ⟨wo, hwo⟩ : ∃ wo, wo = wr := ⟨_, rfl⟩
    subst hwo
    obtain ⟨W, hW, HW⟩ := ed_boxed wo ⟨a, x⟩
    have d0 : W.cell? ⟨wo.heap.size, 0, none⟩ = some (.int .i64 a) := HW.out.1.c0
    have HB := Lib.hid (below_more H.out.2.2 HW.out.2)
    have HO := Lib.hid (own_up_i H.out.1 HW.out.2)
    have i0 : (0 : Int) ≤ (k : Int) := by omega
    have i1 : (k : Int) < (es.length : Int) := by omega
    have i2 : ¬ (k : Int) < 0 := by omega
    have i3 : IntKind.i64.wrap ((k : Int) + 1) = ((k + 1 : Nat) : Int) := by rw [show (k : Int) + 1 = ((k + 1 : Nat) : Int) by omega]; exact i64_nat _ (by have := HL.out; omega)
    have HK := Lib.hid hlt
    have HLl : Hid (l.length ≤ 4000) := Lib.hid (by have := HL.out; omega)
    by_cases h1 : 0 ≤ a
    · obtain ⟨z, rfl⟩ : ∃ z : Nat, a = z := ⟨a.toNat, by omega⟩
      obtain ⟨n, hn⟩ : ∃ n, z / 8 = n := ⟨_, rfl⟩
      have i4 : ¬ (z : Int) < 0 := by omega
      have m2 : IntKind.i64.wrap ((z : Int) / 8) = (n : Int) := by rw [show (z : Int) / 8 = (n : Int) by omega]; exact i64_nat _ (by omega)
      have HPu : Hid (∀ i, i ≤ l.length → (∀ j, j < i → l.getD j 0 < n) → (i < l.length → (n : Int) < l.getD i 0) → IsL (es.take (k + 1)) (l.take i ++ (n : Int) :: l.drop i) ∧ (l.take i ++ (n : Int) :: l.drop i).length ≤ k + 1) := Lib.hid fun i g1 g2 g3 => ⟨hI.put hlt (by rw [hya]; omega) (by rw [hya]; omega) g1 g2 g3, by rw [List.length_append, List.length_cons, List.length_take, List.length_drop]; omega⟩
      have HSa : Hid (∀ i, i < l.length → l.getD i 0 = n → IsL (es.take (k + 1)) l ∧ l.length ≤ k + 1) := Lib.hid fun i g1 g2 => ⟨hI.same hlt (by rw [hya]; omega) g1 (by rw [hya, g2]; omega), by omega⟩
      have SZ : Hid (∀ x : World, Below W.heap.size W x → W.heap.size ≤ x.heap.size) := Lib.hid fun _ h => h.size
      have GR : Hid (∀ (x y : World) (r : Option Nat), Below W.heap.size W x → x.grownBy y r → r = none → Below W.heap.size W y) := Lib.hid fun x y r h g e => by subst e; exact h.grown g h.size (fun k hk => by cases hk)
      have R1 := Lib.hid (fun w1 : World => ri_one w1 (n : Int))
      clear hx hb hk hlt h1 hwf hwa hI hll hy hya hn
      obtain ⟨_, ⟨rfl, h0⟩ | ⟨g, c, cur, rfl, _, _, hlc, hcm, _⟩⟩ := id HO.out
      · obtain rfl : l = [] := List.eq_nil_of_length_eq_zero h0
        clear h0
        go_wp2
        go_loopw [7] (fun y wr => y = .int .i64 0 ∧ W = wr) (fun y _ => 0)
        case atStart => exact ⟨rfl, rfl⟩
        case round =>
         obtain ⟨rfl, rfl⟩ := hrel
         have HPUT := Lib.hid (HPu.out 0 (Nat.zero_le _) (fun j h => by omega) (fun h => by simp at h))
         obtain ⟨l, hl⟩ : ∃ l : List Int, [] = l := ⟨_, rfl⟩
         have hl0 : l = [] := hl.symm
         rw [hl] at HPUT HLl
         clear hl
         have HP : Hid (∀ w', Below W.heap.size W w' → RI w' (.slice none 0 0) (l.take 0) ∧ RI w' (.slice none 0 0) (l.drop 0)) := Lib.hid fun w' hb => ⟨by rw [hl0]; exact ri_nil _, by rw [hl0]; exact ri_nil _⟩
         have N1 : Hid (([] : List Int).length + (l.take 0).length ≤ 1000000) := Lib.hid (by rw [List.length_take]; have := HLl.out; simp only [List.length_nil]; omega)
         have N2 : Hid (([] ++ l.take 0).length + [(n : Int)].length ≤ 1000000) := Lib.hid (by rw [List.nil_append, List.length_take]; have := HLl.out; simp only [List.length_singleton]; omega)
         have N3 : Hid ((([] ++ l.take 0) ++ [(n : Int)]).length + (l.drop 0).length ≤ 1000000) := Lib.hid (by rw [List.nil_append, List.length_append, List.length_take, List.length_drop]; have := HLl.out; simp only [List.length_singleton]; omega)
         obtain ⟨T, hT⟩ : ∃ T, l.take 0 = T := ⟨_, rfl⟩
         obtain ⟨U, hU⟩ : ∃ U, l.drop 0 = U := ⟨_, rfl⟩
         rw [hT] at HP N1 N2 N3
         rw [hU] at HP N3
         have hT' := Lib.hid hT.symm
         have hU' := Lib.hid hU.symm
         clear hT hU
         clear hl0
         go_wp2_with fail
         go_region_law (first
          | (refine step_app_int (o := ⟨some 49, _, _, _, _, _⟩) rfl (.const (.slice none 0 0)) (.tmp 48) rfl W.heap.size (.slice none 0 0) [] (by simp [Act.eval]) (own_nil_i _ _) (.slice none 0 0) T (by simp [Act.eval, Act.put]) (HP.out _ (by repeat' (first | (with_reducible exact Below.refl _ _) | (with_reducible refine Below.drew ?_) | (with_reducible refine bal ?_)))).1 N1.out (SZ.out _ (by repeat' (first | (with_reducible exact Below.refl _ _) | (with_reducible refine Below.drew ?_) | (with_reducible refine bal ?_)))) ?_
             intro vb wb ob gb _
             have OB := Lib.hid ob
             have GB : Hid (Below W.heap.size W wb) := Lib.hid (GR.out _ _ _ (by repeat' (first | (with_reducible exact Below.refl _ _) | (with_reducible refine Below.drew ?_) | (with_reducible refine bal ?_))) gb rfl)
             have GX := Lib.hid ((Below.refl _ _).grown gb (Nat.le_refl _) (by intro k hk; cases hk))
             clear ob)
          | (refine step_app_int (o := ⟨some 52, _, _, _, _, _⟩) rfl (.tmp 49) (.tmp 51) rfl W.heap.size vb ([] ++ T) (by simp [Act.eval]) (own_up_i OB.out (bal (Below.refl _ _))) (.slice (some ⟨wb.heap.size, 0, none⟩) 1 1) [(n : Int)] (by simp [Act.eval]) (R1.out wb) N2.out (SZ.out _ (bal GB.out)) ?_
             intro vc wc oc gc _
             have OC := Lib.hid oc
             have GC := Lib.hid (below_app_i (bal GB.out) (SZ.out _ (bal GB.out)) (own_up_i OB.out (bal (Below.refl _ _))) gc)
             clear oc gc)
          | (refine step_app_int (o := ⟨some 52, _, _, _, _, _⟩) rfl (.tmp 49) (.tmp 51) rfl W.heap.size vb ([] ++ T) (by simp [Act.eval]) OB.out (.slice (some ⟨W.heap.size, 0, none⟩) 1 1) [(n : Int)] (by simp [Act.eval]) (ri_below (ri_below (R1.out W) ((Below.refl _ _).drew)) GX.out) N2.out (SZ.out _ GB.out) ?_
             intro vc wc oc gc _
             have OC := Lib.hid oc
             have GC := Lib.hid (below_app_i GB.out (SZ.out _ GB.out) OB.out gc)
             clear oc gc)
          | (refine step_app_int (o := ⟨some 56, _, _, _, _, _⟩) rfl (.tmp 52) (.tmp 55) rfl W.heap.size vc (([] ++ T) ++ [(n : Int)]) (by simp [Act.eval]) OC.out (.slice none 0 0) U (by simp [Act.eval]) (HP.out _ GC.out).2 N3.out (SZ.out _ GC.out) ?_
             intro vd wd od gd _
             have OD := Lib.hid od
             have GD := Lib.hid (below_app_i GC.out (SZ.out _ GC.out) OC.out gd)
             clear od gd))
         all_goals
          have HN : Hid (OwnI w.heap.size wd vd (T ++ (n : Int) :: U) ∧ Below w.heap.size w wd) := Lib.hid ⟨by have := OD.out; simp only [List.nil_append, List.append_assoc, List.cons_append] at this; exact this.mono HB.out.size, below_more HB.out GD.out⟩
          rw [hT'.out, hU'.out] at HN
          go_wp2
          exact ⟨⟨k + 1, _, _, by have := HK.out; omega, by go_num, rfl, Lib.hid ⟨HN.out.1, HPUT.out, HN.out.2⟩⟩, by have := HK.out; simp [intOf]; omega⟩
      · obtain ⟨K, hK⟩ : ∃ K, l.length = K := ⟨_, rfl⟩
        rw [hK] at hlc HO ⊢
        have HKl := Lib.hid hK
        have HCm := Lib.hid (And.intro hlc hcm)
        clear hK hlc hcm
        go_wp2
        go_loopw [7] (fun y wr => ∃ i : Nat, i ≤ K ∧ y = .int .i64 i ∧ W = wr ∧ Hid (∀ j, j < i → l.getD j 0 < n)) (fun y _ => K - (intOf y).toNat)
        case atStart => exact ⟨0, Nat.zero_le _, rfl, rfl, Lib.hid fun j h => by omega⟩
        case round =>
         obtain ⟨i, hi, rfl, rfl, HJ⟩ := hrel
         by_cases hlt : i < K
         · obtain ⟨bb, oo, e, _, hc⟩ := ri_some HO.out.ri (by rw [HKl.out]; omega)
           cases e
           have cy := hc i (by rw [HKl.out]; exact hlt)
           rw [Nat.zero_add] at cy
           have j0 : (0 : Int) ≤ (i : Int) := by omega
           have j1 : (i : Int) < (K : Int) := by omega
           have j2 : ¬ (i : Int) < 0 := by omega
           have j3 : ¬ i = K := by omega
           have j4 : ((i : Int) == (K : Int)) = false := by simp; omega
           have hil : i < l.length := by rw [HKl.out]; exact hlt
           have HIl := Lib.hid hil
           obtain ⟨y, hy⟩ : ∃ y, l.getD i 0 = y := ⟨_, rfl⟩
           rw [hy] at cy
           have HY := Lib.hid hy
           clear hc hy hil
           by_cases y1 : y < (n : Int)
           · have j5 : IntKind.i64.wrap ((i : Int) + 1) = ((i + 1 : Nat) : Int) := by rw [show (i : Int) + 1 = ((i + 1 : Nat) : Int) by omega]; exact i64_nat _ (by have := HIl.out; have := HLl.out; omega)
             have HN2 : Hid (∀ j, j < i + 1 → l.getD j 0 < n) := Lib.hid fun j h => by
              by_cases e : j = i
              · rw [e, HY.out]; exact y1
              · exact HJ.out j (by omega)
             have HK2 := Lib.hid hlt
             clear hlt hi
             go_wp2
             exact ⟨⟨i + 1, by have := HK2.out; omega, by go_num, trivial, HN2⟩, by have := HK2.out; simp [intOf]; omega⟩
           · by_cases y2 : y = (n : Int)
             · have HS := Lib.hid (HSa.out i HIl.out (by rw [HY.out]; exact y2))
               subst y2
               have j6 : ((n : Int) == (n : Int)) = true := by simp
               clear y1 hlt hi
               go_wp2
               exact ⟨⟨k + 1, l, _, by have := HK.out; omega, by go_num, rfl, Lib.hid ⟨HO.out, HS.out, HB.out⟩⟩, by have := HK.out; simp [intOf]; omega⟩
             · have j6 : (y == (n : Int)) = false := beq_eq_false_iff_ne.2 y2
               have j7 : ¬ y = (n : Int) := y2
               have HPUT := Lib.hid (HPu.out i (Nat.le_of_lt HIl.out) HJ.out (fun _ => by rw [HY.out]; omega))
               have hcc := HCm.out
               have j8 : (i : Int) ≤ (c : Int) := by omega
               have j9 : (i : Int) ≤ (K : Int) := by omega
               have j10 : ¬ c = i := by omega
               have HRI : Hid (∀ w', Below W.heap.size W w' → RI w' (.slice (some ⟨g, 0, none⟩) K c) l) := Lib.hid fun w' hb => ri_below HO.out.ri hb
               clear hcc hi hlt y2
               have HP : Hid (∀ w', Below W.heap.size W w' → RI w' (.slice (some ⟨g, 0, none⟩) i c) (l.take i) ∧ RI w' (.slice (some ⟨g, i, none⟩) (K - i) (c - i)) (l.drop i)) := Lib.hid fun w' hb => ⟨ri_take (HRI.out _ hb) (Nat.le_of_lt HIl.out), by have := ri_drop (HRI.out _ hb) HIl.out; rwa [Nat.zero_add] at this⟩
               have N1 : Hid (([] : List Int).length + (l.take i).length ≤ 1000000) := Lib.hid (by rw [List.length_take]; have := HLl.out; simp only [List.length_nil]; omega)
               have N2 : Hid (([] ++ l.take i).length + [(n : Int)].length ≤ 1000000) := Lib.hid (by rw [List.nil_append, List.length_take]; have := HLl.out; simp only [List.length_singleton]; omega)
               have N3 : Hid ((([] ++ l.take i) ++ [(n : Int)]).length + (l.drop i).length ≤ 1000000) := Lib.hid (by rw [List.nil_append, List.length_append, List.length_take, List.length_drop]; have := HLl.out; simp only [List.length_singleton]; omega)
               obtain ⟨T, hT⟩ : ∃ T, l.take i = T := ⟨_, rfl⟩
               obtain ⟨U, hU⟩ : ∃ U, l.drop i = U := ⟨_, rfl⟩
               rw [hT] at HP N1 N2 N3
               rw [hU] at HP N3
               have hT' := Lib.hid hT.symm
               have hU' := Lib.hid hU.symm
               clear hT hU
               go_wp2_with fail
               go_region_law (first
                | (refine step_app_int (o := ⟨some 49, _, _, _, _, _⟩) rfl (.const (.slice none 0 0)) (.tmp 48) rfl W.heap.size (.slice none 0 0) [] (by simp [Act.eval]) (own_nil_i _ _) (.slice (some ⟨g, 0, none⟩) i c) T (by simp [Act.eval, Act.put]) (HP.out _ (by repeat' (first | (with_reducible exact Below.refl _ _) | (with_reducible refine Below.drew ?_) | (with_reducible refine bal ?_)))).1 N1.out (SZ.out _ (by repeat' (first | (with_reducible exact Below.refl _ _) | (with_reducible refine Below.drew ?_) | (with_reducible refine bal ?_)))) ?_
                   intro vb wb ob gb _
                   have OB := Lib.hid ob
                   have GB : Hid (Below W.heap.size W wb) := Lib.hid (GR.out _ _ _ (by repeat' (first | (with_reducible exact Below.refl _ _) | (with_reducible refine Below.drew ?_) | (with_reducible refine bal ?_))) gb rfl)
                   have GX := Lib.hid ((Below.refl _ _).grown gb (Nat.le_refl _) (by intro k hk; cases hk))
                   clear ob)
                | (refine step_app_int (o := ⟨some 52, _, _, _, _, _⟩) rfl (.tmp 49) (.tmp 51) rfl W.heap.size vb ([] ++ T) (by simp [Act.eval]) (own_up_i OB.out (bal (Below.refl _ _))) (.slice (some ⟨wb.heap.size, 0, none⟩) 1 1) [(n : Int)] (by simp [Act.eval]) (R1.out wb) N2.out (SZ.out _ (bal GB.out)) ?_
                   intro vc wc oc gc _
                   have OC := Lib.hid oc
                   have GC := Lib.hid (below_app_i (bal GB.out) (SZ.out _ (bal GB.out)) (own_up_i OB.out (bal (Below.refl _ _))) gc)
                   clear oc gc)
                | (refine step_app_int (o := ⟨some 52, _, _, _, _, _⟩) rfl (.tmp 49) (.tmp 51) rfl W.heap.size vb ([] ++ T) (by simp [Act.eval]) OB.out (.slice (some ⟨W.heap.size, 0, none⟩) 1 1) [(n : Int)] (by simp [Act.eval]) (ri_below (ri_below (R1.out W) ((Below.refl _ _).drew)) GX.out) N2.out (SZ.out _ GB.out) ?_
                   intro vc wc oc gc _
                   have OC := Lib.hid oc
                   have GC := Lib.hid (below_app_i GB.out (SZ.out _ GB.out) OB.out gc)
                   clear oc gc)
                | (refine step_app_int (o := ⟨some 56, _, _, _, _, _⟩) rfl (.tmp 52) (.tmp 55) rfl W.heap.size vc (([] ++ T) ++ [(n : Int)]) (by simp [Act.eval]) OC.out (.slice (some ⟨g, i, none⟩) (K - i) (c - i)) U (by simp [Act.eval]) (HP.out _ GC.out).2 N3.out (SZ.out _ GC.out) ?_
                   intro vd wd od gd _
                   have OD := Lib.hid od
                   have GD := Lib.hid (below_app_i GC.out (SZ.out _ GC.out) OC.out gd)
                   clear od gd))
               all_goals
                have HN : Hid (OwnI w.heap.size wd vd (T ++ (n : Int) :: U) ∧ Below w.heap.size w wd) := Lib.hid ⟨by have := OD.out; simp only [List.nil_append, List.append_assoc, List.cons_append] at this; exact this.mono HB.out.size, below_more HB.out GD.out⟩
                rw [hT'.out, hU'.out] at HN
                go_wp2
                exact ⟨⟨k + 1, _, _, by have := HK.out; omega, by go_num, rfl, Lib.hid ⟨HN.out.1, HPUT.out, HN.out.2⟩⟩, by have := HK.out; simp [intOf]; omega⟩
         · obtain rfl : i = K := by omega
           have j1 : ¬ (i : Int) < (i : Int) := by omega
           have HPUT := Lib.hid (HPu.out i (by rw [HKl.out]; exact Nat.le_refl _) HJ.out (fun h => by rw [HKl.out] at h; omega))
           have hcc := HCm.out
           have j8 : (i : Int) ≤ (c : Int) := by omega
           have j9 : (i : Int) ≤ (i : Int) := by omega
           have HRI : Hid (∀ w', Below W.heap.size W w' → RI w' (.slice (some ⟨g, 0, none⟩) i c) l) := Lib.hid fun w' hb => ri_below HO.out.ri hb
           have HD0 : Hid (l.drop i = []) := Lib.hid (List.drop_eq_nil_of_le (by rw [HKl.out]; exact Nat.le_refl _))
           clear hi hlt
           by_cases ec : c = i
           · subst ec
             clear hcc
             have HP : Hid (∀ w', Below W.heap.size W w' → RI w' (.slice (some ⟨g, 0, none⟩) c c) (l.take c) ∧ RI w' (.slice (some ⟨g, 0, none⟩) 0 0) (l.drop c)) := Lib.hid fun w' hb => ⟨ri_take (HRI.out _ hb) (by rw [HKl.out]; exact Nat.le_refl _), by rw [HD0.out]; exact ri_none (Nat.zero_le _)⟩
             have N1 : Hid (([] : List Int).length + (l.take c).length ≤ 1000000) := Lib.hid (by rw [List.length_take]; have := HLl.out; simp only [List.length_nil]; omega)
             have N2 : Hid (([] ++ l.take c).length + [(n : Int)].length ≤ 1000000) := Lib.hid (by rw [List.nil_append, List.length_take]; have := HLl.out; simp only [List.length_singleton]; omega)
             have N3 : Hid ((([] ++ l.take c) ++ [(n : Int)]).length + (l.drop c).length ≤ 1000000) := Lib.hid (by rw [List.nil_append, List.length_append, List.length_take, List.length_drop]; have := HLl.out; simp only [List.length_singleton]; omega)
             obtain ⟨T, hT⟩ : ∃ T, l.take c = T := ⟨_, rfl⟩
             obtain ⟨U, hU⟩ : ∃ U, l.drop c = U := ⟨_, rfl⟩
             rw [hT] at HP N1 N2 N3
             rw [hU] at HP N3
             have hT' := Lib.hid hT.symm
             have hU' := Lib.hid hU.symm
             clear hT hU
             go_wp2_with fail
             go_region_law (first
              | (refine step_app_int (o := ⟨some 49, _, _, _, _, _⟩) rfl (.const (.slice none 0 0)) (.tmp 48) rfl W.heap.size (.slice none 0 0) [] (by simp [Act.eval]) (own_nil_i _ _) (.slice (some ⟨g, 0, none⟩) c c) T (by simp [Act.eval, Act.put]) (HP.out _ (by repeat' (first | (with_reducible exact Below.refl _ _) | (with_reducible refine Below.drew ?_) | (with_reducible refine bal ?_)))).1 N1.out (SZ.out _ (by repeat' (first | (with_reducible exact Below.refl _ _) | (with_reducible refine Below.drew ?_) | (with_reducible refine bal ?_)))) ?_
                 intro vb wb ob gb _
                 have OB := Lib.hid ob
                 have GB : Hid (Below W.heap.size W wb) := Lib.hid (GR.out _ _ _ (by repeat' (first | (with_reducible exact Below.refl _ _) | (with_reducible refine Below.drew ?_) | (with_reducible refine bal ?_))) gb rfl)
                 have GX := Lib.hid ((Below.refl _ _).grown gb (Nat.le_refl _) (by intro k hk; cases hk))
                 clear ob)
              | (refine step_app_int (o := ⟨some 52, _, _, _, _, _⟩) rfl (.tmp 49) (.tmp 51) rfl W.heap.size vb ([] ++ T) (by simp [Act.eval]) (own_up_i OB.out (bal (Below.refl _ _))) (.slice (some ⟨wb.heap.size, 0, none⟩) 1 1) [(n : Int)] (by simp [Act.eval]) (R1.out wb) N2.out (SZ.out _ (bal GB.out)) ?_
                 intro vc wc oc gc _
                 have OC := Lib.hid oc
                 have GC := Lib.hid (below_app_i (bal GB.out) (SZ.out _ (bal GB.out)) (own_up_i OB.out (bal (Below.refl _ _))) gc)
                 clear oc gc)
              | (refine step_app_int (o := ⟨some 52, _, _, _, _, _⟩) rfl (.tmp 49) (.tmp 51) rfl W.heap.size vb ([] ++ T) (by simp [Act.eval]) OB.out (.slice (some ⟨W.heap.size, 0, none⟩) 1 1) [(n : Int)] (by simp [Act.eval]) (ri_below (ri_below (R1.out W) ((Below.refl _ _).drew)) GX.out) N2.out (SZ.out _ GB.out) ?_
                 intro vc wc oc gc _
                 have OC := Lib.hid oc
                 have GC := Lib.hid (below_app_i GB.out (SZ.out _ GB.out) OB.out gc)
                 clear oc gc)
              | (refine step_app_int (o := ⟨some 56, _, _, _, _, _⟩) rfl (.tmp 52) (.tmp 55) rfl W.heap.size vc (([] ++ T) ++ [(n : Int)]) (by simp [Act.eval]) OC.out (.slice (some ⟨g, 0, none⟩) 0 0) U (by simp [Act.eval]) (HP.out _ GC.out).2 N3.out (SZ.out _ GC.out) ?_
                 intro vd wd od gd _
                 have OD := Lib.hid od
                 have GD := Lib.hid (below_app_i GC.out (SZ.out _ GC.out) OC.out gd)
                 clear od gd))
             all_goals
              have HN : Hid (OwnI w.heap.size wd vd (T ++ (n : Int) :: U) ∧ Below w.heap.size w wd) := Lib.hid ⟨by have := OD.out; simp only [List.nil_append, List.append_assoc, List.cons_append] at this; exact this.mono HB.out.size, below_more HB.out GD.out⟩
              rw [hT'.out, hU'.out] at HN
              go_wp2
              exact ⟨⟨k + 1, _, _, by have := HK.out; omega, by go_num, rfl, Lib.hid ⟨HN.out.1, HPUT.out, HN.out.2⟩⟩, by have := HK.out; simp [intOf]; omega⟩
           · clear hcc
             have HP : Hid (∀ w', Below W.heap.size W w' → RI w' (.slice (some ⟨g, 0, none⟩) i c) (l.take i) ∧ RI w' (.slice (some ⟨g, i, none⟩) 0 (c - i)) (l.drop i)) := Lib.hid fun w' hb => ⟨ri_take (HRI.out _ hb) (by rw [HKl.out]; exact Nat.le_refl _), by rw [HD0.out]; exact ri_none (by have := HCm.out; unfold maxLen at *; omega)⟩
             have N1 : Hid (([] : List Int).length + (l.take i).length ≤ 1000000) := Lib.hid (by rw [List.length_take]; have := HLl.out; simp only [List.length_nil]; omega)
             have N2 : Hid (([] ++ l.take i).length + [(n : Int)].length ≤ 1000000) := Lib.hid (by rw [List.nil_append, List.length_take]; have := HLl.out; simp only [List.length_singleton]; omega)
             have N3 : Hid ((([] ++ l.take i) ++ [(n : Int)]).length + (l.drop i).length ≤ 1000000) := Lib.hid (by rw [List.nil_append, List.length_append, List.length_take, List.length_drop]; have := HLl.out; simp only [List.length_singleton]; omega)
             obtain ⟨T, hT⟩ : ∃ T, l.take i = T := ⟨_, rfl⟩
             obtain ⟨U, hU⟩ : ∃ U, l.drop i = U := ⟨_, rfl⟩
             rw [hT] at HP N1 N2 N3
             rw [hU] at HP N3
             have hT' := Lib.hid hT.symm
             have hU' := Lib.hid hU.symm
             clear hT hU
             go_wp2_with fail
             go_region_law (first
              | (refine step_app_int (o := ⟨some 49, _, _, _, _, _⟩) rfl (.const (.slice none 0 0)) (.tmp 48) rfl W.heap.size (.slice none 0 0) [] (by simp [Act.eval]) (own_nil_i _ _) (.slice (some ⟨g, 0, none⟩) i c) T (by simp [Act.eval, Act.put]) (HP.out _ (by repeat' (first | (with_reducible exact Below.refl _ _) | (with_reducible refine Below.drew ?_) | (with_reducible refine bal ?_)))).1 N1.out (SZ.out _ (by repeat' (first | (with_reducible exact Below.refl _ _) | (with_reducible refine Below.drew ?_) | (with_reducible refine bal ?_)))) ?_
                 intro vb wb ob gb _
                 have OB := Lib.hid ob
                 have GB : Hid (Below W.heap.size W wb) := Lib.hid (GR.out _ _ _ (by repeat' (first | (with_reducible exact Below.refl _ _) | (with_reducible refine Below.drew ?_) | (with_reducible refine bal ?_))) gb rfl)
                 have GX := Lib.hid ((Below.refl _ _).grown gb (Nat.le_refl _) (by intro k hk; cases hk))
                 clear ob)
              | (refine step_app_int (o := ⟨some 52, _, _, _, _, _⟩) rfl (.tmp 49) (.tmp 51) rfl W.heap.size vb ([] ++ T) (by simp [Act.eval]) (own_up_i OB.out (bal (Below.refl _ _))) (.slice (some ⟨wb.heap.size, 0, none⟩) 1 1) [(n : Int)] (by simp [Act.eval]) (R1.out wb) N2.out (SZ.out _ (bal GB.out)) ?_
                 intro vc wc oc gc _
                 have OC := Lib.hid oc
                 have GC := Lib.hid (below_app_i (bal GB.out) (SZ.out _ (bal GB.out)) (own_up_i OB.out (bal (Below.refl _ _))) gc)
                 clear oc gc)
              | (refine step_app_int (o := ⟨some 52, _, _, _, _, _⟩) rfl (.tmp 49) (.tmp 51) rfl W.heap.size vb ([] ++ T) (by simp [Act.eval]) OB.out (.slice (some ⟨W.heap.size, 0, none⟩) 1 1) [(n : Int)] (by simp [Act.eval]) (ri_below (ri_below (R1.out W) ((Below.refl _ _).drew)) GX.out) N2.out (SZ.out _ GB.out) ?_
                 intro vc wc oc gc _
                 have OC := Lib.hid oc
                 have GC := Lib.hid (below_app_i GB.out (SZ.out _ GB.out) OB.out gc)
                 clear oc gc)
              | (refine step_app_int (o := ⟨some 56, _, _, _, _, _⟩) rfl (.tmp 52) (.tmp 55) rfl W.heap.size vc (([] ++ T) ++ [(n : Int)]) (by simp [Act.eval]) OC.out (.slice (some ⟨g, i, none⟩) 0 (c - i)) U (by simp [Act.eval]) (HP.out _ GC.out).2 N3.out (SZ.out _ GC.out) ?_
                 intro vd wd od gd _
                 have OD := Lib.hid od
                 have GD := Lib.hid (below_app_i GC.out (SZ.out _ GC.out) OC.out gd)
                 clear od gd))
             all_goals
              have HN : Hid (OwnI w.heap.size wd vd (T ++ (n : Int) :: U) ∧ Below w.heap.size w wd) := Lib.hid ⟨by have := OD.out; simp only [List.nil_append, List.append_assoc, List.cons_append] at this; exact this.mono HB.out.size, below_more HB.out GD.out⟩
              rw [hT'.out, hU'.out] at HN
              go_wp2
              exact ⟨⟨k + 1, _, _, by have := HK.out; omega, by go_num, rfl, Lib.hid ⟨HN.out.1, HPUT.out, HN.out.2⟩⟩, by have := HK.out; simp [intOf]; omega⟩
    · have i4 : a < 0 := by omega
      have HN : Hid (OwnI w.heap.size W lv l ∧ (IsL (es.take (k + 1)) l ∧ l.length ≤ k + 1) ∧ Below w.heap.size w W) := Lib.hid ⟨HO.out, ⟨hI.skip hlt (by rw [hya]; exact h1), by omega⟩, HB.out⟩
      clear hx hb hk hlt h1 hwf hwa hI hll hy hya
      go_wp2
      exact ⟨⟨k + 1, l, lv, by have := HK.out; omega, by go_num, rfl, HN⟩, by have := HK.out; simp [intOf]; omega⟩
  · obtain rfl : k = es.length := by omega
    have hF := H.out
    rw [List.take_length] at hF
    have HF := Lib.hid hF
    clear hF H hk hlt
    go_wp2
    go_ret
    exact ⟨⟨_, l, rfl, HF.out.1, HF.out.2.1.1⟩, HF.out.2.2⟩
theorem lnR_pos : ∀ {es : List Ed} {x : Int}, x ∈ lnR es → 0 ≤ x
 | [], _, h => by cases h
 | e :: r, x, h => by
   rw [lnR] at h
   split at h
   · rcases List.mem_cons.1 h with rfl | h
     · omega
     · exact lnR_pos h
   · exact lnR_pos h
theorem lnsF_pos {es : List Ed} {j : Nat} (hj : j < (lnsF es).length) : 0 ≤ (lnsF es).getD j 0 := by
 rw [List.getD_eq_getElem?_getD, List.getElem?_eq_getElem hj]
 exact lnR_pos (((lnsF_is es).mem _).1 (List.getElem_mem hj))
theorem bumps_snoc (c L : List Int) (z : Int) : bumps c (L ++ [z]) = (bumps c L).set (z.toNat / 4) ((bumps c L).getD (z.toNat / 4) 0 + 1) := by
 unfold bumps
 rw [List.foldl_append]; rfl
theorem getD_set_h {c : List Int} {p q : Nat} {x : Int} : (c.set p x).getD q 0 = if p = q ∧ p < c.length then x else c.getD q 0 := by
 rw [List.getD_eq_getElem?_getD, List.getD_eq_getElem?_getD, List.getElem?_set]
 by_cases e : p = q
 · subst e
   by_cases h : p < c.length
   · rw [if_pos rfl, if_pos h, if_pos ⟨rfl, h⟩]; rfl
   · rw [if_pos rfl, if_neg h, if_neg (fun k => h k.2), List.getElem?_eq_none (by omega)]
 · rw [if_neg e, if_neg (fun k => e k.1)]
theorem bumps_in : ∀ (L c : List Int) (M : Int), (∀ q, 0 ≤ c.getD q 0 ∧ c.getD q 0 ≤ M) → ∀ q, 0 ≤ (bumps c L).getD q 0 ∧ (bumps c L).getD q 0 ≤ M + L.length
 | [], _, _, h, q => by have := h q; simp only [bumps, List.foldl_nil, List.length_nil]; omega
 | z :: L, c, M, h, q => by
   have := bumps_in L (c.set (z.toNat / 4) (c.getD (z.toNat / 4) 0 + 1)) (M + 1) (fun p => by
    rw [getD_set_h]
    have h1 := h p
    have h2 := h (z.toNat / 4)
    split <;> omega) q
   simp only [List.length_cons]
   have e : bumps c (z :: L) = bumps (c.set (z.toNat / 4) (c.getD (z.toNat / 4) 0 + 1)) L := rfl
   rw [e]
   omega
theorem ctints_in {ct : Ct} {M : Nat} (h : ∀ q, q < ct.n → ct.c q ≤ M) : ∀ q, 0 ≤ ct.ints.getD q 0 ∧ ct.ints.getD q 0 ≤ M := fun q => by
 by_cases hq : q < ct.n
 · have e : ct.ints.getD q 0 = (ct.c q : Int) := byF_getD _ hq
   have := h q hq
   rw [e]; omega
 · have e : ct.ints.getD q 0 = 0 := by
    rw [List.getD_eq_getElem?_getD, List.getElem?_eq_none (by have : ct.ints.length = ct.n := byF_length _ _; omega)]; rfl
   rw [e]; omega
theorem alR_len {X : List Int} {r N : Nat} {n : Int} {cs : List Int} (hl : X.length = 8 * N) (hs : soundB X r = true) (hok : WordsOk X) (h0 : (alR X n cs).2.2 = 0) : (alR X n cs).1.length ≤ 4000 := by
 by_cases hn : needN n = 0
 · rw [alR_arg hn] at h0; cases h0
 · exact (alR_good hl hs hok hn h0).1.len
theorem frR_len (X : List Int) (o : Int) : (frR X o).1.length ≤ 4000 := by
 unfold frR
 split
 · simp
 · split <;> simp
theorem hi_block {B : Nat} {w : World} {v : Value} {l : List Int} (h : OwnI B w v l) (h0 : 0 < l.length) : ∃ g c, v = .slice (some ⟨g, 0, none⟩) l.length c ∧ B ≤ g ∧ g < w.heap.size := by
 obtain ⟨_, ⟨rfl, h1⟩ | ⟨g, cap, cur, rfl, hb, hg, h1, h2, _⟩⟩ := h
 · omega
 · exact ⟨g, cap, rfl, hb, (Array.getElem?_eq_some_iff.1 hg).1⟩
theorem hi_stored {B g c : Nat} {w : World} {n : Nat} {l : List Int} (hn : n = l.length) (h : OwnI B w (.slice (some ⟨g, 0, none⟩) n c) l) (j : Nat) (x : Int) : OwnI B (w.setCell ⟨g, j, none⟩ (.int .i64 x)) (.slice (some ⟨g, 0, none⟩) n c) (l.set j x) := by
 subst hn
 have := World.ownsRow.stored (g := g) (cap := c) h j (iv x)
 unfold OwnI
 rw [List.length_set, List.map_set]
 exact this.1
theorem hi_cells {B : Nat} {w : World} {g n c : Nat} {l : List Int} (hn : n = l.length) (h : OwnI B w (.slice (some ⟨g, 0, none⟩) n c) l) {j : Nat} (hj : j < l.length) : w.cell? ⟨g, j, none⟩ = some (.int .i64 (l.getD j 0)) ∧ w.frozen? ⟨g, j, none⟩ = false := by
 subst hn
 refine ⟨?_, World.ownsRow.frozenAt (g := g) (cap := c) h j⟩
 rw [World.ownsRow.cellAt (g := g) (cap := c) h j (by omega)]
 simp [hj, iv]
theorem OwnI.below_h {B : Nat} {w w' : World} {v : Value} {l : List Int} (h : OwnI B w v l) (hb : Below w.heap.size w w') : OwnI B w' v l := own_up_i h hb
end Go.Proofs.YtjkefcidbcifpaaGreat
