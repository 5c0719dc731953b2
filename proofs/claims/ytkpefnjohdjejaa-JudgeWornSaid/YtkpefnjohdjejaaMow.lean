/-
  A heap as extents, plainly: bytes are written into one used block.
-/
import Derived.Test.YtkpefnjohdjejaaMop
import Derived.Test.YtkpefnjohdjejaaZme
namespace Go.Proofs.Ytkpefnjohdjejaa
set_option maxRecDepth 100000

theorem wrote {wl : List Int} {l : List Bk} (hB : blkF wl = some l) (hok : WordsOk wl) {b : Bk} (hb : b ∈ l) {f n : Nat} {c : Nat → Int} {M : List Ed} (hM : IsE wl (8 * (b.a.toNat + 1) + f) n c M) (hf : f + n ≤ 8 * (b.s.toNat - 1)) :
    blkF (appF wl M) = some l ∧ WordsOk (appF wl M) ∧ ∀ x ∈ l, x.a ≠ b.a → cut (appF wl M) x = cut wl x := by
  have hm := blkF_some hB
  obtain ⟨hn, hF⟩ := mayL_yes.1 hm
  obtain ⟨_, hn5, _⟩ := hn
  obtain ⟨⟨b1, b1'⟩, b2, b3⟩ := mayF_sizes hF b hb
  obtain ⟨v1, v2⟩ := appF_isE hM (wd_ok hok) (by omega)
  have hlen : (appF wl M).length = wl.length := appF_length ..
  have hwd : ∀ {v : List Int} {j : Nat}, (∀ x ∈ v, Wd x) → j < v.length → Wd (v.getD j 0) := fun hv hj => by
    rw [List.getD_eq_getElem?_getD, List.getElem?_eq_getElem hj]
    exact hv _ (List.getElem_mem hj)
  have hsame : ∀ j, j < wl.length → ((j : Int) ≤ b.a ∨ b.a + b.s ≤ j) → (appF wl M).getD j 0 = wl.getD j 0 := fun j hj q => by
    refine wd_ext (hwd v1 (by rw [hlen]; exact hj)) (hwd (wd_ok hok) hj) fun k hk => ?_
    have := v2 (8 * j + k) (by omega)
    rw [tgt, if_neg (by omega)] at this
    unfold bAt_ at this
    rwa [show (8 * j + k) / 8 = j by omega, show (8 * j + k) % 8 = k by omega] at this
  refine ⟨blkF_of (by rw [hlen]; exact hm) fun x hx => ?_, fun j hj => ?_, fun x hx hne => ?_⟩
  · obtain ⟨⟨x1, _⟩, x2, x3⟩ := mayF_sizes hF x hx
    rw [hsame _ (by omega) ?_]
    · exact blkF_hd hB x hx
    · by_cases e : x.a = b.a
      · omega
      · rcases lie_apart hm hx hb e with q | q <;> omega
  · have := v1 _ (List.getElem_mem hj)
    rw [List.getD_eq_getElem?_getD, List.getElem?_eq_getElem hj]
    exact ⟨this.1, by have := this.2; simp only [Option.getD_some]; omega⟩
  · obtain ⟨⟨x1, _⟩, x2, x3⟩ := mayF_sizes hF x hx
    refine cut_same hlen x2 fun j j1 j2 => hsame j (by omega) ?_
    rcases lie_apart hm hx hb hne with q | q <;> omega
end Go.Proofs.Ytkpefnjohdjejaa
