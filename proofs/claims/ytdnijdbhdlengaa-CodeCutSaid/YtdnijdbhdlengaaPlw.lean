/-
  Package plan by plain functions of the plan; a plan that comes in; 'awake' of layer 11's statements.
-/
import Derived.Test.YtdnijdbhdlengaaPlc
namespace Go.Proofs.Ytdnijdbhdlengaa
set_option maxRecDepth 100000
open Go.ChangeShapes Go.WideShapes Go.ChangeAt Go.RowKit


/-- words, pages, logical lines, lines of the device, where a line is -/
def wdM (l : Int) : Int := l * 8
def pgM (l : Int) : Int := (l + 3) / 4
def lgM (l : Int) : Int := 16 + l
def dvM (l s : Int) : Int := 17 + l + s
def hmM (l i : Int) : Int := if 0 ≤ i ∧ i < l then 16 + i else -1
def pageM (i : Int) : Int := i / 4




theorem trod_struct4 {H : Type} {enc : TypeId × Value → H} {P : Program} {w : World} {base : Nat} {spare : Nat → Bool} {held : Bool} {t : TypeId} {f0 f1 f2 f3 : Field} {fuel : Nat} {cs : List Value} {x : DataW H × List MemPlace}
    (ht : P.underlying t = some (.struct #[f0, f1, f2, f3])) (h : DataW.trod enc P w base spare held fuel t cs = some x) :
    ∃ y0 y1 y2 y3 n, cs.length = P.cellsOf t ∧ DataW.trod enc P w base spare held n f0.type ((cs.drop f0.offset).take (P.cellsOf f0.type)) = some y0 ∧
      DataW.trod enc P w base spare held n f1.type ((cs.drop f1.offset).take (P.cellsOf f1.type)) = some y1 ∧ DataW.trod enc P w base spare held n f2.type ((cs.drop f2.offset).take (P.cellsOf f2.type)) = some y2 ∧
      DataW.trod enc P w base spare held n f3.type ((cs.drop f3.offset).take (P.cellsOf f3.type)) = some y3 := by
  obtain ⟨xs, n, _, rfl, hl, hlen, hf⟩ := DataW.trod_struct ht h
  match xs, hlen with
  | [y0, y1, y2, y3], _ => exact ⟨y0, y1, y2, y3, n, hl, by simpa using hf 0 f0 rfl, by simpa using hf 1 f1 rfl, by simpa using hf 2 f2 rfl, by simpa using hf 3 f3 rfl⟩

theorem cells_int1 : Try.prog.cellsOf 3 = 1 := by kernel_rfl
end Go.Proofs.Ytdnijdbhdlengaa
