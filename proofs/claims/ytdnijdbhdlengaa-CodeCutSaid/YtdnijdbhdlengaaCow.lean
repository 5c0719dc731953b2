/-
  What every statement of the twenty-fourth layer asks besides: costs that every program must know.
-/
import Derived.Test.YtdnijdbhdlengaaCos
namespace Go.Proofs.Ytdnijdbhdlengaa
set_option maxRecDepth 100000
open Go.ChangeShapes Go.WideShapes Go.ChangeAt Go.RowKit


end Go.Proofs.Ytdnijdbhdlengaa
