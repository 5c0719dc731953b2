/-
  Contracts of package count: pages of lines.
-/
import Derived.Test.YtdnijdbhdlengaaLaw
namespace Go.Proofs.Ytdnijdbhdlengaa
set_option maxRecDepth 100000
open Go.RowKit

end Go.Proofs.Ytdnijdbhdlengaa
