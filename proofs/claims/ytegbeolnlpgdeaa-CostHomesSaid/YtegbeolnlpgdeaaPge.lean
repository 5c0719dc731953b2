/-
  Contracts of package count: pages of lines.
-/
import Derived.Test.YtegbeolnlpgdeaaZma
namespace Go.Proofs.Ytegbeolnlpgdeaa
set_option maxRecDepth 100000
open Go.RowKit

end Go.Proofs.Ytegbeolnlpgdeaa
