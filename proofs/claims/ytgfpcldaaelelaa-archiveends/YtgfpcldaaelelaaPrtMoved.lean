/-
  The contract of part.moved.
-/
import Derived.Test.YtgfpcldaaelelaaPrtMem
import Derived.Deep.RegionHeld3
namespace Go.Proofs.Ytgfpcldaaelelaa
open Go.RowKit
set_option linter.unusedVariables false

end Go.Proofs.Ytgfpcldaaelelaa
