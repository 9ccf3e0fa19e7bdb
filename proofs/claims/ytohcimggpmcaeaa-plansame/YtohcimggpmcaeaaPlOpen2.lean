/-
  What the reading of parts and of integers gives.
-/
import Derived.Test.YtohcimggpmcaeaaArOpen
import Derived.Test.YtohcimggpmcaeaaOpB
namespace Go.Proofs.Ytohcimggpmcaeaa
end Go.Proofs.Ytohcimggpmcaeaa
