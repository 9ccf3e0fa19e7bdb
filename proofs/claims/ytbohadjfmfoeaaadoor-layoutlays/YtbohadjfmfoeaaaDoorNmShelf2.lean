/-
  The contracts of the library functions that are called, at this program: each laying is a table of numbers and one theorem, a field a fact of the program.
-/
import Derived.Shelf.Spec.SlicesGrow
import Derived.Shelf.SlSorted.IsSorted
import Derived.Shelf.SlicesE.DeleteFunc
import Derived.Shelf.SlicesE.IndexFunc
import Derived.Test.YtbohadjfmfoeaaaDoorProg
namespace Go.Proofs
open Go.Shelf
end Go.Proofs
