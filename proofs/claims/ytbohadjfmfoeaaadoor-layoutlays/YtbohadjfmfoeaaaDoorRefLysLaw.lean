/-
  The law LayoutLays: whatever the part, the base and the name, it returns true.
-/
import Derived.Test.YtbohadjfmfoeaaaDoorRefLysA
import Derived.Test.YtbohadjfmfoeaaaDoorRefLysB
import Derived.Test.YtbohadjfmfoeaaaDoorRefLysC
import Derived.Test.YtbohadjfmfoeaaaDoorRefLysD
import Derived.Test.YtbohadjfmfoeaaaDoorRefLysE
namespace Go.Proofs.YtbohadjfmfoeaaaDoor
open Go Go.RowKit
set_option linter.unusedVariables false

theorem lays_law (p : M.Prt) (base : Int) (s : ByteArray) (a1 a2 : Option Addr) (c1 c2 : Nat) (w : World) (hf : FragsAt w (.slice a1 p.frags.length c1) p.frags) (hd : DefsAt w (.slice a2 p.defs.length c2) p.defs) (hcap : p.frags.length ≤ c1) :
    Calls Tryd.prog 3 #[.agg #[.slice a1 p.frags.length c1, .slice a2 p.defs.length c2], .int .i64 base, .string s] w fun e w' => e = .returned (.bool true) ∧ Below w.heap.size w w' := by
  by_cases hck : M.checkPart p = 0
  · by_cases hbs : base < 0 ∨ 65536 ≤ base
    · rcases hbs with h | h
      · exact lays_B p base s a1 a2 c1 c2 w hf hd hcap hck h
      · exact lays_C p base s a1 a2 c1 c2 w hf hd hcap hck h
    · by_cases her : (M.lay p base).2 = 0
      · exact lays_D p base s a1 a2 c1 c2 w hf hd hcap hck hbs her
      · exact lays_E p base s a1 a2 c1 c2 w hf hd hcap hck hbs her
  · exact lays_A p base s a1 a2 c1 c2 w hf hd hcap hck

end Go.Proofs.YtbohadjfmfoeaaaDoor
