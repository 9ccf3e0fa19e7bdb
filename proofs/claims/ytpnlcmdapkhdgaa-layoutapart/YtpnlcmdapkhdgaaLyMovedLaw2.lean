/-
  LayoutMoved's law, walked.
-/
import Derived.Test.YtpnlcmdapkhdgaaLyMovedLaw
namespace Go.Proofs.Ytpnlcmdapkhdgaa
open Go Go.RowKit
set_option linter.unusedVariables false
attribute [local go_sem] lat_cell

/-- a layout that a variable holds -/
def LV1 (W : World) (n : Nat) (xf xn xc : Option Addr) (yf yn yc : Nat) (F C : List Int) (N : List ByteArray) (f t : Nat → Int) : Prop :=
  W.heap[n]? = some (.cells (layArr (.slice xf F.length yf) (.slice xn N.length yn) (.slice xc C.length yc) f t) 30 (0, 0)) ∧ IntsAt W (.slice xf F.length yf) F ∧ StrsAt W (.slice xn N.length yn) N ∧ IntsAt W (.slice xc C.length yc) C
theorem LV1.later {W X : World} {n : Nat} {xf xn xc : Option Addr} {yf yn yc : Nat} {F C : List Int} {N : List ByteArray} {f t : Nat → Int} (h : LV1 W n xf xn xc yf yn yc F C N f t) (hb : Below W.heap.size W X) : LV1 X n xf xn xc yf yn yc F C N f t :=
  ⟨(hb.block _ (Array.getElem?_eq_some_iff.1 h.1).1).trans h.1, h.2.1.later hb, h.2.2.1.later hb, h.2.2.2.later hb⟩


end Go.Proofs.Ytpnlcmdapkhdgaa
