/-
  LayoutApart's law in pieces: small facts, and the loops' bodies, taken out of the program's own text.
-/
import Derived.Test.YtpnlcmdapkhdgaaLyMovedLaw2
import Derived.Test.YtpnlcmdapkhdgaaLyApart2
import Derived.Test.YtpnlcmdapkhdgaaSameFrag
import Derived.Sort.Walk0
namespace Go.Proofs.Ytpnlcmdapkhdgaa
open Go Go.RowKit
set_option linter.unusedVariables false
attribute [local go_sem] lat_cell

def lastAt (base : Int) (ti : Nat → Int) (k : Nat) : Int := if k = 1 then base else ti (k - 1)

theorem allTwo_int : ∀ xs ys : List Int, M.allTwo (fun x y => x == y) xs ys = decide (xs = ys)
  | [], [] => rfl
  | [], _ :: _ => by simp [M.allTwo]
  | _ :: _, [] => by simp [M.allTwo]
  | x :: xs, y :: ys => by
    show (x == y && M.allTwo (fun x y => x == y) xs ys) = _
    rw [allTwo_int xs ys]
    by_cases h : x = y
    · subst h; simp
    · simp [h]

theorem strict_less {N : List ByteArray} (h : M.Strict N) (j : Nat) (hj : j + 1 < N.length) : Op.bytesLess (N.getD j str0).toList (N.getD (j + 1) str0).toList = true := by
  have h1 : j < N.length := by omega
  have := List.pairwise_iff_getElem.1 h j (j + 1) h1 hj (by omega)
  rw [bytesLess_eq, Lib.toList_data, Lib.toList_data, decide_eq_true_eq, List.getD_eq_getElem?_getD, List.getElem?_eq_getElem h1, List.getD_eq_getElem?_getD, List.getElem?_eq_getElem hj]
  exact this

theorem run_geq_str (a b : ByteArray) (h : Op.bytesLess a.toList b.toList = true) (w : World) : Sem.run Try.prog (Go.binOp BinOp.geq 9 (Value.string a) (Value.string b)) w = Result.ok (Value.bool false) w := by
  simp [Go.binOp, Op.stringOp, h, go_sem]

def loopsOf : Code → List Code
  | .loop c => c :: loopsOf c
  | .seq a b => loopsOf a ++ loopsOf b
  | .block _ c => loopsOf c
  | .scope c => loopsOf c
  | .cond _ a b => loopsOf a ++ loopsOf b
  | _ => []

/-- what the loops know of memory -/
def ApMem (w Y : World) (n1 : Nat) (xf xn xc : Option Addr) (yf yn yc : Nat) (p : M.Prt) (base : Int) (a1 a2 : Option Addr) (c1 c2 : Nat) : Prop :=
  ∀ W, Below Y.heap.size Y W → LV1 W n1 xf xn xc yf yn yc (M.layAll p base).frags (M.layAll p base).coms (M.layAll p base).names (M.layAll p base).fr (M.layAll p base).ti ∧ (W.cell? ⟨w.heap.size, 0, none⟩ = some (.slice a1 p.frags.length c1) ∧ W.cell? ⟨w.heap.size, 1, none⟩ = some (.slice a2 p.defs.length c2) ∧ w.heap.size < W.heap.size) ∧ FragsAt W (.slice a1 p.frags.length c1) p.frags ∧ DefsAt W (.slice a2 p.defs.length c2) p.defs

end Go.Proofs.Ytpnlcmdapkhdgaa
