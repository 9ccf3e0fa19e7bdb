/-
  Variables that hold parts.
-/
import Derived.Test.YtebhbhbhcoijpaaPrtMem
namespace Go.Proofs.Ytebhbhbhcoijpaa
open Go.RowKit
set_option linter.unusedVariables false

/-- a variable that holds a part -/
structure Var (w : World) (b : Nat) (x1 x2 : Option Addr) (y1 y2 : Nat) (p : M.Prt) : Prop where
  blk : w.heap[b]? = some (.cells #[.slice x1 p.frags.length y1, .slice x2 p.defs.length y2] 25 (0, 0))
  fr : FragsAt w (.slice x1 p.frags.length y1) p.frags
  df : DefsAt w (.slice x2 p.defs.length y2) p.defs

theorem Var.later {w w' : World} {b : Nat} {x1 x2 : Option Addr} {y1 y2 : Nat} {p : M.Prt} (h : Var w b x1 x2 y1 y2 p) (hb : Below w.heap.size w w') : Var w' b x1 x2 y1 y2 p :=
  ⟨(hb.block _ (Array.getElem?_eq_some_iff.1 h.blk).1).trans h.blk, h.fr.later hb, h.df.later hb⟩
theorem Var.c0 {w : World} {b : Nat} {x1 x2 : Option Addr} {y1 y2 : Nat} {p : M.Prt} (h : Var w b x1 x2 y1 y2 p) : w.cell? ⟨b, 0, none⟩ = some (.slice x1 p.frags.length y1) := cellB h.blk 0
theorem Var.c1 {w : World} {b : Nat} {x1 x2 : Option Addr} {y1 y2 : Nat} {p : M.Prt} (h : Var w b x1 x2 y1 y2 p) : w.cell? ⟨b, 1, none⟩ = some (.slice x2 p.defs.length y2) := cellB h.blk 1
theorem Var.lt {w : World} {b : Nat} {x1 x2 : Option Addr} {y1 y2 : Nat} {p : M.Prt} (h : Var w b x1 x2 y1 y2 p) : b < w.heap.size := (Array.getElem?_eq_some_iff.1 h.blk).1

theorem var_new {w : World} {x1 x2 : Option Addr} {y1 y2 : Nat} {p : M.Prt} (hf : FragsAt w (.slice x1 p.frags.length y1) p.frags) (hd : DefsAt w (.slice x2 p.defs.length y2) p.defs) :
    Var (w.alloc (.cells #[.slice x1 p.frags.length y1, .slice x2 p.defs.length y2] 25)) w.heap.size x1 x2 y1 y2 p :=
  ⟨heap_alloc_new _ _, hf.later ((Below.refl _ _).alloc (Nat.le_refl _) _), hd.later ((Below.refl _ _).alloc (Nat.le_refl _) _)⟩

end Go.Proofs.Ytebhbhbhcoijpaa
