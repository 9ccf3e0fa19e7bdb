/-
  Variables that hold parts. Variables that hold parts; Join as a walk meets it.
-/
import Derived.Test.YthbdfnphnppagaaDoorPrtMem
import Derived.Test.YthbdfnphnppagaaDoorPrtAll

namespace Go.Proofs.YthbdfnphnppagaaDoor
open Go.RowKit
set_option linter.unusedVariables false

/-- a variable that holds a part -/
structure Var (w : World) (b : Nat) (x1 x2 : Option Addr) (y1 y2 : Nat) (p : M.Prt) : Prop where
  blk : w.heap[b]? = some (.cells #[.slice x1 p.frags.length y1, .slice x2 p.defs.length y2] 25 (0, 0))
  fr : FragsAt w (.slice x1 p.frags.length y1) p.frags
  df : DefsAt w (.slice x2 p.defs.length y2) p.defs

theorem Var.later {w w' : World} {b : Nat} {x1 x2 : Option Addr} {y1 y2 : Nat} {p : M.Prt} (h : Var w b x1 x2 y1 y2 p) (hb : Below w.heap.size w w') : Var w' b x1 x2 y1 y2 p :=
  ⟨(hb.block _ (Array.getElem?_eq_some_iff.1 h.blk).1).trans h.blk, h.fr.later hb, h.df.later hb⟩
theorem Var.c0 {w : World} {b : Nat} {x1 x2 : Option Addr} {y1 y2 : Nat} {p : M.Prt} (h : Var w b x1 x2 y1 y2 p) : w.cell? ⟨b, 0, none⟩ = some (.slice x1 p.frags.length y1) := cellB h.blk 0
theorem Var.c1 {w : World} {b : Nat} {x1 x2 : Option Addr} {y1 y2 : Nat} {p : M.Prt} (h : Var w b x1 x2 y1 y2 p) : w.cell? ⟨b, 1, none⟩ = some (.slice x2 p.defs.length y2) := cellB h.blk 1
theorem Var.lt {w : World} {b : Nat} {x1 x2 : Option Addr} {y1 y2 : Nat} {p : M.Prt} (h : Var w b x1 x2 y1 y2 p) : b < w.heap.size := (Array.getElem?_eq_some_iff.1 h.blk).1

theorem var_new {w : World} {x1 x2 : Option Addr} {y1 y2 : Nat} {p : M.Prt} (hf : FragsAt w (.slice x1 p.frags.length y1) p.frags) (hd : DefsAt w (.slice x2 p.defs.length y2) p.defs) :
    Var (w.alloc (.cells #[.slice x1 p.frags.length y1, .slice x2 p.defs.length y2] 25)) w.heap.size x1 x2 y1 y2 p :=
  ⟨heap_alloc_new _ _, hf.later ((Below.refl _ _).alloc (Nat.le_refl _) _), hd.later ((Below.refl _ _).alloc (Nat.le_refl _) _)⟩

end Go.Proofs.YthbdfnphnppagaaDoor

namespace Go.Proofs.YthbdfnphnppagaaDoor
open Go.RowKit
set_option linter.unusedVariables false

/-- Join, as a walk meets it -/
theorem join_v {a b : M.Prt} {a1 a2 b1 b2 : Option Addr} {c1 c2 d1 d2 : Nat} {w : World} (hf : FragsAt w (.slice a1 a.frags.length c1) a.frags) (hd : DefsAt w (.slice a2 a.defs.length c2) a.defs)
    (hf' : FragsAt w (.slice b1 b.frags.length d1) b.frags) (hd' : DefsAt w (.slice b2 b.defs.length d2) b.defs) (p : M.Prt) (er : Int) (hj : M.join a b = (p, er)) :
    Calls Tryd.prog 25 #[.agg #[.slice a1 a.frags.length c1, .slice a2 a.defs.length c2], .agg #[.slice b1 b.frags.length d1, .slice b2 b.defs.length d2]] w fun e w' =>
      Below w.heap.size w w' ∧ ∃ x1 y1 x2 y2, e = .returned (.tuple #[.agg #[.slice x1 p.frags.length y1, .slice x2 p.defs.length y2], .int .i64 er]) ∧ FragsAt w' (.slice x1 p.frags.length y1) p.frags ∧ DefsAt w' (.slice x2 p.defs.length y2) p.defs := by
  refine (join_any a b a1 a2 b1 b2 c1 c2 d1 d2 w hf hd hf' hd').mono ?_
  rintro e w' ⟨hb, es, vF, vD, rfl, hP, hes⟩
  rw [hj] at hP hes ⊢
  have hF := hP.fragsAt
  rw [hes] at hF
  obtain ⟨x1, y1, rfl⟩ := hF.form
  obtain ⟨x2, y2, rfl⟩ := hP.defsAt.form
  exact ⟨hb, x1, y1, x2, y2, rfl, hF, hP.defsAt⟩

end Go.Proofs.YthbdfnphnppagaaDoor
