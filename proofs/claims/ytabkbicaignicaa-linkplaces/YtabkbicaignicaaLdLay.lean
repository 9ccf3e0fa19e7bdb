/-
  Lay as a walk meets it; a variable that holds a layout.
-/
import Derived.Test.YtabkbicaignicaaLyLay
namespace Go.Proofs.Ytabkbicaignicaa
open Go Go.RowKit
set_option linter.unusedVariables false

/-- a variable that holds a layout -/
structure LVar (w : World) (b : Nat) (xf : Option Addr) (yf : Nat) (xn : Option Addr) (yn : Nat) (xc : Option Addr) (yc : Nat) (l : M.Lay) : Prop where
  blk : w.heap[b]? = some (.cells (layArr (.slice xf l.frags.length yf) (.slice xn l.names.length yn) (.slice xc l.coms.length yc) l.fr l.ti) 38 (0, 0))
  frags : IntsAt w (.slice xf l.frags.length yf) l.frags
  names : StrsAt w (.slice xn l.names.length yn) l.names
  coms : IntsAt w (.slice xc l.coms.length yc) l.coms
theorem LVar.later {w w' : World} {b : Nat} {xf xn xc : Option Addr} {yf yn yc : Nat} {l : M.Lay} (h : LVar w b xf yf xn yn xc yc l) (hb : Below w.heap.size w w') : LVar w' b xf yf xn yn xc yc l :=
  ⟨(hb.block _ (Array.getElem?_eq_some_iff.1 h.blk).1).trans h.blk, h.frags.later hb, h.names.later hb, h.coms.later hb⟩
theorem lvar_new {w : World} {xf xn xc : Option Addr} {yf yn yc : Nat} {l : M.Lay} (h1 : IntsAt w (.slice xf l.frags.length yf) l.frags) (h2 : StrsAt w (.slice xn l.names.length yn) l.names) (h3 : IntsAt w (.slice xc l.coms.length yc) l.coms) :
    LVar (w.alloc (.cells (layArr (.slice xf l.frags.length yf) (.slice xn l.names.length yn) (.slice xc l.coms.length yc) l.fr l.ti) 38)) w.heap.size xf yf xn yn xc yc l :=
  have hb : Below w.heap.size w (w.alloc (.cells (layArr (.slice xf l.frags.length yf) (.slice xn l.names.length yn) (.slice xc l.coms.length yc) l.fr l.ti) 38)) := (Below.refl _ _).alloc (Nat.le_refl _) _
  ⟨heap_alloc_new w _, h1.later hb, h2.later hb, h3.later hb⟩

/-- Lay, as a walk meets it -/
theorem lay_vv {p : M.Prt} {base : Int} {a1 a2 : Option Addr} {c1 c2 : Nat} {w : World} (hf : FragsAt w (.slice a1 p.frags.length c1) p.frags) (hd : DefsAt w (.slice a2 p.defs.length c2) p.defs) (l : M.Lay) (er : Int) (hl : M.lay p base = (l, er)) :
    Calls Try.prog 11 #[.agg #[.slice a1 p.frags.length c1, .slice a2 p.defs.length c2], .int .i64 base] w fun e w' => Below w.heap.size w w' ∧ ∃ xf yf xn yn xc yc, e = .returned (.tuple #[.agg #[(.slice xf l.frags.length yf), (.slice xn l.names.length yn), (.slice xc l.coms.length yc), .int .i64 (l.fr 0), .int .i64 (l.fr 1), .int .i64 (l.fr 2), .int .i64 (l.fr 3), .int .i64 (l.fr 4), .int .i64 (l.fr 5), .int .i64 (l.ti 0), .int .i64 (l.ti 1), .int .i64 (l.ti 2), .int .i64 (l.ti 3), .int .i64 (l.ti 4), .int .i64 (l.ti 5)], .int .i64 er]) ∧ IntsAt w' (.slice xf l.frags.length yf) l.frags ∧ StrsAt w' (.slice xn l.names.length yn) l.names ∧ IntsAt w' (.slice xc l.coms.length yc) l.coms := by
  refine (lay_any p base a1 a2 c1 c2 w hf hd).mono ?_
  rintro e w' ⟨hb, vF, vN, vC, rfl, h1, h2, h3⟩
  rw [hl] at h1 h2 h3 ⊢
  obtain ⟨xf, yf, rfl, _⟩ := SlAt.form h1
  obtain ⟨xn, yn, rfl, _⟩ := SlAt.form h2.1
  obtain ⟨xc, yc, rfl, _⟩ := SlAt.form h3
  exact ⟨hb, xf, yf, xn, yn, xc, yc, rfl, h1, h2, h3⟩

end Go.Proofs.Ytabkbicaignicaa
