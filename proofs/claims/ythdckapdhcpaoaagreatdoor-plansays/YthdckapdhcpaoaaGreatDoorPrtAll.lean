/-
  The contracts of part.Groups and part.All.
-/
import Derived.Test.YthdckapdhcpaoaaGreatDoorPrtJoin
namespace Go.Proofs.YthdckapdhcpaoaaGreatDoor
open Go.RowKit
set_option linter.unusedVariables false

theorem FragsAt.form {w : World} {v : Value} {fs : List M.Frg} (h : FragsAt w v fs) : ∃ a c, v = .slice a fs.length c := by
  obtain ⟨cell, hs, _⟩ := h
  obtain ⟨a, c, e, _⟩ := hs.form
  exact ⟨a, c, e⟩
theorem DefsAt.form {w : World} {v : Value} {ds : List M.Dfn} (h : DefsAt w v ds) : ∃ a c, v = .slice a ds.length c := by
  obtain ⟨a, c, e, _⟩ := h.1.form
  exact ⟨a, c, e⟩

/-- parts in a slice -/
def PartsAt (w : World) (v : Value) (ps : List M.Prt) : Prop :=
  ∃ cell, SlAt w v 2 ps.length cell ∧ ∀ j, j < ps.length → FragsAt w (cell j 0) (ps.getD j M.nil).frags ∧ DefsAt w (cell j 1) (ps.getD j M.nil).defs

theorem PartsAt.later {w w' : World} {v : Value} {ps : List M.Prt} (h : PartsAt w v ps) (hb : Below w.heap.size w w') : PartsAt w' v ps :=
  let ⟨cell, h1, h2⟩ := h
  ⟨cell, h1.later hb, fun j hj => ⟨(h2 j hj).1.later hb, (h2 j hj).2.later hb⟩⟩

end Go.Proofs.YthdckapdhcpaoaaGreatDoor
