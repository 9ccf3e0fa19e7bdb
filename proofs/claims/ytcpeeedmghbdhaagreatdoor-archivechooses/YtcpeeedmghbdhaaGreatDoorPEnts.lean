/-
  Parts of one's own in a row of one's own.
-/
import Derived.Test.YtcpeeedmghbdhaaGreatDoorTopA
namespace Go.Proofs.YtcpeeedmghbdhaaGreatDoor
open Go Go.RowKit
set_option linter.unusedVariables false

/-- a part that was taken, with the two slices that it holds -/
structure PEnt where
  p : M.Prt
  vF : Value
  vD : Value
def pentCells (e : PEnt) : List Value := [e.vF, e.vD]

/-- a part of one's own -/
def POwn (W : World) (B : Nat) (e : PEnt) : Prop := ∃ ents, PR W B ents e.p.defs e.vF e.vD ∧ ents.map (·.f) = e.p.frags

theorem PR.keptR {w w' : World} {B B' n : Nat} {es : List Ent} {ds : List M.Dfn} {vF vD v : Value} {xs : List Value} (h : PR w B es ds vF vD) (hr : w.ownsRow B' 39 2 v n xs) (hg : w.grownBy w' v.ownBlock) : PR w' B es ds vF vD :=
  ⟨h.rowF.kept hg (own_apart h.rowF hr (by decide)), h.rowD.kept hg (own_apart h.rowD hr (by decide)), fun e he => (h.bytes e he).kept hg (own_apart (h.bytes e he) hr (by decide)), h.small, h.smallD, fun e he => (h.rels e he).kept hg (own_apart (h.rels e he) hr (by decide))⟩


end Go.Proofs.YtcpeeedmghbdhaaGreatDoor
