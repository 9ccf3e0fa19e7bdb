/-
  Parts and items in rows: what a reader of them finds.
-/
import Derived.Test.YtgfpcldaaelelaaArChoose
namespace Go.Proofs.Ytgfpcldaaelelaa
open Go Go.RowKit
set_option linter.unusedVariables false

def pent0 : PEnt := ⟨M.nil, .slice none 0 0, .slice none 0 0⟩
structure IEnt where
  it : M.Itm
  vP : Value
def ientCells (e : IEnt) : List Value := [.bool e.it.arch, e.vP]
def ient0 : IEnt := ⟨⟨false, []⟩, .slice none 0 0⟩

/-- a block as a slice -/
theorem blk_slice {α : Type} {w : World} {B k : Nat} {t : TypeId} {fr : Nat × Nat} (d : α) (f : α → List Value) (hf : ∀ x, (f x).length = k) (l : List α) (hl : l.length ≤ maxLen) (c : Nat) (h : w.heap[B]? = some (.cells (l.flatMap f).toArray t fr)) :
    SlAt w (.slice (some ⟨B, 0, none⟩) l.length c) k l.length (fun j i => (f (l.getD j d)).getD i undef) := by
  refine ⟨_, _, rfl, hl, .inr ⟨B, 0, rfl, fun j i hj hi => ?_⟩⟩
  rw [Nat.zero_add, cellB h, List.getElem?_toArray, flat_get k f hf l j i hi, getElem?_getD l d j hj]
  exact getElem?_getD _ _ _ (by rw [hf]; exact hi)

theorem map_getD {α β : Type} (f : α → β) (l : List α) (d : α) (e : β) (j : Nat) (h : j < l.length) : (l.map f).getD j e = f (l.getD j d) := by
  rw [List.getD_eq_getElem?_getD, List.getD_eq_getElem?_getD, List.getElem?_map, List.getElem?_eq_getElem h]; rfl

theorem parts_of {w : World} {v : Value} {es : List PEnt} (h : SlAt w v 2 es.length (fun j i => (pentCells (es.getD j pent0)).getD i undef)) (hp : ∀ e ∈ es, FragsAt w e.vF e.p.frags ∧ DefsAt w e.vD e.p.defs) : PartsAt w v (es.map (·.p)) := by
  refine ⟨_, by rw [List.length_map]; exact h, fun j hj => ?_⟩
  rw [List.length_map] at hj
  rw [map_getD (·.p) es pent0 M.nil j hj]
  exact hp _ (getD_mem es pent0 j hj)

theorem items_of {w : World} {v : Value} {es : List IEnt} (h : SlAt w v 2 es.length (fun j i => (ientCells (es.getD j ient0)).getD i undef)) (hp : ∀ e ∈ es, ∃ a c, e.vP = .slice a e.it.parts.length c ∧ PartsAt w (.slice a e.it.parts.length c) e.it.parts) : ItemsAt w v (es.map (·.it)) := by
  refine ⟨_, by rw [List.length_map]; exact h, fun j hj => ?_⟩
  rw [List.length_map] at hj
  rw [map_getD (·.it) es ient0 ⟨false, []⟩ j hj]
  obtain ⟨a, c, e, hP⟩ := hp _ (getD_mem es ient0 j hj)
  exact ⟨rfl, a, c, e, hP⟩

/-- a part of one's own, as it is read -/
theorem POwn.read {W : World} {B : Nat} {e : PEnt} (h : POwn W B e) : FragsAt W e.vF e.p.frags ∧ DefsAt W e.vD e.p.defs := by
  obtain ⟨en, h1, h2⟩ := h
  refine ⟨?_, h1.defsAt⟩
  rw [← h2]
  exact h1.fragsAt

/-- what Choose gave, as it is read -/
theorem ChOut.parts {w0 w' : World} {v : Value} {ps : List M.Prt} (h : ChOut w0 w' v ps) : PartsAt w' v ps := by
  obtain ⟨_, es, rfl, hr, hp⟩ := h
  exact parts_of (row_slice pent0 pentCells (fun _ => rfl) es hr) (fun e he => (hp e he).read)

theorem PartsAt.form {w : World} {v : Value} {ps : List M.Prt} (h : PartsAt w v ps) : ∃ a c, v = .slice a ps.length c := by
  obtain ⟨cell, h1, _⟩ := h
  obtain ⟨a, c, e, _⟩ := h1.form
  exact ⟨a, c, e⟩

end Go.Proofs.Ytgfpcldaaelelaa
