/-
  Worlds in which every cell that was known is as it was: what lies there lies there still.
-/
import Derived.Test.YtgfpcldaaelelaaArMem
import Derived.Test.YtgfpcldaaelelaaPrtAll
namespace Go.Proofs.Ytgfpcldaaelelaa
open Go Go.RowKit
set_option linter.unusedVariables false

/-- each cell is as it was -/
def Kp (w w' : World) : Prop := ∀ a u, w.cell? a = some u → w'.cell? a = some u

theorem Kp.refl (w : World) : Kp w w := fun _ _ h => h
theorem Kp.trans {w w' w'' : World} (h : Kp w w') (h' : Kp w' w'') : Kp w w'' := fun a u hu => h' a u (h a u hu)
theorem Kp.below {w w' : World} (h : Below w.heap.size w w') : Kp w w' := fun a u hu => cell_later h hu

theorem cell_of_block {w w' : World} {a : Addr} (h : w'.heap[a.block]? = w.heap[a.block]?) : w'.cell? a = w.cell? a := by
  unfold World.cell?
  rw [h]

/-- a map has been turned -/
theorem Kp.map {w w' : World} {b N : Nat} {st : M.St} (h : StAt w b N st) (hg : w.grownBy w' (some b)) : Kp w w' := fun a u hu => by
  have hne : a.block ≠ b := fun e => by
    obtain ⟨n, D, h1, ⟨es, clock, hm, h3⟩, h4⟩ := h
    unfold World.cell? at hu
    rw [e, hm] at hu
    cases hu
  rw [cell_of_block (hg.block a.block (World.block_lt_of_cell? _ _ hu) (fun e => hne (by cases e; rfl)))]
  exact hu

theorem SlAt.kp {w w' : World} {v : Value} {k n : Nat} {cell : Nat → Nat → Value} (h : SlAt w v k n cell) (hk : Kp w w') : SlAt w' v k n cell := by
  obtain ⟨a, c, rfl, hn, h⟩ := h
  refine ⟨a, c, rfl, hn, ?_⟩
  rcases h with h | ⟨b, off, rfl, h⟩
  · exact .inl h
  · exact .inr ⟨b, off, rfl, fun j i hj hi => hk _ _ (h j i hj hi)⟩
theorem RelsAt.kp {w w' : World} {v : Value} {rs : List M.Rel} (h : RelsAt w v rs) (hb : Kp w w') : RelsAt w' v rs := ⟨h.1.kp hb, h.2⟩
theorem DefsAt.kp {w w' : World} {v : Value} {rs : List M.Dfn} (h : DefsAt w v rs) (hb : Kp w w') : DefsAt w' v rs := ⟨h.1.kp hb, h.2⟩
theorem BytesAt.kp {w w' : World} {v : Value} {rs : List Int} (h : BytesAt w v rs) (hb : Kp w w') : BytesAt w' v rs := ⟨h.1.kp hb, h.2⟩
theorem StrsAt.kp {w w' : World} {v : Value} {rs : List ByteArray} (h : StrsAt w v rs) (hb : Kp w w') : StrsAt w' v rs := ⟨h.1.kp hb, h.2⟩
theorem FrgAt.kp {w w' : World} {cell : Nat → Value} {f : M.Frg} (h : FrgAt w cell f) (hb : Kp w w') : FrgAt w' cell f :=
  ⟨h.sect, h.align, h.group, h.bytes.kp hb, h.size, h.rels.kp hb, h.ok⟩
theorem FragsAt.kp {w w' : World} {v : Value} {fs : List M.Frg} (h : FragsAt w v fs) (hb : Kp w w') : FragsAt w' v fs :=
  let ⟨cell, h1, h2⟩ := h
  ⟨cell, h1.kp hb, fun j hj => (h2 j hj).kp hb⟩
theorem PartsAt.kp {w w' : World} {v : Value} {ps : List M.Prt} (h : PartsAt w v ps) (hb : Kp w w') : PartsAt w' v ps :=
  let ⟨cell, h1, h2⟩ := h
  ⟨cell, h1.kp hb, fun j hj => ⟨(h2 j hj).1.kp hb, (h2 j hj).2.kp hb⟩⟩

/-- a row is no map -/
theorem row_st {w : World} {B k n b N : Nat} {e : TypeId} {v : Value} {xs : List Value} {st : M.St} (h : w.ownsRow B e k v n xs) (ho : StAt w b N st) : v.ownBlock = none ∨ v.ownBlock ≠ some b := by
  rcases h.2 with ⟨rfl, _⟩ | ⟨g, cap, cur, rfl, _, hb, _⟩
  · exact .inl rfl
  · right
    intro he
    cases he
    obtain ⟨_, _, _, ⟨es, clock, hm, _⟩, _⟩ := ho
    rw [hm] at hb
    cases hb

theorem block_st {w w' : World} {b N g : Nat} {st : M.St} {cs : Array Value} {t : TypeId} {fr : Nat × Nat} (ho : StAt w b N st) (hg : w.grownBy w' (some b)) (h : w.heap[g]? = some (.cells cs t fr)) : w'.heap[g]? = some (.cells cs t fr) := by
  rw [hg.block g (Array.getElem?_eq_some_iff.1 h).1 (fun e => ?_)]
  · exact h
  · cases e
    obtain ⟨_, _, _, ⟨es, clock, hm, _⟩, _⟩ := ho
    rw [hm] at h
    cases h

end Go.Proofs.Ytgfpcldaaelelaa
