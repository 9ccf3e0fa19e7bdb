/-
  How names stand, in memory: a map from texts to numbers. Worlds in which every cell that was known is as it was: what lies there lies there still.
-/
import Derived.Test.YtebhbhbhcoijpaaChecked
import Derived.Test.YtebhbhbhcoijpaaArModel
import Derived.Test.YtebhbhbhcoijpaaOwnRow
import Derived.Maps.OwnOps
import Derived.Maps.OwnSet
import Derived.Test.YtebhbhbhcoijpaaPrtAll

namespace Go.Proofs.Ytebhbhbhcoijpaa
open Go Go.RowKit Go.Maps
set_option linter.unusedVariables false

theorem keyS : Keyed Try.prog 9 := string_keyed Try.underlying9
theorem zeroI (w : World) : (zeroValue 3).run Try.prog w = .ok (.int .i64 0) w := by kernel_rfl

/-- the map at block b says how names stand -/
def StAt (w : World) (b N : Nat) (st : M.St) : Prop :=
  ∃ n D, n ≤ N ∧ w.ownsMap (H := Unit) Try.prog 9 (plainElem Try.prog 3) b n D ∧ IsMap D ∧ ∀ s, D.atKey (.string s) (.lit (.int .i64 0)) = .lit (.int .i64 (st s))

theorem StAt.mono {w : World} {b N N' : Nat} {st : M.St} (h : StAt w b N st) (hn : N ≤ N') : StAt w b N' st :=
  let ⟨n, D, h1, h2⟩ := h
  ⟨n, D, Nat.le_trans h1 hn, h2⟩

theorem StAt.later {w w' : World} {b N : Nat} {st : M.St} (h : StAt w b N st) (hb : Below w.heap.size w w') : StAt w' b N st := by
  obtain ⟨n, D, h1, ⟨es, clock, hm, h3⟩, h4⟩ := h
  exact ⟨n, D, h1, ⟨es, clock, (hb.block b (Array.getElem?_eq_some_iff.1 hm).1).trans hm, h3⟩, h4⟩

theorem StAt.kept {w w' : World} {b N : Nat} {st : M.St} {r : Option Nat} (h : StAt w b N st) (hb : w.grownBy w' r) (hr : r ≠ some b) : StAt w' b N st := by
  obtain ⟨n, D, h1, ⟨es, clock, hm, h3⟩, h4⟩ := h
  exact ⟨n, D, h1, ⟨es, clock, (hb.block b (Array.getElem?_eq_some_iff.1 hm).1 (fun e => hr e.symm)).trans hm, h3⟩, h4⟩

theorem StAt.lt {w : World} {b N : Nat} {st : M.St} (h : StAt w b N st) : b < w.heap.size := by
  obtain ⟨n, D, h1, ⟨es, clock, hm, h3⟩, h4⟩ := h
  exact (Array.getElem?_eq_some_iff.1 hm).1

theorem StAt.nil (w : World) : StAt (w.alloc (.map #[] 0)) w.heap.size 0 (fun _ => 0) :=
  ⟨0, .map [], Nat.le_refl _, World.ownsMap_made _ _ _ _, isMap_empty, fun s => rfl⟩

theorem StAt.look {w : World} {b N : Nat} {st : M.St} (h : StAt w b N st) (s : ByteArray) (hs : s.size ≤ maxLen) :
    (Instr.lookup 115 (.map (some b)) (.string s) false).run Try.prog w = .ok (.int .i64 (st s.data.toList)) w := by
  obtain ⟨n, D, h1, hown, _, hat⟩ := h
  obtain ⟨c, hrun, hc, _⟩ := hown.lookup_int keyS Try.underlying115 Try.underlying3 (zeroI w) (WideMaps.keyOf_string_mk Try.underlying9 hs)
  rw [hat] at hc
  have hc' : st s.data.toList = c := by
    simp only [DataW.lit.injEq, Lit.int.injEq, true_and] at hc
    exact hc
  rw [hrun, hc']

theorem StAt.put {w : World} {b N : Nat} {st : M.St} (h : StAt w b N st) (hN : N < maxLen) (s : ByteArray) (hs : s.size ≤ maxLen) (v : Int) (hv : (Lit.int .i64 v).wf = true) :
    ∃ w', (Instr.mapUpdate 115 (.map (some b)) (.string s) (.int .i64 v)).run Try.prog w = .ok () w' ∧ StAt w' b (N + 1) (st.set s v) ∧ w.grownBy w' (some b) := by
  obtain ⟨n, D, h1, hown, him, hat⟩ := h
  obtain ⟨w', hrun, ho, hg⟩ := hown.update keyS Try.underlying115 (Nat.lt_of_le_of_lt h1 hN) (WideMaps.keyOf_string_mk Try.underlying9 hs) (plainElem_int Try.underlying3 hv)
  refine ⟨w', hrun, ⟨n + 1, _, by omega, ho, him.put _ _, fun t => ?_⟩, hg⟩
  by_cases e : t = s.data.toList
  · subst e
    rw [atKey_put_same him (by trivial)]
    simp [M.St.set]
  · rw [atKey_put_other (fun e' => e (by injection e')), hat]
    simp [M.St.set, e]

end Go.Proofs.Ytebhbhbhcoijpaa

namespace Go.Proofs.Ytebhbhbhcoijpaa
open Go Go.RowKit
set_option linter.unusedVariables false

/-- each cell is as it was -/
def Kp (w w' : World) : Prop := ∀ a u, w.cell? a = some u → w'.cell? a = some u

theorem Kp.refl (w : World) : Kp w w := fun _ _ h => h
theorem Kp.trans {w w' w'' : World} (h : Kp w w') (h' : Kp w' w'') : Kp w w'' := fun a u hu => h' a u (h a u hu)
theorem Kp.below {w w' : World} (h : Below w.heap.size w w') : Kp w w' := fun a u hu => cell_later h hu

theorem cell_of_block {w w' : World} {a : Addr} (h : w'.heap[a.block]? = w.heap[a.block]?) : w'.cell? a = w.cell? a := by
  unfold World.cell?
  rw [h]

/-- a map has been turned -/
theorem Kp.map {w w' : World} {b N : Nat} {st : M.St} (h : StAt w b N st) (hg : w.grownBy w' (some b)) : Kp w w' := fun a u hu => by
  have hne : a.block ≠ b := fun e => by
    obtain ⟨n, D, h1, ⟨es, clock, hm, h3⟩, h4⟩ := h
    unfold World.cell? at hu
    rw [e, hm] at hu
    cases hu
  rw [cell_of_block (hg.block a.block (World.block_lt_of_cell? _ _ hu) (fun e => hne (by cases e; rfl)))]
  exact hu

theorem SlAt.kp {w w' : World} {v : Value} {k n : Nat} {cell : Nat → Nat → Value} (h : SlAt w v k n cell) (hk : Kp w w') : SlAt w' v k n cell := by
  obtain ⟨a, c, rfl, hn, h⟩ := h
  refine ⟨a, c, rfl, hn, ?_⟩
  rcases h with h | ⟨b, off, rfl, h⟩
  · exact .inl h
  · exact .inr ⟨b, off, rfl, fun j i hj hi => hk _ _ (h j i hj hi)⟩
theorem RelsAt.kp {w w' : World} {v : Value} {rs : List M.Rel} (h : RelsAt w v rs) (hb : Kp w w') : RelsAt w' v rs := ⟨h.1.kp hb, h.2⟩
theorem DefsAt.kp {w w' : World} {v : Value} {rs : List M.Dfn} (h : DefsAt w v rs) (hb : Kp w w') : DefsAt w' v rs := ⟨h.1.kp hb, h.2⟩
theorem BytesAt.kp {w w' : World} {v : Value} {rs : List Int} (h : BytesAt w v rs) (hb : Kp w w') : BytesAt w' v rs := ⟨h.1.kp hb, h.2⟩
theorem StrsAt.kp {w w' : World} {v : Value} {rs : List ByteArray} (h : StrsAt w v rs) (hb : Kp w w') : StrsAt w' v rs := ⟨h.1.kp hb, h.2⟩
theorem FrgAt.kp {w w' : World} {cell : Nat → Value} {f : M.Frg} (h : FrgAt w cell f) (hb : Kp w w') : FrgAt w' cell f :=
  ⟨h.sect, h.align, h.group, h.bytes.kp hb, h.size, h.rels.kp hb, h.ok⟩
theorem FragsAt.kp {w w' : World} {v : Value} {fs : List M.Frg} (h : FragsAt w v fs) (hb : Kp w w') : FragsAt w' v fs :=
  let ⟨cell, h1, h2⟩ := h
  ⟨cell, h1.kp hb, fun j hj => (h2 j hj).kp hb⟩
theorem PartsAt.kp {w w' : World} {v : Value} {ps : List M.Prt} (h : PartsAt w v ps) (hb : Kp w w') : PartsAt w' v ps :=
  let ⟨cell, h1, h2⟩ := h
  ⟨cell, h1.kp hb, fun j hj => ⟨(h2 j hj).1.kp hb, (h2 j hj).2.kp hb⟩⟩

/-- a row is no map -/
theorem row_st {w : World} {B k n b N : Nat} {e : TypeId} {v : Value} {xs : List Value} {st : M.St} (h : w.ownsRow B e k v n xs) (ho : StAt w b N st) : v.ownBlock = none ∨ v.ownBlock ≠ some b := by
  rcases h.2 with ⟨rfl, _⟩ | ⟨g, cap, cur, rfl, _, hb, _⟩
  · exact .inl rfl
  · right
    intro he
    cases he
    obtain ⟨_, _, _, ⟨es, clock, hm, _⟩, _⟩ := ho
    rw [hm] at hb
    cases hb

theorem block_st {w w' : World} {b N g : Nat} {st : M.St} {cs : Array Value} {t : TypeId} {fr : Nat × Nat} (ho : StAt w b N st) (hg : w.grownBy w' (some b)) (h : w.heap[g]? = some (.cells cs t fr)) : w'.heap[g]? = some (.cells cs t fr) := by
  rw [hg.block g (Array.getElem?_eq_some_iff.1 h).1 (fun e => ?_)]
  · exact h
  · cases e
    obtain ⟨_, _, _, ⟨es, clock, hm, _⟩, _⟩ := ho
    rw [hm] at h
    cases h

end Go.Proofs.Ytebhbhbhcoijpaa
