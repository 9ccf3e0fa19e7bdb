/-
  Rows of memory that a call owns: what they hold, and what stays as it was while other memory grows.
-/
import Derived.Test.YtebhbhbhcoijpabMem
import Derived.Deep.AppendLies
namespace Go.Proofs.Ytebhbhbhcoijpab
open Go Go.RowKit
set_option linter.unusedVariables false

theorem grown_of_below {w w' : World} (h : Below w.heap.size w w') (r : Option Nat) : w.grownBy w' r :=
  ⟨h.os, h.tape, h.output, h.size, fun k hk _ => h.block k hk⟩

theorem own_form {w : World} {B k n : Nat} {e : TypeId} {v : Value} {xs : List Value} (h : w.ownsRow B e k v n xs) : ∃ ad nn cc, v = .slice ad nn cc := by
  rcases h.2 with ⟨h1, _⟩ | ⟨g, cap, cur, h1, _⟩
  · exact ⟨_, _, _, h1⟩
  · exact ⟨_, _, _, h1⟩
theorem own_len {w : World} {B k n : Nat} {e : TypeId} {v : Value} {xs : List Value} (h : w.ownsRow B e k v n xs) : ∃ ad cc, v = .slice ad n cc := by
  rcases h.2 with ⟨h1, h2⟩ | ⟨g, cap, cur, h1, _⟩
  · exact ⟨none, 0, by rw [h1, h2]⟩
  · exact ⟨_, _, h1⟩

theorem cellB {w : World} {g : Nat} {cs : Array Value} {t : TypeId} {fr : Nat × Nat} (h : w.heap[g]? = some (.cells cs t fr)) (i : Nat) : w.cell? ⟨g, i, none⟩ = cs[i]? := by simp [World.cell?, h]
theorem frozenB {w : World} {g : Nat} {cs : Array Value} {t : TypeId} (h : w.heap[g]? = some (.cells cs t (0, 0))) (i : Nat) : w.frozen? ⟨g, i, none⟩ = false := by simp [World.frozen?, h]

theorem own_self {v : Value} : v.ownBlock = none ∨ v.ownBlock ≠ none := by cases v.ownBlock <;> simp

/-- a row's block is no block of another kind -/
theorem own_ne {w : World} {B k n g : Nat} {e e' : TypeId} {v : Value} {xs : List Value} {cs : Array Value} {fr : Nat × Nat} (h : w.ownsRow B e k v n xs) (hb : w.heap[g]? = some (.cells cs e' fr)) (hne : e ≠ e') : v.ownBlock = none ∨ v.ownBlock ≠ some g := by
  right
  intro hv
  rcases h.2 with ⟨h1, _⟩ | ⟨g', cap, cur, h1, _, h2, _⟩
  · rw [h1] at hv; simp [Value.ownBlock] at hv
  · rw [h1] at hv
    simp only [Value.ownBlock, Option.some.injEq] at hv
    subst hv
    rw [hb] at h2
    cases h2
    exact hne rfl

/-- two rows of different kinds are in different blocks -/
theorem own_apart {w : World} {B B' k n k' n' : Nat} {e e' : TypeId} {v v' : Value} {xs xs' : List Value} (h : w.ownsRow B e k v n xs) (h' : w.ownsRow B' e' k' v' n' xs') (hne : e ≠ e') : v.ownBlock = none ∨ v.ownBlock ≠ v'.ownBlock := by
  rcases h'.2 with ⟨h1, _⟩ | ⟨g', cap, cur, h1, _, h2, _⟩
  · rw [h1]; exact own_self
  · have := own_ne h h2 hne
    rw [h1]; exact this

theorem grown_set (w : World) (g i : Nat) (v : Value) : w.grownBy (w.setCell ⟨g, i, none⟩ v) (some g) :=
  ⟨rfl, rfl, rfl, by simp, fun k hk hne => Below.heap_setCell _ _ _ _ (fun h => hne (by rw [h]))⟩

theorem flat_get {α : Type} (k : Nat) (f : α → List Value) (hf : ∀ x, (f x).length = k) : ∀ (l : List α) (j i : Nat), i < k → (l.flatMap f)[j * k + i]? = (l[j]?).bind fun x => (f x)[i]?
  | [], j, i, _ => by simp
  | x :: l, 0, i, hi => by
    rw [List.flatMap_cons, List.getElem?_append_left (by rw [hf]; omega)]
    simp
  | x :: l, j + 1, i, hi => by
    have e : (j + 1) * k + i = k + (j * k + i) := by rw [Nat.add_mul]; omega
    rw [List.flatMap_cons, e, List.getElem?_append_right (by rw [hf]; omega), hf, Nat.add_sub_cancel_left, flat_get k f hf l j i hi]
    simp

/-- a row as a slice -/
theorem row_slice {α : Type} {w : World} {B k : Nat} {e : TypeId} {v : Value} (d : α) (f : α → List Value) (hf : ∀ x, (f x).length = k) (l : List α) (h : w.ownsRow B e k v l.length (l.flatMap f)) :
    SlAt w v k l.length (fun j i => (f (l.getD j d)).getD i undef) := by
  rcases h.2 with ⟨h1, h2⟩ | ⟨g, cap, cur, h1, hb, h2, h3, h4, h5, h6⟩
  · rw [h1, h2]; exact ⟨_, _, rfl, Nat.zero_le _, .inl rfl⟩
  · refine ⟨_, _, h1, by omega, .inr ⟨g, 0, rfl, fun j i hj hi => ?_⟩⟩
    have hown : v.ownBlock = some g := by rw [h1]; rfl
    have hc := h.cells hown (j * k + i) ((f (l.getD j d)).getD i undef) (by
      rw [flat_get k f hf l j i hi, getElem?_getD l d j hj]
      simp only [Option.bind_some]
      exact getElem?_getD _ _ _ (by rw [hf]; exact hi))
    have e : (⟨g, 0 + j * k + i, none⟩ : Addr) = (⟨g, 0, none⟩ : Addr).add (j * k + i) := by simp [Addr.add]
    rw [e]
    exact hc

theorem SlAt.congr' {w : World} {v : Value} {k n : Nat} {cell cell' : Nat → Nat → Value} (h : SlAt w v k n cell) (e : ∀ j i, j < n → i < k → cell j i = cell' j i) : SlAt w v k n cell' := by
  obtain ⟨a, c, rfl, hn, h⟩ := h
  refine ⟨a, c, rfl, hn, ?_⟩
  rcases h with h | ⟨b, off, rfl, h⟩
  · exact .inl h
  · exact .inr ⟨b, off, rfl, fun j i hj hi => by rw [h j i hj hi, e j i hj hi]⟩

theorem setB' {w : World} {g i : Nat} {cs : Array Value} {t : TypeId} {fr : Nat × Nat} (h : w.heap[g]? = some (.cells cs t fr)) (v : Value) : (w.setCell ⟨g, i, none⟩ v).heap[g]? = some (.cells (cs.setIfInBounds i v) t fr) := by
  simp [World.setCell, Array.getElem?_modify, h]

/-- one cell of a row is stored -/
theorem row_set {w : World} {B k n g i cap : Nat} {e : TypeId} {xs : List Value} {u : Value} (h : w.ownsRow B e k (.slice (some ⟨g, 0, none⟩) n cap) n xs) (hi : i < xs.length) :
    (w.setCell ⟨g, i, none⟩ u).ownsRow B e k (.slice (some ⟨g, 0, none⟩) n cap) n (xs.set i u) := by
  refine ⟨by rw [List.length_set]; exact h.1, ?_⟩
  rcases h.2 with ⟨h1, _⟩ | ⟨g', cap', cur, h1, hb, h2, h3, h4, h5, h6⟩
  · cases h1
  · cases h1
    refine .inr ⟨g, cap, cur.setIfInBounds i u, rfl, hb, setB' h2 u, h3, h4, by simp [h5], ?_⟩
    rw [Array.toList_setIfInBounds, ← h6, List.take_set]

/-- a fragment with the two slices that it holds -/
structure Ent where
  f : M.Frg
  bv : Value
  rv : Value

def entCells (e : Ent) : List Value := [.int .i64 e.f.sect, .int .i64 e.f.align, .string e.f.group, e.bv, .int .i64 e.f.size, e.rv]

def ent0 : Ent := ⟨frg0, .slice none 0 0, .slice none 0 0⟩

end Go.Proofs.Ytebhbhbhcoijpab
