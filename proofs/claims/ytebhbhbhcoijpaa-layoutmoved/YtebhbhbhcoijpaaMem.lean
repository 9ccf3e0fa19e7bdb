/-
  Where parts lie in memory: a slice's cells, a fragment's, a part's; and that what lies there lies there still in a world that has grown.
-/
import Derived.Test.YtebhbhbhcoijpaaModel
import Derived.WalkKit
import Derived.WalkSpells
import Derived.Below
namespace Go.Proofs.Ytebhbhbhcoijpaa
open Go.RowKit

/-- a slice of n elements of k cells each -/
def SlAt (w : World) (v : Value) (k n : Nat) (cell : Nat → Nat → Value) : Prop :=
  ∃ a c, v = .slice a n c ∧ n ≤ maxLen ∧ (n = 0 ∨ ∃ b off, a = some ⟨b, off, none⟩ ∧ ∀ j i, j < n → i < k → w.cell? ⟨b, off + j * k + i, none⟩ = some (cell j i))

theorem SlAt.later {w w' : World} {v : Value} {k n : Nat} {cell : Nat → Nat → Value} (h : SlAt w v k n cell) (hb : Below w.heap.size w w') : SlAt w' v k n cell := by
  obtain ⟨a, c, rfl, hn, h⟩ := h
  refine ⟨a, c, rfl, hn, ?_⟩
  rcases h with h | ⟨b, off, rfl, h⟩
  · exact .inl h
  · exact .inr ⟨b, off, rfl, fun j i hj hi => cell_later hb (h j i hj hi)⟩

def rel0 : M.Rel := ⟨0, 0, ⟨#[]⟩, 0, 0⟩
def dfn0 : M.Dfn := ⟨⟨#[]⟩, 0, 0, 0, 0, 0⟩
def frg0 : M.Frg := ⟨0, 0, ⟨#[]⟩, [], 0, []⟩

def relCell (r : M.Rel) : Nat → Value
  | 0 => .int .i64 r.pos
  | 1 => .int .i64 r.kind
  | 2 => .string r.name
  | 3 => .int .i64 r.frag
  | _ => .int .i64 r.add

def dfnCell (d : M.Dfn) : Nat → Value
  | 0 => .string d.name
  | 1 => .int .i64 d.kind
  | 2 => .int .i64 d.frag
  | 3 => .int .i64 d.pos
  | 4 => .int .i64 d.size
  | _ => .int .i64 d.align

def RelsAt (w : World) (v : Value) (rs : List M.Rel) : Prop :=
  SlAt w v 5 rs.length (fun j i => relCell (rs.getD j rel0) i) ∧ ∀ r ∈ rs, r.name.size ≤ maxLen ∧ (Lit.int .i64 r.kind).wf = true

def DefsAt (w : World) (v : Value) (ds : List M.Dfn) : Prop :=
  SlAt w v 6 ds.length (fun j i => dfnCell (ds.getD j dfn0) i) ∧ ∀ d ∈ ds, d.name.size ≤ maxLen

def BytesAt (w : World) (v : Value) (bs : List Int) : Prop :=
  SlAt w v 1 bs.length (fun j _ => .int .u8 (bs.getD j 0)) ∧ ∀ b ∈ bs, 0 ≤ b ∧ b < 256

structure FrgAt (w : World) (cell : Nat → Value) (f : M.Frg) : Prop where
  sect : cell 0 = .int .i64 f.sect
  align : cell 1 = .int .i64 f.align
  group : cell 2 = .string f.group
  bytes : BytesAt w (cell 3) f.bytes
  size : cell 4 = .int .i64 f.size
  rels : RelsAt w (cell 5) f.rels
  ok : f.group.size ≤ maxLen

def FragsAt (w : World) (v : Value) (fs : List M.Frg) : Prop :=
  ∃ cell, SlAt w v 6 fs.length cell ∧ ∀ j, j < fs.length → FrgAt w (cell j) (fs.getD j frg0)

def PrtAt (w : World) (v : Value) (p : M.Prt) : Prop :=
  ∃ v1 v2, v = .agg #[v1, v2] ∧ FragsAt w v1 p.frags ∧ DefsAt w v2 p.defs

theorem RelsAt.later {w w' : World} {v : Value} {rs : List M.Rel} (h : RelsAt w v rs) (hb : Below w.heap.size w w') : RelsAt w' v rs := ⟨h.1.later hb, h.2⟩
theorem DefsAt.later {w w' : World} {v : Value} {rs : List M.Dfn} (h : DefsAt w v rs) (hb : Below w.heap.size w w') : DefsAt w' v rs := ⟨h.1.later hb, h.2⟩
theorem BytesAt.later {w w' : World} {v : Value} {rs : List Int} (h : BytesAt w v rs) (hb : Below w.heap.size w w') : BytesAt w' v rs := ⟨h.1.later hb, h.2⟩
theorem FrgAt.later {w w' : World} {cell : Nat → Value} {f : M.Frg} (h : FrgAt w cell f) (hb : Below w.heap.size w w') : FrgAt w' cell f :=
  ⟨h.sect, h.align, h.group, h.bytes.later hb, h.size, h.rels.later hb, h.ok⟩
theorem FragsAt.later {w w' : World} {v : Value} {fs : List M.Frg} (h : FragsAt w v fs) (hb : Below w.heap.size w w') : FragsAt w' v fs :=
  let ⟨cell, h1, h2⟩ := h
  ⟨cell, h1.later hb, fun j hj => (h2 j hj).later hb⟩
theorem PrtAt.later {w w' : World} {v : Value} {p : M.Prt} (h : PrtAt w v p) (hb : Below w.heap.size w w') : PrtAt w' v p :=
  let ⟨v1, v2, e, h1, h2⟩ := h
  ⟨v1, v2, e, h1.later hb, h2.later hb⟩

theorem SlAt.form {w : World} {v : Value} {k n : Nat} {cell : Nat → Nat → Value} (h : SlAt w v k n cell) : ∃ a c, v = .slice a n c ∧ n ≤ maxLen :=
  let ⟨a, c, e, hn, _⟩ := h
  ⟨a, c, e, hn⟩

theorem SlAt.at {w : World} {a : Option Addr} {c k n : Nat} {cell : Nat → Nat → Value} (h : SlAt w (.slice a n c) k n cell) (j : Nat) (hj : j < n) :
    ∃ b off, a = some ⟨b, off, none⟩ ∧ ∀ i, i < k → w.cell? ⟨b, off + j * k + i, none⟩ = some (cell j i) := by
  obtain ⟨a', c', e, hn, h⟩ := h
  cases e
  rcases h with h | ⟨b, off, rfl, h⟩
  · omega
  · exact ⟨b, off, rfl, fun i hi => h j i hj hi⟩

theorem getD_mem {α : Type} (l : List α) (d : α) (j : Nat) (h : j < l.length) : l.getD j d ∈ l := by
  rw [List.getD_eq_getElem?_getD, List.getElem?_eq_getElem h]; exact List.getElem_mem h

theorem drop_getD {α : Type} (l : List α) (d : α) (j : Nat) (h : j < l.length) : l.drop j = l.getD j d :: l.drop (j + 1) := by
  rw [List.getD_eq_getElem?_getD, List.getElem?_eq_getElem h]; exact List.drop_eq_getElem_cons h

theorem getElem?_getD {α : Type} (l : List α) (d : α) (j : Nat) (h : j < l.length) : l[j]? = some (l.getD j d) := by
  rw [List.getD_eq_getElem?_getD, List.getElem?_eq_getElem h]; rfl

end Go.Proofs.Ytebhbhbhcoijpaa
