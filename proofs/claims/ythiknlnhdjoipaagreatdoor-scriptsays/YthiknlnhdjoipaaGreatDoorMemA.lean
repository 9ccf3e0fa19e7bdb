/-
  Where parts lie in memory: a slice's cells, a fragment's, a part's; and that what lies there lies there still in a world that has grown. Rows of memory that a call owns: what they hold, and what stays as it was while other memory grows. The contracts of the small functions: within, alignment, nameByte, Wide.
-/
import Derived.Test.YthiknlnhdjoipaaGreatDoorScMA
import Derived.WalkKit
import Derived.WalkSpells
import Derived.Below
import Derived.Deep.AppendLies
import Derived.Test.YthiknlnhdjoipaaGreatDoorChecked

namespace Go.Proofs.YthiknlnhdjoipaaGreatDoor
open Go.RowKit

/-- a slice of n elements of k cells each -/
def SlAt (w : World) (v : Value) (k n : Nat) (cell : Nat → Nat → Value) : Prop :=
  ∃ a c, v = .slice a n c ∧ n ≤ maxLen ∧ (n = 0 ∨ ∃ b off, a = some ⟨b, off, none⟩ ∧ ∀ j i, j < n → i < k → w.cell? ⟨b, off + j * k + i, none⟩ = some (cell j i))

theorem SlAt.later {w w' : World} {v : Value} {k n : Nat} {cell : Nat → Nat → Value} (h : SlAt w v k n cell) (hb : Below w.heap.size w w') : SlAt w' v k n cell := by
  obtain ⟨a, c, rfl, hn, h⟩ := h
  refine ⟨a, c, rfl, hn, ?_⟩
  rcases h with h | ⟨b, off, rfl, h⟩
  · exact .inl h
  · exact .inr ⟨b, off, rfl, fun j i hj hi => cell_later hb (h j i hj hi)⟩

def rel0 : M.Rel := ⟨0, 0, ⟨#[]⟩, 0, 0⟩
def dfn0 : M.Dfn := ⟨⟨#[]⟩, 0, 0, 0, 0, 0⟩
def frg0 : M.Frg := ⟨0, 0, ⟨#[]⟩, [], 0, []⟩

def relCell (r : M.Rel) : Nat → Value
  | 0 => .int .i64 r.pos
  | 1 => .int .i64 r.kind
  | 2 => .string r.name
  | 3 => .int .i64 r.frag
  | _ => .int .i64 r.add

def dfnCell (d : M.Dfn) : Nat → Value
  | 0 => .string d.name
  | 1 => .int .i64 d.kind
  | 2 => .int .i64 d.frag
  | 3 => .int .i64 d.pos
  | 4 => .int .i64 d.size
  | _ => .int .i64 d.align

def RelsAt (w : World) (v : Value) (rs : List M.Rel) : Prop :=
  SlAt w v 5 rs.length (fun j i => relCell (rs.getD j rel0) i) ∧ ∀ r ∈ rs, r.name.size ≤ maxLen ∧ (Lit.int .i64 r.kind).wf = true

def DefsAt (w : World) (v : Value) (ds : List M.Dfn) : Prop :=
  SlAt w v 6 ds.length (fun j i => dfnCell (ds.getD j dfn0) i) ∧ ∀ d ∈ ds, d.name.size ≤ maxLen

def BytesAt (w : World) (v : Value) (bs : List Int) : Prop :=
  SlAt w v 1 bs.length (fun j _ => .int .u8 (bs.getD j 0)) ∧ ∀ b ∈ bs, 0 ≤ b ∧ b < 256

structure FrgAt (w : World) (cell : Nat → Value) (f : M.Frg) : Prop where
  sect : cell 0 = .int .i64 f.sect
  align : cell 1 = .int .i64 f.align
  group : cell 2 = .string f.group
  bytes : BytesAt w (cell 3) f.bytes
  size : cell 4 = .int .i64 f.size
  rels : RelsAt w (cell 5) f.rels
  ok : f.group.size ≤ maxLen

def FragsAt (w : World) (v : Value) (fs : List M.Frg) : Prop :=
  ∃ cell, SlAt w v 6 fs.length cell ∧ ∀ j, j < fs.length → FrgAt w (cell j) (fs.getD j frg0)

def PrtAt (w : World) (v : Value) (p : M.Prt) : Prop :=
  ∃ v1 v2, v = .agg #[v1, v2] ∧ FragsAt w v1 p.frags ∧ DefsAt w v2 p.defs

theorem RelsAt.later {w w' : World} {v : Value} {rs : List M.Rel} (h : RelsAt w v rs) (hb : Below w.heap.size w w') : RelsAt w' v rs := ⟨h.1.later hb, h.2⟩
theorem DefsAt.later {w w' : World} {v : Value} {rs : List M.Dfn} (h : DefsAt w v rs) (hb : Below w.heap.size w w') : DefsAt w' v rs := ⟨h.1.later hb, h.2⟩
theorem BytesAt.later {w w' : World} {v : Value} {rs : List Int} (h : BytesAt w v rs) (hb : Below w.heap.size w w') : BytesAt w' v rs := ⟨h.1.later hb, h.2⟩
theorem FrgAt.later {w w' : World} {cell : Nat → Value} {f : M.Frg} (h : FrgAt w cell f) (hb : Below w.heap.size w w') : FrgAt w' cell f :=
  ⟨h.sect, h.align, h.group, h.bytes.later hb, h.size, h.rels.later hb, h.ok⟩
theorem FragsAt.later {w w' : World} {v : Value} {fs : List M.Frg} (h : FragsAt w v fs) (hb : Below w.heap.size w w') : FragsAt w' v fs :=
  let ⟨cell, h1, h2⟩ := h
  ⟨cell, h1.later hb, fun j hj => (h2 j hj).later hb⟩
theorem PrtAt.later {w w' : World} {v : Value} {p : M.Prt} (h : PrtAt w v p) (hb : Below w.heap.size w w') : PrtAt w' v p :=
  let ⟨v1, v2, e, h1, h2⟩ := h
  ⟨v1, v2, e, h1.later hb, h2.later hb⟩

theorem SlAt.form {w : World} {v : Value} {k n : Nat} {cell : Nat → Nat → Value} (h : SlAt w v k n cell) : ∃ a c, v = .slice a n c ∧ n ≤ maxLen :=
  let ⟨a, c, e, hn, _⟩ := h
  ⟨a, c, e, hn⟩

theorem SlAt.at {w : World} {a : Option Addr} {c k n : Nat} {cell : Nat → Nat → Value} (h : SlAt w (.slice a n c) k n cell) (j : Nat) (hj : j < n) :
    ∃ b off, a = some ⟨b, off, none⟩ ∧ ∀ i, i < k → w.cell? ⟨b, off + j * k + i, none⟩ = some (cell j i) := by
  obtain ⟨a', c', e, hn, h⟩ := h
  cases e
  rcases h with h | ⟨b, off, rfl, h⟩
  · omega
  · exact ⟨b, off, rfl, fun i hi => h j i hj hi⟩

theorem getD_mem {α : Type} (l : List α) (d : α) (j : Nat) (h : j < l.length) : l.getD j d ∈ l := by
  rw [List.getD_eq_getElem?_getD, List.getElem?_eq_getElem h]; exact List.getElem_mem h

theorem drop_getD {α : Type} (l : List α) (d : α) (j : Nat) (h : j < l.length) : l.drop j = l.getD j d :: l.drop (j + 1) := by
  rw [List.getD_eq_getElem?_getD, List.getElem?_eq_getElem h]; exact List.drop_eq_getElem_cons h

theorem getElem?_getD {α : Type} (l : List α) (d : α) (j : Nat) (h : j < l.length) : l[j]? = some (l.getD j d) := by
  rw [List.getD_eq_getElem?_getD, List.getElem?_eq_getElem h]; rfl

end Go.Proofs.YthiknlnhdjoipaaGreatDoor

namespace Go.Proofs.YthiknlnhdjoipaaGreatDoor
open Go Go.RowKit
set_option linter.unusedVariables false

theorem grown_of_below {w w' : World} (h : Below w.heap.size w w') (r : Option Nat) : w.grownBy w' r :=
  ⟨h.os, h.tape, h.output, h.size, fun k hk _ => h.block k hk⟩

theorem own_form {w : World} {B k n : Nat} {e : TypeId} {v : Value} {xs : List Value} (h : w.ownsRow B e k v n xs) : ∃ ad nn cc, v = .slice ad nn cc := by
  rcases h.2 with ⟨h1, _⟩ | ⟨g, cap, cur, h1, _⟩
  · exact ⟨_, _, _, h1⟩
  · exact ⟨_, _, _, h1⟩
theorem own_len {w : World} {B k n : Nat} {e : TypeId} {v : Value} {xs : List Value} (h : w.ownsRow B e k v n xs) : ∃ ad cc, v = .slice ad n cc := by
  rcases h.2 with ⟨h1, h2⟩ | ⟨g, cap, cur, h1, _⟩
  · exact ⟨none, 0, by rw [h1, h2]⟩
  · exact ⟨_, _, h1⟩

theorem cellB {w : World} {g : Nat} {cs : Array Value} {t : TypeId} {fr : Nat × Nat} (h : w.heap[g]? = some (.cells cs t fr)) (i : Nat) : w.cell? ⟨g, i, none⟩ = cs[i]? := by simp [World.cell?, h]
theorem frozenB {w : World} {g : Nat} {cs : Array Value} {t : TypeId} (h : w.heap[g]? = some (.cells cs t (0, 0))) (i : Nat) : w.frozen? ⟨g, i, none⟩ = false := by simp [World.frozen?, h]

theorem own_self {v : Value} : v.ownBlock = none ∨ v.ownBlock ≠ none := by cases v.ownBlock <;> simp

/-- a row's block is no block of another kind -/
theorem own_ne {w : World} {B k n g : Nat} {e e' : TypeId} {v : Value} {xs : List Value} {cs : Array Value} {fr : Nat × Nat} (h : w.ownsRow B e k v n xs) (hb : w.heap[g]? = some (.cells cs e' fr)) (hne : e ≠ e') : v.ownBlock = none ∨ v.ownBlock ≠ some g := by
  right
  intro hv
  rcases h.2 with ⟨h1, _⟩ | ⟨g', cap, cur, h1, _, h2, _⟩
  · rw [h1] at hv; simp [Value.ownBlock] at hv
  · rw [h1] at hv
    simp only [Value.ownBlock, Option.some.injEq] at hv
    subst hv
    rw [hb] at h2
    cases h2
    exact hne rfl

/-- two rows of different kinds are in different blocks -/
theorem own_apart {w : World} {B B' k n k' n' : Nat} {e e' : TypeId} {v v' : Value} {xs xs' : List Value} (h : w.ownsRow B e k v n xs) (h' : w.ownsRow B' e' k' v' n' xs') (hne : e ≠ e') : v.ownBlock = none ∨ v.ownBlock ≠ v'.ownBlock := by
  rcases h'.2 with ⟨h1, _⟩ | ⟨g', cap, cur, h1, _, h2, _⟩
  · rw [h1]; exact own_self
  · have := own_ne h h2 hne
    rw [h1]; exact this

theorem grown_set (w : World) (g i : Nat) (v : Value) : w.grownBy (w.setCell ⟨g, i, none⟩ v) (some g) :=
  ⟨rfl, rfl, rfl, by simp, fun k hk hne => Below.heap_setCell _ _ _ _ (fun h => hne (by rw [h]))⟩

theorem flat_get {α : Type} (k : Nat) (f : α → List Value) (hf : ∀ x, (f x).length = k) : ∀ (l : List α) (j i : Nat), i < k → (l.flatMap f)[j * k + i]? = (l[j]?).bind fun x => (f x)[i]?
  | [], j, i, _ => by simp
  | x :: l, 0, i, hi => by
    rw [List.flatMap_cons, List.getElem?_append_left (by rw [hf]; omega)]
    simp
  | x :: l, j + 1, i, hi => by
    have e : (j + 1) * k + i = k + (j * k + i) := by rw [Nat.add_mul]; omega
    rw [List.flatMap_cons, e, List.getElem?_append_right (by rw [hf]; omega), hf, Nat.add_sub_cancel_left, flat_get k f hf l j i hi]
    simp

/-- a row as a slice -/
theorem row_slice {α : Type} {w : World} {B k : Nat} {e : TypeId} {v : Value} (d : α) (f : α → List Value) (hf : ∀ x, (f x).length = k) (l : List α) (h : w.ownsRow B e k v l.length (l.flatMap f)) :
    SlAt w v k l.length (fun j i => (f (l.getD j d)).getD i undef) := by
  rcases h.2 with ⟨h1, h2⟩ | ⟨g, cap, cur, h1, hb, h2, h3, h4, h5, h6⟩
  · rw [h1, h2]; exact ⟨_, _, rfl, Nat.zero_le _, .inl rfl⟩
  · refine ⟨_, _, h1, by omega, .inr ⟨g, 0, rfl, fun j i hj hi => ?_⟩⟩
    have hown : v.ownBlock = some g := by rw [h1]; rfl
    have hc := h.cells hown (j * k + i) ((f (l.getD j d)).getD i undef) (by
      rw [flat_get k f hf l j i hi, getElem?_getD l d j hj]
      simp only [Option.bind_some]
      exact getElem?_getD _ _ _ (by rw [hf]; exact hi))
    have e : (⟨g, 0 + j * k + i, none⟩ : Addr) = (⟨g, 0, none⟩ : Addr).add (j * k + i) := by simp [Addr.add]
    rw [e]
    exact hc

theorem SlAt.congr' {w : World} {v : Value} {k n : Nat} {cell cell' : Nat → Nat → Value} (h : SlAt w v k n cell) (e : ∀ j i, j < n → i < k → cell j i = cell' j i) : SlAt w v k n cell' := by
  obtain ⟨a, c, rfl, hn, h⟩ := h
  refine ⟨a, c, rfl, hn, ?_⟩
  rcases h with h | ⟨b, off, rfl, h⟩
  · exact .inl h
  · exact .inr ⟨b, off, rfl, fun j i hj hi => by rw [h j i hj hi, e j i hj hi]⟩

theorem setB' {w : World} {g i : Nat} {cs : Array Value} {t : TypeId} {fr : Nat × Nat} (h : w.heap[g]? = some (.cells cs t fr)) (v : Value) : (w.setCell ⟨g, i, none⟩ v).heap[g]? = some (.cells (cs.setIfInBounds i v) t fr) := by
  simp [World.setCell, Array.getElem?_modify, h]

/-- one cell of a row is stored -/
theorem row_set {w : World} {B k n g i cap : Nat} {e : TypeId} {xs : List Value} {u : Value} (h : w.ownsRow B e k (.slice (some ⟨g, 0, none⟩) n cap) n xs) (hi : i < xs.length) :
    (w.setCell ⟨g, i, none⟩ u).ownsRow B e k (.slice (some ⟨g, 0, none⟩) n cap) n (xs.set i u) := by
  refine ⟨by rw [List.length_set]; exact h.1, ?_⟩
  rcases h.2 with ⟨h1, _⟩ | ⟨g', cap', cur, h1, hb, h2, h3, h4, h5, h6⟩
  · cases h1
  · cases h1
    refine .inr ⟨g, cap, cur.setIfInBounds i u, rfl, hb, setB' h2 u, h3, h4, by simp [h5], ?_⟩
    rw [Array.toList_setIfInBounds, ← h6, List.take_set]

/-- a fragment with the two slices that it holds -/
structure Ent where
  f : M.Frg
  bv : Value
  rv : Value

def entCells (e : Ent) : List Value := [.int .i64 e.f.sect, .int .i64 e.f.align, .string e.f.group, e.bv, .int .i64 e.f.size, e.rv]

def ent0 : Ent := ⟨frg0, .slice none 0 0, .slice none 0 0⟩

end Go.Proofs.YthiknlnhdjoipaaGreatDoor

namespace Go.Proofs.YthiknlnhdjoipaaGreatDoor
open Go.RowKit

theorem ret_int {k : IntKind} {a b : Int} (h : a = b) : Ending.returned (.int k a) = .returned (.int k b) := by rw [h]
theorem ret_bool {a b : Bool} (h : a = b) : Ending.returned (.bool a) = .returned (.bool b) := by rw [h]

theorem within_any (n a b : Int) (w : World) :
    Calls Tryz.prog 67 #[.int .i64 n, .int .i64 a, .int .i64 b] w fun e w' => e = .returned (.bool (M.within n a b)) ∧ w' = w := by
  by_cases h1 : a ≤ n <;> by_cases h2 : n ≤ b
  all_goals
    go_enter Tryz.func67, Tryz.ntmps67
    go_wp2
    go_ret
    exact ⟨ret_bool (by simp [M.within, h1, h2]), rfl⟩

theorem alignment_any (n : Int) (w : World) :
    Calls Tryz.prog 68 #[.int .i64 n] w fun e w' => e = .returned (.bool (M.isAlign n)) ∧ w' = w := by
  by_cases h1 : n = 1
  · subst h1
    go_enter Tryz.func68, Tryz.ntmps68
    go_wp2
    go_ret
    exact ⟨rfl, rfl⟩
  by_cases h2 : n = 2
  · subst h2
    go_enter Tryz.func68, Tryz.ntmps68
    go_wp2
    go_ret
    exact ⟨rfl, rfl⟩
  by_cases h4 : n = 4
  · subst h4
    go_enter Tryz.func68, Tryz.ntmps68
    go_wp2
    go_ret
    exact ⟨rfl, rfl⟩
  have b1 : (n == 1) = false := by simp [h1]
  have b2 : (n == 2) = false := by simp [h2]
  have b4 : (n == 4) = false := by simp [h4]
  have hx : M.isAlign n = (n == 8) := by simp [M.isAlign, b1, b2, b4]
  have HX : Hid (M.isAlign n = (n == 8)) := hx
  clear hx h1 h2 h4
  go_enter Tryz.func68, Tryz.ntmps68
  go_wp2
  go_ret
  exact ⟨ret_bool HX.out.symm, rfl⟩

theorem wide_any (n : Int) (w : World) :
    Calls Tryz.prog 100 #[.int .i64 n] w fun e w' => e = .returned (.int .i64 (M.wide n)) ∧ w' = w := by
  by_cases h1 : n = 1
  · subst h1
    go_enter Tryz.func100, Tryz.ntmps100
    go_wp2
    go_ret
    exact ⟨rfl, rfl⟩
  by_cases h2 : n = 2
  · subst h2
    go_enter Tryz.func100, Tryz.ntmps100
    go_wp2
    go_ret
    exact ⟨rfl, rfl⟩
  by_cases h3 : n = 3
  · subst h3
    go_enter Tryz.func100, Tryz.ntmps100
    go_wp2
    go_ret
    exact ⟨rfl, rfl⟩
  by_cases h4 : n = 4
  · subst h4
    go_enter Tryz.func100, Tryz.ntmps100
    go_wp2
    go_ret
    exact ⟨rfl, rfl⟩
  have b1 : (n == 1) = false := by simp [h1]
  have b2 : (n == 2) = false := by simp [h2]
  have b3 : (n == 3) = false := by simp [h3]
  have b4 : (n == 4) = false := by simp [h4]
  have HX : Hid (M.wide n = 0) := by simp [Hid, M.wide, h1, h2, h3, h4]
  clear h1 h2 h3 h4
  go_enter Tryz.func100, Tryz.ntmps100
  go_wp2
  go_ret
  exact ⟨ret_int HX.out.symm, rfl⟩

theorem nameByte_any (c : Int) (w : World) :
    Calls Tryz.prog 98 #[.int .u8 c] w fun e w' => e = .returned (.bool (M.nameByte c)) ∧ w' = w := by
  by_cases h1 : 97 ≤ c <;> by_cases h2 : c ≤ 122 <;> by_cases h3 : 48 ≤ c <;> by_cases h4 : c ≤ 57
  all_goals
    first
    | omega
    | (have HX : Hid (M.nameByte c = true) := by simp [Hid, M.nameByte, h1, h2, h3, h4]
       go_enter Tryz.func98, Tryz.ntmps98
       go_wp2
       go_ret
       exact ⟨ret_bool HX.out.symm, rfl⟩)
    | (have HX : Hid (M.nameByte c = (c == 95)) := by simp [Hid, M.nameByte, h1, h2, h3, h4]
       go_enter Tryz.func98, Tryz.ntmps98
       go_wp2
       go_ret
       exact ⟨ret_bool HX.out.symm, rfl⟩)

end Go.Proofs.YthiknlnhdjoipaaGreatDoor
