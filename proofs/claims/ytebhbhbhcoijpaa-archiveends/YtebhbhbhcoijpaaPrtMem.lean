/-
  A part in memory of its own: its rows; what it holds; how it grows by a fragment, by a definition, by another part.
-/
import Derived.Test.YtebhbhbhcoijpaaPrtFrag
namespace Go.Proofs.Ytebhbhbhcoijpaa
open Go Go.RowKit
set_option linter.unusedVariables false

structure PR (w : World) (B : Nat) (es : List Ent) (ds : List M.Dfn) (vF vD : Value) : Prop where
  rowF : w.ownsRow B 43 6 vF es.length (es.flatMap entCells)
  rowD : w.ownsRow B 69 6 vD ds.length (ds.flatMap encDfn)
  bytes : ∀ e ∈ es, w.ownsRow B 5 1 e.bv e.f.bytes.length (e.f.bytes.map (Value.int .u8))
  small : ∀ e ∈ es, (∀ b ∈ e.f.bytes, 0 ≤ b ∧ b < 256) ∧ e.f.group.size ≤ maxLen ∧ ∀ r ∈ e.f.rels, r.name.size ≤ maxLen ∧ (Lit.int .i64 r.kind).wf = true
  smallD : ∀ d ∈ ds, d.name.size ≤ maxLen
  rels : ∀ e ∈ es, w.ownsRow B 121 5 e.rv e.f.rels.length (e.f.rels.flatMap encRel)

theorem row_base {w : World} {B B' k n : Nat} {e : TypeId} {v : Value} {xs : List Value} (h : w.ownsRow B e k v n xs) (hB : B' ≤ B) : w.ownsRow B' e k v n xs := by
  refine ⟨h.1, ?_⟩
  rcases h.2 with h1 | ⟨g, cap, cur, h1, hb, h2⟩
  · exact .inl h1
  · exact .inr ⟨g, cap, cur, h1, Nat.le_trans hB hb, h2⟩

theorem PR.base {w : World} {B B' : Nat} {es : List Ent} {ds : List M.Dfn} {vF vD : Value} (h : PR w B es ds vF vD) (hB : B' ≤ B) : PR w B' es ds vF vD :=
  ⟨row_base h.rowF hB, row_base h.rowD hB, fun e he => row_base (h.bytes e he) hB, h.small, h.smallD, fun e he => row_base (h.rels e he) hB⟩

theorem PR.later {w w' : World} {B : Nat} {es : List Ent} {ds : List M.Dfn} {vF vD : Value} (h : PR w B es ds vF vD) (hb : Below w.heap.size w w') : PR w' B es ds vF vD := by
  have hg := grown_of_below hb Option.none
  exact ⟨h.rowF.kept hg own_self, h.rowD.kept hg own_self, fun e he => (h.bytes e he).kept hg own_self, h.small, h.smallD, fun e he => (h.rels e he).kept hg own_self⟩

/-- a cell of a block that is of no row's kind is stored -/
theorem PR.set {w : World} {B b i : Nat} {es : List Ent} {ds : List M.Dfn} {vF vD u : Value} {cs : Array Value} (h : PR w B es ds vF vD) (hb : w.heap[b]? = some (.cells cs 25 (0, 0))) : PR (w.setCell ⟨b, i, none⟩ u) B es ds vF vD :=
  ⟨row_setc h.rowF hb (by decide), row_setc h.rowD hb (by decide), fun e he => row_setc (h.bytes e he) hb (by decide), h.small, h.smallD, fun e he => row_setc (h.rels e he) hb (by decide)⟩

theorem PR.bytesAt {w : World} {B : Nat} {es : List Ent} {ds : List M.Dfn} {vF vD : Value} (h : PR w B es ds vF vD) {e : Ent} (he : e ∈ es) : BytesAt w e.bv e.f.bytes := by
  refine ⟨?_, (h.small e he).1⟩
  have hr := h.bytes e he
  have e1 : e.f.bytes.map (Value.int .u8) = e.f.bytes.flatMap (fun x => [Value.int .u8 x]) := by induction e.f.bytes <;> simp_all
  rw [e1] at hr
  refine (row_slice (k := 1) 0 (fun x => [Value.int .u8 x]) (fun _ => rfl) e.f.bytes hr).congr' (fun j i hj hi => ?_)
  obtain rfl : i = 0 := by omega
  rfl

theorem PR.relsAt {w : World} {B : Nat} {es : List Ent} {ds : List M.Dfn} {vF vD : Value} (h : PR w B es ds vF vD) {e : Ent} (he : e ∈ es) : RelsAt w e.rv e.f.rels := by
  refine ⟨?_, (h.small e he).2.2⟩
  refine (row_slice (k := 5) rel0 encRel (fun _ => rfl) e.f.rels (h.rels e he)).congr' (fun j i hj hi => ?_)
  rcases (by omega : i = 0 ∨ i = 1 ∨ i = 2 ∨ i = 3 ∨ i = 4) with rfl | rfl | rfl | rfl | rfl <;> rfl

theorem PR.fragsAt {w : World} {B : Nat} {es : List Ent} {ds : List M.Dfn} {vF vD : Value} (h : PR w B es ds vF vD) : FragsAt w vF (es.map (·.f)) := by
  have hs := row_slice (k := 6) ent0 entCells (fun _ => rfl) es h.rowF
  refine ⟨fun j i => (entCells (es.getD j ent0)).getD i undef, by rw [List.length_map]; exact hs, fun j hj => ?_⟩
  rw [List.length_map] at hj
  have hm := getD_mem es ent0 j hj
  have e1 : (es.map (·.f)).getD j frg0 = (es.getD j ent0).f := by
    rw [List.getD_eq_getElem?_getD, List.getD_eq_getElem?_getD, List.getElem?_map, List.getElem?_eq_getElem hj]; rfl
  rw [e1]
  exact ⟨rfl, rfl, rfl, h.bytesAt hm, rfl, h.relsAt hm, (h.small _ hm).2.1⟩

theorem PR.defsAt {w : World} {B : Nat} {es : List Ent} {ds : List M.Dfn} {vF vD : Value} (h : PR w B es ds vF vD) : DefsAt w vD ds := by
  refine ⟨?_, h.smallD⟩
  refine (row_slice (k := 6) dfn0 encDfn (fun _ => rfl) ds h.rowD).congr' (fun j i hj hi => ?_)
  rcases (by omega : i = 0 ∨ i = 1 ∨ i = 2 ∨ i = 3 ∨ i = 4 ∨ i = 5) with rfl | rfl | rfl | rfl | rfl | rfl <;> rfl

theorem PR.nil (w : World) (B : Nat) : PR w B [] [] (.slice none 0 0) (.slice none 0 0) :=
  ⟨World.ownsRow_nil _ _ _ _, World.ownsRow_nil _ _ _ _, (fun e he => by cases he), (fun e he => by cases he), (fun e he => by cases he), (fun e he => by cases he)⟩

/-- the row of fragments has grown -/
theorem PR.growF {w w2 : World} {B : Nat} {es es' : List Ent} {ds : List M.Dfn} {vF vD v' : Value} (h : PR w B es ds vF vD) (hgr : w.grownBy w2 vF.ownBlock)
    (hrow : w2.ownsRow B 43 6 v' (es.length + es'.length) (es.flatMap entCells ++ es'.flatMap entCells))
    (hby : ∀ e ∈ es', w.ownsRow B 5 1 e.bv e.f.bytes.length (e.f.bytes.map (Value.int .u8))) (hrl : ∀ e ∈ es', w.ownsRow B 121 5 e.rv e.f.rels.length (e.f.rels.flatMap encRel))
    (hsm : ∀ e ∈ es', (∀ b ∈ e.f.bytes, 0 ≤ b ∧ b < 256) ∧ e.f.group.size ≤ maxLen ∧ ∀ r ∈ e.f.rels, r.name.size ≤ maxLen ∧ (Lit.int .i64 r.kind).wf = true) :
    PR w2 B (es ++ es') ds v' vD := by
  refine ⟨?_, h.rowD.kept hgr (own_apart h.rowD h.rowF (by decide)), ?_, ?_, h.smallD, ?_⟩
  · rw [List.length_append, List.flatMap_append]; exact hrow
  · intro e he
    have hx : w.ownsRow B 5 1 e.bv e.f.bytes.length (e.f.bytes.map (Value.int .u8)) := by
      rcases List.mem_append.1 he with he | he
      · exact h.bytes e he
      · exact hby e he
    exact hx.kept hgr (own_apart hx h.rowF (by decide))
  · intro e he
    rcases List.mem_append.1 he with he | he
    · exact h.small e he
    · exact hsm e he
  · intro e he
    have hx : w.ownsRow B 121 5 e.rv e.f.rels.length (e.f.rels.flatMap encRel) := by
      rcases List.mem_append.1 he with he | he
      · exact h.rels e he
      · exact hrl e he
    exact hx.kept hgr (own_apart hx h.rowF (by decide))

/-- the row of definitions has grown -/
theorem PR.growD {w w2 : World} {B : Nat} {es : List Ent} {ds ds' : List M.Dfn} {vF vD v' : Value} (h : PR w B es ds vF vD) (hgr : w.grownBy w2 vD.ownBlock)
    (hrow : w2.ownsRow B 69 6 v' (ds.length + ds'.length) (ds.flatMap encDfn ++ ds'.flatMap encDfn)) (hsm : ∀ d ∈ ds', d.name.size ≤ maxLen) :
    PR w2 B es (ds ++ ds') vF v' := by
  refine ⟨h.rowF.kept hgr (own_apart h.rowF h.rowD (by decide)), ?_, ?_, h.small, ?_, ?_⟩
  · rw [List.length_append, List.flatMap_append]; exact hrow
  · exact fun e he => (h.bytes e he).kept hgr (own_apart (h.bytes e he) h.rowD (by decide))
  · intro d hd
    rcases List.mem_append.1 hd with hd | hd
    · exact h.smallD d hd
    · exact hsm d hd
  · exact fun e he => (h.rels e he).kept hgr (own_apart (h.rels e he) h.rowD (by decide))

/-- a block of another kind stays while a row grows -/
theorem block_kept {w w2 : World} {B k n g : Nat} {e t : TypeId} {v : Value} {xs : List Value} {cs : Array Value} (h : w.ownsRow B e k v n xs) (hgr : w.grownBy w2 v.ownBlock) (hb : w.heap[g]? = some (.cells cs t (0, 0))) (hne : e ≠ t) : w2.heap[g]? = some (.cells cs t (0, 0)) := by
  rw [hgr.block g (Array.getElem?_eq_some_iff.1 hb).1]
  · exact hb
  · rcases own_ne h hb hne with h1 | h1
    · rw [h1]; simp
    · exact fun e => h1 e.symm

theorem len_ok (f : M.Frg) (h : M.shaped f = 0) : f.bytes.length ≤ 64 ∧ f.rels.length ≤ 8 := by
  unfold M.shaped M.checkFrag at h
  split at h
  · cases h
  split at h
  · cases h
  split at h
  · cases h
  rename_i h3
  dsimp only at h3
  rw [List.length_map] at h3
  omega

end Go.Proofs.Ytebhbhbhcoijpaa
