/-
  A part that a call builds in memory of its own: its rows, and what stays as it was while one of them grows.
-/
import Derived.Test.YtogipjjmnmahnaaDoorScrPairs
import Derived.Test.YtogipjjmnmahnaaDoorSame
namespace Go.Proofs.YtogipjjmnmahnaaDoor
open Go Go.RowKit
set_option linter.unusedVariables false

structure PM (w : World) (B b : Nat) (es : List Ent) (ds : List M.Dfn) (vF vD : Value) : Prop where
  le : B ≤ b
  blk : w.heap[b]? = some (.cells #[vF, vD] 25 (0, 0))
  rowF : w.ownsRow B 49 6 vF es.length (es.flatMap entCells)
  rowD : w.ownsRow B 59 6 vD ds.length (ds.flatMap encDfn)
  bytes : ∀ e ∈ es, w.ownsRow B 5 1 e.bv e.f.bytes.length (e.f.bytes.map (Value.int .u8))
  small : ∀ e ∈ es, (∀ b ∈ e.f.bytes, 0 ≤ b ∧ b < 256) ∧ e.f.group.size ≤ maxLen ∧ ∀ r ∈ e.f.rels, r.name.size ≤ maxLen ∧ (Lit.int .i64 r.kind).wf = true
  smallD : ∀ d ∈ ds, d.name.size ≤ maxLen
  rels : ∀ e ∈ es, w.ownsRow B 56 5 e.rv e.f.rels.length (e.f.rels.flatMap encRel)
  last : ∀ init l, es = init ++ [l] → ∀ e ∈ init, e.rv.ownBlock = none ∨ e.rv.ownBlock ≠ l.rv.ownBlock

/-- a part p in block b -/
def HasPart (w : World) (B b : Nat) (p : M.Prt) : Prop := ∃ es ds vF vD, PM w B b es ds vF vD ∧ p = ⟨es.map (·.f), ds⟩

theorem PM.later {w w' : World} {B b : Nat} {es : List Ent} {ds : List M.Dfn} {vF vD : Value} (h : PM w B b es ds vF vD) (hb : Below w.heap.size w w') : PM w' B b es ds vF vD := by
  have hg := grown_of_below hb Option.none
  have hlt : b < w.heap.size := (Array.getElem?_eq_some_iff.1 h.blk).1
  exact ⟨h.le, (hb.block b hlt).trans h.blk, h.rowF.kept hg own_self, h.rowD.kept hg own_self, fun e he => (h.bytes e he).kept hg own_self, h.small, h.smallD, fun e he => (h.rels e he).kept hg own_self, h.last⟩

theorem HasPart.later {w w' : World} {B b : Nat} {p : M.Prt} (h : HasPart w B b p) (hb : Below w.heap.size w w') : HasPart w' B b p :=
  let ⟨es, ds, vF, vD, h1, h2⟩ := h
  ⟨es, ds, vF, vD, h1.later hb, h2⟩

theorem PM.bytesAt {w : World} {B b : Nat} {es : List Ent} {ds : List M.Dfn} {vF vD : Value} (h : PM w B b es ds vF vD) {e : Ent} (he : e ∈ es) : BytesAt w e.bv e.f.bytes := by
  refine ⟨?_, (h.small e he).1⟩
  have hr := h.bytes e he
  have e1 : e.f.bytes.map (Value.int .u8) = e.f.bytes.flatMap (fun x => [Value.int .u8 x]) := by induction e.f.bytes <;> simp_all
  rw [e1] at hr
  refine (row_slice (k := 1) 0 (fun x => [Value.int .u8 x]) (fun _ => rfl) e.f.bytes hr).congr' (fun j i hj hi => ?_)
  obtain rfl : i = 0 := by omega
  rfl

theorem PM.relsAt {w : World} {B b : Nat} {es : List Ent} {ds : List M.Dfn} {vF vD : Value} (h : PM w B b es ds vF vD) {e : Ent} (he : e ∈ es) : RelsAt w e.rv e.f.rels := by
  refine ⟨?_, (h.small e he).2.2⟩
  refine (row_slice (k := 5) rel0 encRel (fun _ => rfl) e.f.rels (h.rels e he)).congr' (fun j i hj hi => ?_)
  rcases (by omega : i = 0 ∨ i = 1 ∨ i = 2 ∨ i = 3 ∨ i = 4) with rfl | rfl | rfl | rfl | rfl <;> rfl

theorem PM.fragsAt {w : World} {B b : Nat} {es : List Ent} {ds : List M.Dfn} {vF vD : Value} (h : PM w B b es ds vF vD) : FragsAt w vF (es.map (·.f)) := by
  have hs := row_slice (k := 6) ent0 entCells (fun _ => rfl) es h.rowF
  refine ⟨fun j i => (entCells (es.getD j ent0)).getD i undef, by rw [List.length_map]; exact hs, fun j hj => ?_⟩
  rw [List.length_map] at hj
  have hm := getD_mem es ent0 j hj
  have e1 : (es.map (·.f)).getD j frg0 = (es.getD j ent0).f := by
    rw [List.getD_eq_getElem?_getD, List.getD_eq_getElem?_getD, List.getElem?_map, List.getElem?_eq_getElem hj]; rfl
  rw [e1]
  exact ⟨rfl, rfl, rfl, h.bytesAt hm, rfl, h.relsAt hm, (h.small _ hm).2.1⟩

theorem PM.defsAt {w : World} {B b : Nat} {es : List Ent} {ds : List M.Dfn} {vF vD : Value} (h : PM w B b es ds vF vD) : DefsAt w vD ds := by
  refine ⟨?_, h.smallD⟩
  refine (row_slice (k := 6) dfn0 encDfn (fun _ => rfl) ds h.rowD).congr' (fun j i hj hi => ?_)
  rcases (by omega : i = 0 ∨ i = 1 ∨ i = 2 ∨ i = 3 ∨ i = 4 ∨ i = 5) with rfl | rfl | rfl | rfl | rfl | rfl <;> rfl

/-- a fragment is added: its row has grown, and the part holds it -/
theorem PM.addFrag {w w2 : World} {B b : Nat} {es : List Ent} {ds : List M.Dfn} {vF vD v' : Value} (h : PM w B b es ds vF vD) (f : M.Frg) (bv : Value)
    (hgr : w.grownBy w2 vF.ownBlock) (hrow : w2.ownsRow B 49 6 v' (es.length + 1) (es.flatMap entCells ++ entCells ⟨f, bv, .slice none 0 0⟩))
    (hby : w.ownsRow B 5 1 bv f.bytes.length (f.bytes.map (Value.int .u8))) (hsm : (∀ b ∈ f.bytes, 0 ≤ b ∧ b < 256) ∧ f.group.size ≤ maxLen) (hr : f.rels = []) :
    PM (w2.setCell ⟨b, 0, none⟩ v') B b (es ++ [⟨f, bv, .slice none 0 0⟩]) ds v' vD := by
  have hlt : b < w.heap.size := (Array.getElem?_eq_some_iff.1 h.blk).1
  have hbF : vF.ownBlock = none ∨ vF.ownBlock ≠ some b := own_ne h.rowF h.blk (by decide)
  have hb2 : w2.heap[b]? = some (.cells #[vF, vD] 25 (0, 0)) := by
    rw [hgr.block b hlt]
    · exact h.blk
    · rcases hbF with h1 | h1
      · rw [h1]; simp
      · exact fun e => h1 e.symm
  have hs := grown_set w2 b 0 v'
  have kD : w2.ownsRow B 59 6 vD ds.length (ds.flatMap encDfn) := h.rowD.kept hgr (own_apart h.rowD h.rowF (by decide))
  have kB : ∀ (bv : Value) n xs, w.ownsRow B 5 1 bv n xs → (w2.setCell ⟨b, 0, none⟩ v').ownsRow B 5 1 bv n xs := fun bv n xs hx => by
    have h1 := hx.kept hgr (own_apart hx h.rowF (by decide))
    exact h1.kept hs (own_ne h1 hb2 (by decide))
  have kR : ∀ (rv : Value) n xs, w.ownsRow B 56 5 rv n xs → (w2.setCell ⟨b, 0, none⟩ v').ownsRow B 56 5 rv n xs := fun bv n xs hx => by
    have h1 := hx.kept hgr (own_apart hx h.rowF (by decide))
    exact h1.kept hs (own_ne h1 hb2 (by decide))
  refine ⟨h.le, ?_, ?_, kD.kept hs (own_ne kD hb2 (by decide)), ?_, ?_, h.smallD, ?_, ?_⟩
  · rw [setB' hb2]; rfl
  · rw [List.length_append, List.flatMap_append]
    simp only [List.flatMap_cons, List.flatMap_nil, List.append_nil, List.length_cons, List.length_nil]
    exact hrow.kept hs (own_ne hrow hb2 (by decide))
  · intro e he
    rcases List.mem_append.1 he with he | he
    · exact kB _ _ _ (h.bytes e he)
    · rw [List.mem_singleton.1 he]; exact kB _ _ _ hby
  · intro e he
    rcases List.mem_append.1 he with he | he
    · exact h.small e he
    · rw [List.mem_singleton.1 he]; exact ⟨hsm.1, hsm.2, fun r hr' => by rw [hr] at hr'; cases hr'⟩
  · intro e he
    rcases List.mem_append.1 he with he | he
    · exact kR _ _ _ (h.rels e he)
    · rw [List.mem_singleton.1 he, hr]; exact World.ownsRow_nil _ _ _ _
  · intro init l hl e he
    have h2 := List.append_inj' hl rfl
    have : l = ⟨f, bv, .slice none 0 0⟩ := by have := h2.2; simp at this; exact this.symm
    rw [this]
    exact own_self

/-- a definition is added -/
theorem PM.addDef {w w2 : World} {B b : Nat} {es : List Ent} {ds : List M.Dfn} {vF vD v' : Value} (h : PM w B b es ds vF vD) (d : M.Dfn)
    (hgr : w.grownBy w2 vD.ownBlock) (hrow : w2.ownsRow B 59 6 v' (ds.length + 1) (ds.flatMap encDfn ++ encDfn d)) (hsm : d.name.size ≤ maxLen) :
    PM (w2.setCell ⟨b, 1, none⟩ v') B b es (ds ++ [d]) vF v' := by
  have hlt : b < w.heap.size := (Array.getElem?_eq_some_iff.1 h.blk).1
  have hbD : vD.ownBlock = none ∨ vD.ownBlock ≠ some b := own_ne h.rowD h.blk (by decide)
  have hb2 : w2.heap[b]? = some (.cells #[vF, vD] 25 (0, 0)) := by
    rw [hgr.block b hlt]
    · exact h.blk
    · rcases hbD with h1 | h1
      · rw [h1]; simp
      · exact fun e => h1 e.symm
  have hs := grown_set w2 b 1 v'
  have kF : w2.ownsRow B 49 6 vF es.length (es.flatMap entCells) := h.rowF.kept hgr (own_apart h.rowF h.rowD (by decide))
  have kB : ∀ (bv : Value) n xs, w.ownsRow B 5 1 bv n xs → (w2.setCell ⟨b, 1, none⟩ v').ownsRow B 5 1 bv n xs := fun bv n xs hx => by
    have h1 := hx.kept hgr (own_apart hx h.rowD (by decide))
    exact h1.kept hs (own_ne h1 hb2 (by decide))
  have kR : ∀ (rv : Value) n xs, w.ownsRow B 56 5 rv n xs → (w2.setCell ⟨b, 1, none⟩ v').ownsRow B 56 5 rv n xs := fun bv n xs hx => by
    have h1 := hx.kept hgr (own_apart hx h.rowD (by decide))
    exact h1.kept hs (own_ne h1 hb2 (by decide))
  refine ⟨h.le, ?_, kF.kept hs (own_ne kF hb2 (by decide)), ?_, fun e he => kB _ _ _ (h.bytes e he), h.small, ?_, fun e he => kR _ _ _ (h.rels e he), h.last⟩
  · rw [setB' hb2]; rfl
  · rw [List.length_append, List.flatMap_append]
    simp only [List.flatMap_cons, List.flatMap_nil, List.append_nil, List.length_cons, List.length_nil]
    exact hrow.kept hs (own_ne hrow hb2 (by decide))
  · intro e he
    rcases List.mem_append.1 he with he | he
    · exact h.smallD e he
    · rw [List.mem_singleton.1 he]; exact hsm

/-- a place is added to the last fragment -/
theorem PM.addRel {w w2 : World} {B b g cap : Nat} {init : List Ent} {l : Ent} {ds : List M.Dfn} {vD v' : Value} (h : PM w B b (init ++ [l]) ds (.slice (some ⟨g, 0, none⟩) (init.length + 1) cap) vD) (r : M.Rel)
    (hgr : w.grownBy w2 l.rv.ownBlock) (hrow : w2.ownsRow B 56 5 v' (l.f.rels.length + 1) (l.f.rels.flatMap encRel ++ encRel r)) (hown : l.rv.ownBlock = v'.ownBlock ∨ v'.ownBlock = some w.heap.size) (hsm : r.name.size ≤ maxLen ∧ (Lit.int .i64 r.kind).wf = true) :
    PM (w2.setCell ⟨g, init.length * 6 + 5, none⟩ v') B b (init ++ [⟨M.addRel l.f r, l.bv, v'⟩]) ds (.slice (some ⟨g, 0, none⟩) (init.length + 1) cap) vD := by
  have hlt : b < w.heap.size := (Array.getElem?_eq_some_iff.1 h.blk).1
  have hrl := h.rels l (by simp)
  have hb2 : w2.heap[b]? = some (.cells #[.slice (some ⟨g, 0, none⟩) (init.length + 1) cap, vD] 25 (0, 0)) := by
    rw [hgr.block b hlt]
    · exact h.blk
    · rcases own_ne hrl h.blk (by decide) with h1 | h1
      · rw [h1]; simp
      · exact fun e => h1 e.symm
  have hF0 := h.rowF
  rw [List.length_append, List.length_singleton] at hF0
  have hF : w2.ownsRow B 49 6 (.slice (some ⟨g, 0, none⟩) (init.length + 1) cap) (init.length + 1) ((init ++ [l]).flatMap entCells) := hF0.kept hgr (own_apart hF0 hrl (by decide))
  obtain ⟨cur, hgb⟩ : ∃ cur, w2.heap[g]? = some (.cells cur 49 (0, 0)) := by
    rcases hF.2 with ⟨h1, _⟩ | ⟨g', cap', cur, h1, _, h2, _⟩
    · cases h1
    · cases h1; exact ⟨cur, h2⟩
  have hs := grown_set w2 g (init.length * 6 + 5) v'
  have hgne : b ≠ g := fun e => by subst e; rw [hb2] at hgb; cases hgb
  have kB : ∀ (bv : Value) n xs, w.ownsRow B 5 1 bv n xs → (w2.setCell ⟨g, init.length * 6 + 5, none⟩ v').ownsRow B 5 1 bv n xs := fun bv n xs hx => by
    have h1 := hx.kept hgr (own_apart hx hrl (by decide))
    exact h1.kept hs (own_ne h1 hgb (by decide))
  have kD : w2.ownsRow B 59 6 vD ds.length (ds.flatMap encDfn) := h.rowD.kept hgr (own_apart h.rowD hrl (by decide))
  have hlen : (init.flatMap entCells).length = init.length * 6 := by
    clear h hF0 hF hrl hb2 hgb hs kB hgr
    induction init with
    | nil => rfl
    | cons x l ih => rw [List.flatMap_cons, List.length_append, ih]; simp [entCells]; omega
  refine ⟨h.le, ?_, ?_, kD.kept hs (own_ne kD hgb (by decide)), ?_, ?_, h.smallD, ?_, ?_⟩
  · rw [Below.heap_setCell _ _ _ _ hgne]; exact hb2
  · have := row_set (u := v') (i := init.length * 6 + 5) hF (by rw [List.flatMap_append, List.length_append, hlen]; simp [entCells])
    rw [List.length_append, List.length_singleton]
    have e1 : ((init ++ [l]).flatMap entCells).set (init.length * 6 + 5) v' = (init ++ [(⟨M.addRel l.f r, l.bv, v'⟩ : Ent)]).flatMap entCells := by
      rw [List.flatMap_append, List.flatMap_append, List.set_append_right _ _ (by rw [hlen]; omega), hlen, Nat.add_sub_cancel_left]
      rfl
    rw [e1] at this
    exact this
  · intro e he
    rcases List.mem_append.1 he with he | he
    · exact kB _ _ _ (h.bytes e (by simp [he]))
    · rw [List.mem_singleton.1 he]; exact kB _ _ _ (h.bytes l (by simp))
  · intro e he
    rcases List.mem_append.1 he with he | he
    · exact h.small e (by simp [he])
    · rw [List.mem_singleton.1 he]
      obtain ⟨s1, s2, s3⟩ := h.small l (by simp)
      refine ⟨s1, s2, fun r' hr' => ?_⟩
      rcases List.mem_append.1 (show r' ∈ l.f.rels ++ [r] from hr') with hr' | hr'
      · exact s3 r' hr'
      · rw [List.mem_singleton.1 hr']; exact hsm
  · intro e he
    rcases List.mem_append.1 he with he | he
    · have hx := h.rels e (by simp [he])
      have h1 := hx.kept hgr (h.last init l rfl e he)
      exact h1.kept hs (own_ne h1 hgb (by decide))
    · rw [List.mem_singleton.1 he]
      show (w2.setCell _ _).ownsRow B _ 5 v' (l.f.rels ++ [r]).length ((l.f.rels ++ [r]).flatMap encRel)
      rw [List.length_append, List.flatMap_append]
      simp only [List.flatMap_cons, List.flatMap_nil, List.append_nil, List.length_cons, List.length_nil]
      exact hrow.kept hs (own_ne hrow hgb (by decide))
  · intro init' l' hl e he
    have h2 := List.append_inj' hl rfl
    have hl' : l' = ⟨M.addRel l.f r, l.bv, v'⟩ := by have := h2.2; simp at this; exact this.symm
    have he : e ∈ init := by rw [h2.1]; exact he
    rw [hl']
    have h3 := h.last init l rfl e he
    show e.rv.ownBlock = none ∨ e.rv.ownBlock ≠ v'.ownBlock
    rcases hown with h4 | h4
    · rw [← h4]; exact h3
    · cases he2 : e.rv.ownBlock with
      | none => exact .inl rfl
      | some q =>
        right
        have := ((h.rels e (by simp [he])).lt q he2).2
        rw [h4]
        intro h5
        have := Option.some.inj h5
        omega

end Go.Proofs.YtogipjjmnmahnaaDoor
