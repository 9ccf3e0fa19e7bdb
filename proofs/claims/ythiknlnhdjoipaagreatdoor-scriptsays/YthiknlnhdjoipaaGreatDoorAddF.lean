/-
  A part that a call builds in memory of its own: its rows, and what stays as it was while one of them grows. The contract of addFrag. The contract of addFrag, where the section and the alignment are told. The contract of addFrag, where the section and the alignment are told and its bytes are read.
-/
import Derived.Test.YthiknlnhdjoipaaGreatDoorScR
import Derived.Test.YthiknlnhdjoipaaGreatDoorSame
import Derived.Deep.RegionHeld3
import Derived.Deep.RegionLaw

namespace Go.Proofs.YthiknlnhdjoipaaGreatDoor
open Go Go.RowKit
set_option linter.unusedVariables false

structure PM (w : World) (B b : Nat) (es : List Ent) (ds : List M.Dfn) (vF vD : Value) : Prop where
  le : B ≤ b
  blk : w.heap[b]? = some (.cells #[vF, vD] 25 (0, 0))
  rowF : w.ownsRow B 50 6 vF es.length (es.flatMap entCells)
  rowD : w.ownsRow B 60 6 vD ds.length (ds.flatMap encDfn)
  bytes : ∀ e ∈ es, w.ownsRow B 5 1 e.bv e.f.bytes.length (e.f.bytes.map (Value.int .u8))
  small : ∀ e ∈ es, (∀ b ∈ e.f.bytes, 0 ≤ b ∧ b < 256) ∧ e.f.group.size ≤ maxLen ∧ ∀ r ∈ e.f.rels, r.name.size ≤ maxLen ∧ (Lit.int .i64 r.kind).wf = true
  smallD : ∀ d ∈ ds, d.name.size ≤ maxLen
  rels : ∀ e ∈ es, w.ownsRow B 57 5 e.rv e.f.rels.length (e.f.rels.flatMap encRel)
  last : ∀ init l, es = init ++ [l] → ∀ e ∈ init, e.rv.ownBlock = none ∨ e.rv.ownBlock ≠ l.rv.ownBlock

/-- a part p in block b -/
def HasPart (w : World) (B b : Nat) (p : M.Prt) : Prop := ∃ es ds vF vD, PM w B b es ds vF vD ∧ p = ⟨es.map (·.f), ds⟩

theorem PM.later {w w' : World} {B b : Nat} {es : List Ent} {ds : List M.Dfn} {vF vD : Value} (h : PM w B b es ds vF vD) (hb : Below w.heap.size w w') : PM w' B b es ds vF vD := by
  have hg := grown_of_below hb Option.none
  have hlt : b < w.heap.size := (Array.getElem?_eq_some_iff.1 h.blk).1
  exact ⟨h.le, (hb.block b hlt).trans h.blk, h.rowF.kept hg own_self, h.rowD.kept hg own_self, fun e he => (h.bytes e he).kept hg own_self, h.small, h.smallD, fun e he => (h.rels e he).kept hg own_self, h.last⟩

theorem HasPart.later {w w' : World} {B b : Nat} {p : M.Prt} (h : HasPart w B b p) (hb : Below w.heap.size w w') : HasPart w' B b p :=
  let ⟨es, ds, vF, vD, h1, h2⟩ := h
  ⟨es, ds, vF, vD, h1.later hb, h2⟩

theorem PM.bytesAt {w : World} {B b : Nat} {es : List Ent} {ds : List M.Dfn} {vF vD : Value} (h : PM w B b es ds vF vD) {e : Ent} (he : e ∈ es) : BytesAt w e.bv e.f.bytes := by
  refine ⟨?_, (h.small e he).1⟩
  have hr := h.bytes e he
  have e1 : e.f.bytes.map (Value.int .u8) = e.f.bytes.flatMap (fun x => [Value.int .u8 x]) := by induction e.f.bytes <;> simp_all
  rw [e1] at hr
  refine (row_slice (k := 1) 0 (fun x => [Value.int .u8 x]) (fun _ => rfl) e.f.bytes hr).congr' (fun j i hj hi => ?_)
  obtain rfl : i = 0 := by omega
  rfl

theorem PM.relsAt {w : World} {B b : Nat} {es : List Ent} {ds : List M.Dfn} {vF vD : Value} (h : PM w B b es ds vF vD) {e : Ent} (he : e ∈ es) : RelsAt w e.rv e.f.rels := by
  refine ⟨?_, (h.small e he).2.2⟩
  refine (row_slice (k := 5) rel0 encRel (fun _ => rfl) e.f.rels (h.rels e he)).congr' (fun j i hj hi => ?_)
  rcases (by omega : i = 0 ∨ i = 1 ∨ i = 2 ∨ i = 3 ∨ i = 4) with rfl | rfl | rfl | rfl | rfl <;> rfl

theorem PM.fragsAt {w : World} {B b : Nat} {es : List Ent} {ds : List M.Dfn} {vF vD : Value} (h : PM w B b es ds vF vD) : FragsAt w vF (es.map (·.f)) := by
  have hs := row_slice (k := 6) ent0 entCells (fun _ => rfl) es h.rowF
  refine ⟨fun j i => (entCells (es.getD j ent0)).getD i undef, by rw [List.length_map]; exact hs, fun j hj => ?_⟩
  rw [List.length_map] at hj
  have hm := getD_mem es ent0 j hj
  have e1 : (es.map (·.f)).getD j frg0 = (es.getD j ent0).f := by
    rw [List.getD_eq_getElem?_getD, List.getD_eq_getElem?_getD, List.getElem?_map, List.getElem?_eq_getElem hj]; rfl
  rw [e1]
  exact ⟨rfl, rfl, rfl, h.bytesAt hm, rfl, h.relsAt hm, (h.small _ hm).2.1⟩

theorem PM.defsAt {w : World} {B b : Nat} {es : List Ent} {ds : List M.Dfn} {vF vD : Value} (h : PM w B b es ds vF vD) : DefsAt w vD ds := by
  refine ⟨?_, h.smallD⟩
  refine (row_slice (k := 6) dfn0 encDfn (fun _ => rfl) ds h.rowD).congr' (fun j i hj hi => ?_)
  rcases (by omega : i = 0 ∨ i = 1 ∨ i = 2 ∨ i = 3 ∨ i = 4 ∨ i = 5) with rfl | rfl | rfl | rfl | rfl | rfl <;> rfl

/-- a fragment is added: its row has grown, and the part holds it -/
theorem PM.addFrag {w w2 : World} {B b : Nat} {es : List Ent} {ds : List M.Dfn} {vF vD v' : Value} (h : PM w B b es ds vF vD) (f : M.Frg) (bv : Value)
    (hgr : w.grownBy w2 vF.ownBlock) (hrow : w2.ownsRow B 50 6 v' (es.length + 1) (es.flatMap entCells ++ entCells ⟨f, bv, .slice none 0 0⟩))
    (hby : w.ownsRow B 5 1 bv f.bytes.length (f.bytes.map (Value.int .u8))) (hsm : (∀ b ∈ f.bytes, 0 ≤ b ∧ b < 256) ∧ f.group.size ≤ maxLen) (hr : f.rels = []) :
    PM (w2.setCell ⟨b, 0, none⟩ v') B b (es ++ [⟨f, bv, .slice none 0 0⟩]) ds v' vD := by
  have hlt : b < w.heap.size := (Array.getElem?_eq_some_iff.1 h.blk).1
  have hbF : vF.ownBlock = none ∨ vF.ownBlock ≠ some b := own_ne h.rowF h.blk (by decide)
  have hb2 : w2.heap[b]? = some (.cells #[vF, vD] 25 (0, 0)) := by
    rw [hgr.block b hlt]
    · exact h.blk
    · rcases hbF with h1 | h1
      · rw [h1]; simp
      · exact fun e => h1 e.symm
  have hs := grown_set w2 b 0 v'
  have kD : w2.ownsRow B 60 6 vD ds.length (ds.flatMap encDfn) := h.rowD.kept hgr (own_apart h.rowD h.rowF (by decide))
  have kB : ∀ (bv : Value) n xs, w.ownsRow B 5 1 bv n xs → (w2.setCell ⟨b, 0, none⟩ v').ownsRow B 5 1 bv n xs := fun bv n xs hx => by
    have h1 := hx.kept hgr (own_apart hx h.rowF (by decide))
    exact h1.kept hs (own_ne h1 hb2 (by decide))
  have kR : ∀ (rv : Value) n xs, w.ownsRow B 57 5 rv n xs → (w2.setCell ⟨b, 0, none⟩ v').ownsRow B 57 5 rv n xs := fun bv n xs hx => by
    have h1 := hx.kept hgr (own_apart hx h.rowF (by decide))
    exact h1.kept hs (own_ne h1 hb2 (by decide))
  refine ⟨h.le, ?_, ?_, kD.kept hs (own_ne kD hb2 (by decide)), ?_, ?_, h.smallD, ?_, ?_⟩
  · rw [setB' hb2]; rfl
  · rw [List.length_append, List.flatMap_append]
    simp only [List.flatMap_cons, List.flatMap_nil, List.append_nil, List.length_cons, List.length_nil]
    exact hrow.kept hs (own_ne hrow hb2 (by decide))
  · intro e he
    rcases List.mem_append.1 he with he | he
    · exact kB _ _ _ (h.bytes e he)
    · rw [List.mem_singleton.1 he]; exact kB _ _ _ hby
  · intro e he
    rcases List.mem_append.1 he with he | he
    · exact h.small e he
    · rw [List.mem_singleton.1 he]; exact ⟨hsm.1, hsm.2, fun r hr' => by rw [hr] at hr'; cases hr'⟩
  · intro e he
    rcases List.mem_append.1 he with he | he
    · exact kR _ _ _ (h.rels e he)
    · rw [List.mem_singleton.1 he, hr]; exact World.ownsRow_nil _ _ _ _
  · intro init l hl e he
    have h2 := List.append_inj' hl rfl
    have : l = ⟨f, bv, .slice none 0 0⟩ := by have := h2.2; simp at this; exact this.symm
    rw [this]
    exact own_self

/-- a definition is added -/
theorem PM.addDef {w w2 : World} {B b : Nat} {es : List Ent} {ds : List M.Dfn} {vF vD v' : Value} (h : PM w B b es ds vF vD) (d : M.Dfn)
    (hgr : w.grownBy w2 vD.ownBlock) (hrow : w2.ownsRow B 60 6 v' (ds.length + 1) (ds.flatMap encDfn ++ encDfn d)) (hsm : d.name.size ≤ maxLen) :
    PM (w2.setCell ⟨b, 1, none⟩ v') B b es (ds ++ [d]) vF v' := by
  have hlt : b < w.heap.size := (Array.getElem?_eq_some_iff.1 h.blk).1
  have hbD : vD.ownBlock = none ∨ vD.ownBlock ≠ some b := own_ne h.rowD h.blk (by decide)
  have hb2 : w2.heap[b]? = some (.cells #[vF, vD] 25 (0, 0)) := by
    rw [hgr.block b hlt]
    · exact h.blk
    · rcases hbD with h1 | h1
      · rw [h1]; simp
      · exact fun e => h1 e.symm
  have hs := grown_set w2 b 1 v'
  have kF : w2.ownsRow B 50 6 vF es.length (es.flatMap entCells) := h.rowF.kept hgr (own_apart h.rowF h.rowD (by decide))
  have kB : ∀ (bv : Value) n xs, w.ownsRow B 5 1 bv n xs → (w2.setCell ⟨b, 1, none⟩ v').ownsRow B 5 1 bv n xs := fun bv n xs hx => by
    have h1 := hx.kept hgr (own_apart hx h.rowD (by decide))
    exact h1.kept hs (own_ne h1 hb2 (by decide))
  have kR : ∀ (rv : Value) n xs, w.ownsRow B 57 5 rv n xs → (w2.setCell ⟨b, 1, none⟩ v').ownsRow B 57 5 rv n xs := fun bv n xs hx => by
    have h1 := hx.kept hgr (own_apart hx h.rowD (by decide))
    exact h1.kept hs (own_ne h1 hb2 (by decide))
  refine ⟨h.le, ?_, kF.kept hs (own_ne kF hb2 (by decide)), ?_, fun e he => kB _ _ _ (h.bytes e he), h.small, ?_, fun e he => kR _ _ _ (h.rels e he), h.last⟩
  · rw [setB' hb2]; rfl
  · rw [List.length_append, List.flatMap_append]
    simp only [List.flatMap_cons, List.flatMap_nil, List.append_nil, List.length_cons, List.length_nil]
    exact hrow.kept hs (own_ne hrow hb2 (by decide))
  · intro e he
    rcases List.mem_append.1 he with he | he
    · exact h.smallD e he
    · rw [List.mem_singleton.1 he]; exact hsm

/-- a place is added to the last fragment -/
theorem PM.addRel {w w2 : World} {B b g cap : Nat} {init : List Ent} {l : Ent} {ds : List M.Dfn} {vD v' : Value} (h : PM w B b (init ++ [l]) ds (.slice (some ⟨g, 0, none⟩) (init.length + 1) cap) vD) (r : M.Rel)
    (hgr : w.grownBy w2 l.rv.ownBlock) (hrow : w2.ownsRow B 57 5 v' (l.f.rels.length + 1) (l.f.rels.flatMap encRel ++ encRel r)) (hown : l.rv.ownBlock = v'.ownBlock ∨ v'.ownBlock = some w.heap.size) (hsm : r.name.size ≤ maxLen ∧ (Lit.int .i64 r.kind).wf = true) :
    PM (w2.setCell ⟨g, init.length * 6 + 5, none⟩ v') B b (init ++ [⟨M.addRel l.f r, l.bv, v'⟩]) ds (.slice (some ⟨g, 0, none⟩) (init.length + 1) cap) vD := by
  have hlt : b < w.heap.size := (Array.getElem?_eq_some_iff.1 h.blk).1
  have hrl := h.rels l (by simp)
  have hb2 : w2.heap[b]? = some (.cells #[.slice (some ⟨g, 0, none⟩) (init.length + 1) cap, vD] 25 (0, 0)) := by
    rw [hgr.block b hlt]
    · exact h.blk
    · rcases own_ne hrl h.blk (by decide) with h1 | h1
      · rw [h1]; simp
      · exact fun e => h1 e.symm
  have hF0 := h.rowF
  rw [List.length_append, List.length_singleton] at hF0
  have hF : w2.ownsRow B 50 6 (.slice (some ⟨g, 0, none⟩) (init.length + 1) cap) (init.length + 1) ((init ++ [l]).flatMap entCells) := hF0.kept hgr (own_apart hF0 hrl (by decide))
  obtain ⟨cur, hgb⟩ : ∃ cur, w2.heap[g]? = some (.cells cur 50 (0, 0)) := by
    rcases hF.2 with ⟨h1, _⟩ | ⟨g', cap', cur, h1, _, h2, _⟩
    · cases h1
    · cases h1; exact ⟨cur, h2⟩
  have hs := grown_set w2 g (init.length * 6 + 5) v'
  have hgne : b ≠ g := fun e => by subst e; rw [hb2] at hgb; cases hgb
  have kB : ∀ (bv : Value) n xs, w.ownsRow B 5 1 bv n xs → (w2.setCell ⟨g, init.length * 6 + 5, none⟩ v').ownsRow B 5 1 bv n xs := fun bv n xs hx => by
    have h1 := hx.kept hgr (own_apart hx hrl (by decide))
    exact h1.kept hs (own_ne h1 hgb (by decide))
  have kD : w2.ownsRow B 60 6 vD ds.length (ds.flatMap encDfn) := h.rowD.kept hgr (own_apart h.rowD hrl (by decide))
  have hlen : (init.flatMap entCells).length = init.length * 6 := by
    clear h hF0 hF hrl hb2 hgb hs kB hgr
    induction init with
    | nil => rfl
    | cons x l ih => rw [List.flatMap_cons, List.length_append, ih]; simp [entCells]; omega
  refine ⟨h.le, ?_, ?_, kD.kept hs (own_ne kD hgb (by decide)), ?_, ?_, h.smallD, ?_, ?_⟩
  · rw [Below.heap_setCell _ _ _ _ hgne]; exact hb2
  · have := row_set (u := v') (i := init.length * 6 + 5) hF (by rw [List.flatMap_append, List.length_append, hlen]; simp [entCells])
    rw [List.length_append, List.length_singleton]
    have e1 : ((init ++ [l]).flatMap entCells).set (init.length * 6 + 5) v' = (init ++ [(⟨M.addRel l.f r, l.bv, v'⟩ : Ent)]).flatMap entCells := by
      rw [List.flatMap_append, List.flatMap_append, List.set_append_right _ _ (by rw [hlen]; omega), hlen, Nat.add_sub_cancel_left]
      rfl
    rw [e1] at this
    exact this
  · intro e he
    rcases List.mem_append.1 he with he | he
    · exact kB _ _ _ (h.bytes e (by simp [he]))
    · rw [List.mem_singleton.1 he]; exact kB _ _ _ (h.bytes l (by simp))
  · intro e he
    rcases List.mem_append.1 he with he | he
    · exact h.small e (by simp [he])
    · rw [List.mem_singleton.1 he]
      obtain ⟨s1, s2, s3⟩ := h.small l (by simp)
      refine ⟨s1, s2, fun r' hr' => ?_⟩
      rcases List.mem_append.1 (show r' ∈ l.f.rels ++ [r] from hr') with hr' | hr'
      · exact s3 r' hr'
      · rw [List.mem_singleton.1 hr']; exact hsm
  · intro e he
    rcases List.mem_append.1 he with he | he
    · have hx := h.rels e (by simp [he])
      have h1 := hx.kept hgr (h.last init l rfl e he)
      exact h1.kept hs (own_ne h1 hgb (by decide))
    · rw [List.mem_singleton.1 he]
      show (w2.setCell _ _).ownsRow B _ 5 v' (l.f.rels ++ [r]).length ((l.f.rels ++ [r]).flatMap encRel)
      rw [List.length_append, List.flatMap_append]
      simp only [List.flatMap_cons, List.flatMap_nil, List.append_nil, List.length_cons, List.length_nil]
      exact hrow.kept hs (own_ne hrow hgb (by decide))
  · intro init' l' hl e he
    have h2 := List.append_inj' hl rfl
    have hl' : l' = ⟨M.addRel l.f r, l.bv, v'⟩ := by have := h2.2; simp at this; exact this.symm
    have he : e ∈ init := by rw [h2.1]; exact he
    rw [hl']
    have h3 := h.last init l rfl e he
    show e.rv.ownBlock = none ∨ e.rv.ownBlock ≠ v'.ownBlock
    rcases hown with h4 | h4
    · rw [← h4]; exact h3
    · cases he2 : e.rv.ownBlock with
      | none => exact .inl rfl
      | some q =>
        right
        have := ((h.rels e (by simp [he])).lt q he2).2
        rw [h4]
        intro h5
        have := Option.some.inj h5
        omega

end Go.Proofs.YthiknlnhdjoipaaGreatDoor

namespace Go.Proofs.YthiknlnhdjoipaaGreatDoor
open Go Go.RowKit
set_option linter.unusedVariables false
attribute [local go_sem] lat_cell

theorem sectT_eq : M.sectT = [M.sectT.getD 0 [], M.sectT.getD 1 [], M.sectT.getD 2 [], M.sectT.getD 3 [], M.sectT.getD 4 [], M.sectT.getD 5 []] := rfl
theorem kindT_eq : M.kindT = [M.kindT.getD 0 [], M.kindT.getD 1 [], M.kindT.getD 2 [], M.kindT.getD 3 [], M.kindT.getD 4 [], M.kindT.getD 5 []] := rfl
theorem defT_eq : M.defT = [M.defT.getD 0 [], M.defT.getD 1 [], M.defT.getD 2 [], M.defT.getD 3 [], M.defT.getD 4 [], M.defT.getD 5 []] := rfl

theorem findS_any (t : M.Txt) (w : World) :
    Calls Tryz.prog 78 #[.agg #[.string (M.str (M.sectT.getD 0 [])), .string (M.str (M.sectT.getD 1 [])), .string (M.str (M.sectT.getD 2 [])), .string (M.str (M.sectT.getD 3 [])), .string (M.str (M.sectT.getD 4 [])), .string (M.str (M.sectT.getD 5 []))], .string (M.str t)] w fun e w' =>
      e = .returned (.tuple #[.int .i64 (((M.find M.sectT t).getD 0 : Nat) : Int), .bool (M.find M.sectT t).isSome]) ∧ Below w.heap.size w w' := by
  have := find_any (M.sectT.getD 0 []) (M.sectT.getD 1 []) (M.sectT.getD 2 []) (M.sectT.getD 3 []) (M.sectT.getD 4 []) (M.sectT.getD 5 []) (M.str t) w
  rwa [txt_str] at this

theorem numT_any (t : M.Txt) (ht : t.length ≤ 100000) (w : World) (hG : Glob w) :
    Calls Tryz.prog 79 #[.string (M.str t)] w fun e w' => e = .returned (.tuple #[.int .i64 ((M.num t).getD 0), .bool (M.num t).isSome]) ∧ Below w.heap.size w w' := by
  have := number_any (M.str t) (by rw [str_size]; exact ht) w hG
  rwa [txt_str] at this

theorem find_lt {t : List M.Txt} {w : M.Txt} {k : Nat} (h : M.find t w = some k) : k < t.length ∧ t.getD k [] = w := by
  have key : ∀ (t : List M.Txt) (j k : Nat), M.findFrom j t w = some k → j ≤ k ∧ k - j < t.length ∧ t.getD (k - j) [] = w := by
    intro t
    induction t with
    | nil => intro j k h; cases h
    | cons x r ih =>
      intro j k h
      simp only [M.findFrom] at h
      by_cases hx : x = w
      · rw [if_pos hx] at h
        cases h
        simp [hx]
      · rw [if_neg hx] at h
        obtain ⟨h1, h2, h3⟩ := ih _ _ h
        have e : k - j = (k - (j + 1)) + 1 := by omega
        refine ⟨by omega, by simp; omega, ?_⟩
        rw [e]
        simpa using h3
  obtain ⟨_, h2, h3⟩ := key t 0 k h
  exact ⟨by simpa using h2, by simpa using h3⟩

set_option maxHeartbeats 4000000 in
set_option maxRecDepth 100000 in
theorem addFrag_no (w0 w1 w2 w3 w4 : M.Txt) (b : Nat) (w : World) (hG : Glob w) (h2 : w2.length ≤ 100000)
    (hno : M.find M.sectT w1 = none ∨ M.num w2 = none) :
    Calls Tryz.prog 47 #[.pointer (some ⟨b, 0, none⟩), .agg #[.string (M.str w0), .string (M.str w1), .string (M.str w2), .string (M.str w3), .string (M.str w4)]] w fun e w' => e = .returned (.bool false) ∧ Below w.heap.size w w' := by
  have K1 : Hid (∀ W, Calls Tryz.prog 78 #[.agg #[.string (M.str (M.sectT.getD 0 [])), .string (M.str (M.sectT.getD 1 [])), .string (M.str (M.sectT.getD 2 [])), .string (M.str (M.sectT.getD 3 [])), .string (M.str (M.sectT.getD 4 [])), .string (M.str (M.sectT.getD 5 []))], .string (M.str w1)] W fun e w' =>
      e = .returned (.tuple #[.int .i64 (((M.find M.sectT w1).getD 0 : Nat) : Int), .bool (M.find M.sectT w1).isSome]) ∧ Below W.heap.size W w') := fun W => findS_any w1 W
  have K2 : Hid (∀ W, Below w.heap.size w W → Calls Tryz.prog 79 #[.string (M.str w2)] W fun e w' => e = .returned (.tuple #[.int .i64 ((M.num w2).getD 0), .bool (M.num w2).isSome]) ∧ Below W.heap.size W w') := fun W hW => numT_any w2 h2 W (hG.later hW)
  have g0 := hG.sects 0 (by decide)
  have g1 := hG.sects 1 (by decide)
  have g2 := hG.sects 2 (by decide)
  have g3 := hG.sects 3 (by decide)
  have g4 := hG.sects 4 (by decide)
  have g5 := hG.sects 5 (by decide)
  have hg16 := hG.size
  have hg0 : 0 < w.heap.size := by omega
  have hdone : (M.find M.sectT w1).isSome = false ∨ ((M.find M.sectT w1).isSome = true ∧ (M.num w2).isSome = false) := by
    cases hf : M.find M.sectT w1 with
    | none => exact .inl rfl
    | some k =>
      rcases hno with h | h
      · rw [hf] at h; cases h
      · exact .inr ⟨rfl, by rw [h]; rfl⟩
  clear hno
  generalize (M.find M.sectT w1).isSome = fb at *
  generalize (M.find M.sectT w1).getD 0 = fk at *
  generalize (M.num w2).isSome = nb at *
  generalize (M.num w2).getD 0 = nk at *
  generalize M.str (M.sectT.getD 0 []) = t0 at *
  generalize M.str (M.sectT.getD 1 []) = t1 at *
  generalize M.str (M.sectT.getD 2 []) = t2 at *
  generalize M.str (M.sectT.getD 3 []) = t3 at *
  generalize M.str (M.sectT.getD 4 []) = t4 at *
  generalize M.str (M.sectT.getD 5 []) = t5 at *
  rcases hdone with rfl | ⟨rfl, rfl⟩
  all_goals
    go_enter Tryz.func47, Tryz.ntmps47
    go_wp2_with (first | (go_at_call 78; refine (K1.out _).mono ?_; rintro e x1 ⟨rfl, hb1⟩; obtain ⟨hc1, hf1⟩ := bcell hb1; have hz1 := three_lt hb1) | (go_at_call 79; refine (K2.out _ (((Below.refl _ _).alloc (Nat.le_refl _) _).trans (hb1.mono (by simp)))).mono ?_; rintro e x2 ⟨rfl, hb2⟩))
    go_ret
    exact ⟨rfl, ((Below.refl _ _).alloc (Nat.le_refl _) _).trans ((hb1.mono (by simp)).trans (hb2.mono (by have := hb1.size; simp at this; omega)))⟩

end Go.Proofs.YthiknlnhdjoipaaGreatDoor

namespace Go.Proofs.YthiknlnhdjoipaaGreatDoor
open Go Go.RowKit
set_option linter.unusedVariables false

theorem group_dash {t : M.Txt} (hd : ((M.str t).toList == [45]) = true) : M.groupOf t = ⟨#[]⟩ := by
  have he : t = [45] := by
    rw [Lib.toList_data, beq_iff_eq] at hd
    simpa [M.str] using hd
  rw [M.groupOf, if_pos he]; rfl
theorem group_word {t : M.Txt} (hd : ((M.str t).toList == [45]) = false) : M.groupOf t = M.str t := by
  have he : t ≠ [45] := by
    rw [Lib.toList_data, beq_eq_false_iff_ne] at hd
    exact fun h => hd (by rw [h]; rfl)
  rw [M.groupOf, if_neg he]

theorem infoFrag : (Tryz.prog.info? 50).map (fun i => (i.zero, i.size, i.bytes)) = some (some (.agg #[.int .i64 0, .int .i64 0, .string ⟨#[]⟩, .slice none 0 0, .int .i64 0, .slice none 0 0]), 6, 88) := by kernel_rfl
theorem infoDef : (Tryz.prog.info? 60).map (fun i => (i.zero, i.size, i.bytes)) = some (some (.agg #[.string ⟨#[]⟩, .int .i64 0, .int .i64 0, .int .i64 0, .int .i64 0, .int .i64 0]), 6, 56) := by kernel_rfl
theorem infoRel : (Tryz.prog.info? 57).map (fun i => (i.zero, i.size, i.bytes)) = some (some (.agg #[.int .i64 0, .int .i64 0, .string ⟨#[]⟩, .int .i64 0, .int .i64 0]), 5, 48) := by kernel_rfl

theorem far_rows {W w5 : World} {o : Obj} {B b N : Nat} {es : List Ent} {ds : List M.Dfn} {vF vD : Value} {cs : Array Value} {t : TypeId} (hP : PM W B b es ds vF vD) (hq : W.heap[N]? = some (.cells cs t (0, 0))) (hg : (W.drew.alloc o).grownBy w5 vF.ownBlock) (hBx : ∀ k, vF.ownBlock = some k → k ≠ N) (hN : N < W.heap.size) :
    w5.heap[b]? = some (.cells #[vF, vD] 25 (0, 0)) ∧ w5.heap[N]? = some (.cells cs t (0, 0)) := by
  have hb : b < W.heap.size := (Array.getElem?_eq_some_iff.1 hP.blk).1
  have e1 : ∀ k, k < W.heap.size → (W.drew.alloc o).heap[k]? = W.heap[k]? := fun k hk => Below.heap_alloc W.drew o k hk
  refine ⟨?_, ?_⟩
  · rw [hg.block b (by simp; exact Nat.lt_succ_of_lt hb), e1 b hb]
    · exact hP.blk
    · rcases own_ne hP.rowF hP.blk (by decide) with h1 | h1
      · rw [h1]; simp
      · exact fun e => h1 e.symm
  · rw [hg.block N (by simp; exact Nat.lt_succ_of_lt hN), e1 N hN]
    · exact hq
    · exact fun e => hBx N e.symm rfl

set_option maxHeartbeats 4000000 in
set_option maxRecDepth 100000 in
theorem addFrag_zero (es : List Ent) (ds : List M.Dfn) (vF vD : Value) (w0 w1 w2 w3 w4 : M.Txt) (B b : Nat) (a : Int) (w : World) (hP : PM w B b es ds vF vD) (hG : Glob w) (h2 : w2.length ≤ 100000) (h4 : w4.length ≤ 100000) (hB : B ≤ w.heap.size) (hn : es.length ≤ 100000)
    (hk : M.find M.sectT w1 = some 5) (ha : M.num w2 = some a) (h3 : w3.length ≤ 100000) :
    Calls Tryz.prog 47 #[.pointer (some ⟨b, 0, none⟩), .agg #[.string (M.str w0), .string (M.str w1), .string (M.str w2), .string (M.str w3), .string (M.str w4)]] w fun e w' => e = .returned (.bool (M.num w4).isSome) ∧ Below B w w' ∧
      ∃ v', PM w' B b (es ++ [⟨⟨5, a, M.groupOf w3, [], (M.num w4).getD 0, []⟩, .slice none 0 0, .slice none 0 0⟩]) ds v' vD := by
  obtain ⟨i0, hi, hz0, hz1, hz2⟩ := info_parts infoFrag
  have K1 : Hid (∀ W, Calls Tryz.prog 78 #[.agg #[.string (M.str (M.sectT.getD 0 [])), .string (M.str (M.sectT.getD 1 [])), .string (M.str (M.sectT.getD 2 [])), .string (M.str (M.sectT.getD 3 [])), .string (M.str (M.sectT.getD 4 [])), .string (M.str (M.sectT.getD 5 []))], .string (M.str w1)] W fun e w' =>
      e = .returned (.tuple #[.int .i64 5, .bool true]) ∧ Below W.heap.size W w') := fun W => by
    have := findS_any w1 W
    rwa [hk] at this
  have K2 : Hid (∀ W, Below w.heap.size w W → Calls Tryz.prog 79 #[.string (M.str w2)] W fun e w' => e = .returned (.tuple #[.int .i64 a, .bool true]) ∧ Below W.heap.size W w') := fun W hW => by
    have := numT_any w2 h2 W (hG.later hW)
    rwa [ha] at this
  have K3 : Hid (∀ W, Below w.heap.size w W → Calls Tryz.prog 79 #[.string (M.str w4)] W fun e w' => e = .returned (.tuple #[.int .i64 ((M.num w4).getD 0), .bool (M.num w4).isSome]) ∧ Below W.heap.size W w') := fun W hW => numT_any w4 h4 W (hG.later hW)
  have g0 := hG.sects 0 (by decide)
  have g1 := hG.sects 1 (by decide)
  have g2 := hG.sects 2 (by decide)
  have g3 := hG.sects 3 (by decide)
  have g4 := hG.sects 4 (by decide)
  have g5 := hG.sects 5 (by decide)
  have hg16 := hG.size
  have hg0 : 0 < w.heap.size := by omega
  have hnb : (M.num w4).isSome = (M.num w4).isSome := rfl
  generalize (M.num w4).isSome = nb at *
  generalize (M.num w4).getD 0 = nk at *
  generalize M.str (M.sectT.getD 0 []) = t0 at *
  generalize M.str (M.sectT.getD 1 []) = t1 at *
  generalize M.str (M.sectT.getD 2 []) = t2 at *
  generalize M.str (M.sectT.getD 3 []) = t3 at *
  generalize M.str (M.sectT.getD 4 []) = t4 at *
  generalize M.str (M.sectT.getD 5 []) = t5 at *
  clear hk ha hnb
  go_enter Tryz.func47, Tryz.ntmps47
  go_wp2_with (first | (go_at_call 78; refine (K1.out _).mono ?_; rintro e x1 ⟨rfl, hb1⟩; obtain ⟨hc1, hf1⟩ := bcell hb1; have hz1 := three_lt hb1; have HX1 : Hid (Below w.heap.size w x1) := ((Below.refl _ _).alloc (Nat.le_refl _) _).trans (hb1.mono (by simp)); have y0 : x1.heap[w.heap.size]? = some (.cells #[.string (M.str w0), .string (M.str w1), .string (M.str w2), .string (M.str w3), .string (M.str w4)] 91 (0, 0)) := (hb1.block _ (by simp)).trans (heap_alloc_new _ _); have z2 := cellB y0 2; simp only [List.getElem?_toArray, List.getElem?_cons_zero, List.getElem?_cons_succ] at z2; clear hc1 hf1 hz1 hb1) | (go_at_call 79; refine (K2.out _ HX1.out).mono ?_; rintro e x2 ⟨rfl, hb2⟩; refine Hid.out ?_))
  have HX2 : Hid (Below w.heap.size w x2) := HX1.out.trans (hb2.mono HX1.out.size)
  have hP2 := hP.later HX2.out
  have hlt1 : w.heap.size < x1.heap.size := (Array.getElem?_eq_some_iff.1 y0).1
  have y2 := (hb2.block _ hlt1).trans y0
  have z3 := cellB y2 3
  have z4 := cellB y2 4
  simp only [List.getElem?_toArray, List.getElem?_cons_zero, List.getElem?_cons_succ] at z3 z4
  have hlt2 : w.heap.size < x2.heap.size := (Array.getElem?_eq_some_iff.1 y2).1
  clear hb2 y0 z2 HX1 K1 K2 g0 g1 g2 g3 g4 g5 hg16 hg0 hP hlt1 y2
  refine Lib.hid ?_
  cases hd : ((M.str w3).toList == [45])
  ·
    have HG : Hid (M.groupOf w3 = M.str w3) := group_word hd
    have hgs : ((M.str w3) : ByteArray).size ≤ maxLen := by rw [str_size]; unfold maxLen; omega
    have HBx : Hid (Below x2.heap.size x2 (x2.alloc (.cells #[.int .i64 5, .int .i64 a, .string (M.str w3), .slice none 0 0, .int .i64 0, .slice none 0 0] 50))) := (Below.refl _ _).alloc (Nat.le_refl _) _
    go_wp2_with (go_at_call 79; refine (K3.out _ (HX2.out.trans (HBx.out.mono HX2.out.size))).mono ?_; rintro e x3 ⟨rfl, hb3⟩; refine Hid.out ?_)
    have q3 : x3.heap[x2.heap.size]? = some (.cells #[.int .i64 5, .int .i64 a, .string (M.str w3), .slice none 0 0, .int .i64 0, .slice none 0 0] 50 (0, 0)) := by
      rw [hb3.block _ (by simp)]
      exact heap_alloc_new _ _
    have HB3 : Hid (Below x2.heap.size x2 x3) := HBx.out.trans (hb3.mono (by simp))
    have c4 := cellB q3 4
    have f4 := frozenB q3 4
    simp only [List.getElem?_toArray, List.getElem?_cons_zero, List.getElem?_cons_succ] at c4
    clear hb3
    refine Lib.hid ?_
    go_wp2_with fail
    have q4 : (x3.setCell ⟨x2.heap.size, 4, none⟩ (.int .i64 nk)).heap[x2.heap.size]? = some (.cells #[.int .i64 5, .int .i64 a, .string (M.str w3), .slice none 0 0, .int .i64 nk, .slice none 0 0] 50 (0, 0)) := setB' q3 _
    have HB4 : Hid (Below x2.heap.size x2 (x3.setCell ⟨x2.heap.size, 4, none⟩ (.int .i64 nk))) := HB3.out.setCell (Nat.le_refl _) _
    generalize (x3.setCell ⟨x2.heap.size, 4, none⟩ (.int .i64 nk)) = W at *
    have hP4 := hP2.later HB4.out
    have hBx : ∀ k, vF.ownBlock = some k → k ≠ x2.heap.size := fun k hk => by have := (hP2.rowF.lt k hk).2; omega
    have c0 : W.cell? ⟨b, 0, none⟩ = some vF := cellB hP4.blk 0
    have k0 : W.cell? ⟨x2.heap.size, 0, none⟩ = some (.int .i64 5) := cellB q4 0
    have k1 : W.cell? ⟨x2.heap.size, 1, none⟩ = some (.int .i64 a) := cellB q4 1
    have k2 : W.cell? ⟨x2.heap.size, 2, none⟩ = some (.string (M.str w3)) := cellB q4 2
    have k3 : W.cell? ⟨x2.heap.size, 3, none⟩ = some (.slice none 0 0) := cellB q4 3
    have k4 : W.cell? ⟨x2.heap.size, 4, none⟩ = some (.int .i64 nk) := cellB q4 4
    have k5 : W.cell? ⟨x2.heap.size, 5, none⟩ = some (.slice none 0 0) := cellB q4 5
    have hbW : b < W.heap.size := (Array.getElem?_eq_some_iff.1 hP4.blk).1
    have hNW : x2.heap.size < W.heap.size := (Array.getElem?_eq_some_iff.1 q4).1
    have hBW : B ≤ W.heap.size := by have := HX2.out.size; omega
    clear c4 f4 q3 HB3 HBx
    have hfz : W.frozen? ⟨b, 0, none⟩ = false := frozenB hP4.blk 0
    have hownW : ∀ o, (W.drew.alloc o).ownsRow B 50 6 vF es.length (es.flatMap entCells) := fun o => World.ownsRow.alloc (w := W.drew) (show W.drew.ownsRow B 50 6 vF es.length (es.flatMap entCells) from hP4.rowF) o
    have hnews : ∀ j u, (#[.int .i64 5, .int .i64 a, .string (M.str w3), .slice none 0 0, .int .i64 nk, .slice none 0 0] : Array Value).toList[j]? = some u → (W.drew.alloc (.cells #[.int .i64 5, .int .i64 a, .string (M.str w3), .slice none 0 0, .int .i64 nk, .slice none 0 0] 50)).cell? ((⟨W.heap.size, 0, none⟩ : Addr).add j) = some u := World.news_of_block (heap_alloc_new W.drew _)
    have HF : Hid (∀ w5 o, (W.drew.alloc o).grownBy w5 vF.ownBlock → w5.heap[b]? = some (.cells #[vF, vD] 25 (0, 0)) ∧ w5.heap[x2.heap.size]? = some (.cells #[.int .i64 5, .int .i64 a, .string (M.str w3), .slice none 0 0, .int .i64 nk, .slice none 0 0] 50 (0, 0))) := fun w5 o hg => far_rows hP4 q4 hg hBx hNW
    go_region_law ((refine step_append_lies _ (by rfl) _ _ _ (by rfl) B 50 i0 (.agg #[.int .i64 0, .int .i64 0, .string ⟨#[]⟩, .slice none 0 0, .int .i64 0, .slice none 0 0]) 6 88 Tryz.underlying22 hi hz0 hz1 hz2 rfl (by decide) vF es.length (es.flatMap entCells) (by rfl) (hownW _) ⟨W.heap.size, 0, none⟩ 1 1 #[.int .i64 5, .int .i64 a, .string (M.str w3), .slice none 0 0, .int .i64 nk, .slice none 0 0].toList (by rfl) (by rfl) hnews (fun u hu => by simp at hu; rcases hu with rfl | rfl | rfl | rfl | rfl | rfl <;> rfl) (by omega) (by unfold maxLen; omega) (by omega) (by simp; omega) (W.heap.size + 1) (by simp) ?_; intro g cap w5 hown5 hgrow5 hat5 hlt5; have hn5 := HF.out _ _ hgrow5; have hfz5 := frozenB hn5.1 0; have hcb5 : w5.cell? ⟨b, 0, none⟩ = some vF := cellB hn5.1 0))
    all_goals
      clear hcb5 hfz5 hn5 k0 k1 k2 k3 k4 k5 c0 hfz
      go_wp2
      go_ret
      have HD : Below W.heap.size W (W.drew.alloc (.cells #[.int .i64 5, .int .i64 a, .string (M.str w3), .slice none 0 0, .int .i64 nk, .slice none 0 0] 50)) := (Below.refl _ _).drew.alloc (Nat.le_refl _) _
      refine ⟨rfl, ?_, _, (hP4.later HD).addFrag ⟨5, a, M.groupOf w3, [], nk, []⟩ (.slice none 0 0) hgrow5 (by rw [HG.out]; exact hown5) (World.ownsRow_nil _ _ _ _) ⟨(fun b hb => by simp at hb), (by rw [HG.out]; exact hgs)⟩ rfl⟩
      refine Below.setCell ?_ hP4.le _
      exact (((HX2.out.mono hB).trans (HB4.out.mono (by have := HX2.out.size; omega))).trans (HD.mono hBW)).grown hgrow5 (by simp; omega) (fun k hk => (hP4.rowF.lt k hk).1)
  ·
    have HG : Hid (M.groupOf w3 = ⟨#[]⟩) := group_dash hd
    have hgs : (⟨#[]⟩ : ByteArray).size ≤ maxLen := by unfold maxLen; decide
    have HBx : Hid (Below x2.heap.size x2 (x2.alloc (.cells #[.int .i64 5, .int .i64 a, .string ⟨#[]⟩, .slice none 0 0, .int .i64 0, .slice none 0 0] 50))) := (Below.refl _ _).alloc (Nat.le_refl _) _
    go_wp2_with (go_at_call 79; refine (K3.out _ (HX2.out.trans (HBx.out.mono HX2.out.size))).mono ?_; rintro e x3 ⟨rfl, hb3⟩; refine Hid.out ?_)
    have q3 : x3.heap[x2.heap.size]? = some (.cells #[.int .i64 5, .int .i64 a, .string ⟨#[]⟩, .slice none 0 0, .int .i64 0, .slice none 0 0] 50 (0, 0)) := by
      rw [hb3.block _ (by simp)]
      exact heap_alloc_new _ _
    have HB3 : Hid (Below x2.heap.size x2 x3) := HBx.out.trans (hb3.mono (by simp))
    have c4 := cellB q3 4
    have f4 := frozenB q3 4
    simp only [List.getElem?_toArray, List.getElem?_cons_zero, List.getElem?_cons_succ] at c4
    clear hb3
    refine Lib.hid ?_
    go_wp2_with fail
    have q4 : (x3.setCell ⟨x2.heap.size, 4, none⟩ (.int .i64 nk)).heap[x2.heap.size]? = some (.cells #[.int .i64 5, .int .i64 a, .string ⟨#[]⟩, .slice none 0 0, .int .i64 nk, .slice none 0 0] 50 (0, 0)) := setB' q3 _
    have HB4 : Hid (Below x2.heap.size x2 (x3.setCell ⟨x2.heap.size, 4, none⟩ (.int .i64 nk))) := HB3.out.setCell (Nat.le_refl _) _
    generalize (x3.setCell ⟨x2.heap.size, 4, none⟩ (.int .i64 nk)) = W at *
    have hP4 := hP2.later HB4.out
    have hBx : ∀ k, vF.ownBlock = some k → k ≠ x2.heap.size := fun k hk => by have := (hP2.rowF.lt k hk).2; omega
    have c0 : W.cell? ⟨b, 0, none⟩ = some vF := cellB hP4.blk 0
    have k0 : W.cell? ⟨x2.heap.size, 0, none⟩ = some (.int .i64 5) := cellB q4 0
    have k1 : W.cell? ⟨x2.heap.size, 1, none⟩ = some (.int .i64 a) := cellB q4 1
    have k2 : W.cell? ⟨x2.heap.size, 2, none⟩ = some (.string ⟨#[]⟩) := cellB q4 2
    have k3 : W.cell? ⟨x2.heap.size, 3, none⟩ = some (.slice none 0 0) := cellB q4 3
    have k4 : W.cell? ⟨x2.heap.size, 4, none⟩ = some (.int .i64 nk) := cellB q4 4
    have k5 : W.cell? ⟨x2.heap.size, 5, none⟩ = some (.slice none 0 0) := cellB q4 5
    have hbW : b < W.heap.size := (Array.getElem?_eq_some_iff.1 hP4.blk).1
    have hNW : x2.heap.size < W.heap.size := (Array.getElem?_eq_some_iff.1 q4).1
    have hBW : B ≤ W.heap.size := by have := HX2.out.size; omega
    clear c4 f4 q3 HB3 HBx
    have hfz : W.frozen? ⟨b, 0, none⟩ = false := frozenB hP4.blk 0
    have hownW : ∀ o, (W.drew.alloc o).ownsRow B 50 6 vF es.length (es.flatMap entCells) := fun o => World.ownsRow.alloc (w := W.drew) (show W.drew.ownsRow B 50 6 vF es.length (es.flatMap entCells) from hP4.rowF) o
    have hnews : ∀ j u, (#[.int .i64 5, .int .i64 a, .string ⟨#[]⟩, .slice none 0 0, .int .i64 nk, .slice none 0 0] : Array Value).toList[j]? = some u → (W.drew.alloc (.cells #[.int .i64 5, .int .i64 a, .string ⟨#[]⟩, .slice none 0 0, .int .i64 nk, .slice none 0 0] 50)).cell? ((⟨W.heap.size, 0, none⟩ : Addr).add j) = some u := World.news_of_block (heap_alloc_new W.drew _)
    have HF : Hid (∀ w5 o, (W.drew.alloc o).grownBy w5 vF.ownBlock → w5.heap[b]? = some (.cells #[vF, vD] 25 (0, 0)) ∧ w5.heap[x2.heap.size]? = some (.cells #[.int .i64 5, .int .i64 a, .string ⟨#[]⟩, .slice none 0 0, .int .i64 nk, .slice none 0 0] 50 (0, 0))) := fun w5 o hg => far_rows hP4 q4 hg hBx hNW
    go_region_law ((refine step_append_lies _ (by rfl) _ _ _ (by rfl) B 50 i0 (.agg #[.int .i64 0, .int .i64 0, .string ⟨#[]⟩, .slice none 0 0, .int .i64 0, .slice none 0 0]) 6 88 Tryz.underlying22 hi hz0 hz1 hz2 rfl (by decide) vF es.length (es.flatMap entCells) (by rfl) (hownW _) ⟨W.heap.size, 0, none⟩ 1 1 #[.int .i64 5, .int .i64 a, .string ⟨#[]⟩, .slice none 0 0, .int .i64 nk, .slice none 0 0].toList (by rfl) (by rfl) hnews (fun u hu => by simp at hu; rcases hu with rfl | rfl | rfl | rfl | rfl | rfl <;> rfl) (by omega) (by unfold maxLen; omega) (by omega) (by simp; omega) (W.heap.size + 1) (by simp) ?_; intro g cap w5 hown5 hgrow5 hat5 hlt5; have hn5 := HF.out _ _ hgrow5; have hfz5 := frozenB hn5.1 0; have hcb5 : w5.cell? ⟨b, 0, none⟩ = some vF := cellB hn5.1 0))
    all_goals
      clear hcb5 hfz5 hn5 k0 k1 k2 k3 k4 k5 c0 hfz
      go_wp2
      go_ret
      have HD : Below W.heap.size W (W.drew.alloc (.cells #[.int .i64 5, .int .i64 a, .string ⟨#[]⟩, .slice none 0 0, .int .i64 nk, .slice none 0 0] 50)) := (Below.refl _ _).drew.alloc (Nat.le_refl _) _
      refine ⟨rfl, ?_, _, (hP4.later HD).addFrag ⟨5, a, M.groupOf w3, [], nk, []⟩ (.slice none 0 0) hgrow5 (by rw [HG.out]; exact hown5) (World.ownsRow_nil _ _ _ _) ⟨(fun b hb => by simp at hb), (by rw [HG.out]; exact hgs)⟩ rfl⟩
      refine Below.setCell ?_ hP4.le _
      exact (((HX2.out.mono hB).trans (HB4.out.mono (by have := HX2.out.size; omega))).trans (HD.mono hBW)).grown hgrow5 (by simp; omega) (fun k hk => (hP4.rowF.lt k hk).1)

end Go.Proofs.YthiknlnhdjoipaaGreatDoor

namespace Go.Proofs.YthiknlnhdjoipaaGreatDoor
open Go Go.RowKit
set_option linter.unusedVariables false

theorem bytesOf_small {t : M.Txt} {bs : List Int} (h : M.bytesOf t = some bs) : ∀ b ∈ bs, 0 ≤ b ∧ b < 256 := by
  unfold M.bytesOf at h
  split at h
  · cases h; simp
  · exact (hex_pairs t bs h).2

theorem row_base {w : World} {B B' k n : Nat} {e : TypeId} {v : Value} {xs : List Value} (h : w.ownsRow B' e k v n xs) (hB : B ≤ B') : w.ownsRow B e k v n xs := by
  refine ⟨h.1, ?_⟩
  rcases h.2 with h1 | ⟨g, cap, cur, h1, h2, h3⟩
  · exact .inl h1
  · exact .inr ⟨g, cap, cur, h1, by omega, h3⟩

set_option maxHeartbeats 4000000 in
set_option maxRecDepth 100000 in
theorem addFrag_bytes (es : List Ent) (ds : List M.Dfn) (vF vD : Value) (w0 w1 w2 w3 w4 : M.Txt) (B b k : Nat) (a : Int) (w : World) (hP : PM w B b es ds vF vD) (hG : Glob w) (h2 : w2.length ≤ 100000) (h4 : w4.length ≤ 100000) (hB : B ≤ w.heap.size) (hn : es.length ≤ 100000)
    (hk : M.find M.sectT w1 = some k) (hk5 : ((k : Int) == 5) = false) (ha : M.num w2 = some a) (h3 : w3.length ≤ 100000) :
    Calls Tryz.prog 47 #[.pointer (some ⟨b, 0, none⟩), .agg #[.string (M.str w0), .string (M.str w1), .string (M.str w2), .string (M.str w3), .string (M.str w4)]] w fun e w' => e = .returned (.bool (M.bytesOf w4).isSome) ∧ Below B w w' ∧ (∃ vF' vD', w'.heap[b]? = some (.cells #[vF', vD'] 25 (0, 0))) ∧
      ∀ bs, M.bytesOf w4 = some bs → ∃ bv v', PM w' B b (es ++ [⟨⟨k, a, M.groupOf w3, bs, 0, []⟩, bv, .slice none 0 0⟩]) ds v' vD := by
  obtain ⟨i0, hi, hz0, hz1, hz2⟩ := info_parts infoFrag
  have K1 : Hid (∀ W, Calls Tryz.prog 78 #[.agg #[.string (M.str (M.sectT.getD 0 [])), .string (M.str (M.sectT.getD 1 [])), .string (M.str (M.sectT.getD 2 [])), .string (M.str (M.sectT.getD 3 [])), .string (M.str (M.sectT.getD 4 [])), .string (M.str (M.sectT.getD 5 []))], .string (M.str w1)] W fun e w' =>
      e = .returned (.tuple #[.int .i64 (k : Int), .bool true]) ∧ Below W.heap.size W w') := fun W => by
    have := findS_any w1 W
    rwa [hk] at this
  have K2 : Hid (∀ W, Below w.heap.size w W → Calls Tryz.prog 79 #[.string (M.str w2)] W fun e w' => e = .returned (.tuple #[.int .i64 a, .bool true]) ∧ Below W.heap.size W w') := fun W hW => by
    have := numT_any w2 h2 W (hG.later hW)
    rwa [ha] at this
  have K3 : Hid (∀ W, Calls Tryz.prog 80 #[.string (M.str w4)] W fun e w' => Below W.heap.size W w' ∧ ∃ v, e = .returned (.tuple #[v, .bool (M.bytesOf w4).isSome]) ∧ (∃ ad nn cc, v = .slice ad nn cc) ∧ (∀ bs, M.bytesOf w4 = some bs → w'.ownsRow W.heap.size 5 1 v bs.length (bs.map (Value.int .u8)))) := fun W => pairs_any w4 h4 W
  have HSm : Hid (∀ bs, M.bytesOf w4 = some bs → ∀ b ∈ bs, 0 ≤ b ∧ b < 256) := fun bs hbs => bytesOf_small hbs
  have g0 := hG.sects 0 (by decide)
  have g1 := hG.sects 1 (by decide)
  have g2 := hG.sects 2 (by decide)
  have g3 := hG.sects 3 (by decide)
  have g4 := hG.sects 4 (by decide)
  have g5 := hG.sects 5 (by decide)
  have hg16 := hG.size
  have hg0 : 0 < w.heap.size := by omega
  generalize M.str (M.sectT.getD 0 []) = t0 at *
  generalize M.str (M.sectT.getD 1 []) = t1 at *
  generalize M.str (M.sectT.getD 2 []) = t2 at *
  generalize M.str (M.sectT.getD 3 []) = t3 at *
  generalize M.str (M.sectT.getD 4 []) = t4 at *
  generalize M.str (M.sectT.getD 5 []) = t5 at *
  clear hk ha
  go_enter Tryz.func47, Tryz.ntmps47
  go_wp2_with (first | (go_at_call 78; refine (K1.out _).mono ?_; rintro e x1 ⟨rfl, hb1⟩; obtain ⟨hc1, hf1⟩ := bcell hb1; have hz1 := three_lt hb1; have HX1 : Hid (Below w.heap.size w x1) := ((Below.refl _ _).alloc (Nat.le_refl _) _).trans (hb1.mono (by simp)); have y0 : x1.heap[w.heap.size]? = some (.cells #[.string (M.str w0), .string (M.str w1), .string (M.str w2), .string (M.str w3), .string (M.str w4)] 91 (0, 0)) := (hb1.block _ (by simp)).trans (heap_alloc_new _ _); have z2 := cellB y0 2; simp only [List.getElem?_toArray, List.getElem?_cons_zero, List.getElem?_cons_succ] at z2; clear hc1 hf1 hz1 hb1) | (go_at_call 79; refine (K2.out _ HX1.out).mono ?_; rintro e x2 ⟨rfl, hb2⟩; refine Hid.out ?_))
  have HX2 : Hid (Below w.heap.size w x2) := HX1.out.trans (hb2.mono HX1.out.size)
  have hP2 := hP.later HX2.out
  have hlt1 : w.heap.size < x1.heap.size := (Array.getElem?_eq_some_iff.1 y0).1
  have y2 := (hb2.block _ hlt1).trans y0
  have z3 := cellB y2 3
  have z4 := cellB y2 4
  simp only [List.getElem?_toArray, List.getElem?_cons_zero, List.getElem?_cons_succ] at z3 z4
  have hlt2 : w.heap.size < x2.heap.size := (Array.getElem?_eq_some_iff.1 y2).1
  clear hb2 y0 z2 HX1 K1 K2 g0 g1 g2 g3 g4 g5 hg16 hg0 hP hlt1 y2
  refine Lib.hid ?_
  cases hd : ((M.str w3).toList == [45])
  ·
    have HG : Hid (M.groupOf w3 = M.str w3) := group_word hd
    have hgs : ((M.str w3) : ByteArray).size ≤ maxLen := by rw [str_size]; unfold maxLen; omega
    have HBx : Hid (Below x2.heap.size x2 (x2.alloc (.cells #[.int .i64 k, .int .i64 a, .string (M.str w3), .slice none 0 0, .int .i64 0, .slice none 0 0] 50))) := (Below.refl _ _).alloc (Nat.le_refl _) _
    go_wp2_with (go_at_call 80; refine (K3.out _).mono ?_; rintro e x3 ⟨hb3, _, rfl, ⟨ad, nn, cc, rfl⟩, hrow3⟩; refine Hid.out ?_)
    have q3 : x3.heap[x2.heap.size]? = some (.cells #[.int .i64 k, .int .i64 a, .string (M.str w3), .slice none 0 0, .int .i64 0, .slice none 0 0] 50 (0, 0)) := by
      rw [hb3.block _ (by simp)]
      exact heap_alloc_new _ _
    have HB3 : Hid (Below x2.heap.size x2 x3) := HBx.out.trans (hb3.mono (by simp))
    have c4 := cellB q3 3
    have f4 := frozenB q3 3
    have HRow : Hid (∀ bs, M.bytesOf w4 = some bs → x3.ownsRow B 5 1 (.slice ad nn cc) bs.length (bs.map (Value.int .u8))) := fun bs hbs => row_base (hrow3 bs hbs) (by have := HX2.out.size; simp; omega)
    clear hrow3
    simp only [List.getElem?_toArray, List.getElem?_cons_zero, List.getElem?_cons_succ] at c4
    clear hb3
    refine Lib.hid ?_
    go_wp2_with fail
    have q4 : (x3.setCell ⟨x2.heap.size, 3, none⟩ (.slice ad nn cc)).heap[x2.heap.size]? = some (.cells #[.int .i64 k, .int .i64 a, .string (M.str w3), .slice ad nn cc, .int .i64 0, .slice none 0 0] 50 (0, 0)) := setB' q3 _
    have HB4 : Hid (Below x2.heap.size x2 (x3.setCell ⟨x2.heap.size, 3, none⟩ (.slice ad nn cc))) := HB3.out.setCell (Nat.le_refl _) _
    have HRow4 : Hid (∀ bs, M.bytesOf w4 = some bs → (x3.setCell ⟨x2.heap.size, 3, none⟩ (.slice ad nn cc)).ownsRow B 5 1 (.slice ad nn cc) bs.length (bs.map (Value.int .u8))) := fun bs hbs => (HRow.out bs hbs).kept (grown_set x3 _ _ _) (own_ne (HRow.out bs hbs) q3 (by decide))
    clear HRow
    generalize (x3.setCell ⟨x2.heap.size, 3, none⟩ (.slice ad nn cc)) = W at *
    have hP4 := hP2.later HB4.out
    have hBx : ∀ k, vF.ownBlock = some k → k ≠ x2.heap.size := fun k hk => by have := (hP2.rowF.lt k hk).2; omega
    have c0 : W.cell? ⟨b, 0, none⟩ = some vF := cellB hP4.blk 0
    have k0 : W.cell? ⟨x2.heap.size, 0, none⟩ = some (.int .i64 k) := cellB q4 0
    have k1 : W.cell? ⟨x2.heap.size, 1, none⟩ = some (.int .i64 a) := cellB q4 1
    have k2 : W.cell? ⟨x2.heap.size, 2, none⟩ = some (.string (M.str w3)) := cellB q4 2
    have k3 : W.cell? ⟨x2.heap.size, 3, none⟩ = some (.slice ad nn cc) := cellB q4 3
    have k4 : W.cell? ⟨x2.heap.size, 4, none⟩ = some (.int .i64 0) := cellB q4 4
    have k5 : W.cell? ⟨x2.heap.size, 5, none⟩ = some (.slice none 0 0) := cellB q4 5
    have hbW : b < W.heap.size := (Array.getElem?_eq_some_iff.1 hP4.blk).1
    have hNW : x2.heap.size < W.heap.size := (Array.getElem?_eq_some_iff.1 q4).1
    have hBW : B ≤ W.heap.size := by have := HX2.out.size; omega
    clear c4 f4 q3 HB3 HBx
    have hfz : W.frozen? ⟨b, 0, none⟩ = false := frozenB hP4.blk 0
    have hownW : ∀ o, (W.drew.alloc o).ownsRow B 50 6 vF es.length (es.flatMap entCells) := fun o => World.ownsRow.alloc (w := W.drew) (show W.drew.ownsRow B 50 6 vF es.length (es.flatMap entCells) from hP4.rowF) o
    have hnews : ∀ j u, (#[.int .i64 k, .int .i64 a, .string (M.str w3), .slice ad nn cc, .int .i64 0, .slice none 0 0] : Array Value).toList[j]? = some u → (W.drew.alloc (.cells #[.int .i64 k, .int .i64 a, .string (M.str w3), .slice ad nn cc, .int .i64 0, .slice none 0 0] 50)).cell? ((⟨W.heap.size, 0, none⟩ : Addr).add j) = some u := World.news_of_block (heap_alloc_new W.drew _)
    have HF : Hid (∀ w5 o, (W.drew.alloc o).grownBy w5 vF.ownBlock → w5.heap[b]? = some (.cells #[vF, vD] 25 (0, 0)) ∧ w5.heap[x2.heap.size]? = some (.cells #[.int .i64 k, .int .i64 a, .string (M.str w3), .slice ad nn cc, .int .i64 0, .slice none 0 0] 50 (0, 0))) := fun w5 o hg => far_rows hP4 q4 hg hBx hNW
    go_region_law ((refine step_append_lies _ (by rfl) _ _ _ (by rfl) B 50 i0 (.agg #[.int .i64 0, .int .i64 0, .string ⟨#[]⟩, .slice none 0 0, .int .i64 0, .slice none 0 0]) 6 88 Tryz.underlying22 hi hz0 hz1 hz2 rfl (by decide) vF es.length (es.flatMap entCells) (by rfl) (hownW _) ⟨W.heap.size, 0, none⟩ 1 1 #[.int .i64 k, .int .i64 a, .string (M.str w3), .slice ad nn cc, .int .i64 0, .slice none 0 0].toList (by rfl) (by rfl) hnews (fun u hu => by simp at hu; rcases hu with rfl | rfl | rfl | rfl | rfl | rfl <;> rfl) (by omega) (by unfold maxLen; omega) (by omega) (by simp; omega) (W.heap.size + 1) (by simp) ?_; intro g cap w5 hown5 hgrow5 hat5 hlt5; have hn5 := HF.out _ _ hgrow5; have hfz5 := frozenB hn5.1 0; have hcb5 : w5.cell? ⟨b, 0, none⟩ = some vF := cellB hn5.1 0))
    all_goals
      have HN5 : Hid (w5.heap[b]? = some (.cells #[vF, vD] 25 (0, 0))) := hn5.1
      clear hcb5 hfz5 hn5 k0 k1 k2 k3 k4 k5 c0 hfz
      go_wp2
      go_ret
      have HD : Below W.heap.size W (W.drew.alloc (.cells #[.int .i64 k, .int .i64 a, .string (M.str w3), .slice ad nn cc, .int .i64 0, .slice none 0 0] 50)) := (Below.refl _ _).drew.alloc (Nat.le_refl _) _
      refine ⟨rfl, ?_, ⟨_, _, setB' HN5.out _⟩, fun bs hbs => ⟨.slice ad nn cc, _, (hP4.later HD).addFrag ⟨k, a, M.groupOf w3, bs, 0, []⟩ (.slice ad nn cc) hgrow5 (by rw [HG.out]; exact hown5) ((HRow4.out bs hbs).kept (grown_of_below HD Option.none) own_self) ⟨HSm.out bs hbs, (by rw [HG.out]; exact hgs)⟩ rfl⟩⟩
      refine Below.setCell ?_ hP4.le _
      exact (((HX2.out.mono hB).trans (HB4.out.mono (by have := HX2.out.size; omega))).trans (HD.mono hBW)).grown hgrow5 (by simp; omega) (fun k hk => (hP4.rowF.lt k hk).1)
  ·
    have HG : Hid (M.groupOf w3 = ⟨#[]⟩) := group_dash hd
    have hgs : (⟨#[]⟩ : ByteArray).size ≤ maxLen := by unfold maxLen; decide
    have HBx : Hid (Below x2.heap.size x2 (x2.alloc (.cells #[.int .i64 k, .int .i64 a, .string ⟨#[]⟩, .slice none 0 0, .int .i64 0, .slice none 0 0] 50))) := (Below.refl _ _).alloc (Nat.le_refl _) _
    go_wp2_with (go_at_call 80; refine (K3.out _).mono ?_; rintro e x3 ⟨hb3, _, rfl, ⟨ad, nn, cc, rfl⟩, hrow3⟩; refine Hid.out ?_)
    have q3 : x3.heap[x2.heap.size]? = some (.cells #[.int .i64 k, .int .i64 a, .string ⟨#[]⟩, .slice none 0 0, .int .i64 0, .slice none 0 0] 50 (0, 0)) := by
      rw [hb3.block _ (by simp)]
      exact heap_alloc_new _ _
    have HB3 : Hid (Below x2.heap.size x2 x3) := HBx.out.trans (hb3.mono (by simp))
    have c4 := cellB q3 3
    have f4 := frozenB q3 3
    have HRow : Hid (∀ bs, M.bytesOf w4 = some bs → x3.ownsRow B 5 1 (.slice ad nn cc) bs.length (bs.map (Value.int .u8))) := fun bs hbs => row_base (hrow3 bs hbs) (by have := HX2.out.size; simp; omega)
    clear hrow3
    simp only [List.getElem?_toArray, List.getElem?_cons_zero, List.getElem?_cons_succ] at c4
    clear hb3
    refine Lib.hid ?_
    go_wp2_with fail
    have q4 : (x3.setCell ⟨x2.heap.size, 3, none⟩ (.slice ad nn cc)).heap[x2.heap.size]? = some (.cells #[.int .i64 k, .int .i64 a, .string ⟨#[]⟩, .slice ad nn cc, .int .i64 0, .slice none 0 0] 50 (0, 0)) := setB' q3 _
    have HB4 : Hid (Below x2.heap.size x2 (x3.setCell ⟨x2.heap.size, 3, none⟩ (.slice ad nn cc))) := HB3.out.setCell (Nat.le_refl _) _
    have HRow4 : Hid (∀ bs, M.bytesOf w4 = some bs → (x3.setCell ⟨x2.heap.size, 3, none⟩ (.slice ad nn cc)).ownsRow B 5 1 (.slice ad nn cc) bs.length (bs.map (Value.int .u8))) := fun bs hbs => (HRow.out bs hbs).kept (grown_set x3 _ _ _) (own_ne (HRow.out bs hbs) q3 (by decide))
    clear HRow
    generalize (x3.setCell ⟨x2.heap.size, 3, none⟩ (.slice ad nn cc)) = W at *
    have hP4 := hP2.later HB4.out
    have hBx : ∀ k, vF.ownBlock = some k → k ≠ x2.heap.size := fun k hk => by have := (hP2.rowF.lt k hk).2; omega
    have c0 : W.cell? ⟨b, 0, none⟩ = some vF := cellB hP4.blk 0
    have k0 : W.cell? ⟨x2.heap.size, 0, none⟩ = some (.int .i64 k) := cellB q4 0
    have k1 : W.cell? ⟨x2.heap.size, 1, none⟩ = some (.int .i64 a) := cellB q4 1
    have k2 : W.cell? ⟨x2.heap.size, 2, none⟩ = some (.string ⟨#[]⟩) := cellB q4 2
    have k3 : W.cell? ⟨x2.heap.size, 3, none⟩ = some (.slice ad nn cc) := cellB q4 3
    have k4 : W.cell? ⟨x2.heap.size, 4, none⟩ = some (.int .i64 0) := cellB q4 4
    have k5 : W.cell? ⟨x2.heap.size, 5, none⟩ = some (.slice none 0 0) := cellB q4 5
    have hbW : b < W.heap.size := (Array.getElem?_eq_some_iff.1 hP4.blk).1
    have hNW : x2.heap.size < W.heap.size := (Array.getElem?_eq_some_iff.1 q4).1
    have hBW : B ≤ W.heap.size := by have := HX2.out.size; omega
    clear c4 f4 q3 HB3 HBx
    have hfz : W.frozen? ⟨b, 0, none⟩ = false := frozenB hP4.blk 0
    have hownW : ∀ o, (W.drew.alloc o).ownsRow B 50 6 vF es.length (es.flatMap entCells) := fun o => World.ownsRow.alloc (w := W.drew) (show W.drew.ownsRow B 50 6 vF es.length (es.flatMap entCells) from hP4.rowF) o
    have hnews : ∀ j u, (#[.int .i64 k, .int .i64 a, .string ⟨#[]⟩, .slice ad nn cc, .int .i64 0, .slice none 0 0] : Array Value).toList[j]? = some u → (W.drew.alloc (.cells #[.int .i64 k, .int .i64 a, .string ⟨#[]⟩, .slice ad nn cc, .int .i64 0, .slice none 0 0] 50)).cell? ((⟨W.heap.size, 0, none⟩ : Addr).add j) = some u := World.news_of_block (heap_alloc_new W.drew _)
    have HF : Hid (∀ w5 o, (W.drew.alloc o).grownBy w5 vF.ownBlock → w5.heap[b]? = some (.cells #[vF, vD] 25 (0, 0)) ∧ w5.heap[x2.heap.size]? = some (.cells #[.int .i64 k, .int .i64 a, .string ⟨#[]⟩, .slice ad nn cc, .int .i64 0, .slice none 0 0] 50 (0, 0))) := fun w5 o hg => far_rows hP4 q4 hg hBx hNW
    go_region_law ((refine step_append_lies _ (by rfl) _ _ _ (by rfl) B 50 i0 (.agg #[.int .i64 0, .int .i64 0, .string ⟨#[]⟩, .slice none 0 0, .int .i64 0, .slice none 0 0]) 6 88 Tryz.underlying22 hi hz0 hz1 hz2 rfl (by decide) vF es.length (es.flatMap entCells) (by rfl) (hownW _) ⟨W.heap.size, 0, none⟩ 1 1 #[.int .i64 k, .int .i64 a, .string ⟨#[]⟩, .slice ad nn cc, .int .i64 0, .slice none 0 0].toList (by rfl) (by rfl) hnews (fun u hu => by simp at hu; rcases hu with rfl | rfl | rfl | rfl | rfl | rfl <;> rfl) (by omega) (by unfold maxLen; omega) (by omega) (by simp; omega) (W.heap.size + 1) (by simp) ?_; intro g cap w5 hown5 hgrow5 hat5 hlt5; have hn5 := HF.out _ _ hgrow5; have hfz5 := frozenB hn5.1 0; have hcb5 : w5.cell? ⟨b, 0, none⟩ = some vF := cellB hn5.1 0))
    all_goals
      have HN5 : Hid (w5.heap[b]? = some (.cells #[vF, vD] 25 (0, 0))) := hn5.1
      clear hcb5 hfz5 hn5 k0 k1 k2 k3 k4 k5 c0 hfz
      go_wp2
      go_ret
      have HD : Below W.heap.size W (W.drew.alloc (.cells #[.int .i64 k, .int .i64 a, .string ⟨#[]⟩, .slice ad nn cc, .int .i64 0, .slice none 0 0] 50)) := (Below.refl _ _).drew.alloc (Nat.le_refl _) _
      refine ⟨rfl, ?_, ⟨_, _, setB' HN5.out _⟩, fun bs hbs => ⟨.slice ad nn cc, _, (hP4.later HD).addFrag ⟨k, a, M.groupOf w3, bs, 0, []⟩ (.slice ad nn cc) hgrow5 (by rw [HG.out]; exact hown5) ((HRow4.out bs hbs).kept (grown_of_below HD Option.none) own_self) ⟨HSm.out bs hbs, (by rw [HG.out]; exact hgs)⟩ rfl⟩⟩
      refine Below.setCell ?_ hP4.le _
      exact (((HX2.out.mono hB).trans (HB4.out.mono (by have := HX2.out.size; omega))).trans (HD.mono hBW)).grown hgrow5 (by simp; omega) (fun k hk => (hP4.rowF.lt k hk).1)

end Go.Proofs.YthiknlnhdjoipaaGreatDoor
