/-
  What the reference's Joined has in memory: its variables, the part that grows, the fragments of the other that are still to come.
-/
import Derived.Test.YthbdfnphnppagaaDoorRefDropMem
import Derived.Test.YthbdfnphnppagaaDoorJmA
namespace Go.Proofs.YthbdfnphnppagaaDoor
open Go Go.RowKit
set_option linter.unusedVariables false

/-- the variables: the result, what grows (q6), what comes (q8) -/
structure JVars (w wr : World) (q6 q8 : Nat) (vF vD cF cD : Value) : Prop where
  b2 : wr.heap[w.heap.size + 2]? = some (.cells #[.slice none 0 0, .slice none 0 0] 25 (0, 0))
  b6 : wr.heap[q6]? = some (.cells #[vF, vD] 25 (0, 0))
  b8 : wr.heap[q8]? = some (.cells #[cF, cD] 25 (0, 0))
  below : Below w.heap.size w wr
  lo6 : w.heap.size + 2 < q6
  ne : q6 ≠ q8

theorem JVars.keep {w wr X : World} {q6 q8 : Nat} {vF vD cF cD : Value} (h : JVars w wr q6 q8 vF vD cF cD) (hk : ∀ (g : Nat) (cs : Array Value) (t : TypeId), wr.heap[g]? = some (.cells cs t (0, 0)) → t = 25 → X.heap[g]? = some (.cells cs t (0, 0))) (hb : Below w.heap.size w X) : JVars w X q6 q8 vF vD cF cD :=
  ⟨hk _ _ _ h.b2 rfl, hk _ _ _ h.b6 rfl, hk _ _ _ h.b8 rfl, hb, h.lo6, h.ne⟩

theorem JVars.later {w wr X : World} {q6 q8 : Nat} {vF vD cF cD : Value} (h : JVars w wr q6 q8 vF vD cF cD) (hb : Below wr.heap.size wr X) : JVars w X q6 q8 vF vD cF cD :=
  h.keep (fun g cs t hg _ => (hb.block _ (Array.getElem?_eq_some_iff.1 hg).1).trans hg) (h.below.trans (hb.mono h.below.size))

theorem JVars.grown {w wr X : World} {q6 q8 : Nat} {vF vD cF cD v : Value} {B k n : Nat} {e : TypeId} {xs : List Value} (h : JVars w wr q6 q8 vF vD cF cD) (ho : wr.ownsRow B e k v n xs) (hB : w.heap.size ≤ B) (hg : wr.grownBy X v.ownBlock) (h1 : e ≠ 25) : JVars w X q6 q8 vF vD cF cD :=
  h.keep (fun g cs t hq ht => block_kept ho hg hq (by rw [ht]; exact h1)) (h.below.grown hg h.below.size (fun k hk => Nat.le_trans hB (ho.lt k hk).1))

/-- a cell of a definition's variable is stored -/
theorem JVars.set_def {w wr : World} {q6 q8 : Nat} {vF vD cF cD u : Value} {b i : Nat} {cs : Array Value} (h : JVars w wr q6 q8 vF vD cF cD) (hq : wr.heap[b]? = some (.cells cs 53 (0, 0))) (hb : w.heap.size ≤ b) : JVars w (wr.setCell ⟨b, i, none⟩ u) q6 q8 vF vD cF cD :=
  h.keep (fun g cs' t hg ht => (Below.heap_setCell _ _ _ _ (fun e => by
    have e' : g = b := e
    rw [e', hq] at hg
    cases hg
    exact absurd ht (by decide))).trans hg) (h.below.setCell hb _)

/-- while the fragments of the other are gone through: es stand, rest is to come -/
structure JFr (w wr : World) (q6 q8 : Nat) (esc es rest : List Ent) (ds dc : List M.Dfn) (vF vD cF cD : Value) : Prop where
  vars : JVars w wr q6 q8 vF vD cF cD
  pr : PR wr w.heap.size es ds vF vD
  src : wr.ownsRow w.heap.size 29 6 cF esc.length (esc.flatMap entCells)
  srcD : wr.ownsRow w.heap.size 53 6 cD dc.length (dc.flatMap encDfn)
  apF : cF.ownBlock = none ∨ cF.ownBlock ≠ vF.ownBlock
  apD : cD.ownBlock = none ∨ cD.ownBlock ≠ vD.ownBlock
  come : ∀ e ∈ rest, EntAt wr w.heap.size e
  ap : (es ++ rest).Pairwise Apart
  smallC : ∀ d ∈ dc, d.name.size ≤ maxLen

section
variable {w wr X w5 : World} {q6 q8 : Nat} {esc es rest : List Ent} {ds dc : List M.Dfn} {vF vD cF cD v' : Value} {e : Ent}

theorem JFr.later (h : JFr w wr q6 q8 esc es rest ds dc vF vD cF cD) (hb : Below wr.heap.size wr X) : JFr w X q6 q8 esc es rest ds dc vF vD cF cD :=
  ⟨h.vars.later hb, h.pr.later hb, h.src.kept (grown_of_below hb none) own_self, h.srcD.kept (grown_of_below hb none) own_self, h.apF, h.apD, fun e he => (h.come e he).later hb, h.ap, h.smallC⟩

theorem JFr.setRel {g cap k : Nat} (h : JFr w wr q6 q8 esc es (e :: rest) ds dc vF vD cF cD) (hv : e.rv = .slice (some ⟨g, 0, none⟩) e.f.rels.length cap) (hk : k < e.f.rels.length) (n : Int) :
    JFr w (wr.setCell ⟨g, k * 5 + 3, none⟩ (.int .i64 n)) q6 q8 esc es (setFrag e k n :: rest) ds dc vF vD cF cD := by
  obtain ⟨hb, hr, h3, h4, h5⟩ := h.come e (by simp)
  have hown : e.rv.ownBlock = some g := by rw [hv]; rfl
  have hg : wr.grownBy (wr.setCell ⟨g, k * 5 + 3, none⟩ (.int .i64 n)) e.rv.ownBlock := by rw [hown]; exact grown_set wr g _ _
  obtain ⟨cs, hcs⟩ : ∃ cs, wr.heap[g]? = some (.cells cs 76 (0, 0)) := by
    rcases hr.2 with ⟨h1, _⟩ | ⟨g', cap', cur, h1, _, h2, _⟩
    · rw [hv] at h1; cases h1
    · rw [hv] at h1; cases h1; exact ⟨cur, h2⟩
  have keep : ∀ {B k' n' : Nat} {t : TypeId} {v : Value} {xs : List Value}, wr.ownsRow B t k' v n' xs → t ≠ 76 → (wr.setCell ⟨g, k * 5 + 3, none⟩ (.int .i64 n)).ownsRow B t k' v n' xs := fun ho ht => row_setc ho hcs ht
  have away : ∀ x : Ent, (x.rv.ownBlock = none ∨ x.rv.ownBlock ≠ e.rv.ownBlock) → wr.ownsRow w.heap.size 76 5 x.rv x.f.rels.length (x.f.rels.flatMap encRel) → (wr.setCell ⟨g, k * 5 + 3, none⟩ (.int .i64 n)).ownsRow w.heap.size 76 5 x.rv x.f.rels.length (x.f.rels.flatMap encRel) := fun x hx ho => ho.kept hg hx
  have hap := List.pairwise_append.1 h.ap
  refine ⟨h.vars.grown hr (Nat.le_refl _) hg (by decide), ?_, keep h.src (by decide), keep h.srcD (by decide), h.apF, h.apD, ?_, ?_, h.smallC⟩
  · refine ⟨keep h.pr.rowF (by decide), keep h.pr.rowD (by decide), fun x hx => keep (h.pr.bytes x hx) (by decide), h.pr.small, h.pr.smallD, fun x hx => away x ?_ (h.pr.rels x hx)⟩
    rcases hap.2.2 x hx e (by simp) with h1 | h1 | h1
    · exact .inl h1
    · rw [hown] at h1; cases h1
    · exact .inr h1
  · intro x hx
    rcases List.mem_cons.1 hx with rfl | hx
    · refine ⟨keep hb (by decide), ?_, h3, h4, ?_⟩
      · have hs := row_set (i := k * 5 + 3) (u := .int .i64 n) (show wr.ownsRow w.heap.size 76 5 (.slice (some ⟨g, 0, none⟩) e.f.rels.length cap) e.f.rels.length (e.f.rels.flatMap encRel) by rw [← hv]; exact hr) (by rw [flat_len 5 encRel (fun _ => rfl)]; omega)
        rw [flat_set _ _ hk, ← hv] at hs
        show World.ownsRow _ _ _ _ e.rv (e.f.rels.set k _).length _
        rw [List.length_set]
        exact hs
      · intro r hr'
        rcases List.mem_or_eq_of_mem_set hr' with h6 | rfl
        · exact h5 r h6
        · have := h5 _ (getD_mem e.f.rels rel0 k hk)
          exact this
    · obtain ⟨xb, xr, x3⟩ := h.come x (List.mem_cons_of_mem _ hx)
      refine ⟨keep xb (by decide), away x ?_ xr, x3⟩
      rcases (List.pairwise_cons.1 hap.2.1).1 x hx with h1 | h1 | h1
      · rw [hown] at h1; cases h1
      · exact .inl h1
      · exact .inr (fun e' => h1 e'.symm)
  · refine List.pairwise_append.2 ⟨hap.1, ?_, fun a ha b hb' => ?_⟩
    · exact List.pairwise_cons.2 ⟨(List.pairwise_cons.1 hap.2.1).1, (List.pairwise_cons.1 hap.2.1).2⟩
    · rcases List.mem_cons.1 hb' with rfl | hb'
      · exact hap.2.2 a ha e (by simp)
      · exact hap.2.2 a ha b (List.mem_cons_of_mem _ hb')

/-- a row that has grown lies apart from one that lay apart -/
theorem ap_grown {B k n : Nat} {t : TypeId} {xs : List Value} {v : Value} (hs : X.ownsRow B t k cF n xs) (ha : cF.ownBlock = none ∨ cF.ownBlock ≠ v.ownBlock) (hat : v'.ownBlock = v.ownBlock ∨ v'.ownBlock = some X.heap.size) : cF.ownBlock = none ∨ cF.ownBlock ≠ v'.ownBlock := by
  rcases hat with h1 | h1
  · rw [h1]; exact ha
  · cases hc : cF.ownBlock with
    | none => exact .inl rfl
    | some g =>
      right
      rw [h1]
      intro he
      cases he
      have := (hs.lt _ hc).2
      omega

/-- the fragment at hand is appended -/
theorem JFr.add (h : JFr w X q6 q8 esc es (e :: rest) ds dc vF vD cF cD) (hg : X.grownBy w5 vF.ownBlock)
    (hrow : w5.ownsRow w.heap.size 29 6 v' (es.length + 1) (es.flatMap entCells ++ entCells e)) (hat : v'.ownBlock = vF.ownBlock ∨ v'.ownBlock = some X.heap.size) :
    JFr w (w5.setCell ⟨q6, 0, none⟩ v') q6 q8 esc (es ++ [e]) rest ds dc v' vD cF cD := by
  obtain ⟨hb, hr, h3⟩ := h.come e (by simp)
  have hV := h.vars.grown h.pr.rowF (Nat.le_refl _) hg (by decide)
  have hlo := h.vars.lo6
  have hne := h.vars.ne
  have hsrc := h.src.kept hg h.apF
  have hsrcD := h.srcD.kept hg (own_apart h.srcD h.pr.rowF (by decide))
  have hpr : PR w5 w.heap.size (es ++ [e]) ds v' vD := h.pr.growF hg (by simpa using hrow) (fun x hx => by rw [List.mem_singleton.1 hx]; exact hb) (fun x hx => by rw [List.mem_singleton.1 hx]; exact hr) (fun x hx => by rw [List.mem_singleton.1 hx]; exact h3)
  refine ⟨⟨(Below.heap_setCell _ _ _ _ (by show w.heap.size + 2 ≠ q6; omega)).trans hV.b2, setB' hV.b6 v', (Below.heap_setCell _ _ _ _ (by show q8 ≠ q6; exact fun e => hne e.symm)).trans hV.b8, hV.below.setCell (by show w.heap.size ≤ q6; omega) _, hlo, hne⟩, hpr.set hV.b6, row_setc hsrc hV.b6 (by decide), row_setc hsrcD hV.b6 (by decide), ap_grown h.src h.apF hat, h.apD, ?_, ?_, h.smallC⟩
  · intro x hx
    obtain ⟨xb, xr, x3⟩ := h.come x (List.mem_cons_of_mem _ hx)
    exact ⟨row_setc (xb.kept hg (own_apart xb h.pr.rowF (by decide))) hV.b6 (by decide), row_setc (xr.kept hg (own_apart xr h.pr.rowF (by decide))) hV.b6 (by decide), x3⟩
  · rw [List.append_assoc]
    exact h.ap

/-- a definition is appended -/
theorem JFr.addD {d : M.Dfn} (h : JFr w X q6 q8 esc es [] ds dc vF vD cF cD) (hg : X.grownBy w5 vD.ownBlock)
    (hrow : w5.ownsRow w.heap.size 53 6 v' (ds.length + 1) (ds.flatMap encDfn ++ encDfn d)) (hat : v'.ownBlock = vD.ownBlock ∨ v'.ownBlock = some X.heap.size) (hs : d.name.size ≤ maxLen) :
    JFr w (w5.setCell ⟨q6, 1, none⟩ v') q6 q8 esc es [] (ds ++ [d]) dc vF v' cF cD := by
  have hV := h.vars.grown h.pr.rowD (Nat.le_refl _) hg (by decide)
  have hlo := h.vars.lo6
  have hne := h.vars.ne
  have hsrcD := h.srcD.kept hg h.apD
  have hsrc := h.src.kept hg (own_apart h.src h.pr.rowD (by decide))
  have hpr : PR w5 w.heap.size es (ds ++ [d]) vF v' := h.pr.growD hg (by simpa using hrow) (fun x hx => by rw [List.mem_singleton.1 hx]; exact hs)
  exact ⟨⟨(Below.heap_setCell _ _ _ _ (by show w.heap.size + 2 ≠ q6; omega)).trans hV.b2, setB' hV.b6 v', (Below.heap_setCell _ _ _ _ (by show q8 ≠ q6; exact fun e => hne e.symm)).trans hV.b8, hV.below.setCell (by show w.heap.size ≤ q6; omega) _, hlo, hne⟩, hpr.set hV.b6, row_setc hsrc hV.b6 (by decide), row_setc hsrcD hV.b6 (by decide), h.apF, ap_grown h.srcD h.apD hat, (fun x hx => by cases hx), h.ap, h.smallC⟩

/-- a cell of a definition's variable is stored -/
theorem JFr.set_def {b i : Nat} {u : Value} {cs : Array Value} (h : JFr w wr q6 q8 esc es [] ds dc vF vD cF cD) (hq : wr.heap[b]? = some (.cells cs 53 (0, 0))) (hb : w.heap.size ≤ b) (h1 : ∀ g, vD.ownBlock = some g → g < b) (h2 : ∀ g, cD.ownBlock = some g → g < b) :
    JFr w (wr.setCell ⟨b, i, none⟩ u) q6 q8 esc es [] ds dc vF vD cF cD := by
  refine ⟨h.vars.set_def hq hb, h.pr.set_def hq h1, row_setc h.src hq (by decide), ?_, h.apF, h.apD, (fun x hx => by cases hx), h.ap, h.smallC⟩
  refine h.srcD.kept (grown_set wr b i u) ?_
  cases hv : cD.ownBlock with
  | none => exact .inl rfl
  | some g =>
    right
    intro he
    cases he
    have := h2 b hv
    omega

/-- what grows, and what comes, as they are at first -/
theorem JFr.first {N : Nat} {eC : List Ent} (hV : JVars w wr q6 q8 vF vD cF cD) (hP : PR wr w.heap.size es ds vF vD) (hC : PR wr N eC dc cF cD) (hN : w.heap.size ≤ N) (hes : ∀ g, vF.ownBlock = some g → g < N) (hds : ∀ g, vD.ownBlock = some g → g < N) (hrs : ∀ e ∈ es, ∀ g, e.rv.ownBlock = some g → g < N) (h1 : es.Pairwise Apart) (h2 : eC.Pairwise Apart) :
    JFr w wr q6 q8 eC es eC ds dc vF vD cF cD := by
  have hC0 := hC.base hN
  have apart : ∀ {k n : Nat} {t : TypeId} {u v : Value} {xs : List Value}, wr.ownsRow N t k u n xs → (∀ g, v.ownBlock = some g → g < N) → u.ownBlock = none ∨ u.ownBlock ≠ v.ownBlock := fun {k n t u v xs} ho hv => by
    cases hu : u.ownBlock with
    | none => exact .inl rfl
    | some g =>
      right
      intro he
      have a1 := (ho.lt g hu).1
      have a2 := hv g he.symm
      omega
  refine ⟨hV, hP, hC0.rowF, hC0.rowD, apart hC.rowF hes, apart hC.rowD hds, fun e he => ⟨hC0.bytes e he, hC0.rels e he, hC.small e he⟩, List.pairwise_append.2 ⟨h1, h2, fun a ha b hb => ?_⟩, hC.smallD⟩
  rcases apart (hC.rels b hb) (hrs a ha) with h3 | h3
  · exact .inr (.inl h3)
  · exact .inr (.inr fun e => h3 e.symm)
end

/-- the fragment while its places are gone through -/
def shE (n : Int) (e : Ent) (k : Nat) : Ent := { e with f := { e.f with rels := (e.f.rels.take k).map (M.shiftRel n) ++ e.f.rels.drop k } }

theorem sh_len (n : Int) (e : Ent) (k : Nat) (hk : k ≤ e.f.rels.length) : (shE n e k).f.rels.length = e.f.rels.length := by
  simp only [shE, List.length_append, List.length_map, List.length_take, List.length_drop]; omega
theorem sh_zero (n : Int) (e : Ent) : shE n e 0 = e := by simp [shE]
theorem sh_get (n : Int) (e : Ent) (k : Nat) (hk : k < e.f.rels.length) : (shE n e k).f.rels.getD k rel0 = e.f.rels.getD k rel0 := by
  have hl : ((e.f.rels.take k).map (M.shiftRel n)).length = k := by simp; omega
  simp only [shE, List.getD_eq_getElem?_getD]
  rw [List.getElem?_append_right (by omega), hl, Nat.sub_self, List.getElem?_drop, Nat.add_zero]
theorem sh_set (n : Int) (e : Ent) (k : Nat) (hk : k < e.f.rels.length) (hb : (M.bare (e.f.rels.getD k rel0).name && !((e.f.rels.getD k rel0).frag == -1)) = true) : setFrag (shE n e k) k ((e.f.rels.getD k rel0).frag + n) = shE n e (k + 1) := by
  have h := set_mid (M.shiftRel n) e.f.rels k _ (getElem?_getD e.f.rels rel0 k hk)
  have hm : M.shiftRel n (e.f.rels.getD k rel0) = { (e.f.rels.getD k rel0) with frag := (e.f.rels.getD k rel0).frag + n } := by unfold M.shiftRel; rw [hb]; rfl
  unfold setFrag
  rw [sh_get n e k hk, ← hm]
  show ({ f := { sect := _, align := _, group := _, bytes := _, size := _, rels := ((e.f.rels.take k).map (M.shiftRel n) ++ e.f.rels.drop k).set k _ }, bv := _, rv := _ } : Ent) = _
  rw [h]
  rfl
theorem sh_same (n : Int) (e : Ent) (k : Nat) (hk : k < e.f.rels.length) (hb : (M.bare (e.f.rels.getD k rel0).name && !((e.f.rels.getD k rel0).frag == -1)) = false) : shE n e (k + 1) = shE n e k := by
  have hm : M.shiftRel n (e.f.rels.getD k rel0) = e.f.rels.getD k rel0 := by unfold M.shiftRel; rw [hb]; rfl
  have e1 : (e.f.rels.take (k + 1)).map (M.shiftRel n) ++ e.f.rels.drop (k + 1) = (e.f.rels.take k).map (M.shiftRel n) ++ e.f.rels.drop k := by
    rw [drop_getD e.f.rels rel0 k hk, List.take_succ_eq_append_getElem hk, List.map_append]
    rw [List.getD_eq_getElem?_getD, List.getElem?_eq_getElem hk] at hm ⊢
    simp only [Option.getD_some] at hm ⊢
    simp [hm]
  unfold shE
  rw [e1]
theorem sh_all (n : Int) (e : Ent) : (shE n e e.f.rels.length).f = M.shiftFrg n e.f := by
  unfold shE M.shiftFrg
  simp only [List.take_length, List.drop_length, List.append_nil]

theorem map_take_succ {α β : Type} (f : α → β) (d : α) (xs : List α) (k : Nat) (h : k < xs.length) : (xs.take (k + 1)).map f = (xs.take k).map f ++ [f (xs.getD k d)] := by
  rw [List.take_succ_eq_append_getElem h, List.map_append, List.getD_eq_getElem?_getD, List.getElem?_eq_getElem h]
  rfl

/-- ahead of the other part: what grows lies there -/
structure J0 (w X : World) (q6 : Nat) (es : List Ent) (ds : List M.Dfn) (vF vD : Value) : Prop where
  b2 : X.heap[w.heap.size + 2]? = some (.cells #[.slice none 0 0, .slice none 0 0] 25 (0, 0))
  b6 : X.heap[q6]? = some (.cells #[vF, vD] 25 (0, 0))
  below : Below w.heap.size w X
  lo6 : w.heap.size + 2 < q6
  pr : PR X w.heap.size es ds vF vD
  ap : es.Pairwise Apart

theorem j_new {w X w2 : World} {q6 N : Nat} {es eC : List Ent} {ds dc : List M.Dfn} {vF vD cF cD : Value} (h : J0 w X q6 es ds vF vD) (hX : Below X.heap.size X w2) (hP : PR w2 N eC dc cF cD) (hN : X.heap.size ≤ N) (hap : eC.Pairwise Apart) :
    JFr w (w2.alloc (.cells #[cF, cD] 25)) q6 w2.heap.size eC es eC ds dc vF vD cF cD := by
  have hb : Below w2.heap.size w2 (w2.alloc (.cells #[cF, cD] 25)) := (Below.refl _ _).alloc (Nat.le_refl _) _
  have hXY := hX.trans (hb.mono hX.size)
  have l2 := (Array.getElem?_eq_some_iff.1 h.b2).1
  have l6 := (Array.getElem?_eq_some_iff.1 h.b6).1
  have hz := hX.size
  have hw := h.below.size
  refine JFr.first (N := N) ⟨(hXY.block _ l2).trans h.b2, (hXY.block _ l6).trans h.b6, heap_alloc_new _ _, h.below.trans (hXY.mono hw), h.lo6, by omega⟩ (h.pr.later hXY) (hP.later hb) (by omega) (fun g hg => ?_) (fun g hg => ?_) (fun e he g hg => ?_) h.ap hap
  · have := (h.pr.rowF.lt g hg).2; omega
  · have := (h.pr.rowD.lt g hg).2; omega
  · have := ((h.pr.rels e he).lt g hg).2; omega

theorem j_set {w X w2 : World} {q6 q N : Nat} {es eC : List Ent} {ds dc : List M.Dfn} {vF vD cF cD : Value} (h : J0 w X q6 es ds vF vD) (hX : Below X.heap.size X w2) (hq : w2.heap[q]? = some (.cells #[.slice none 0 0, .slice none 0 0] 25 (0, 0))) (hXq : X.heap.size ≤ q) (hP : PR w2 N eC dc cF cD) (hN : X.heap.size ≤ N) (hap : eC.Pairwise Apart) :
    JFr w ((w2.setCell ⟨q, 0, none⟩ cF).setCell ⟨q, 1, none⟩ cD) q6 q eC es eC ds dc vF vD cF cD := by
  have hXY : Below X.heap.size X ((w2.setCell ⟨q, 0, none⟩ cF).setCell ⟨q, 1, none⟩ cD) := (hX.setCell hXq _).setCell hXq _
  have l2 := (Array.getElem?_eq_some_iff.1 h.b2).1
  have l6 := (Array.getElem?_eq_some_iff.1 h.b6).1
  have hz := hX.size
  have hw := h.below.size
  refine JFr.first (N := N) ⟨(hXY.block _ l2).trans h.b2, (hXY.block _ l6).trans h.b6, setB' (setB' hq cF) cD, h.below.trans (hXY.mono hw), h.lo6, by omega⟩ (h.pr.later hXY) ((hP.set hq).set (setB' hq cF)) (by omega) (fun g hg => ?_) (fun g hg => ?_) (fun e he g hg => ?_) h.ap hap
  · have := (h.pr.rowF.lt g hg).2; omega
  · have := (h.pr.rowD.lt g hg).2; omega
  · have := ((h.pr.rels e he).lt g hg).2; omega

end Go.Proofs.YthbdfnphnppagaaDoor
