/-
  What the reference's Dropped has in memory: its variables, the fragments of its own that are still to come, those that stay.
-/
import Derived.Test.YthbdfnphnppagaaDoorRefOwn
import Derived.Test.YthbdfnphnppagaaDoorRefGone
namespace Go.Proofs.YthbdfnphnppagaaDoor
open Go Go.RowKit
set_option linter.unusedVariables false

/-- the variables -/
structure DVars (w wr : World) (vp : Array Value) (vl : Value) (vF vD : Value) : Prop where
  b0 : wr.heap[w.heap.size]? = some (.cells vp 25 (0, 0))
  b1 : wr.heap[w.heap.size + 1]? = some (.cells #[vl] 38 (0, 0))
  b2 : wr.heap[w.heap.size + 2]? = some (.cells #[.slice none 0 0, .slice none 0 0] 25 (0, 0))
  b3 : wr.heap[w.heap.size + 3]? = some (.cells #[.func (.func 55) #[] #[.pointer (some ⟨w.heap.size, 0, none⟩), .pointer (some ⟨w.heap.size + 1, 0, none⟩)]] 69 (0, 0))
  b4 : wr.heap[w.heap.size + 4]? = some (.cells #[vF, vD] 25 (0, 0))
  below : Below w.heap.size w wr

theorem DVars.keep {w wr X : World} {vp : Array Value} {vl vF vD : Value} (h : DVars w wr vp vl vF vD) (hk : ∀ (g : Nat) (cs : Array Value) (t : TypeId), wr.heap[g]? = some (.cells cs t (0, 0)) → t = 25 ∨ t = 38 ∨ t = 69 → X.heap[g]? = some (.cells cs t (0, 0))) (hb : Below w.heap.size w X) : DVars w X vp vl vF vD :=
  ⟨hk _ _ _ h.b0 (.inl rfl), hk _ _ _ h.b1 (.inr (.inl rfl)), hk _ _ _ h.b2 (.inl rfl), hk _ _ _ h.b3 (.inr (.inr rfl)), hk _ _ _ h.b4 (.inl rfl), hb⟩

theorem DVars.later {w wr X : World} {vp : Array Value} {vl vF vD : Value} (h : DVars w wr vp vl vF vD) (hb : Below wr.heap.size wr X) : DVars w X vp vl vF vD :=
  h.keep (fun g cs t hg _ => (hb.block _ (Array.getElem?_eq_some_iff.1 hg).1).trans hg) (h.below.trans (hb.mono h.below.size))

/-- a row of another kind has grown -/
theorem DVars.grown {w wr X : World} {vp : Array Value} {vl vF vD v : Value} {B k n : Nat} {e : TypeId} {xs : List Value} (h : DVars w wr vp vl vF vD) (ho : wr.ownsRow B e k v n xs) (hB : w.heap.size ≤ B) (hg : wr.grownBy X v.ownBlock) (h1 : e ≠ 25) (h2 : e ≠ 38) (h3 : e ≠ 69) : DVars w X vp vl vF vD :=
  h.keep (fun g cs t hq ht => block_kept ho hg hq (by rcases ht with rfl | rfl | rfl <;> assumption)) (h.below.grown hg h.below.size (fun k hk => Nat.le_trans hB (ho.lt k hk).1))

/-- a fragment's rows -/
def EntAt (w : World) (B : Nat) (e : Ent) : Prop :=
  w.ownsRow B 5 1 e.bv e.f.bytes.length (e.f.bytes.map (Value.int .u8)) ∧ w.ownsRow B 76 5 e.rv e.f.rels.length (e.f.rels.flatMap encRel) ∧
  (∀ b ∈ e.f.bytes, 0 ≤ b ∧ b < 256) ∧ e.f.group.size ≤ maxLen ∧ ∀ r ∈ e.f.rels, r.name.size ≤ maxLen ∧ (Lit.int .i64 r.kind).wf = true

theorem EntAt.later {w X : World} {B : Nat} {e : Ent} (h : EntAt w B e) (hb : Below w.heap.size w X) : EntAt X B e :=
  ⟨h.1.kept (grown_of_below hb none) own_self, h.2.1.kept (grown_of_below hb none) own_self, h.2.2⟩

/-- while the fragments are gone through: es stay, rest is to come -/
structure DFr (w wr : World) (vp : Array Value) (vl : Value) (N : Nat) (vS : Value) (es0 es rest : List Ent) (vF : Value) : Prop where
  vars : DVars w wr vp vl vF (.slice none 0 0)
  pr : PR wr w.heap.size es [] vF (.slice none 0 0)
  hi : wr.ownsRow N 29 6 vF es.length (es.flatMap entCells)
  src : wr.ownsRow w.heap.size 29 6 vS es0.length (es0.flatMap entCells)
  lo : ∀ g, vS.ownBlock = some g → g < N
  come : ∀ e ∈ rest, EntAt wr w.heap.size e
  ap : (es ++ rest).Pairwise Apart
  size : w.heap.size ≤ N
  top : N ≤ wr.heap.size

theorem DFr.later {w wr X : World} {vp : Array Value} {vl vS vF : Value} {N : Nat} {es0 es rest : List Ent} (h : DFr w wr vp vl N vS es0 es rest vF) (hb : Below wr.heap.size wr X) : DFr w X vp vl N vS es0 es rest vF :=
  ⟨h.vars.later hb, h.pr.later hb, h.hi.kept (grown_of_below hb none) own_self, h.src.kept (grown_of_below hb none) own_self, h.lo, fun e he => (h.come e he).later hb, h.ap, h.size, Nat.le_trans h.top hb.size⟩

/-- a fragment is gone -/
theorem DFr.skip {w wr : World} {vp : Array Value} {vl vS vF : Value} {N : Nat} {es0 es rest : List Ent} {e : Ent} (h : DFr w wr vp vl N vS es0 es (e :: rest) vF) : DFr w wr vp vl N vS es0 es rest vF :=
  ⟨h.vars, h.pr, h.hi, h.src, h.lo, fun x hx => h.come x (List.mem_cons_of_mem _ hx), h.ap.sublist (List.Sublist.append (List.Sublist.refl _) (List.sublist_cons_self _ _)), h.size, h.top⟩

/-- a place of the fragment at hand leads elsewhere -/
def setFrag (e : Ent) (k : Nat) (n : Int) : Ent := { e with f := { e.f with rels := e.f.rels.set k { (e.f.rels.getD k rel0) with frag := n } } }

theorem flat_set (rs : List M.Rel) (k : Nat) (hk : k < rs.length) (n : Int) : (rs.flatMap encRel).set (k * 5 + 3) (.int .i64 n) = (rs.set k { (rs.getD k rel0) with frag := n }).flatMap encRel := by
  apply List.ext_getElem?
  intro q
  have e : q = q / 5 * 5 + q % 5 := by omega
  have h5 : q % 5 < 5 := Nat.mod_lt _ (by decide)
  rw [List.getElem?_set]
  have hR := flat_get 5 encRel (fun _ => rfl) (rs.set k { (rs.getD k rel0) with frag := n }) (q / 5) (q % 5) h5
  have hL := flat_get 5 encRel (fun _ => rfl) rs (q / 5) (q % 5) h5
  rw [← e] at hR hL
  rw [hR, hL, List.getElem?_set]
  by_cases hq : k = q / 5
  · subst hq
    rw [if_pos rfl, if_pos hk, getElem?_getD rs rel0 _ hk]
    have hl : q / 5 * 5 + 3 < (rs.flatMap encRel).length := by rw [flat_len 5 encRel (fun _ => rfl)]; omega
    rcases (by omega : q % 5 = 0 ∨ q % 5 = 1 ∨ q % 5 = 2 ∨ q % 5 = 3 ∨ q % 5 = 4) with h | h | h | h | h <;> rw [h]
    · rw [if_neg (by omega)]; rfl
    · rw [if_neg (by omega)]; rfl
    · rw [if_neg (by omega)]; rfl
    · rw [if_pos (by omega), if_pos hl]; rfl
    · rw [if_neg (by omega)]; rfl
  · rw [if_neg (by omega), if_neg hq]

theorem DFr.setRel {w wr : World} {vp : Array Value} {vl vS vF : Value} {N g cap k : Nat} {es0 es rest : List Ent} {e : Ent} (h : DFr w wr vp vl N vS es0 es (e :: rest) vF) (hv : e.rv = .slice (some ⟨g, 0, none⟩) e.f.rels.length cap) (hk : k < e.f.rels.length) (n : Int) :
    DFr w (wr.setCell ⟨g, k * 5 + 3, none⟩ (.int .i64 n)) vp vl N vS es0 es (setFrag e k n :: rest) vF := by
  obtain ⟨hb, hr, h3, h4, h5⟩ := h.come e (by simp)
  have hown : e.rv.ownBlock = some g := by rw [hv]; rfl
  have hg : wr.grownBy (wr.setCell ⟨g, k * 5 + 3, none⟩ (.int .i64 n)) e.rv.ownBlock := by rw [hown]; exact grown_set wr g _ _
  obtain ⟨cs, hcs⟩ : ∃ cs, wr.heap[g]? = some (.cells cs 76 (0, 0)) := by
    rcases hr.2 with ⟨h1, _⟩ | ⟨g', cap', cur, h1, _, h2, _⟩
    · rw [hv] at h1; cases h1
    · rw [hv] at h1; cases h1; exact ⟨cur, h2⟩
  have keep : ∀ {B k' n' : Nat} {t : TypeId} {v : Value} {xs : List Value}, wr.ownsRow B t k' v n' xs → t ≠ 76 → (wr.setCell ⟨g, k * 5 + 3, none⟩ (.int .i64 n)).ownsRow B t k' v n' xs := fun ho ht => row_setc ho hcs ht
  have away : ∀ x : Ent, (x.rv.ownBlock = none ∨ x.rv.ownBlock ≠ e.rv.ownBlock) → wr.ownsRow w.heap.size 76 5 x.rv x.f.rels.length (x.f.rels.flatMap encRel) → (wr.setCell ⟨g, k * 5 + 3, none⟩ (.int .i64 n)).ownsRow w.heap.size 76 5 x.rv x.f.rels.length (x.f.rels.flatMap encRel) := fun x hx ho => ho.kept hg hx
  have hap := List.pairwise_append.1 h.ap
  refine ⟨h.vars.grown hr (Nat.le_refl _) hg (by decide) (by decide) (by decide), ?_, keep h.hi (by decide), keep h.src (by decide), h.lo, ?_, ?_, h.size, by simpa using h.top⟩
  · refine ⟨keep h.pr.rowF (by decide), keep h.pr.rowD (by decide), fun x hx => keep (h.pr.bytes x hx) (by decide), h.pr.small, h.pr.smallD, fun x hx => away x ?_ (h.pr.rels x hx)⟩
    rcases hap.2.2 x hx e (by simp) with h1 | h1 | h1
    · exact .inl h1
    · rw [hown] at h1; cases h1
    · exact .inr h1
  · intro x hx
    rcases List.mem_cons.1 hx with rfl | hx
    · refine ⟨keep hb (by decide), ?_, h3, h4, ?_⟩
      · have hs := row_set (i := k * 5 + 3) (u := .int .i64 n) (show wr.ownsRow w.heap.size 76 5 (.slice (some ⟨g, 0, none⟩) e.f.rels.length cap) e.f.rels.length (e.f.rels.flatMap encRel) by rw [← hv]; exact hr) (by rw [flat_len 5 encRel (fun _ => rfl)]; omega)
        rw [flat_set _ _ hk, ← hv] at hs
        show World.ownsRow _ _ _ _ e.rv (e.f.rels.set k _).length _
        rw [List.length_set]
        exact hs
      · intro r hr'
        rcases List.mem_or_eq_of_mem_set hr' with h6 | rfl
        · exact h5 r h6
        · have := h5 _ (getD_mem e.f.rels rel0 k hk)
          exact this
    · obtain ⟨xb, xr, x3⟩ := h.come x (List.mem_cons_of_mem _ hx)
      refine ⟨keep xb (by decide), away x ?_ xr, x3⟩
      rcases (List.pairwise_cons.1 hap.2.1).1 x hx with h1 | h1 | h1
      · rw [hown] at h1; cases h1
      · exact .inl h1
      · exact .inr (fun e' => h1 e'.symm)
  · refine List.pairwise_append.2 ⟨hap.1, ?_, fun a ha b hb' => ?_⟩
    · exact List.pairwise_cons.2 ⟨(List.pairwise_cons.1 hap.2.1).1, (List.pairwise_cons.1 hap.2.1).2⟩
    · rcases List.mem_cons.1 hb' with rfl | hb'
      · exact hap.2.2 a ha e (by simp)
      · exact hap.2.2 a ha b (List.mem_cons_of_mem _ hb')

/-- the fragment at hand is appended -/
theorem DFr.add {w X w5 : World} {vp : Array Value} {vl vS vF v' : Value} {N : Nat} {es0 es rest : List Ent} {e : Ent} (h : DFr w X vp vl N vS es0 es (e :: rest) vF) (hg : X.grownBy w5 vF.ownBlock)
    (hrow : w5.ownsRow N 29 6 v' (es.length + 1) (es.flatMap entCells ++ entCells e)) :
    DFr w (w5.setCell ⟨w.heap.size + 4, 0, none⟩ v') vp vl N vS es0 (es ++ [e]) rest v' := by
  obtain ⟨hb, hr, h3⟩ := h.come e (by simp)
  have hV := h.vars.grown h.hi h.size hg (by decide) (by decide) (by decide)
  have hne : ∀ k, k < 4 → w.heap.size + k ≠ w.heap.size + 4 := fun k hk => by omega
  have hsrc : w5.ownsRow w.heap.size 29 6 vS es0.length (es0.flatMap entCells) := h.src.kept hg (by
    cases hv : vS.ownBlock with
    | none => exact .inl rfl
    | some g =>
      right
      intro he
      have h1 := h.lo g hv
      have h2 := (h.hi.lt g he.symm).1
      omega)
  have hpr : PR w5 w.heap.size (es ++ [e]) [] v' (.slice none 0 0) := h.pr.growF hg (by simpa using row_base hrow h.size) (fun x hx => by rw [List.mem_singleton.1 hx]; exact hb) (fun x hx => by rw [List.mem_singleton.1 hx]; exact hr) (fun x hx => by rw [List.mem_singleton.1 hx]; exact h3)
  refine ⟨⟨(Below.heap_setCell _ _ _ _ (by show w.heap.size ≠ w.heap.size + 4; omega)).trans hV.b0, (Below.heap_setCell _ _ _ _ (hne 1 (by omega))).trans hV.b1, (Below.heap_setCell _ _ _ _ (hne 2 (by omega))).trans hV.b2, (Below.heap_setCell _ _ _ _ (hne 3 (by omega))).trans hV.b3, setB' hV.b4 v', hV.below.setCell (by show w.heap.size ≤ w.heap.size + 4; omega) _⟩, hpr.set hV.b4, ?_, row_setc hsrc hV.b4 (by decide), h.lo, ?_, ?_, h.size, by simpa using Nat.le_trans h.top hg.size⟩
  · rw [List.length_append, List.flatMap_append]
    simpa using row_setc hrow hV.b4 (by decide)
  · intro x hx
    obtain ⟨xb, xr, x3⟩ := h.come x (List.mem_cons_of_mem _ hx)
    exact ⟨row_setc (xb.kept hg (own_apart xb h.hi (by decide))) hV.b4 (by decide), row_setc (xr.kept hg (own_apart xr h.hi (by decide))) hV.b4 (by decide), x3⟩
  · rw [List.append_assoc]
    exact h.ap

/-- how a place is led elsewhere, and the fragment while its places are gone through -/
def mvR (l : List ByteArray) (fs : List M.Frg) (r : M.Rel) : M.Rel := bif M.bare r.name then { r with frag := toN l fs r.frag } else r
def curE (l : List ByteArray) (fs : List M.Frg) (e : Ent) (k : Nat) : Ent := { e with f := { e.f with rels := (e.f.rels.take k).map (mvR l fs) ++ e.f.rels.drop k } }

theorem cur_len (l : List ByteArray) (fs : List M.Frg) (e : Ent) (k : Nat) (hk : k ≤ e.f.rels.length) : (curE l fs e k).f.rels.length = e.f.rels.length := by
  simp only [curE, List.length_append, List.length_map, List.length_take, List.length_drop]; omega
theorem cur_zero (l : List ByteArray) (fs : List M.Frg) (e : Ent) : curE l fs e 0 = e := by simp [curE]
theorem cur_get (l : List ByteArray) (fs : List M.Frg) (e : Ent) (k : Nat) (hk : k < e.f.rels.length) : (curE l fs e k).f.rels.getD k rel0 = e.f.rels.getD k rel0 := by
  have hl : ((e.f.rels.take k).map (mvR l fs)).length = k := by simp; omega
  simp only [curE, List.getD_eq_getElem?_getD]
  rw [List.getElem?_append_right (by omega), hl, Nat.sub_self, List.getElem?_drop, Nat.add_zero]
theorem set_mid {α : Type} (f : α → α) (xs : List α) (k : Nat) (x : α) (hx : xs[k]? = some x) : ((xs.take k).map f ++ xs.drop k).set k (f x) = (xs.take (k + 1)).map f ++ xs.drop (k + 1) := by
  have hk := (List.getElem?_eq_some_iff.1 hx).1
  have hl : ((xs.take k).map f).length = k := by simp; omega
  rw [List.set_append_right _ _ (by omega), hl, Nat.sub_self, List.drop_eq_getElem_cons hk, List.set_cons_zero, List.take_succ_eq_append_getElem hk, List.map_append]
  rw [List.getElem?_eq_getElem hk] at hx
  cases hx
  simp
theorem cur_bare (l : List ByteArray) (fs : List M.Frg) (e : Ent) (k : Nat) (hk : k < e.f.rels.length) (hb : M.bare (e.f.rels.getD k rel0).name = true) : setFrag (curE l fs e k) k (toN l fs (e.f.rels.getD k rel0).frag) = curE l fs e (k + 1) := by
  have h := set_mid (mvR l fs) e.f.rels k _ (getElem?_getD e.f.rels rel0 k hk)
  have hm : mvR l fs (e.f.rels.getD k rel0) = { (e.f.rels.getD k rel0) with frag := toN l fs (e.f.rels.getD k rel0).frag } := by unfold mvR; rw [hb]; rfl
  unfold setFrag
  rw [cur_get l fs e k hk, ← hm]
  show ({ f := { sect := _, align := _, group := _, bytes := _, size := _, rels := ((e.f.rels.take k).map (mvR l fs) ++ e.f.rels.drop k).set k _ }, bv := _, rv := _ } : Ent) = _
  rw [h]
  rfl
theorem cur_named (l : List ByteArray) (fs : List M.Frg) (e : Ent) (k : Nat) (hk : k < e.f.rels.length) (hb : M.bare (e.f.rels.getD k rel0).name = false) : curE l fs e (k + 1) = curE l fs e k := by
  have hm : mvR l fs (e.f.rels.getD k rel0) = e.f.rels.getD k rel0 := by unfold mvR; rw [hb]; rfl
  have e1 : (e.f.rels.take (k + 1)).map (mvR l fs) ++ e.f.rels.drop (k + 1) = (e.f.rels.take k).map (mvR l fs) ++ e.f.rels.drop k := by
    rw [drop_getD e.f.rels rel0 k hk, List.take_succ_eq_append_getElem hk, List.map_append]
    rw [List.getD_eq_getElem?_getD, List.getElem?_eq_getElem hk] at hm ⊢
    simp only [Option.getD_some] at hm ⊢
    simp [hm]
  unfold curE
  rw [e1]

theorem mvR_moved (l : List ByteArray) (fs : List M.Frg) (r : M.Rel) (h : M.bare r.name = true → -1 ≤ r.frag) : mvR l fs r = M.movedRel (M.count l 0 fs) r := by
  unfold mvR M.movedRel
  cases hb : M.bare r.name
  · rfl
  · have h1 := h hb
    cases hf : (r.frag == -1)
    · rw [beq_eq_false_iff_ne] at hf
      simp only [cond_true, Bool.not_false, Bool.and_self, toN]
      rw [if_neg (by omega)]
    · have hf' : r.frag = -1 := by simpa using hf
      simp only [cond_true, Bool.not_true, Bool.and_false, cond_false, toN, hf']
      obtain ⟨_, _, _, _, _⟩ := r
      simp only at hf'
      subst hf'
      rfl

theorem cur_all (l : List ByteArray) (fs : List M.Frg) (e : Ent) (h : ∀ r ∈ e.f.rels, M.bare r.name = true → -1 ≤ r.frag) : (curE l fs e e.f.rels.length).f = M.movedFrg (M.count l 0 fs) e.f := by
  unfold curE M.movedFrg
  simp only [List.take_length, List.drop_length, List.append_nil]
  congr 1
  exact List.map_congr_left fun r hr => mvR_moved l fs r (h r hr)

/-- a definition is appended -/
theorem dd_add {w X w5 : World} {vp : Array Value} {vl vF vD v' : Value} {es : List Ent} {gs : List M.Dfn} {d : M.Dfn} (hV : DVars w X vp vl vF vD) (hP : PR X w.heap.size es gs vF vD) (hg : X.grownBy w5 vD.ownBlock)
    (hrow : w5.ownsRow w.heap.size 53 6 v' (gs.length + 1) (gs.flatMap encDfn ++ encDfn d)) (hs : d.name.size ≤ maxLen) :
    DVars w (w5.setCell ⟨w.heap.size + 4, 1, none⟩ v') vp vl vF v' ∧ PR (w5.setCell ⟨w.heap.size + 4, 1, none⟩ v') w.heap.size es (gs ++ [d]) vF v' := by
  have hV5 := hV.grown hP.rowD (Nat.le_refl _) hg (by decide) (by decide) (by decide)
  have hne : ∀ k, k < 4 → w.heap.size + k ≠ w.heap.size + 4 := fun k hk => by omega
  have hP5 : PR w5 w.heap.size es (gs ++ [d]) vF v' := hP.growD hg (by simpa using hrow) (fun x hx => by rw [List.mem_singleton.1 hx]; exact hs)
  exact ⟨⟨(Below.heap_setCell _ _ _ _ (by show w.heap.size ≠ w.heap.size + 4; omega)).trans hV5.b0, (Below.heap_setCell _ _ _ _ (hne 1 (by omega))).trans hV5.b1, (Below.heap_setCell _ _ _ _ (hne 2 (by omega))).trans hV5.b2, (Below.heap_setCell _ _ _ _ (hne 3 (by omega))).trans hV5.b3, setB' hV5.b4 v', hV5.below.setCell (by show w.heap.size ≤ w.heap.size + 4; omega) _⟩, hP5.set hV5.b4⟩

/-- a cell of a definition's variable is stored -/
theorem DVars.set_def {w wr : World} {vp : Array Value} {vl vF vD u : Value} {b i : Nat} {cs : Array Value} (h : DVars w wr vp vl vF vD) (hq : wr.heap[b]? = some (.cells cs 53 (0, 0))) (hb : w.heap.size ≤ b := by omega) : DVars w (wr.setCell ⟨b, i, none⟩ u) vp vl vF vD :=
  h.keep (fun g cs' t hg ht => (Below.heap_setCell _ _ _ _ (fun e => by
    have e' : g = b := e
    rw [e', hq] at hg
    cases hg
    rcases ht with ht | ht | ht <;> exact absurd ht (by decide))).trans hg) (h.below.setCell hb _)

theorem PR.set_def {w : World} {B b i : Nat} {es : List Ent} {ds : List M.Dfn} {vF vD u : Value} {cs : Array Value} (h : PR w B es ds vF vD) (hq : w.heap[b]? = some (.cells cs 53 (0, 0))) (hlt : ∀ g, vD.ownBlock = some g → g < b) : PR (w.setCell ⟨b, i, none⟩ u) B es ds vF vD :=
  ⟨row_setc h.rowF hq (by decide), h.rowD.kept (grown_set w b i u) (by
    cases hv : vD.ownBlock with
    | none => exact .inl rfl
    | some g =>
      right
      intro he
      cases he
      have := hlt b hv
      omega), fun e he => row_setc (h.bytes e he) hq (by decide), h.small, h.smallD, fun e he => row_setc (h.rels e he) hq (by decide)⟩

end Go.Proofs.YthbdfnphnppagaaDoor
