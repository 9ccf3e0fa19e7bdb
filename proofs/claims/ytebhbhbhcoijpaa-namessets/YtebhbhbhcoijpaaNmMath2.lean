/-
  What two parts want and define, joined; which definition counts there.
-/
import Derived.Test.YtebhbhbhcoijpaaNmMath
namespace Go.Proofs.Ytebhbhbhcoijpaa.M
open Go

def shiftDfn (n : Int) (d : Dfn) : Dfn := bif d.kind == 3 then d else { d with frag := d.frag + n }

theorem plain_common {d : Dfn} (h : plainDfn d = 0) (hk : (d.kind == 3) = true) : d.frag = 0 := by
  have hk' : d.kind = 3 := by simpa using hk
  unfold plainDfn at h
  split at h
  · cases h
  split at h
  · omega
  · cases hf : (d.frag == 0)
    · rw [hf] at h; simp at h
    · simpa using hf

theorem shift_defs (fs : List Frg) (l : List ByteArray) (n : Int) (hn : 0 ≤ n) : ∀ ds : List Dfn, (∀ d ∈ ds, plainDfn d = 0) → (∀ d ∈ ds, Stands fs d) → movedDefs (count l n fs) ds = (movedDefs (count l 0 fs) ds).map (shiftDfn n)
  | [], _, _ => rfl
  | d :: ds, hp, hs => by
    have ih := shift_defs fs l n hn ds (fun d hd => hp d (List.mem_cons_of_mem _ hd)) (fun d hd => hs d (List.mem_cons_of_mem _ hd))
    rw [movedDefs_cons, movedDefs_cons, ih]
    cases hk : (d.kind == 3)
    · obtain ⟨f, h0, hf, _⟩ := hs d (by simp) hk
      have e1 : ∀ to, movedDfn to d = { d with frag := num to d.frag } := fun to => by unfold movedDfn; rw [hk]; rfl
      rw [e1, e1]
      dsimp only
      rw [num_get l fs n _ h0 f hf, num_get l fs 0 _ h0 f hf]
      cases hg : gone l f
      · simp only [cond_false]
        have h1 : (n + ((stays l (fs.take d.frag.toNat)).length : Int) == -1) = false := by rw [beq_eq_false_iff_ne]; omega
        have h2 : (0 + ((stays l (fs.take d.frag.toNat)).length : Int) == -1) = false := by rw [beq_eq_false_iff_ne]; omega
        rw [h1, h2]
        simp only [cond_false, List.map_cons, shiftDfn, hk]
        congr 2
        omega
      · simp
    · have h0 := plain_common (hp d (by simp)) hk
      have e1 : ∀ to, movedDfn to d = d := fun to => by unfold movedDfn; rw [hk]; rfl
      rw [e1, e1, h0]
      have h2 : ((0 : Int) == -1) = false := by decide
      rw [h2]
      simp only [cond_false, List.map_cons, shiftDfn, hk, cond_true]

theorem drop_defs (p : Prt) (l : List ByteArray) : (drop p l).defs = movedDefs (count l 0 p.frags) p.defs := rfl

theorem put_defs (a b : Prt) (l : List ByteArray) (hb : Ok b) : (put a l b).defs = a.defs ++ (drop b l).defs.map (shiftDfn a.frags.length) := by
  rw [drop_defs, ← shift_defs b.frags l a.frags.length (by omega) b.defs hb.plain hb.stands]
  rfl

theorem name_shift (n : Int) (d : Dfn) : (shiftDfn n d).name = d.name := by unfold shiftDfn; cases d.kind == 3 <;> rfl
theorem kind_shift (n : Int) (d : Dfn) : (shiftDfn n d).kind = d.kind := by unfold shiftDfn; cases d.kind == 3 <;> rfl

theorem wantedOf_moved (to : List Int) (rs : List Rel) : wantedOf (rs.map (movedRel to)) = wantedOf rs := by
  unfold wantedOf
  have hn : ∀ r, (movedRel to r).name = r.name := fun r => by unfold movedRel; cases bare r.name && !(r.frag == -1) <;> rfl
  rw [List.filter_map, List.map_map]
  congr 1
  · funext r; exact hn r
  · congr 1
    funext r
    show (!(bare (movedRel to r).name)) = _
    rw [hn]

theorem wanted_moved (to : List Int) (fs : List Frg) : wantedNames (fs.map (movedFrg to)) = wantedNames fs := by
  unfold wantedNames
  rw [List.flatMap_map]
  congr 1
  funext f
  exact wantedOf_moved to f.rels

theorem wanted_put (a b : Prt) (l : List ByteArray) : wantedNames (put a l b).frags = wantedNames a.frags ++ wantedNames (drop b l).frags := by
  rw [put_frags, drop_frags, wanted_moved]
  show List.flatMap _ _ = _
  rw [List.flatMap_append]
  congr 1
  exact wanted_moved _ _

theorem defined_put (a b : Prt) (l : List ByteArray) (hb : Ok b) : definedNames (put a l b).defs = definedNames a.defs ++ definedNames (drop b l).defs := by
  rw [put_defs a b l hb]
  unfold definedNames
  rw [List.map_append, List.map_map]
  congr 2
  funext d
  exact name_shift _ d

theorem isDef_shift (n : Int) (s : ByteArray) (k : Int) (d : Dfn) : isDef s k (shiftDfn n d) = isDef s k d := by unfold isDef; rw [name_shift, kind_shift]

theorem ofKind_app (ds es : List Dfn) (n : Int) (s : ByteArray) (k : Int) : ofKind (ds ++ es.map (shiftDfn n)) s k = ofKind ds s k ++ (ofKind es s k).map (shiftDfn n) := by
  unfold ofKind
  rw [List.filter_append, List.filter_map]
  congr 2
  congr 1
  funext d
  exact isDef_shift n s k d

theorem ofKind_kind {ds : List Dfn} {s : ByteArray} {k : Int} {d : Dfn} (h : d ∈ ofKind ds s k) : d.kind = k := by
  have := (List.mem_filter.1 h).2
  simp only [isDef, Bool.and_eq_true] at this
  simpa using this.2

theorem shift_three (n : Int) (l : List Dfn) (h : ∀ d ∈ l, d.kind = 3) : l.map (shiftDfn n) = l := by
  have : l.map (shiftDfn n) = l.map id := List.map_congr_left fun d hd => by
    unfold shiftDfn
    rw [h d hd]
    rfl
  rw [this, List.map_id]

theorem fold_kind (l : List Dfn) : ∀ o : Dfn, (l.foldl grow o).kind = o.kind ∧ (l.foldl grow o).name = o.name ∧ (l.foldl grow o).frag = o.frag ∧ (l.foldl grow o).pos = o.pos := by
  induction l with
  | nil => intro o; exact ⟨rfl, rfl, rfl, rfl⟩
  | cons d l ih => intro o; rw [List.foldl_cons]; exact ih (grow o d)

def mx (f : Dfn → Int) (l : List Dfn) (x : Int) : Int := l.foldl (fun m d => max m (f d)) x

theorem fold_size (l : List Dfn) : ∀ o : Dfn, (l.foldl grow o).size = mx (·.size) l o.size := by
  induction l with
  | nil => intro o; rfl
  | cons d l ih => intro o; rw [List.foldl_cons]; exact ih (grow o d)
theorem fold_align (l : List Dfn) : ∀ o : Dfn, (l.foldl grow o).align = mx (·.align) l o.align := by
  induction l with
  | nil => intro o; rfl
  | cons d l ih => intro o; rw [List.foldl_cons]; exact ih (grow o d)
theorem mx_max (f : Dfn → Int) (l : List Dfn) : ∀ x y : Int, mx f l (max x y) = max x (mx f l y) := by
  induction l with
  | nil => intro x y; rfl
  | cons d l ih =>
    intro x y
    show mx f l (max (max x y) (f d)) = max x (mx f l (max y (f d)))
    rw [← ih, Int.max_assoc]
theorem mx_head (f : Dfn → Int) (c : Dfn) (l : List Dfn) (x : Int) : mx f (c :: l) x = max x (mx f (c :: l) (f c)) := by
  show mx f l (max x (f c)) = max x (mx f l (max (f c) (f c)))
  rw [mx_max, Int.max_self]

theorem greatest_app (a c : Dfn) (l m : List Dfn) :
    (greatest (a :: l ++ c :: m)).size = max (greatest (a :: l)).size (greatest (c :: m)).size ∧ (greatest (a :: l ++ c :: m)).align = max (greatest (a :: l)).align (greatest (c :: m)).align ∧ (greatest (a :: l ++ c :: m)).kind = a.kind := by
  have e : greatest (a :: l ++ c :: m) = (c :: m).foldl grow (greatest (a :: l)) := by
    unfold greatest
    rw [List.foldl_append]
    rfl
  have e2 : greatest (c :: m) = (c :: m).foldl grow c := rfl
  rw [e, e2, fold_size, fold_size, fold_align, fold_align, (fold_kind _ _).1]
  exact ⟨mx_head _ c m _, mx_head _ c m _, (fold_kind _ _).1⟩

/-- what the law asks of the three that were found -/
def movedY (n : Int) (y : Dfn) : Dfn := bif (y.kind == 1 || y.kind == 2) then { y with frag := y.frag + n } else y
def joinedB (n : Int) (x y z : Dfn × Int) : Bool :=
  if x.2 = 6 ∨ y.2 = 6 ∨ (x.2 = 0 ∧ y.2 = 0 ∧ x.1.kind = 1 ∧ y.1.kind = 1) then z.2 == 6
  else if x.2 = 7 then z.2 == y.2 && (!(z.2 == 0) || sameDfn z.1 (movedY n y.1))
  else if y.2 = 7 then z.2 == x.2 && sameDfn z.1 x.1
  else if x.2 ≠ 0 ∨ y.2 ≠ 0 ∨ z.2 ≠ 0 then false
  else if y.1.kind = 1 ∨ (x.1.kind = 2 ∧ y.1.kind = 3) then sameDfn z.1 (movedY n y.1)
  else if x.1.kind = 3 ∧ y.1.kind = 3 then z.1.kind == 3 && z.1.size == max x.1.size y.1.size && z.1.align == max x.1.align y.1.align
  else sameDfn z.1 x.1

theorem sameDfn_self (d : Dfn) : sameDfn d d = true := by simp [sameDfn]

theorem shift_moved (n : Int) {d : Dfn} (h : d.kind = 1 ∨ d.kind = 2) : shiftDfn n d = movedY n d := by
  unfold shiftDfn movedY
  rcases h with h | h <;> rw [h] <;> rfl

theorem joined_in (n : Int) (A1 A3 A2 C1 C3 C2 : List Dfn) (a1 : ∀ d ∈ A1, d.kind = 1) (a3 : ∀ d ∈ A3, d.kind = 3) (a2 : ∀ d ∈ A2, d.kind = 2) (c1 : ∀ d ∈ C1, d.kind = 1) (c3 : ∀ d ∈ C3, d.kind = 3) (c2 : ∀ d ∈ C2, d.kind = 2) :
    joinedB n (findIn A1 A3 A2) (findIn C1 C3 C2) (findIn (A1 ++ C1.map (shiftDfn n)) (A3 ++ C3) (A2 ++ C2.map (shiftDfn n))) = true := by
  have g3 : ∀ (d : Dfn) (l : List Dfn), (∀ x ∈ d :: l, x.kind = 3) → (greatest (d :: l)).kind = 3 := fun d l h => by
    unfold greatest; rw [(fold_kind _ _).1]; exact h d (by simp)
  match A1, C1 with
  | _ :: _ :: _, _ => simp [findIn, joinedB]
  | [x], _ :: _ :: _ => simp [findIn, joinedB]
  | [], _ :: _ :: _ => simp [findIn, joinedB]
  | [x], [y] =>
    have := a1 x (by simp)
    have := c1 y (by simp)
    simp [findIn, joinedB, *]
  | [x], [] =>
    have hx := a1 x (by simp)
    match C3, C2 with
    | c :: m, _ =>
      have := g3 c m c3
      simp [findIn, joinedB, hx, this, sameDfn_self]
    | [], c :: m =>
      have := c2 c (by simp)
      simp [findIn, joinedB, hx, this, sameDfn_self]
    | [], [] => simp [findIn, joinedB, hx, sameDfn_self]
  | [], [y] =>
    have hy := c1 y (by simp)
    have hm := shift_moved n (.inl hy)
    match A3, A2 with
    | c :: m, _ =>
      have := g3 c m a3
      simp [findIn, joinedB, hy, this, sameDfn_self, hm]
    | [], c :: m =>
      have := a2 c (by simp)
      simp [findIn, joinedB, hy, this, sameDfn_self, hm]
    | [], [] => simp [findIn, joinedB, hy, sameDfn_self, hm]
  | [], [] =>
    match A3, C3 with
    | a :: l, c :: m =>
      have ha := g3 a l a3
      have hc := g3 c m c3
      have hx := greatest_app a c l m
      have h3 := a3 a (by simp)
      rw [List.cons_append] at hx
      simp [findIn, joinedB, ha, hc, hx, h3]
    | a :: l, [] =>
      have ha := g3 a l a3
      match C2 with
      | [] => simp [findIn, joinedB, ha, sameDfn_self]
      | c :: m =>
        have := c2 c (by simp)
        simp [findIn, joinedB, ha, this, sameDfn_self]
    | [], c :: m =>
      have hc := g3 c m c3
      have hm : movedY n (greatest (c :: m)) = greatest (c :: m) := by unfold movedY; rw [hc]; rfl
      match A2 with
      | [] => simp [findIn, joinedB, hc, sameDfn_self, hm]
      | a :: l =>
        have := a2 a (by simp)
        simp [findIn, joinedB, hc, this, sameDfn_self, hm]
    | [], [] =>
      match A2, C2 with
      | [], [] => simp [findIn, joinedB]
      | [], c :: m =>
        have hc := c2 c (by simp)
        simp [findIn, joinedB, hc, sameDfn_self, shift_moved n (.inr hc)]
      | a :: l, [] =>
        have := a2 a (by simp)
        simp [findIn, joinedB, this, sameDfn_self]
      | a :: l, c :: m =>
        have := a2 a (by simp)
        have := c2 c (by simp)
        simp [findIn, joinedB, *, sameDfn_self]

theorem joined_ok (a b : Prt) (l : List ByteArray) (s : ByteArray) (hb : Ok b) : joinedB a.frags.length (find a.defs s) (find (drop b l).defs s) (find (put a l b).defs s) = true := by
  rw [put_defs a b l hb]
  unfold find
  rw [ofKind_app, ofKind_app, ofKind_app, shift_three _ (ofKind _ s 3) (fun d hd => ofKind_kind hd)]
  exact joined_in _ _ _ _ _ _ _ (fun d hd => ofKind_kind hd) (fun d hd => ofKind_kind hd) (fun d hd => ofKind_kind hd) (fun d hd => ofKind_kind hd) (fun d hd => ofKind_kind hd) (fun d hd => ofKind_kind hd)

end Go.Proofs.Ytebhbhbhcoijpaa.M
