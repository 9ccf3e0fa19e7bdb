/-
  The plain mathematics of package names: names wanted and defined, which definition counts, what is wrong. Lists and integers alone; nothing of the program. What is rising: the same names, each once, in order; two such lists with the same names are one. What two parts want and define, joined; which definition counts there. What is put behind a part is what stays of the other, its numbers shifted.
-/
import Derived.Test.YthbdfnphnppagaaDoorPrtMath5
import Derived.Lib.SlicesCompact
import Derived.Laws.Strings

namespace Go.Proofs.YthbdfnphnppagaaDoor.M
open Go

def txt' (s : ByteArray) : List UInt8 := s.data.toList
def ofTxt (t : List UInt8) : ByteArray := ⟨t.toArray⟩

theorem txt_of (t : List UInt8) : txt' (ofTxt t) = t := rfl
theorem of_txt (s : ByteArray) : ofTxt (txt' s) = s := by obtain ⟨⟨l⟩⟩ := s; rfl

def leT (x y : List UInt8) : Bool := decide (x ≤ y)

/-- rising, each once -/
def risingT (l : List (List UInt8)) : List (List UInt8) := Lib.compact (l.mergeSort fun x y => decide (x ≤ y))
def rising (l : List ByteArray) : List ByteArray := (risingT (l.map txt')).map ofTxt

def wantedOf (rs : List Rel) : List ByteArray := (rs.filter fun r => !(bare r.name)).map (·.name)
def wantedNames (fs : List Frg) : List ByteArray := fs.flatMap fun f => wantedOf f.rels
def definedNames (ds : List Dfn) : List ByteArray := ds.map (·.name)
def wanted (p : Prt) : List ByteArray := rising (wantedNames p.frags)
def defined (p : Prt) : List ByteArray := rising (definedNames p.defs)
def lacking (p : Prt) : List ByteArray := (wanted p).filter fun s => !(has (defined p) s)

def dfnZ : Dfn := ⟨⟨#[]⟩, 0, 0, 0, 0, 0⟩
def isDef (s : ByteArray) (k : Int) (d : Dfn) : Bool := d.name.toList == s.toList && d.kind == k
def ofKind (ds : List Dfn) (s : ByteArray) (k : Int) : List Dfn := ds.filter (isDef s k)
def grow (o d : Dfn) : Dfn := { o with size := max o.size d.size, align := max o.align d.align }
def greatest (l : List Dfn) : Dfn := l.foldl grow (l.headD dfnZ)

def findIn (l1 l3 l2 : List Dfn) : Dfn × Int :=
  if 1 < l1.length then (dfnZ, 6)
  else if l1.length = 1 then (l1.headD dfnZ, 0)
  else if 0 < l3.length then (greatest l3, 0)
  else if 0 < l2.length then (l2.headD dfnZ, 0)
  else (dfnZ, 7)
def find (ds : List Dfn) (s : ByteArray) : Dfn × Int := findIn (ofKind ds s 1) (ofKind ds s 3) (ofKind ds s 2)

def faultAt (ds : List Dfn) (s : ByteArray) : Option (Int × ByteArray) := if (find ds s).2 = 0 then none else some ((find ds s).2, s)
def faults (p : Prt) : List (Int × ByteArray) := (rising (wanted p ++ defined p)).filterMap (faultAt p.defs)

end Go.Proofs.YthbdfnphnppagaaDoor.M

namespace Go.Proofs.YthbdfnphnppagaaDoor.M
open Go

theorem lt_of_le_ne {x y : List UInt8} (h : x ≤ y) (hn : x ≠ y) : x < y := by
  apply Classical.byContradiction
  intro hc
  exact hn (List.le_antisymm h (List.not_lt.1 hc))

theorem lt_of_le_lt {x y z : List UInt8} (h : x ≤ y) (h2 : y < z) : x < z := by
  apply Classical.byContradiction
  intro hc
  have h3 : z ≤ x := List.not_lt.1 hc
  exact (List.not_lt.2 (List.le_trans h3 h)) h2

theorem sort_sorted (l : List (List UInt8)) : (l.mergeSort fun x y => decide (x ≤ y)).Pairwise (fun a b => a ≤ b) := by
  have := List.pairwise_mergeSort (le := fun x y : List UInt8 => decide (x ≤ y)) (fun a b c h1 h2 => by simp only [decide_eq_true_eq] at *; exact List.le_trans h1 h2) (fun a b => by simp only [Bool.or_eq_true, decide_eq_true_eq]; exact List.le_total a b) l
  exact this.imp (fun h => by simpa using h)

theorem compact_up (d : Array (List UInt8)) (hs : d.toList.Pairwise (fun a b => a ≤ b)) : ∀ m, m ≤ d.size → (Lib.compactUpTo d m).Pairwise (fun a b => a < b) ∧ ∀ x, x ∈ Lib.compactUpTo d m ↔ ∃ j, j < m ∧ d[j]! = x
  | 0, _ => by simp [Lib.compactUpTo]
  | m + 1, hm => by
    obtain ⟨h1, h2⟩ := compact_up d hs m (by omega)
    have hle : ∀ i j, i ≤ j → j < d.size → d[i]! ≤ d[j]! := fun i j hij hj => by
      by_cases he : i = j
      · rw [he]; exact List.le_refl _
      · have := (List.pairwise_iff_getElem.1 hs) i j (by simp; omega) (by simpa using hj) (by omega)
        rw [getElem!_pos d i (by omega), getElem!_pos d j hj]
        simpa using this
    rw [Lib.compactUpTo_succ]
    by_cases hk : Lib.keeps d m = true
    · rw [if_pos hk]
      refine ⟨List.pairwise_append.2 ⟨h1, List.pairwise_singleton _ _, fun x hx y hy => ?_⟩, fun x => ?_⟩
      · obtain ⟨j, hj, rfl⟩ := (h2 x).1 hx
        obtain rfl := List.mem_singleton.1 hy
        have hne : d[m]! ≠ d[m - 1]! := by
          simp only [Lib.keeps, decide_eq_true_eq] at hk
          rcases hk with hk | hk
          · omega
          · exact hk
        exact lt_of_le_lt (hle j (m - 1) (by omega) (by omega)) (lt_of_le_ne (hle (m - 1) m (by omega) (by omega)) (fun e => hne e.symm))
      · rw [List.mem_append, h2, List.mem_singleton]
        constructor
        · rintro (⟨j, hj, rfl⟩ | rfl)
          · exact ⟨j, by omega, rfl⟩
          · exact ⟨m, by omega, rfl⟩
        · rintro ⟨j, hj, rfl⟩
          by_cases he : j = m
          · subst he; exact .inr rfl
          · exact .inl ⟨j, by omega, rfl⟩
    · rw [if_neg hk, List.append_nil]
      refine ⟨h1, fun x => ?_⟩
      rw [h2]
      simp only [Lib.keeps, decide_eq_true_eq, not_or, Decidable.not_not] at hk
      constructor
      · rintro ⟨j, hj, rfl⟩
        exact ⟨j, by omega, rfl⟩
      · rintro ⟨j, hj, rfl⟩
        by_cases he : j = m
        · subst he; exact ⟨j - 1, by omega, hk.2.symm⟩
        · exact ⟨j, by omega, rfl⟩

theorem mem_get (l : List (List UInt8)) (x : List UInt8) : (∃ j, j < l.length ∧ l.toArray[j]! = x) ↔ x ∈ l := by
  constructor
  · rintro ⟨j, hj, rfl⟩
    rw [getElem!_pos l.toArray j (by simpa using hj)]
    simp
  · intro h
    obtain ⟨j, hj, rfl⟩ := List.getElem_of_mem h
    exact ⟨j, hj, by rw [getElem!_pos l.toArray j (by simpa using hj)]; simp⟩

theorem risingT_mem (l : List (List UInt8)) (x : List UInt8) : x ∈ risingT l ↔ x ∈ l := by
  have h := (compact_up (l.mergeSort fun x y => decide (x ≤ y)).toArray (by simpa using sort_sorted l) (l.mergeSort fun x y => decide (x ≤ y)).length (by simp)).2 x
  show x ∈ Lib.compactUpTo _ _ ↔ _
  rw [h, mem_get]
  exact List.mem_mergeSort

theorem risingT_sorted (l : List (List UInt8)) : (risingT l).Pairwise (fun a b => a < b) :=
  (compact_up (l.mergeSort fun x y => decide (x ≤ y)).toArray (by simpa using sort_sorted l) (l.mergeSort fun x y => decide (x ≤ y)).length (by simp)).1

theorem lt_irr (x : List UInt8) : ¬ x < x := List.lt_irrefl x
theorem lt_asym {x y : List UInt8} (h : x < y) : ¬ y < x := fun h2 => lt_irr _ (List.lt_trans h h2)

theorem strict_one : ∀ (l m : List (List UInt8)), l.Pairwise (fun a b => a < b) → m.Pairwise (fun a b => a < b) → (∀ x, x ∈ l ↔ x ∈ m) → l = m
  | [], [], _, _, _ => rfl
  | [], y :: m, _, _, h => by have := (h y).2 (by simp); simp at this
  | x :: l, [], _, _, h => by have := (h x).1 (by simp); simp at this
  | x :: l, y :: m, hl, hm, h => by
    rw [List.pairwise_cons] at hl hm
    have e : x = y := by
      have hx := (h x).1 (by simp)
      have hy := (h y).2 (by simp)
      rw [List.mem_cons] at hx hy
      rcases hx with hx | hx
      · exact hx
      · rcases hy with hy | hy
        · exact hy.symm
        · exact absurd (hl.1 y hy) (lt_asym (hm.1 x hx))
    subst e
    rw [strict_one l m hl.2 hm.2 (fun z => ?_)]
    constructor
    · intro hz
      have := (h z).1 (by simp [hz])
      rw [List.mem_cons] at this
      rcases this with rfl | h1
      · exact absurd (hl.1 z hz) (lt_irr _)
      · exact h1
    · intro hz
      have := (h z).2 (by simp [hz])
      rw [List.mem_cons] at this
      rcases this with rfl | h1
      · exact absurd (hm.1 z hz) (lt_irr _)
      · exact h1

theorem txt_inj {a b : ByteArray} (h : txt' a = txt' b) : a = b := by rw [← of_txt a, ← of_txt b, h]

theorem rising_mem (l : List ByteArray) (s : ByteArray) : s ∈ rising l ↔ s ∈ l := by
  unfold rising
  rw [List.mem_map]
  constructor
  · rintro ⟨t, ht, rfl⟩
    rw [risingT_mem, List.mem_map] at ht
    obtain ⟨u, hu, rfl⟩ := ht
    rw [of_txt]; exact hu
  · intro h
    exact ⟨txt' s, (risingT_mem _ _).2 (List.mem_map_of_mem h), of_txt s⟩

/-- rising lists -/
def Strict (l : List ByteArray) : Prop := l.Pairwise fun a b => txt' a < txt' b

theorem rising_strict (l : List ByteArray) : Strict (rising l) := by
  unfold Strict rising
  rw [List.pairwise_map]
  exact (risingT_sorted _).imp (fun h => h)

theorem strict_eq {l m : List ByteArray} (hl : Strict l) (hm : Strict m) (h : ∀ s, s ∈ l ↔ s ∈ m) : l = m := by
  have e : l.map txt' = m.map txt' := strict_one _ _ (by rw [List.pairwise_map]; exact hl) (by rw [List.pairwise_map]; exact hm) (fun x => by
    simp only [List.mem_map]
    constructor
    · rintro ⟨s, hs, rfl⟩; exact ⟨s, (h s).1 hs, rfl⟩
    · rintro ⟨s, hs, rfl⟩; exact ⟨s, (h s).2 hs, rfl⟩)
  have f := congrArg (List.map ofTxt) e
  rw [List.map_map, List.map_map, show ofTxt ∘ txt' = id from funext of_txt, List.map_id, List.map_id] at f
  exact f

theorem rising_eq {l m : List ByteArray} (hm : Strict m) (h : ∀ s, s ∈ l ↔ s ∈ m) : rising l = m :=
  strict_eq (rising_strict l) hm (fun s => by rw [rising_mem]; exact h s)

theorem rising_rising (l m : List ByteArray) : rising (rising l ++ rising m) = rising (l ++ m) :=
  rising_eq (rising_strict _) (fun s => by simp [rising_mem])

theorem toList_txt (s : ByteArray) : s.toList = txt' s := ByteArray.toList_eq s

theorem has_mem (l : List ByteArray) (s : ByteArray) : has l s = true ↔ s ∈ l := by
  unfold has
  rw [List.any_eq_true]
  constructor
  · rintro ⟨x, hx, he⟩
    have : x.toList = s.toList := by simpa using he
    rw [toList_txt, toList_txt] at this
    rwa [← txt_inj this]
  · intro h
    exact ⟨s, h, by simp⟩

theorem filter_strict {l : List ByteArray} (h : Strict l) (f : ByteArray → Bool) : Strict (l.filter f) := h.filter f

end Go.Proofs.YthbdfnphnppagaaDoor.M

namespace Go.Proofs.YthbdfnphnppagaaDoor.M
open Go

def shiftDfn (n : Int) (d : Dfn) : Dfn := bif d.kind == 3 then d else { d with frag := d.frag + n }

theorem plain_common {d : Dfn} (h : plainDfn d = 0) (hk : (d.kind == 3) = true) : d.frag = 0 := by
  have hk' : d.kind = 3 := by simpa using hk
  unfold plainDfn at h
  split at h
  · cases h
  split at h
  · omega
  · cases hf : (d.frag == 0)
    · rw [hf] at h; simp at h
    · simpa using hf

theorem shift_defs (fs : List Frg) (l : List ByteArray) (n : Int) (hn : 0 ≤ n) : ∀ ds : List Dfn, (∀ d ∈ ds, plainDfn d = 0) → (∀ d ∈ ds, Stands fs d) → movedDefs (count l n fs) ds = (movedDefs (count l 0 fs) ds).map (shiftDfn n)
  | [], _, _ => rfl
  | d :: ds, hp, hs => by
    have ih := shift_defs fs l n hn ds (fun d hd => hp d (List.mem_cons_of_mem _ hd)) (fun d hd => hs d (List.mem_cons_of_mem _ hd))
    rw [movedDefs_cons, movedDefs_cons, ih]
    cases hk : (d.kind == 3)
    · obtain ⟨f, h0, hf, _⟩ := hs d (by simp) hk
      have e1 : ∀ to, movedDfn to d = { d with frag := num to d.frag } := fun to => by unfold movedDfn; rw [hk]; rfl
      rw [e1, e1]
      dsimp only
      rw [num_get l fs n _ h0 f hf, num_get l fs 0 _ h0 f hf]
      cases hg : gone l f
      · simp only [cond_false]
        have h1 : (n + ((stays l (fs.take d.frag.toNat)).length : Int) == -1) = false := by rw [beq_eq_false_iff_ne]; omega
        have h2 : (0 + ((stays l (fs.take d.frag.toNat)).length : Int) == -1) = false := by rw [beq_eq_false_iff_ne]; omega
        rw [h1, h2]
        simp only [cond_false, List.map_cons, shiftDfn, hk]
        congr 2
        omega
      · simp
    · have h0 := plain_common (hp d (by simp)) hk
      have e1 : ∀ to, movedDfn to d = d := fun to => by unfold movedDfn; rw [hk]; rfl
      rw [e1, e1, h0]
      have h2 : ((0 : Int) == -1) = false := by decide
      rw [h2]
      simp only [cond_false, List.map_cons, shiftDfn, hk, cond_true]

theorem drop_defs (p : Prt) (l : List ByteArray) : (drop p l).defs = movedDefs (count l 0 p.frags) p.defs := rfl

theorem put_defs (a b : Prt) (l : List ByteArray) (hb : Ok b) : (put a l b).defs = a.defs ++ (drop b l).defs.map (shiftDfn a.frags.length) := by
  rw [drop_defs, ← shift_defs b.frags l a.frags.length (by omega) b.defs hb.plain hb.stands]
  rfl

theorem name_shift (n : Int) (d : Dfn) : (shiftDfn n d).name = d.name := by unfold shiftDfn; cases d.kind == 3 <;> rfl
theorem kind_shift (n : Int) (d : Dfn) : (shiftDfn n d).kind = d.kind := by unfold shiftDfn; cases d.kind == 3 <;> rfl

theorem wantedOf_moved (to : List Int) (rs : List Rel) : wantedOf (rs.map (movedRel to)) = wantedOf rs := by
  unfold wantedOf
  have hn : ∀ r, (movedRel to r).name = r.name := fun r => by unfold movedRel; cases bare r.name && !(r.frag == -1) <;> rfl
  rw [List.filter_map, List.map_map]
  congr 1
  · funext r; exact hn r
  · congr 1
    funext r
    show (!(bare (movedRel to r).name)) = _
    rw [hn]

theorem wanted_moved (to : List Int) (fs : List Frg) : wantedNames (fs.map (movedFrg to)) = wantedNames fs := by
  unfold wantedNames
  rw [List.flatMap_map]
  congr 1
  funext f
  exact wantedOf_moved to f.rels

theorem wanted_put (a b : Prt) (l : List ByteArray) : wantedNames (put a l b).frags = wantedNames a.frags ++ wantedNames (drop b l).frags := by
  rw [put_frags, drop_frags, wanted_moved]
  show List.flatMap _ _ = _
  rw [List.flatMap_append]
  congr 1
  exact wanted_moved _ _

theorem defined_put (a b : Prt) (l : List ByteArray) (hb : Ok b) : definedNames (put a l b).defs = definedNames a.defs ++ definedNames (drop b l).defs := by
  rw [put_defs a b l hb]
  unfold definedNames
  rw [List.map_append, List.map_map]
  congr 2
  funext d
  exact name_shift _ d

theorem isDef_shift (n : Int) (s : ByteArray) (k : Int) (d : Dfn) : isDef s k (shiftDfn n d) = isDef s k d := by unfold isDef; rw [name_shift, kind_shift]

theorem ofKind_app (ds es : List Dfn) (n : Int) (s : ByteArray) (k : Int) : ofKind (ds ++ es.map (shiftDfn n)) s k = ofKind ds s k ++ (ofKind es s k).map (shiftDfn n) := by
  unfold ofKind
  rw [List.filter_append, List.filter_map]
  congr 2
  congr 1
  funext d
  exact isDef_shift n s k d

theorem ofKind_kind {ds : List Dfn} {s : ByteArray} {k : Int} {d : Dfn} (h : d ∈ ofKind ds s k) : d.kind = k := by
  have := (List.mem_filter.1 h).2
  simp only [isDef, Bool.and_eq_true] at this
  simpa using this.2

theorem shift_three (n : Int) (l : List Dfn) (h : ∀ d ∈ l, d.kind = 3) : l.map (shiftDfn n) = l := by
  have : l.map (shiftDfn n) = l.map id := List.map_congr_left fun d hd => by
    unfold shiftDfn
    rw [h d hd]
    rfl
  rw [this, List.map_id]

theorem fold_kind (l : List Dfn) : ∀ o : Dfn, (l.foldl grow o).kind = o.kind ∧ (l.foldl grow o).name = o.name ∧ (l.foldl grow o).frag = o.frag ∧ (l.foldl grow o).pos = o.pos := by
  induction l with
  | nil => intro o; exact ⟨rfl, rfl, rfl, rfl⟩
  | cons d l ih => intro o; rw [List.foldl_cons]; exact ih (grow o d)

def mx (f : Dfn → Int) (l : List Dfn) (x : Int) : Int := l.foldl (fun m d => max m (f d)) x

theorem fold_size (l : List Dfn) : ∀ o : Dfn, (l.foldl grow o).size = mx (·.size) l o.size := by
  induction l with
  | nil => intro o; rfl
  | cons d l ih => intro o; rw [List.foldl_cons]; exact ih (grow o d)
theorem fold_align (l : List Dfn) : ∀ o : Dfn, (l.foldl grow o).align = mx (·.align) l o.align := by
  induction l with
  | nil => intro o; rfl
  | cons d l ih => intro o; rw [List.foldl_cons]; exact ih (grow o d)
theorem mx_max (f : Dfn → Int) (l : List Dfn) : ∀ x y : Int, mx f l (max x y) = max x (mx f l y) := by
  induction l with
  | nil => intro x y; rfl
  | cons d l ih =>
    intro x y
    show mx f l (max (max x y) (f d)) = max x (mx f l (max y (f d)))
    rw [← ih, Int.max_assoc]
theorem mx_head (f : Dfn → Int) (c : Dfn) (l : List Dfn) (x : Int) : mx f (c :: l) x = max x (mx f (c :: l) (f c)) := by
  show mx f l (max x (f c)) = max x (mx f l (max (f c) (f c)))
  rw [mx_max, Int.max_self]

theorem greatest_app (a c : Dfn) (l m : List Dfn) :
    (greatest (a :: l ++ c :: m)).size = max (greatest (a :: l)).size (greatest (c :: m)).size ∧ (greatest (a :: l ++ c :: m)).align = max (greatest (a :: l)).align (greatest (c :: m)).align ∧ (greatest (a :: l ++ c :: m)).kind = a.kind := by
  have e : greatest (a :: l ++ c :: m) = (c :: m).foldl grow (greatest (a :: l)) := by
    unfold greatest
    rw [List.foldl_append]
    rfl
  have e2 : greatest (c :: m) = (c :: m).foldl grow c := rfl
  rw [e, e2, fold_size, fold_size, fold_align, fold_align, (fold_kind _ _).1]
  exact ⟨mx_head _ c m _, mx_head _ c m _, (fold_kind _ _).1⟩

/-- what the law asks of the three that were found -/
def movedY (n : Int) (y : Dfn) : Dfn := bif (y.kind == 1 || y.kind == 2) then { y with frag := y.frag + n } else y
def joinedB (n : Int) (x y z : Dfn × Int) : Bool :=
  if x.2 = 6 ∨ y.2 = 6 ∨ (x.2 = 0 ∧ y.2 = 0 ∧ x.1.kind = 1 ∧ y.1.kind = 1) then z.2 == 6
  else if x.2 = 7 then z.2 == y.2 && (!(z.2 == 0) || sameDfn z.1 (movedY n y.1))
  else if y.2 = 7 then z.2 == x.2 && sameDfn z.1 x.1
  else if x.2 ≠ 0 ∨ y.2 ≠ 0 ∨ z.2 ≠ 0 then false
  else if y.1.kind = 1 ∨ (x.1.kind = 2 ∧ y.1.kind = 3) then sameDfn z.1 (movedY n y.1)
  else if x.1.kind = 3 ∧ y.1.kind = 3 then z.1.kind == 3 && z.1.size == max x.1.size y.1.size && z.1.align == max x.1.align y.1.align
  else sameDfn z.1 x.1

theorem sameDfn_self (d : Dfn) : sameDfn d d = true := by simp [sameDfn]

theorem shift_moved (n : Int) {d : Dfn} (h : d.kind = 1 ∨ d.kind = 2) : shiftDfn n d = movedY n d := by
  unfold shiftDfn movedY
  rcases h with h | h <;> rw [h] <;> rfl

theorem joined_in (n : Int) (A1 A3 A2 C1 C3 C2 : List Dfn) (a1 : ∀ d ∈ A1, d.kind = 1) (a3 : ∀ d ∈ A3, d.kind = 3) (a2 : ∀ d ∈ A2, d.kind = 2) (c1 : ∀ d ∈ C1, d.kind = 1) (c3 : ∀ d ∈ C3, d.kind = 3) (c2 : ∀ d ∈ C2, d.kind = 2) :
    joinedB n (findIn A1 A3 A2) (findIn C1 C3 C2) (findIn (A1 ++ C1.map (shiftDfn n)) (A3 ++ C3) (A2 ++ C2.map (shiftDfn n))) = true := by
  have g3 : ∀ (d : Dfn) (l : List Dfn), (∀ x ∈ d :: l, x.kind = 3) → (greatest (d :: l)).kind = 3 := fun d l h => by
    unfold greatest; rw [(fold_kind _ _).1]; exact h d (by simp)
  match A1, C1 with
  | _ :: _ :: _, _ => simp [findIn, joinedB]
  | [x], _ :: _ :: _ => simp [findIn, joinedB]
  | [], _ :: _ :: _ => simp [findIn, joinedB]
  | [x], [y] =>
    have := a1 x (by simp)
    have := c1 y (by simp)
    simp [findIn, joinedB, *]
  | [x], [] =>
    have hx := a1 x (by simp)
    match C3, C2 with
    | c :: m, _ =>
      have := g3 c m c3
      simp [findIn, joinedB, hx, this, sameDfn_self]
    | [], c :: m =>
      have := c2 c (by simp)
      simp [findIn, joinedB, hx, this, sameDfn_self]
    | [], [] => simp [findIn, joinedB, hx, sameDfn_self]
  | [], [y] =>
    have hy := c1 y (by simp)
    have hm := shift_moved n (.inl hy)
    match A3, A2 with
    | c :: m, _ =>
      have := g3 c m a3
      simp [findIn, joinedB, hy, this, sameDfn_self, hm]
    | [], c :: m =>
      have := a2 c (by simp)
      simp [findIn, joinedB, hy, this, sameDfn_self, hm]
    | [], [] => simp [findIn, joinedB, hy, sameDfn_self, hm]
  | [], [] =>
    match A3, C3 with
    | a :: l, c :: m =>
      have ha := g3 a l a3
      have hc := g3 c m c3
      have hx := greatest_app a c l m
      have h3 := a3 a (by simp)
      rw [List.cons_append] at hx
      simp [findIn, joinedB, ha, hc, hx, h3]
    | a :: l, [] =>
      have ha := g3 a l a3
      match C2 with
      | [] => simp [findIn, joinedB, ha, sameDfn_self]
      | c :: m =>
        have := c2 c (by simp)
        simp [findIn, joinedB, ha, this, sameDfn_self]
    | [], c :: m =>
      have hc := g3 c m c3
      have hm : movedY n (greatest (c :: m)) = greatest (c :: m) := by unfold movedY; rw [hc]; rfl
      match A2 with
      | [] => simp [findIn, joinedB, hc, sameDfn_self, hm]
      | a :: l =>
        have := a2 a (by simp)
        simp [findIn, joinedB, hc, this, sameDfn_self, hm]
    | [], [] =>
      match A2, C2 with
      | [], [] => simp [findIn, joinedB]
      | [], c :: m =>
        have hc := c2 c (by simp)
        simp [findIn, joinedB, hc, sameDfn_self, shift_moved n (.inr hc)]
      | a :: l, [] =>
        have := a2 a (by simp)
        simp [findIn, joinedB, this, sameDfn_self]
      | a :: l, c :: m =>
        have := a2 a (by simp)
        have := c2 c (by simp)
        simp [findIn, joinedB, *, sameDfn_self]

theorem joined_ok (a b : Prt) (l : List ByteArray) (s : ByteArray) (hb : Ok b) : joinedB a.frags.length (find a.defs s) (find (drop b l).defs s) (find (put a l b).defs s) = true := by
  rw [put_defs a b l hb]
  unfold find
  rw [ofKind_app, ofKind_app, ofKind_app, shift_three _ (ofKind _ s 3) (fun d hd => ofKind_kind hd)]
  exact joined_in _ _ _ _ _ _ _ (fun d hd => ofKind_kind hd) (fun d hd => ofKind_kind hd) (fun d hd => ofKind_kind hd) (fun d hd => ofKind_kind hd) (fun d hd => ofKind_kind hd) (fun d hd => ofKind_kind hd)

end Go.Proofs.YthbdfnphnppagaaDoor.M

namespace Go.Proofs.YthbdfnphnppagaaDoor.M
set_option linter.unusedVariables false

def shiftRel (n : Int) (r : Rel) : Rel := bif bare r.name && !(r.frag == -1) then { r with frag := r.frag + n } else r
def shiftFrg (n : Int) (f : Frg) : Frg := { f with rels := f.rels.map (shiftRel n) }
def shift (n : Int) (p : Prt) : Prt := ⟨p.frags.map (shiftFrg n), p.defs.map (shiftDfn n)⟩

theorem shift_rel (fs : List Frg) (l : List ByteArray) (n : Int) (hn : 0 ≤ n) (r : Rel) (hr : Fits fs.length r) : movedRel (count l n fs) r = shiftRel n (movedRel (count l 0 fs) r) := by
  cases hb : bare r.name
  · rw [movedRel_named hb, movedRel_named hb]; unfold shiftRel; rw [hb]; rfl
  · cases hg : (r.frag == -1)
    · obtain ⟨h1, h2⟩ := hr hb
      have hne : r.frag ≠ -1 := by simpa using hg
      have hlt : r.frag.toNat < fs.length := by omega
      have hget : fs[r.frag.toNat]? = some fs[r.frag.toNat] := List.getElem?_eq_getElem hlt
      have e1 := num_get l fs n r.frag (by omega) _ hget
      have e2 := num_get l fs 0 r.frag (by omega) _ hget
      rw [movedRel_bare hb hg, movedRel_bare hb hg, e1, e2]
      unfold shiftRel
      cases hq : gone l fs[r.frag.toNat]
      · simp only [hb, cond_false, Bool.true_and]
        have : (((0 : Int) + ((stays l (fs.take r.frag.toNat)).length : Int)) == -1) = false := by
          rw [beq_eq_false_iff_ne]; omega
        rw [this]
        simp
        omega
      · simp [hb]
    · rw [movedRel_gone hg, movedRel_gone hg]; unfold shiftRel; rw [hg]; simp

theorem shift_frg (fs : List Frg) (l : List ByteArray) (n : Int) (hn : 0 ≤ n) (f : Frg) (hf : ∀ r ∈ f.rels, Fits fs.length r) : movedFrg (count l n fs) f = shiftFrg n (movedFrg (count l 0 fs) f) := by
  unfold movedFrg shiftFrg
  simp only [List.map_map]
  congr 1
  exact List.map_congr_left fun r hr => shift_rel fs l n hn r (hf r hr)

/-- what is put behind a part -/
theorem put_shift (a b : Prt) (l : List ByteArray) (hb : Ok b) : put a l b = plus a (shift a.frags.length (drop b l)) := by
  have h1 := put_frags a b l
  have h2 := put_defs a b l hb
  have h3 : (stays l b.frags).map (movedFrg (count l a.frags.length b.frags)) = (drop b l).frags.map (shiftFrg a.frags.length) := by
    rw [drop_frags, List.map_map]
    exact List.map_congr_left fun f hf => shift_frg b.frags l _ (Int.natCast_nonneg _) f (hb.fits f ((List.mem_filter.1 hf).1))
  rw [h3] at h1
  cases hp : put a l b with
  | mk x y =>
    rw [hp] at h1 h2
    simp only at h1 h2
    rw [h1, h2]
    rfl

/-- two whole parts joined -/
theorem both_shift (a b : Prt) (ha : Ok a) (hb : Ok b) : both a b = plus a (shift a.frags.length (drop b (groups a.frags))) := by
  rw [← put_shift a b _ hb]
  unfold both put
  rw [moved_id ha]

end Go.Proofs.YthbdfnphnppagaaDoor.M
