/-
  The plain mathematics: what a part is, what is wrong with it, when two are alike. Lists and integers alone; nothing of the program. The plain mathematics of package part: groups, what is dropped, what is joined. Lists and integers alone; nothing of the program. The mathematics of joining: a right part is as it was, what is joined is right, and joining is associative. What is joined is right; joining is associative; nothing joined with a part is that. What is joined is right; joining is associative; nothing joined with a part is that. Joining, in whatever way, as Join and All answer. Groups: those of a part that is joined begin with the first one's; what is dropped is gone once and for all; how many fragments a group has. The plain mathematics of package names: names wanted and defined, which definition counts, what is wrong. Lists and integers alone; nothing of the program. What is rising: the same names, each once, in order; two such lists with the same names are one. What two parts want and define, joined; which definition counts there.
-/
import Derived.Lib.SlicesCompact
import Derived.Laws.Strings

namespace Go.Proofs.YtcdpboocfkaifaaGreatDoor.M

structure Rel where
  pos : Int
  kind : Int
  name : ByteArray
  frag : Int
  add : Int

structure Frg where
  sect : Int
  align : Int
  group : ByteArray
  bytes : List Int
  size : Int
  rels : List Rel

structure Dfn where
  name : ByteArray
  kind : Int
  frag : Int
  pos : Int
  size : Int
  align : Int

structure Prt where
  frags : List Frg
  defs : List Dfn

def within (n a b : Int) : Bool := decide (a ≤ n) && decide (n ≤ b)
def nameByte (c : Int) : Bool := (decide (97 ≤ c) && decide (c ≤ 122)) || (decide (48 ≤ c) && decide (c ≤ 57)) || c == 95
def isName (s : ByteArray) : Bool := decide (1 ≤ s.size) && decide (s.size ≤ 8) && s.data.toList.all fun c => nameByte c.toNat
def isAlign (n : Int) : Bool := n == 1 || n == 2 || n == 4 || n == 8
def wide (k : Int) : Int := if k = 1 ∨ k = 3 then 1 else if k = 2 ∨ k = 4 then 2 else 0
def lng (s sz : Int) (n : Nat) : Int := if s = 5 then sz else n
def long (f : Frg) : Int := lng f.sect f.size f.bytes.length

/-- what is wrong with what a place leads to -/
def target (r : Rel) (many : Int) : Int :=
  if r.name.toList.isEmpty then (if within r.frag (-1) (many - 1) then 0 else 5)
  else if isName r.name && r.frag == 0 then 0 else 1

/-- a place may stand there -/
def placed (r : Rel) (from_ len : Int) : Bool :=
  !(wide r.kind == 0) && within r.pos from_ (len - wide r.kind) && within r.add (-10000) 10000

def checkRels (len many : Int) : Int → List Rel → Int
  | _, [] => 0
  | e, r :: rs => if placed r e len then (if target r many = 0 then checkRels len many (r.pos + wide r.kind) rs else target r many) else 3

def formed (f : Frg) : Bool :=
  if f.sect = 5 then f.bytes.length == 0 && f.rels.length == 0 && within f.size 0 64
  else if f.sect = 3 then f.size == 0 && f.rels.length == 0
  else f.size == 0

def checkFrag (f : Frg) (many : Int) : Int :=
  if !(within f.sect 1 5) || !(isAlign f.align) then 3
  else if f.group.toList.isEmpty = false ∧ isName f.group = false then 1
  else if 64 < f.bytes.length ∨ 8 < f.rels.length then 2
  else if formed f = false then 4
  else checkRels f.bytes.length many 0 f.rels

/-- of a definition that stands in a fragment -/
def inFrag (pos size align : Int) (f : Frg) : Int := bif within pos 0 (long f) && size == 0 && align == 0 then 0 else 3

def defAt (frag pos size align : Int) (fs : List Frg) : Int :=
  if within frag 0 (fs.length - 1) then
    (match fs[frag.toNat]? with
     | some f => inFrag pos size align f
     | none => 0)
  else 5

def checkDef (d : Dfn) (fs : List Frg) : Int :=
  if isName d.name = false then 1
  else if d.kind = 1 ∨ d.kind = 2 then defAt d.frag d.pos d.size d.align fs
  else if d.kind = 3 then (bif d.frag == 0 && d.pos == 0 && within d.size 1 64 && isAlign d.align then 0 else 3)
  else 4

def checkFrags (many : Int) : List Frg → Int
  | [] => 0
  | f :: fs => if checkFrag f many = 0 then checkFrags many fs else checkFrag f many

def checkDefs (fs : List Frg) : List Dfn → Int
  | [] => 0
  | d :: ds => if checkDef d fs = 0 then checkDefs fs ds else checkDef d fs

def checkPart (p : Prt) : Int :=
  if 60 < p.frags.length ∨ 60 < p.defs.length then 2
  else if checkFrags p.frags.length p.frags = 0 then checkDefs p.frags p.defs else checkFrags p.frags.length p.frags

def sameRel (a b : Rel) : Bool := a.pos == b.pos && a.kind == b.kind && a.name.toList == b.name.toList && a.frag == b.frag && a.add == b.add
def sameDfn (a b : Dfn) : Bool := a.name.toList == b.name.toList && a.kind == b.kind && a.frag == b.frag && a.pos == b.pos && a.size == b.size && a.align == b.align

def allTwo {α : Type} (eq : α → α → Bool) : List α → List α → Bool
  | [], [] => true
  | x :: xs, y :: ys => eq x y && allTwo eq xs ys
  | _, _ => false

def sameFrg (a b : Frg) : Bool :=
  a.sect == b.sect && a.align == b.align && a.group.toList == b.group.toList && a.size == b.size && allTwo (fun x y => x == y) a.bytes b.bytes && allTwo sameRel a.rels b.rels

def samePart (a b : Prt) : Bool := allTwo sameFrg a.frags b.frags && allTwo sameDfn a.defs b.defs

end Go.Proofs.YtcdpboocfkaifaaGreatDoor.M

namespace Go.Proofs.YtcdpboocfkaifaaGreatDoor.M

def has (l : List ByteArray) (g : ByteArray) : Bool := l.any fun x => x.toList == g.toList
def bare (g : ByteArray) : Bool := g.toList.isEmpty
def gone (l : List ByteArray) (f : Frg) : Bool := !(bare f.group) && has l f.group
def addGroup (l : List ByteArray) (f : Frg) : List ByteArray := bif bare f.group || has l f.group then l else l ++ [f.group]
def groups (fs : List Frg) : List ByteArray := fs.foldl addGroup []

/-- the numbers that the fragments get, those that are let go -1 -/
def count (l : List ByteArray) : Int → List Frg → List Int
  | _, [] => []
  | n, f :: fs => bif gone l f then (-1) :: count l n fs else n :: count l (n + 1) fs

def stays (l : List ByteArray) (fs : List Frg) : List Frg := fs.filter fun f => !(gone l f)

def num (to : List Int) (i : Int) : Int := to.getD i.toNat 0
def movedRel (to : List Int) (r : Rel) : Rel := bif bare r.name && !(r.frag == -1) then { r with frag := num to r.frag } else r
def movedFrg (to : List Int) (f : Frg) : Frg := { f with rels := f.rels.map (movedRel to) }
def movedDfn (to : List Int) (d : Dfn) : Dfn := bif d.kind == 3 then d else { d with frag := num to d.frag }

def movedFrags (to : List Int) (fs : List Frg) : List Frg := ((fs.zip to).filter fun x => !(x.2 == -1)).map fun x => movedFrg to x.1
def movedDefs (to : List Int) (ds : List Dfn) : List Dfn := (ds.map (movedDfn to)).filter fun d => !(d.frag == -1)
def moved (to : List Int) (p : Prt) : Prt := ⟨movedFrags to p.frags, movedDefs to p.defs⟩

def nil : Prt := ⟨[], []⟩
def plus (p q : Prt) : Prt := ⟨p.frags ++ q.frags, p.defs ++ q.defs⟩
def drop (p : Prt) (l : List ByteArray) : Prt := moved (count l 0 p.frags) p
def both (a b : Prt) : Prt := plus (moved (count [] 0 a.frags) a) (moved (count (groups a.frags) a.frags.length b.frags) b)
def full (p : Prt) : Bool := decide (60 < p.frags.length) || decide (60 < p.defs.length)

/-- the part and the error that Join answers -/
def join (a b : Prt) : Prt × Int :=
  if checkPart a = 0 then
    if checkPart b = 0 then
      bif full (both a b) then (nil, 10) else (both a b, 0)
    else (nil, checkPart b)
  else (nil, checkPart a)

def allFrom (p : Prt) : List Prt → Prt × Int
  | [] => (p, 0)
  | q :: l => if (join p q).2 = 0 then allFrom (join p q).1 l else (nil, (join p q).2)

end Go.Proofs.YtcdpboocfkaifaaGreatDoor.M

namespace Go.Proofs.YtcdpboocfkaifaaGreatDoor.M
set_option linter.unusedVariables false

theorem count_length (l : List ByteArray) : ∀ (fs : List Frg) (n : Int), (count l n fs).length = fs.length
  | [], _ => rfl
  | f :: fs, n => by
    rw [count]
    cases gone l f <;> simp [count_length l fs]

theorem gone_nil (f : Frg) : gone [] f = false := by simp [gone, has]

/-- what a place leads to, moved, is a number of the new part or none -/
def Fits (many : Int) (r : Rel) : Prop := bare r.name = true → -1 ≤ r.frag ∧ r.frag < many

def plainRel (r : Rel) : Rel := bif bare r.name then { r with frag := 0 } else r

theorem checkRels_ok (len many : Int) : ∀ (rs : List Rel) (e : Int), checkRels len many e rs = 0 ↔ (checkRels len 1 e (rs.map plainRel) = 0 ∧ ∀ r ∈ rs, Fits many r)
  | [], e => by simp [checkRels]
  | r :: rs, e => by
    have ih := checkRels_ok len many rs (r.pos + wide r.kind)
    simp only [List.map_cons, checkRels, List.forall_mem_cons]
    have e1 : (plainRel r).pos = r.pos := by unfold plainRel; cases bare r.name <;> rfl
    have e2 : (plainRel r).kind = r.kind := by unfold plainRel; cases bare r.name <;> rfl
    have e3 : (plainRel r).add = r.add := by unfold plainRel; cases bare r.name <;> rfl
    have e4 : (plainRel r).name = r.name := by unfold plainRel; cases bare r.name <;> rfl
    have hp : placed (plainRel r) e len = placed r e len := by simp only [placed, e1, e2, e3]
    rw [hp, e1, e2]
    by_cases h : placed r e len = true
    · rw [if_pos h, if_pos h]
      have ht : target r many = 0 ↔ (target (plainRel r) 1 = 0 ∧ Fits many r) := by
        unfold target Fits plainRel
        rw [show (bif bare r.name then { r with frag := 0 } else r : Rel).name = r.name from e4]
        cases hb : bare r.name
        · have : r.name.toList.isEmpty = false := hb
          simp [this]
        · have : r.name.toList.isEmpty = true := hb
          simp [this, within]
          omega
      by_cases h1 : target r many = 0
      · obtain ⟨h2, h3⟩ := ht.1 h1
        rw [if_pos h1, if_pos h2, ih]
        simp [h3]
      · rw [if_neg h1]
        constructor
        · intro h2; exact absurd h2 h1
        · rintro ⟨h2, h3, h4⟩
          by_cases h5 : target (plainRel r) 1 = 0
          · exact absurd (ht.2 ⟨h5, h3⟩) h1
          · rw [if_neg h5] at h2; exact absurd h2 h5
    · rw [if_neg h, if_neg h]; simp

def shaped (f : Frg) : Int := checkFrag { f with rels := f.rels.map plainRel } 1

theorem checkFrag_ok (f : Frg) (many : Int) : checkFrag f many = 0 ↔ (shaped f = 0 ∧ ∀ r ∈ f.rels, Fits many r) := by
  unfold shaped checkFrag
  have e : formed { f with rels := f.rels.map plainRel } = formed f := by simp [formed]
  rw [e]
  dsimp only
  rw [List.length_map]
  split
  · simp
  split
  · simp
  split
  · simp
  split
  · simp
  exact checkRels_ok _ _ _ _

theorem checkFrags_ok (many : Int) : ∀ fs : List Frg, checkFrags many fs = 0 ↔ ∀ f ∈ fs, checkFrag f many = 0
  | [] => by simp [checkFrags]
  | f :: fs => by
    simp only [checkFrags, List.forall_mem_cons, ← checkFrags_ok many fs]
    by_cases h : checkFrag f many = 0
    · simp [h]
    · simp [h]

theorem checkDefs_ok (fs : List Frg) : ∀ ds : List Dfn, checkDefs fs ds = 0 ↔ ∀ d ∈ ds, checkDef d fs = 0
  | [] => by simp [checkDefs]
  | d :: ds => by
    simp only [checkDefs, List.forall_mem_cons, ← checkDefs_ok fs ds]
    by_cases h : checkDef d fs = 0
    · simp [h]
    · simp [h]

/-- a definition is right but for its fragment, and stands in one, or in none -/
def plainDfn (d : Dfn) : Int :=
  if isName d.name = false then 1
  else if d.kind = 1 ∨ d.kind = 2 then (bif d.size == 0 && d.align == 0 then 0 else 3)
  else if d.kind = 3 then (bif d.frag == 0 && d.pos == 0 && within d.size 1 64 && isAlign d.align then 0 else 3)
  else 4

def Stands (fs : List Frg) (d : Dfn) : Prop := (d.kind == 3) = false → ∃ f, 0 ≤ d.frag ∧ fs[d.frag.toNat]? = some f ∧ within d.pos 0 (long f) = true

theorem checkDef_ok (d : Dfn) (fs : List Frg) : checkDef d fs = 0 ↔ (plainDfn d = 0 ∧ Stands fs d) := by
  unfold checkDef plainDfn Stands
  split
  · simp
  split
  · rename_i h1
    have hk : (d.kind == 3) = false := by rw [beq_eq_false_iff_ne]; omega
    unfold defAt inFrag
    by_cases hw : within d.frag 0 (fs.length - 1) = true
    · rw [if_pos hw]
      have hw' : 0 ≤ d.frag ∧ d.frag ≤ fs.length - 1 := by simpa [within] using hw
      have hlt : d.frag.toNat < fs.length := by omega
      rw [List.getElem?_eq_getElem hlt]
      dsimp only
      cases hx : within d.pos 0 (long fs[d.frag.toNat]) <;> cases hs : (d.size == 0) <;> cases ha : (d.align == 0) <;> simp [hk, hw'.1, hx]
    · rw [if_neg hw]
      constructor
      · intro h; cases h
      · rintro ⟨h2, h3⟩
        obtain ⟨f, h4, h5, h6⟩ := h3 hk
        have := (List.getElem?_eq_some_iff.1 h5).1
        refine absurd ?_ hw
        simp only [within, Bool.and_eq_true, decide_eq_true_eq]
        omega
  · split
    · rename_i h1 h2
      simp [h2]
    · simp

/-- all that is asked of a right part -/
structure Ok (p : Prt) : Prop where
  nf : p.frags.length ≤ 60
  nd : p.defs.length ≤ 60
  shape : ∀ f ∈ p.frags, shaped f = 0
  fits : ∀ f ∈ p.frags, ∀ r ∈ f.rels, Fits p.frags.length r
  plain : ∀ d ∈ p.defs, plainDfn d = 0
  stands : ∀ d ∈ p.defs, Stands p.frags d

theorem ok_iff (p : Prt) : checkPart p = 0 ↔ Ok p := by
  unfold checkPart
  by_cases h : 60 < p.frags.length ∨ 60 < p.defs.length
  · rw [if_pos h]
    constructor
    · intro h2; cases h2
    · intro h2; have := h2.nf; have := h2.nd; omega
  · rw [if_neg h]
    by_cases h1 : checkFrags p.frags.length p.frags = 0
    · rw [if_pos h1, checkDefs_ok]
      have h2 := (checkFrags_ok _ _).1 h1
      constructor
      · intro h3
        exact ⟨by omega, by omega, fun f hf => ((checkFrag_ok f _).1 (h2 f hf)).1, fun f hf => ((checkFrag_ok f _).1 (h2 f hf)).2, fun d hd => ((checkDef_ok d _).1 (h3 d hd)).1, fun d hd => ((checkDef_ok d _).1 (h3 d hd)).2⟩
      · intro h3 d hd
        exact (checkDef_ok d _).2 ⟨h3.plain d hd, h3.stands d hd⟩
    · rw [if_neg h1]
      constructor
      · intro h2; exact absurd h2 h1
      · intro h2
        refine absurd ((checkFrags_ok _ _).2 fun f hf => ?_) h1
        exact (checkFrag_ok f _).2 ⟨h2.shape f hf, h2.fits f hf⟩

/-- count's entries: -1 or a number -/
theorem count_get (l : List ByteArray) : ∀ (fs : List Frg) (n : Int) (i : Nat) (f : Frg), fs[i]? = some f →
    (count l n fs)[i]? = some (bif gone l f then -1 else n + ((stays l (fs.take i)).length : Int))
  | [], _, i, f, h => by simp at h
  | g :: fs, n, 0, f, h => by
    simp only [List.getElem?_cons_zero, Option.some.injEq] at h
    subst h
    rw [count]
    cases hg : gone l g <;> simp [stays]
  | g :: fs, n, i + 1, f, h => by
    simp only [List.getElem?_cons_succ] at h
    rw [count]
    cases hg : gone l g
    · simp only [cond_false, List.getElem?_cons_succ, count_get l fs (n + 1) i f h, List.take_succ_cons, stays, List.filter_cons, hg, Bool.not_false, if_true, List.length_cons]
      cases gone l f
      · simp; omega
      · simp
    · simp only [cond_true, List.getElem?_cons_succ, count_get l fs n i f h, List.take_succ_cons, stays, List.filter_cons, hg, Bool.not_true, Bool.false_eq_true, if_false]

theorem num_get (l : List ByteArray) (fs : List Frg) (n : Int) (i : Int) (h0 : 0 ≤ i) (f : Frg) (h : fs[i.toNat]? = some f) :
    num (count l n fs) i = bif gone l f then -1 else n + ((stays l (fs.take i.toNat)).length : Int) := by
  unfold num
  rw [List.getD_eq_getElem?_getD, count_get l fs n i.toNat f h]
  rfl

/-- which fragments stay -/
theorem zip_stays (l : List ByteArray) : ∀ (fs : List Frg) (n : Int), 0 ≤ n → ((fs.zip (count l n fs)).filter fun x => !(x.2 == -1)).map Prod.fst = stays l fs
  | [], _, _ => rfl
  | f :: fs, n, hn => by
    rw [count]
    cases hg : gone l f
    · have hne : (n == -1) = false := by rw [beq_eq_false_iff_ne]; omega
      simp only [cond_false, List.zip_cons_cons, List.filter_cons, hne, Bool.not_false, if_true, List.map_cons, zip_stays l fs (n + 1) (by omega), stays, hg]
    · simp only [cond_true, List.zip_cons_cons, List.filter_cons, beq_self_eq_true, Bool.not_true, Bool.false_eq_true, if_false, zip_stays l fs n hn, stays, hg]

theorem movedFrags_eq (l : List ByteArray) (to : List Int) (fs : List Frg) (n : Int) (hn : 0 ≤ n) (h : to = count l n fs) : movedFrags to fs = (stays l fs).map (movedFrg to) := by
  unfold movedFrags
  rw [← zip_stays l fs n hn, List.map_map, ← h]
  rfl

theorem stays_nil (fs : List Frg) : stays [] fs = fs := by
  unfold stays
  rw [List.filter_eq_self]
  intro f _
  rw [gone_nil]; rfl

theorem num_nil (fs : List Frg) (n i : Int) (h0 : 0 ≤ i) (h : i < fs.length) : num (count [] n fs) i = n + i := by
  have hlt : i.toNat < fs.length := by omega
  rw [num_get [] fs n i h0 fs[i.toNat] (List.getElem?_eq_getElem hlt), gone_nil, stays_nil, List.length_take]
  simp
  omega

theorem movedFrg_id (to : List Int) (f : Frg) (h : ∀ r ∈ f.rels, bare r.name = true → (r.frag == -1) = false → num to r.frag = r.frag) : movedFrg to f = f := by
  unfold movedFrg
  have : f.rels.map (movedRel to) = f.rels := by
    rw [List.map_congr_left (g := id), List.map_id]
    intro r hr
    unfold movedRel
    cases hb : bare r.name
    · rfl
    · cases h1 : (r.frag == -1)
      · simp only [Bool.not_false, Bool.and_self, cond_true, id]
        rw [h r hr hb h1]
      · rfl
  rw [this]

/-- a right part is as it was -/
theorem moved_id {p : Prt} (h : Ok p) : moved (count [] 0 p.frags) p = p := by
  unfold moved
  have e1 : movedFrags (count [] 0 p.frags) p.frags = p.frags := by
    rw [movedFrags_eq [] _ _ 0 (by omega) rfl, stays_nil, List.map_congr_left (g := id), List.map_id]
    intro f hf
    refine movedFrg_id _ _ fun r hr hb h1 => ?_
    have := h.fits f hf r hr hb
    rw [beq_eq_false_iff_ne] at h1
    rw [num_nil _ _ _ (by omega) (by omega)]
    omega
  have e2 : movedDefs (count [] 0 p.frags) p.defs = p.defs := by
    unfold movedDefs
    have e3 : p.defs.map (movedDfn (count [] 0 p.frags)) = p.defs := by
      rw [List.map_congr_left (g := id), List.map_id]
      intro d hd
      unfold movedDfn
      cases hk : (d.kind == 3)
      · obtain ⟨f, h1, h2, _⟩ := h.stands d hd hk
        have := (List.getElem?_eq_some_iff.1 h2).1
        simp only [cond_false, id]
        rw [num_nil _ _ _ h1 (by omega)]
        simp
      · rfl
    rw [e3, List.filter_eq_self]
    intro d hd
    cases hk : (d.kind == 3)
    · obtain ⟨f, h1, h2, _⟩ := h.stands d hd hk
      simp; omega
    · have := h.plain d hd
      unfold plainDfn at this
      have hk' : d.kind = 3 := by simpa using hk
      rw [hk'] at this
      split at this
      · cases this
      · simp only [if_true] at this
        cases h0 : (d.frag == 0)
        · rw [h0] at this; simp at this
        · have : d.frag = 0 := by simpa using h0
          rw [this]; rfl
  rw [e1, e2]

end Go.Proofs.YtcdpboocfkaifaaGreatDoor.M

namespace Go.Proofs.YtcdpboocfkaifaaGreatDoor.M
set_option linter.unusedVariables false

theorem bare_eq {a b : ByteArray} (h : a.toList = b.toList) : bare a = bare b := by unfold bare; rw [h]

theorem has_append (l m : List ByteArray) (g : ByteArray) : has (l ++ m) g = (has l g || has m g) := by simp [has]

theorem has_groups (fs : List Frg) (l : List ByteArray) (g : ByteArray) (hb : bare g = false) :
    has (fs.foldl addGroup l) g = (has l g || fs.any fun f => f.group.toList == g.toList) := by
  induction fs generalizing l with
  | nil => simp
  | cons f fs ih =>
    rw [List.foldl_cons, ih, List.any_cons, ← Bool.or_assoc]
    congr 1
    unfold addGroup
    cases h1 : bare f.group
    · cases h2 : has l f.group
      · simp [has]
      · simp only [Bool.or_true, cond_true]
        cases h3 : (f.group.toList == g.toList)
        · simp
        · have h3' : f.group.toList = g.toList := by simpa using h3
          have : has l g = true := by unfold has at h2 ⊢; rw [← h3']; exact h2
          simp [this]
    · simp only [Bool.true_or, cond_true]
      cases h3 : (f.group.toList == g.toList)
      · simp
      · have h3' : f.group.toList = g.toList := by simpa using h3
        rw [bare_eq h3', hb] at h1; cases h1

theorem has_groups' (fs : List Frg) (g : ByteArray) (hb : bare g = false) : has (groups fs) g = fs.any fun f => f.group.toList == g.toList := by
  unfold groups
  rw [has_groups fs [] g hb]; simp [has]

/-- a fragment goes, of a's and b's groups, if it goes of a's or of b's -/
theorem gone_plus (as bs : List Frg) (to : List Int) (f : Frg) :
    gone (groups (as ++ (stays (groups as) bs).map (movedFrg to))) f = (gone (groups as) f || gone (groups bs) f) := by
  unfold gone
  cases hb : bare f.group
  · simp only [Bool.not_false, Bool.true_and]
    rw [has_groups' _ _ hb, has_groups' _ _ hb, has_groups' _ _ hb, List.any_append]
    cases h1 : as.any fun x => x.group.toList == f.group.toList
    · simp only [Bool.false_or, List.any_map]
      unfold stays
      rw [List.any_filter]
      congr 1
      funext x
      cases h2 : (x.group.toList == f.group.toList)
      · simp [movedFrg, h2]
      · have h2' : x.group.toList = f.group.toList := by simpa using h2
        have : gone (groups as) x = false := by
          unfold gone
          rw [bare_eq h2', hb, has_groups' _ _ (by rw [bare_eq h2']; exact hb), h2', h1]; rfl
        simp [movedFrg, h2, this]
    · simp
  · simp

theorem stays_append (l : List ByteArray) (as bs : List Frg) : stays l (as ++ bs) = stays l as ++ stays l bs := by simp [stays]

theorem count_append (l : List ByteArray) : ∀ (as bs : List Frg) (n : Int), count l n (as ++ bs) = count l n as ++ count l (n + (stays l as).length) bs
  | [], bs, n => by simp [count, stays]
  | f :: as, bs, n => by
    rw [List.cons_append, count, count]
    cases hg : gone l f
    · simp only [cond_false, count_append l as bs, List.cons_append, stays, List.filter_cons, hg, Bool.not_false, if_true, List.length_cons]
      congr 2
      congr 1
      push_cast; omega
    · simp only [cond_true, count_append l as bs, List.cons_append, stays, List.filter_cons, hg, Bool.not_true, Bool.false_eq_true, if_false]

theorem gone_moved (l : List ByteArray) (to : List Int) (f : Frg) : gone l (movedFrg to f) = gone l f := rfl

theorem stays_map (l : List ByteArray) (to : List Int) (fs : List Frg) : stays l (fs.map (movedFrg to)) = (stays l fs).map (movedFrg to) := by
  unfold stays
  rw [List.filter_map]
  rfl

theorem count_map (l : List ByteArray) (to : List Int) : ∀ (fs : List Frg) (n : Int), count l n (fs.map (movedFrg to)) = count l n fs
  | [], _ => rfl
  | f :: fs, n => by
    rw [List.map_cons, count, count, gone_moved, count_map l to fs, count_map l to fs]

/-- dropping twice is dropping once: which stay -/
theorem stays_stays {l m k : List ByteArray} (hk : ∀ f, gone k f = (gone l f || gone m f)) (fs : List Frg) : stays l (stays m fs) = stays k fs := by
  unfold stays
  rw [List.filter_filter]
  congr 1
  funext f
  rw [hk]
  cases gone l f <;> cases gone m f <;> rfl

/-- dropping twice is dropping once: the numbers -/
theorem num_num {l m k : List ByteArray} (hk : ∀ f, gone k f = (gone l f || gone m f)) (fs : List Frg) (a n : Int) (i : Int) (h0 : 0 ≤ i) (h : i < fs.length) :
    num (count k n fs) i = if num (count m a fs) i = -1 ∧ gone m (fs.getD i.toNat ⟨0, 0, ⟨#[]⟩, [], 0, []⟩) = true then -1 else num (count l n (stays m fs)) (num (count m a fs) i - a) := by
  have hlt : i.toNat < fs.length := by omega
  have hg := List.getElem?_eq_getElem hlt
  have hd : fs.getD i.toNat ⟨0, 0, ⟨#[]⟩, [], 0, []⟩ = fs[i.toNat] := by rw [List.getD_eq_getElem?_getD, hg]; rfl
  rw [hd, num_get k fs n i h0 _ hg, num_get m fs a i h0 _ hg]
  generalize hf : fs[i.toNat] = f
  cases h1 : gone m f
  · simp only [cond_false, Bool.false_eq_true, and_false, if_false]
    have e : a + ((stays m (fs.take i.toNat)).length : Int) - a = ((stays m (fs.take i.toNat)).length : Int) := by omega
    have hs : stays m fs = stays m (fs.take i.toNat) ++ f :: stays m (fs.drop (i.toNat + 1)) := by
      have : fs = fs.take i.toNat ++ f :: fs.drop (i.toNat + 1) := by
        rw [← hf, List.getElem_cons_drop, List.take_append_drop]
      conv => lhs; rw [this]
      rw [stays_append]
      congr 1
      simp [stays, h1]
    rw [e, num_get l (stays m fs) n _ (by omega) f (by rw [hs]; simp)]
    rw [hk, h1, Bool.or_false]
    cases gone l f
    · simp only [cond_false]
      congr 2
      have : (stays m fs).take ((stays m (fs.take i.toNat)).length : Int).toNat = stays m (fs.take i.toNat) := by
        rw [hs]; simp
      rw [this, stays_stays hk]
    · rfl
  · simp [hk, h1]

end Go.Proofs.YtcdpboocfkaifaaGreatDoor.M

namespace Go.Proofs.YtcdpboocfkaifaaGreatDoor.M
set_option linter.unusedVariables false

theorem stays_get (l : List ByteArray) (fs : List Frg) (i : Nat) (f : Frg) (h : fs[i]? = some f) (hg : gone l f = false) : (stays l fs)[(stays l (fs.take i)).length]? = some f := by
  obtain ⟨hlt, hf⟩ := List.getElem?_eq_some_iff.1 h
  have hs : stays l fs = stays l (fs.take i) ++ f :: stays l (fs.drop (i + 1)) := by
    have : fs = fs.take i ++ f :: fs.drop (i + 1) := by
      rw [← hf, List.getElem_cons_drop, List.take_append_drop]
    conv => lhs; rw [this]
    rw [stays_append]
    congr 1
    simp [stays, hg]
  rw [hs]; simp

/-- a, and behind it b without the groups l -/
def put (a : Prt) (l : List ByteArray) (b : Prt) : Prt := plus a (moved (count l a.frags.length b.frags) b)

theorem put_frags (a b : Prt) (l : List ByteArray) : (put a l b).frags = a.frags ++ (stays l b.frags).map (movedFrg (count l a.frags.length b.frags)) := by
  show a.frags ++ movedFrags _ _ = _
  rw [movedFrags_eq l _ _ _ (by omega) rfl]

theorem movedRel_named {to : List Int} {r : Rel} (h : bare r.name = false) : movedRel to r = r := by unfold movedRel; rw [h]; rfl
theorem movedRel_gone {to : List Int} {r : Rel} (h : (r.frag == -1) = true) : movedRel to r = r := by unfold movedRel; rw [h]; simp
theorem movedRel_bare {to : List Int} {r : Rel} (h : bare r.name = true) (h2 : (r.frag == -1) = false) : movedRel to r = { r with frag := num to r.frag } := by unfold movedRel; rw [h, h2]; rfl

theorem plain_moved (to : List Int) (r : Rel) : plainRel (movedRel to r) = plainRel r := by
  unfold plainRel movedRel
  cases hb : bare r.name
  · simp [hb]
  · cases (r.frag == -1) <;> simp [hb]

theorem shaped_moved (to : List Int) (f : Frg) : shaped (movedFrg to f) = shaped f := by
  unfold shaped movedFrg
  simp only [List.map_map]
  congr 2
  congr 1
  funext r
  exact plain_moved to r

theorem plainDfn_moved (to : List Int) (d : Dfn) : plainDfn (movedDfn to d) = plainDfn d := by
  unfold movedDfn
  cases hk : (d.kind == 3)
  · have hk' : d.kind ≠ 3 := by simpa using hk
    simp [plainDfn, hk']
  · rfl

theorem long_moved (to : List Int) (f : Frg) : long (movedFrg to f) = long f := rfl

theorem ok_put {a b : Prt} {l : List ByteArray} (ha : Ok a) (hb : Ok b) (hf : full (put a l b) = false) : Ok (put a l b) := by
  have hfr := put_frags a b l
  simp only [full, Bool.or_eq_false_iff, decide_eq_false_iff_not] at hf
  have hlen : (put a l b).frags.length = a.frags.length + (stays l b.frags).length := by rw [hfr]; simp
  refine ⟨by omega, by omega, ?_, ?_, ?_, ?_⟩
  · intro f h
    rw [hfr, List.mem_append] at h
    rcases h with h | h
    · exact ha.shape f h
    · obtain ⟨g, hg, rfl⟩ := List.mem_map.1 h
      rw [shaped_moved]
      exact hb.shape g ((List.mem_filter.1 hg).1)
  · intro f h r hr
    rw [hlen]
    rw [hfr, List.mem_append] at h
    rcases h with h | h
    · intro h1
      have := ha.fits f h r hr h1
      push_cast; omega
    · obtain ⟨g, hg, rfl⟩ := List.mem_map.1 h
      obtain ⟨q, hq, rfl⟩ := List.mem_map.1 (show r ∈ g.rels.map (movedRel _) from hr)
      have h2 := hb.fits g ((List.mem_filter.1 hg).1) q hq
      cases hbr : bare q.name
      · rw [movedRel_named hbr]; intro h1; rw [hbr] at h1; cases h1
      · have h3 := h2 hbr
        cases h4 : (q.frag == -1)
        · rw [movedRel_bare hbr h4]
          rw [beq_eq_false_iff_ne] at h4
          have hlt : q.frag.toNat < b.frags.length := by omega
          intro _
          show -1 ≤ num (count l a.frags.length b.frags) q.frag ∧ num (count l a.frags.length b.frags) q.frag < ((a.frags.length + (stays l b.frags).length : Nat) : Int)
          rw [num_get l _ _ _ (by omega) _ (List.getElem?_eq_getElem hlt)]
          cases h5 : gone l b.frags[q.frag.toNat]
          · have := (List.getElem?_eq_some_iff.1 (stays_get l b.frags q.frag.toNat _ (List.getElem?_eq_getElem hlt) h5)).1
            rw [cond_false]
            omega
          · rw [cond_true]
            omega
        · rw [movedRel_gone h4]
          intro _
          have h4' : q.frag = -1 := by simpa using h4
          show -1 ≤ q.frag ∧ q.frag < ((a.frags.length + (stays l b.frags).length : Nat) : Int)
          omega
  · intro d h
    rcases List.mem_append.1 (show d ∈ a.defs ++ movedDefs _ _ from h) with h | h
    · exact ha.plain d h
    · obtain ⟨q, hq, rfl⟩ := List.mem_map.1 ((List.mem_filter.1 h).1)
      rw [plainDfn_moved]
      exact hb.plain q hq
  · intro d h
    rw [hfr]
    rcases List.mem_append.1 (show d ∈ a.defs ++ movedDefs _ _ from h) with h | h
    · intro hk
      obtain ⟨f, h1, h2, h3⟩ := ha.stands d h hk
      exact ⟨f, h1, by rw [List.getElem?_append_left (List.getElem?_eq_some_iff.1 h2).1]; exact h2, h3⟩
    · have hne := (List.mem_filter.1 h).2
      obtain ⟨q, hq, rfl⟩ := List.mem_map.1 ((List.mem_filter.1 h).1)
      intro hk
      have hkq : (q.kind == 3) = false := by
        unfold movedDfn at hk
        cases hq3 : (q.kind == 3)
        · rfl
        · rw [hq3, cond_true] at hk; rw [hq3] at hk; exact hk
      obtain ⟨f, h1, h2, h3⟩ := hb.stands q hq hkq
      have e1 : movedDfn (count l a.frags.length b.frags) q = { q with frag := num (count l a.frags.length b.frags) q.frag } := by unfold movedDfn; rw [hkq]; rfl
      rw [e1] at hne ⊢
      dsimp only at hne ⊢
      rw [num_get l _ _ _ h1 f h2] at hne ⊢
      cases h5 : gone l f
      · rw [cond_false]
        refine ⟨movedFrg (count l a.frags.length b.frags) f, by omega, ?_, h3⟩
        have e2 : ((a.frags.length : Int) + ((stays l (b.frags.take q.frag.toNat)).length : Int)).toNat = a.frags.length + (stays l (b.frags.take q.frag.toNat)).length := by omega
        rw [e2, List.getElem?_append_right (by omega), Nat.add_sub_cancel_left, List.getElem?_map, stays_get l b.frags _ f h2 h5]
        rfl
      · rw [h5] at hne; simp at hne

theorem num_left (xs ys : List Int) (i : Int) (h0 : 0 ≤ i) (h : i < xs.length) : num (xs ++ ys) i = num xs i := by
  unfold num
  rw [List.getD_eq_getElem?_getD, List.getElem?_append_left (by omega), ← List.getD_eq_getElem?_getD]
theorem num_right (xs ys : List Int) (i : Int) (h : (xs.length : Int) ≤ i) : num (xs ++ ys) i = num ys (i - xs.length) := by
  unfold num
  rw [List.getD_eq_getElem?_getD, List.getElem?_append_right (by omega), ← List.getD_eq_getElem?_getD]
  congr 1
  omega

/-- a number of the middle part, and then of the whole, is the whole's -/
theorem num_two {l m k : List ByteArray} (hk : ∀ f, gone k f = (gone l f || gone m f)) (fs : List Frg) (xs : List Int) (n : Int) (i : Int) (h0 : 0 ≤ i) (h : i < fs.length) :
    num (count k n fs) i = if num (count m xs.length fs) i = -1 then -1 else num (xs ++ count l n (stays m fs)) (num (count m xs.length fs) i) := by
  have hlt : i.toNat < fs.length := by omega
  have hg := List.getElem?_eq_getElem hlt
  have h1 := num_num hk fs xs.length n i h0 h
  have hd : fs.getD i.toNat ⟨0, 0, ⟨#[]⟩, [], 0, []⟩ = fs[i.toNat] := by rw [List.getD_eq_getElem?_getD, hg]; rfl
  rw [h1, hd]
  have h2 := num_get m fs xs.length i h0 _ hg
  cases h3 : gone m fs[i.toNat]
  · rw [h3, cond_false] at h2
    have hne : ¬ (num (count m xs.length fs) i = -1) := by rw [h2]; omega
    rw [if_neg (fun c => hne c.1), if_neg hne, num_right _ _ _ (by rw [h2]; omega)]
  · rw [h3, cond_true] at h2
    rw [if_pos ⟨h2, rfl⟩, if_pos h2]

theorem movedDefs_cons (to : List Int) (d : Dfn) (ds : List Dfn) : movedDefs to (d :: ds) = bif (movedDfn to d).frag == -1 then movedDefs to ds else movedDfn to d :: movedDefs to ds := by
  unfold movedDefs
  rw [List.map_cons, List.filter_cons]
  cases ((movedDfn to d).frag == -1) <;> simp

theorem put_assoc {a b c : Prt} (ha : Ok a) (hb : Ok b) (hc : Ok c) :
    put (put a (groups a.frags) b) (groups (put a (groups a.frags) b).frags) c = put a (groups a.frags) (put b (groups b.frags) c) := by
  have hx := put_frags a b (groups a.frags)
  have hy := put_frags b c (groups b.frags)
  have hk : ∀ f, gone (groups (put a (groups a.frags) b).frags) f = (gone (groups a.frags) f || gone (groups b.frags) f) := by
    intro f
    rw [hx]
    exact gone_plus _ _ _ f
  have hlen : ((put a (groups a.frags) b).frags.length : Int) = (a.frags.length : Int) + ((stays (groups a.frags) b.frags).length : Int) := by rw [hx]; simp
  generalize hgx : groups (put a (groups a.frags) b).frags = gx at *
  generalize hga : groups a.frags = ga at *
  generalize hgb : groups b.frags = gb at *
  have hty : count ga a.frags.length (put b gb c).frags = count ga a.frags.length b.frags ++ count ga ((put a ga b).frags.length : Int) (stays gb c.frags) := by
    rw [hy, count_append, count_map, hlen]
  have hxl : (count ga a.frags.length b.frags).length = b.frags.length := count_length _ _ _
  have hnum : ∀ i : Int, 0 ≤ i → i < c.frags.length → num (count gx ((put a ga b).frags.length : Int) c.frags) i = if num (count gb b.frags.length c.frags) i = -1 then -1 else num (count ga a.frags.length (put b gb c).frags) (num (count gb b.frags.length c.frags) i) := by
    intro i h0 h
    have := num_two hk c.frags (count ga a.frags.length b.frags) ((put a ga b).frags.length : Int) i h0 h
    rw [hxl] at this
    rw [hty]
    exact this
  have hleft : ∀ i : Int, 0 ≤ i → i < b.frags.length → num (count ga a.frags.length (put b gb c).frags) i = num (count ga a.frags.length b.frags) i := by
    intro i h0 h
    rw [hty, num_left _ _ _ h0 (by rw [hxl]; exact h)]
  have e1 : (put (put a ga b) gx c).frags = (put a ga (put b gb c)).frags := by
    rw [put_frags (put a ga b) c gx, put_frags a (put b gb c) ga, hy, stays_append, stays_map, stays_stays hk, List.map_append, List.map_map, hx, List.append_assoc, ← hy]
    congr 1
    congr 1
    · refine List.map_congr_left fun f hf => ?_
      have hf' := (List.mem_filter.1 hf).1
      unfold movedFrg
      congr 1
      refine List.map_congr_left fun r hr => ?_
      unfold movedRel
      cases hbr : bare r.name
      · rfl
      · cases h4 : (r.frag == -1)
        · have h3 := hb.fits f hf' r hr hbr
          rw [beq_eq_false_iff_ne] at h4
          rw [hleft _ (by omega) (by omega)]
        · rfl
    · refine List.map_congr_left fun f hf => ?_
      have hf' := (List.mem_filter.1 hf).1
      rw [← hx]
      unfold movedFrg
      simp only [Function.comp, List.map_map]
      congr 1
      refine List.map_congr_left fun r hr => ?_
      show movedRel _ r = movedRel _ (movedRel _ r)
      cases hbr : bare r.name
      · rw [movedRel_named hbr, movedRel_named hbr, movedRel_named hbr]
      · cases h4 : (r.frag == -1)
        · have h3 := hc.fits f hf' r hr hbr
          rw [movedRel_bare hbr h4, movedRel_bare hbr h4]
          rw [beq_eq_false_iff_ne] at h4
          rw [hnum _ (by omega) (by omega)]
          by_cases h5 : num (count gb b.frags.length c.frags) r.frag = -1
          · rw [if_pos h5, h5]
            exact (movedRel_gone rfl).symm
          · rw [if_neg h5]
            exact (movedRel_bare (r := { r with frag := num (count gb b.frags.length c.frags) r.frag }) hbr (by rw [beq_eq_false_iff_ne]; exact h5)).symm
        · rw [movedRel_gone h4, movedRel_gone h4, movedRel_gone h4]
  have e2 : (put (put a ga b) gx c).defs = (put a ga (put b gb c)).defs := by
    show (a.defs ++ movedDefs (count ga a.frags.length b.frags) b.defs) ++ movedDefs (count gx ((put a ga b).frags.length : Int) c.frags) c.defs = a.defs ++ movedDefs (count ga a.frags.length (put b gb c).frags) (b.defs ++ movedDefs (count gb b.frags.length c.frags) c.defs)
    have h1 : ∀ to (xs ys : List Dfn), movedDefs to (xs ++ ys) = movedDefs to xs ++ movedDefs to ys := fun to xs ys => by simp [movedDefs]
    rw [h1, List.append_assoc]
    congr 1
    congr 1
    · unfold movedDefs
      congr 1
      refine List.map_congr_left fun d hd => ?_
      unfold movedDfn
      cases h3 : (d.kind == 3)
      · obtain ⟨f, h4, h5, _⟩ := hb.stands d hd h3
        have := (List.getElem?_eq_some_iff.1 h5).1
        rw [cond_false, cond_false, hleft _ h4 (by omega)]
      · rfl
    · have key : ∀ ds : List Dfn, (∀ d ∈ ds, plainDfn d = 0 ∧ Stands c.frags d) → movedDefs (count gx ((put a ga b).frags.length : Int) c.frags) ds = movedDefs (count ga a.frags.length (put b gb c).frags) (movedDefs (count gb b.frags.length c.frags) ds) := by
        intro ds
        induction ds with
        | nil => intro _; rfl
        | cons d ds ih =>
          intro h
          rw [List.forall_mem_cons] at h
          have ih' := ih h.2
          obtain ⟨⟨hp, hs⟩, _⟩ := h
          rw [movedDefs_cons, movedDefs_cons (count gb _ _)]
          cases h3 : (d.kind == 3)
          · obtain ⟨f, h4, h5, _⟩ := hs h3
            have hlt := (List.getElem?_eq_some_iff.1 h5).1
            have em : ∀ to, movedDfn to d = { d with frag := num to d.frag } := fun to => by unfold movedDfn; rw [h3]; rfl
            rw [em, em]
            dsimp only
            rw [hnum _ h4 (by omega)]
            by_cases h6 : num (count gb b.frags.length c.frags) d.frag = -1
            · rw [if_pos h6, h6]; simpa using ih'
            · rw [if_neg h6]
              have h7 : (num (count gb b.frags.length c.frags) d.frag == -1) = false := by rw [beq_eq_false_iff_ne]; exact h6
              rw [h7, cond_false, movedDefs_cons]
              have em2 : movedDfn (count ga a.frags.length (put b gb c).frags) { d with frag := num (count gb b.frags.length c.frags) d.frag } = { d with frag := num (count ga a.frags.length (put b gb c).frags) (num (count gb b.frags.length c.frags) d.frag) } := by unfold movedDfn; dsimp only; rw [h3]; rfl
              rw [em2, ih']
          · have em : ∀ to, movedDfn to d = d := fun to => by unfold movedDfn; rw [h3]; rfl
            rw [em, em]
            cases h6 : (d.frag == -1)
            · rw [cond_false, cond_false, movedDefs_cons, em, h6, cond_false, ih']
            · rw [cond_true, cond_true, ih']
      exact key c.defs fun d hd => ⟨hc.plain d hd, hc.stands d hd⟩
  cases hl : put (put a ga b) gx c with
  | mk f1 d1 =>
    cases hr : put a ga (put b gb c) with
    | mk f2 d2 =>
      rw [hl, hr] at e1 e2
      exact congr (congrArg Prt.mk e1) e2

end Go.Proofs.YtcdpboocfkaifaaGreatDoor.M

namespace Go.Proofs.YtcdpboocfkaifaaGreatDoor.M
set_option linter.unusedVariables false

theorem ok_nil : Ok nil := (ok_iff nil).1 (by decide)

theorem both_put {a b : Prt} (ha : Ok a) : both a b = put a (groups a.frags) b := by
  unfold both put
  rw [moved_id ha]

theorem join_ok {a b : Prt} (h : (join a b).2 = 0) : Ok a ∧ Ok b ∧ full (put a (groups a.frags) b) = false ∧ (join a b).1 = put a (groups a.frags) b ∧ Ok (join a b).1 := by
  unfold join at h ⊢
  by_cases h1 : checkPart a = 0
  · rw [if_pos h1] at h ⊢
    by_cases h2 : checkPart b = 0
    · rw [if_pos h2] at h ⊢
      have ha := (ok_iff a).1 h1
      have hb := (ok_iff b).1 h2
      rw [both_put ha] at h ⊢
      cases h3 : full (put a (groups a.frags) b)
      · rw [h3] at h
        exact ⟨ha, hb, rfl, rfl, ok_put ha hb h3⟩
      · rw [h3] at h; cases h
    · rw [if_neg h2] at h; exact absurd h h2
  · rw [if_neg h1] at h; exact absurd h h1

theorem join_of {a b : Prt} (ha : Ok a) (hb : Ok b) : join a b = bif full (put a (groups a.frags) b) then (nil, 10) else (put a (groups a.frags) b, 0) := by
  unfold join
  rw [if_pos ((ok_iff a).2 ha), if_pos ((ok_iff b).2 hb), both_put ha]

theorem nil_put {a : Prt} (ha : Ok a) : put nil (groups nil.frags) a = a := by
  show plus nil (moved (count [] 0 a.frags) a) = a
  rw [moved_id ha]; rfl
theorem put_nil (a : Prt) (l : List ByteArray) : put a l nil = a := by
  show plus a ⟨[], []⟩ = a
  simp [plus]
theorem ok_room {a : Prt} (ha : Ok a) : full a = false := by
  have := ha.nf; have := ha.nd
  simp [full]; omega

theorem nil_join {a : Prt} (ha : Ok a) : join nil a = (a, 0) := by
  rw [join_of ok_nil ha, nil_put ha, ok_room ha]; rfl
theorem join_nil {a : Prt} (ha : Ok a) : join a nil = (a, 0) := by
  rw [join_of ha ok_nil, put_nil, ok_room ha]; rfl

/-- nothing joined with a part is that -/
theorem join_ends {a : Prt} (h : (join nil a).2 = 0) : (join nil a).1 = a ∧ join a nil = (a, 0) := by
  obtain ⟨_, ha, _⟩ := join_ok h
  rw [nil_join ha]
  exact ⟨rfl, join_nil ha⟩

/-- three parts, joined in either way, or all at once -/
theorem join_order {a b c : Prt} (h1 : (join a b).2 = 0) (h2 : (join b c).2 = 0) :
    join a (join b c).1 = join (join a b).1 c ∧ allFrom nil [a, b, c] = (if (join (join a b).1 c).2 = 0 then ((join (join a b).1 c).1, 0) else (nil, (join (join a b).1 c).2)) ∧
    ((join (join a b).1 c).2 = 0 ∨ (join (join a b).1 c).2 = 10) := by
  obtain ⟨ha, hb, _, e1, hx⟩ := join_ok h1
  obtain ⟨_, hc, _, e2, hy⟩ := join_ok h2
  refine ⟨?_, ?_, ?_⟩
  · rw [join_of ha hy, join_of hx hc, e1, e2, put_assoc ha hb hc]
  · show (if (join nil a).2 = 0 then _ else _) = _
    rw [nil_join ha, if_pos rfl]
    show (if (join a b).2 = 0 then (if (join (join a b).1 c).2 = 0 then _ else _) else _) = _
    rw [if_pos h1]
    rfl
  · rw [join_of hx hc]
    cases full (put (join a b).1 (groups (join a b).1.frags) c)
    · exact .inl rfl
    · exact .inr rfl

end Go.Proofs.YtcdpboocfkaifaaGreatDoor.M

namespace Go.Proofs.YtcdpboocfkaifaaGreatDoor.M
set_option linter.unusedVariables false

theorem groups_more (fs : List Frg) (l : List ByteArray) : ∃ t, fs.foldl addGroup l = l ++ t := by
  induction fs generalizing l with
  | nil => exact ⟨[], by simp⟩
  | cons f fs ih =>
    rw [List.foldl_cons]
    obtain ⟨t, ht⟩ := ih (addGroup l f)
    rw [ht]
    unfold addGroup
    cases bare f.group || has l f.group
    · exact ⟨f.group :: t, by simp⟩
    · exact ⟨t, rfl⟩

theorem groups_put (a b : Prt) (l : List ByteArray) : ∃ t, groups (put a l b).frags = groups a.frags ++ t := by
  rw [put_frags]
  unfold groups
  rw [List.foldl_append]
  exact groups_more _ _

theorem groups_bare (fs : List Frg) (l : List ByteArray) (h : ∀ f ∈ fs, bare f.group = true) : fs.foldl addGroup l = l := by
  induction fs with
  | nil => rfl
  | cons f fs ih =>
    rw [List.forall_mem_cons] at h
    rw [List.foldl_cons]
    have : addGroup l f = l := by unfold addGroup; rw [h.1]; rfl
    rw [this, ih h.2]

theorem drop_put (p : Prt) (l : List ByteArray) : drop p l = put nil l p := by
  unfold drop put
  simp [nil, plus, moved]

theorem drop_frags (p : Prt) (l : List ByteArray) : (drop p l).frags = (stays l p.frags).map (movedFrg (count l 0 p.frags)) := by
  rw [drop_put, put_frags]; rfl

theorem ok_drop {p : Prt} (h : Ok p) (l : List ByteArray) : Ok (drop p l) := by
  rw [drop_put]
  refine ok_put ok_nil h ?_
  have h1 : (put nil l p).frags.length ≤ p.frags.length := by
    rw [put_frags]
    simp only [nil, List.nil_append, List.length_map]
    exact List.length_filter_le _ _
  have h2 : (put nil l p).defs.length ≤ p.defs.length := by
    show ([] ++ movedDefs _ p.defs : List Dfn).length ≤ _
    unfold movedDefs
    rw [List.nil_append]
    refine Nat.le_trans (List.length_filter_le _ _) ?_
    rw [List.length_map]; exact Nat.le_refl _
  have := h.nf; have := h.nd
  simp [full]; omega

theorem mem_has {l : List ByteArray} {g : ByteArray} (h : g ∈ l) : has l g = true := by
  unfold has
  rw [List.any_eq_true]
  exact ⟨g, h, by simp⟩

theorem drop_bare (p : Prt) : ∀ f ∈ (drop p (groups p.frags)).frags, bare f.group = true := by
  intro f hf
  rw [drop_frags] at hf
  obtain ⟨g, hg, rfl⟩ := List.mem_map.1 hf
  obtain ⟨h1, h2⟩ := List.mem_filter.1 hg
  show bare g.group = true
  cases hb : bare g.group
  · have : has (groups p.frags) g.group = true := by
      rw [has_groups' _ _ hb, List.any_eq_true]
      exact ⟨g, h1, by simp⟩
    simp [gone, hb, this] at h2
  · rfl

theorem groups_drop (p : Prt) : groups (drop p (groups p.frags)).frags = [] := groups_bare _ _ (drop_bare p)

theorem count_congr (l m : List ByteArray) : ∀ (fs : List Frg) (n : Int), (∀ f ∈ fs, gone l f = gone m f) → count l n fs = count m n fs
  | [], _, _ => rfl
  | f :: fs, n, h => by
    rw [List.forall_mem_cons] at h
    rw [count, count, h.1, count_congr l m fs n h.2, count_congr l m fs (n + 1) h.2]

theorem drop_again {p : Prt} (h : Ok p) : drop (drop p (groups p.frags)) (groups p.frags) = drop p (groups p.frags) := by
  have hd := ok_drop h (groups p.frags)
  have hb := drop_bare p
  generalize drop p (groups p.frags) = d at *
  unfold drop
  rw [count_congr _ [] d.frags 0 (fun f hf => by rw [gone_nil]; unfold gone; rw [hb f hf]; rfl)]
  exact moved_id hd

/-- how many fragments a group has -/
def many (s : ByteArray) (fs : List Frg) : Nat := (fs.filter fun f => f.group.toList == s.toList).length

theorem groups_mem (fs : List Frg) (l : List ByteArray) (s : ByteArray) (h : s ∈ fs.foldl addGroup l) : s ∈ l ∨ bare s = false := by
  induction fs generalizing l with
  | nil => exact .inl h
  | cons f fs ih =>
    rw [List.foldl_cons] at h
    rcases ih _ h with h | h
    · unfold addGroup at h
      cases h1 : bare f.group
      · cases h2 : has l f.group
        · rw [h1, h2] at h
          simp only [Bool.or_self, cond_false, List.mem_append, List.mem_singleton] at h
          rcases h with h | rfl
          · exact .inl h
          · exact .inr h1
        · rw [h1, h2] at h; exact .inl h
      · rw [h1] at h; exact .inl h
    · exact .inr h

theorem many_put (a b : Prt) (s : ByteArray) (hs : s ∈ groups (put a (groups a.frags) b).frags) :
    many s (put a (groups a.frags) b).frags = bif has (groups a.frags) s then many s a.frags else many s b.frags := by
  have hb : bare s = false := by
    rcases groups_mem _ _ _ hs with h | h
    · cases h
    · exact h
  rw [put_frags]
  unfold many
  rw [List.filter_append, List.length_append]
  have h1 : ∀ to, ((stays (groups a.frags) b.frags).map (movedFrg to)).filter (fun f => f.group.toList == s.toList) = ((stays (groups a.frags) b.frags).filter fun f => f.group.toList == s.toList).map (movedFrg to) := by
    intro to
    rw [List.filter_map]
    rfl
  rw [h1, List.length_map]
  have h2 : (stays (groups a.frags) b.frags).filter (fun f => f.group.toList == s.toList) = bif has (groups a.frags) s then [] else b.frags.filter (fun f => f.group.toList == s.toList) := by
    unfold stays
    rw [List.filter_filter]
    cases h3 : has (groups a.frags) s
    · rw [cond_false]
      refine List.filter_congr fun f _ => ?_
      cases h4 : (f.group.toList == s.toList)
      · simp
      · have h4' : f.group.toList = s.toList := by simpa using h4
        have : gone (groups a.frags) f = false := by
          unfold gone
          have : has (groups a.frags) f.group = has (groups a.frags) s := by unfold has; rw [h4']
          rw [this, h3]; simp
        simp [this]
    · rw [cond_true, List.filter_eq_nil_iff]
      intro f _
      cases h4 : (f.group.toList == s.toList)
      · simp
      · have h4' : f.group.toList = s.toList := by simpa using h4
        have : gone (groups a.frags) f = true := by
          unfold gone
          have : has (groups a.frags) f.group = has (groups a.frags) s := by unfold has; rw [h4']
          rw [this, h3, bare_eq h4', hb]; rfl
        simp [this]
  rw [h2]
  cases h3 : has (groups a.frags) s
  · have h5 : a.frags.filter (fun f => f.group.toList == s.toList) = [] := by
      rw [List.filter_eq_nil_iff]
      intro f hf h6
      rw [has_groups' _ _ hb] at h3
      rw [List.any_eq_false] at h3
      exact h3 f hf h6
    simp [h5]
  · simp

end Go.Proofs.YtcdpboocfkaifaaGreatDoor.M

namespace Go.Proofs.YtcdpboocfkaifaaGreatDoor.M
open Go

def txt' (s : ByteArray) : List UInt8 := s.data.toList
def ofTxt (t : List UInt8) : ByteArray := ⟨t.toArray⟩

theorem txt_of (t : List UInt8) : txt' (ofTxt t) = t := rfl
theorem of_txt (s : ByteArray) : ofTxt (txt' s) = s := by obtain ⟨⟨l⟩⟩ := s; rfl

def leT (x y : List UInt8) : Bool := decide (x ≤ y)

/-- rising, each once -/
def risingT (l : List (List UInt8)) : List (List UInt8) := Lib.compact (l.mergeSort fun x y => decide (x ≤ y))
def rising (l : List ByteArray) : List ByteArray := (risingT (l.map txt')).map ofTxt

def wantedOf (rs : List Rel) : List ByteArray := (rs.filter fun r => !(bare r.name)).map (·.name)
def wantedNames (fs : List Frg) : List ByteArray := fs.flatMap fun f => wantedOf f.rels
def definedNames (ds : List Dfn) : List ByteArray := ds.map (·.name)
def wanted (p : Prt) : List ByteArray := rising (wantedNames p.frags)
def defined (p : Prt) : List ByteArray := rising (definedNames p.defs)
def lacking (p : Prt) : List ByteArray := (wanted p).filter fun s => !(has (defined p) s)

def dfnZ : Dfn := ⟨⟨#[]⟩, 0, 0, 0, 0, 0⟩
def isDef (s : ByteArray) (k : Int) (d : Dfn) : Bool := d.name.toList == s.toList && d.kind == k
def ofKind (ds : List Dfn) (s : ByteArray) (k : Int) : List Dfn := ds.filter (isDef s k)
def grow (o d : Dfn) : Dfn := { o with size := max o.size d.size, align := max o.align d.align }
def greatest (l : List Dfn) : Dfn := l.foldl grow (l.headD dfnZ)

def findIn (l1 l3 l2 : List Dfn) : Dfn × Int :=
  if 1 < l1.length then (dfnZ, 6)
  else if l1.length = 1 then (l1.headD dfnZ, 0)
  else if 0 < l3.length then (greatest l3, 0)
  else if 0 < l2.length then (l2.headD dfnZ, 0)
  else (dfnZ, 7)
def find (ds : List Dfn) (s : ByteArray) : Dfn × Int := findIn (ofKind ds s 1) (ofKind ds s 3) (ofKind ds s 2)

def faultAt (ds : List Dfn) (s : ByteArray) : Option (Int × ByteArray) := if (find ds s).2 = 0 then none else some ((find ds s).2, s)
def faults (p : Prt) : List (Int × ByteArray) := (rising (wanted p ++ defined p)).filterMap (faultAt p.defs)

end Go.Proofs.YtcdpboocfkaifaaGreatDoor.M

namespace Go.Proofs.YtcdpboocfkaifaaGreatDoor.M
open Go

theorem lt_of_le_ne {x y : List UInt8} (h : x ≤ y) (hn : x ≠ y) : x < y := by
  apply Classical.byContradiction
  intro hc
  exact hn (List.le_antisymm h (List.not_lt.1 hc))

theorem lt_of_le_lt {x y z : List UInt8} (h : x ≤ y) (h2 : y < z) : x < z := by
  apply Classical.byContradiction
  intro hc
  have h3 : z ≤ x := List.not_lt.1 hc
  exact (List.not_lt.2 (List.le_trans h3 h)) h2

theorem sort_sorted (l : List (List UInt8)) : (l.mergeSort fun x y => decide (x ≤ y)).Pairwise (fun a b => a ≤ b) := by
  have := List.pairwise_mergeSort (le := fun x y : List UInt8 => decide (x ≤ y)) (fun a b c h1 h2 => by simp only [decide_eq_true_eq] at *; exact List.le_trans h1 h2) (fun a b => by simp only [Bool.or_eq_true, decide_eq_true_eq]; exact List.le_total a b) l
  exact this.imp (fun h => by simpa using h)

theorem compact_up (d : Array (List UInt8)) (hs : d.toList.Pairwise (fun a b => a ≤ b)) : ∀ m, m ≤ d.size → (Lib.compactUpTo d m).Pairwise (fun a b => a < b) ∧ ∀ x, x ∈ Lib.compactUpTo d m ↔ ∃ j, j < m ∧ d[j]! = x
  | 0, _ => by simp [Lib.compactUpTo]
  | m + 1, hm => by
    obtain ⟨h1, h2⟩ := compact_up d hs m (by omega)
    have hle : ∀ i j, i ≤ j → j < d.size → d[i]! ≤ d[j]! := fun i j hij hj => by
      by_cases he : i = j
      · rw [he]; exact List.le_refl _
      · have := (List.pairwise_iff_getElem.1 hs) i j (by simp; omega) (by simpa using hj) (by omega)
        rw [getElem!_pos d i (by omega), getElem!_pos d j hj]
        simpa using this
    rw [Lib.compactUpTo_succ]
    by_cases hk : Lib.keeps d m = true
    · rw [if_pos hk]
      refine ⟨List.pairwise_append.2 ⟨h1, List.pairwise_singleton _ _, fun x hx y hy => ?_⟩, fun x => ?_⟩
      · obtain ⟨j, hj, rfl⟩ := (h2 x).1 hx
        obtain rfl := List.mem_singleton.1 hy
        have hne : d[m]! ≠ d[m - 1]! := by
          simp only [Lib.keeps, decide_eq_true_eq] at hk
          rcases hk with hk | hk
          · omega
          · exact hk
        exact lt_of_le_lt (hle j (m - 1) (by omega) (by omega)) (lt_of_le_ne (hle (m - 1) m (by omega) (by omega)) (fun e => hne e.symm))
      · rw [List.mem_append, h2, List.mem_singleton]
        constructor
        · rintro (⟨j, hj, rfl⟩ | rfl)
          · exact ⟨j, by omega, rfl⟩
          · exact ⟨m, by omega, rfl⟩
        · rintro ⟨j, hj, rfl⟩
          by_cases he : j = m
          · subst he; exact .inr rfl
          · exact .inl ⟨j, by omega, rfl⟩
    · rw [if_neg hk, List.append_nil]
      refine ⟨h1, fun x => ?_⟩
      rw [h2]
      simp only [Lib.keeps, decide_eq_true_eq, not_or, Decidable.not_not] at hk
      constructor
      · rintro ⟨j, hj, rfl⟩
        exact ⟨j, by omega, rfl⟩
      · rintro ⟨j, hj, rfl⟩
        by_cases he : j = m
        · subst he; exact ⟨j - 1, by omega, hk.2.symm⟩
        · exact ⟨j, by omega, rfl⟩

theorem mem_get (l : List (List UInt8)) (x : List UInt8) : (∃ j, j < l.length ∧ l.toArray[j]! = x) ↔ x ∈ l := by
  constructor
  · rintro ⟨j, hj, rfl⟩
    rw [getElem!_pos l.toArray j (by simpa using hj)]
    simp
  · intro h
    obtain ⟨j, hj, rfl⟩ := List.getElem_of_mem h
    exact ⟨j, hj, by rw [getElem!_pos l.toArray j (by simpa using hj)]; simp⟩

theorem risingT_mem (l : List (List UInt8)) (x : List UInt8) : x ∈ risingT l ↔ x ∈ l := by
  have h := (compact_up (l.mergeSort fun x y => decide (x ≤ y)).toArray (by simpa using sort_sorted l) (l.mergeSort fun x y => decide (x ≤ y)).length (by simp)).2 x
  show x ∈ Lib.compactUpTo _ _ ↔ _
  rw [h, mem_get]
  exact List.mem_mergeSort

theorem risingT_sorted (l : List (List UInt8)) : (risingT l).Pairwise (fun a b => a < b) :=
  (compact_up (l.mergeSort fun x y => decide (x ≤ y)).toArray (by simpa using sort_sorted l) (l.mergeSort fun x y => decide (x ≤ y)).length (by simp)).1

theorem lt_irr (x : List UInt8) : ¬ x < x := List.lt_irrefl x
theorem lt_asym {x y : List UInt8} (h : x < y) : ¬ y < x := fun h2 => lt_irr _ (List.lt_trans h h2)

theorem strict_one : ∀ (l m : List (List UInt8)), l.Pairwise (fun a b => a < b) → m.Pairwise (fun a b => a < b) → (∀ x, x ∈ l ↔ x ∈ m) → l = m
  | [], [], _, _, _ => rfl
  | [], y :: m, _, _, h => by have := (h y).2 (by simp); simp at this
  | x :: l, [], _, _, h => by have := (h x).1 (by simp); simp at this
  | x :: l, y :: m, hl, hm, h => by
    rw [List.pairwise_cons] at hl hm
    have e : x = y := by
      have hx := (h x).1 (by simp)
      have hy := (h y).2 (by simp)
      rw [List.mem_cons] at hx hy
      rcases hx with hx | hx
      · exact hx
      · rcases hy with hy | hy
        · exact hy.symm
        · exact absurd (hl.1 y hy) (lt_asym (hm.1 x hx))
    subst e
    rw [strict_one l m hl.2 hm.2 (fun z => ?_)]
    constructor
    · intro hz
      have := (h z).1 (by simp [hz])
      rw [List.mem_cons] at this
      rcases this with rfl | h1
      · exact absurd (hl.1 z hz) (lt_irr _)
      · exact h1
    · intro hz
      have := (h z).2 (by simp [hz])
      rw [List.mem_cons] at this
      rcases this with rfl | h1
      · exact absurd (hm.1 z hz) (lt_irr _)
      · exact h1

theorem txt_inj {a b : ByteArray} (h : txt' a = txt' b) : a = b := by rw [← of_txt a, ← of_txt b, h]

theorem rising_mem (l : List ByteArray) (s : ByteArray) : s ∈ rising l ↔ s ∈ l := by
  unfold rising
  rw [List.mem_map]
  constructor
  · rintro ⟨t, ht, rfl⟩
    rw [risingT_mem, List.mem_map] at ht
    obtain ⟨u, hu, rfl⟩ := ht
    rw [of_txt]; exact hu
  · intro h
    exact ⟨txt' s, (risingT_mem _ _).2 (List.mem_map_of_mem h), of_txt s⟩

/-- rising lists -/
def Strict (l : List ByteArray) : Prop := l.Pairwise fun a b => txt' a < txt' b

theorem rising_strict (l : List ByteArray) : Strict (rising l) := by
  unfold Strict rising
  rw [List.pairwise_map]
  exact (risingT_sorted _).imp (fun h => h)

theorem strict_eq {l m : List ByteArray} (hl : Strict l) (hm : Strict m) (h : ∀ s, s ∈ l ↔ s ∈ m) : l = m := by
  have e : l.map txt' = m.map txt' := strict_one _ _ (by rw [List.pairwise_map]; exact hl) (by rw [List.pairwise_map]; exact hm) (fun x => by
    simp only [List.mem_map]
    constructor
    · rintro ⟨s, hs, rfl⟩; exact ⟨s, (h s).1 hs, rfl⟩
    · rintro ⟨s, hs, rfl⟩; exact ⟨s, (h s).2 hs, rfl⟩)
  have f := congrArg (List.map ofTxt) e
  rw [List.map_map, List.map_map, show ofTxt ∘ txt' = id from funext of_txt, List.map_id, List.map_id] at f
  exact f

theorem rising_eq {l m : List ByteArray} (hm : Strict m) (h : ∀ s, s ∈ l ↔ s ∈ m) : rising l = m :=
  strict_eq (rising_strict l) hm (fun s => by rw [rising_mem]; exact h s)

theorem rising_rising (l m : List ByteArray) : rising (rising l ++ rising m) = rising (l ++ m) :=
  rising_eq (rising_strict _) (fun s => by simp [rising_mem])

theorem toList_txt (s : ByteArray) : s.toList = txt' s := ByteArray.toList_eq s

theorem has_mem (l : List ByteArray) (s : ByteArray) : has l s = true ↔ s ∈ l := by
  unfold has
  rw [List.any_eq_true]
  constructor
  · rintro ⟨x, hx, he⟩
    have : x.toList = s.toList := by simpa using he
    rw [toList_txt, toList_txt] at this
    rwa [← txt_inj this]
  · intro h
    exact ⟨s, h, by simp⟩

theorem filter_strict {l : List ByteArray} (h : Strict l) (f : ByteArray → Bool) : Strict (l.filter f) := h.filter f

end Go.Proofs.YtcdpboocfkaifaaGreatDoor.M

namespace Go.Proofs.YtcdpboocfkaifaaGreatDoor.M
open Go

def shiftDfn (n : Int) (d : Dfn) : Dfn := bif d.kind == 3 then d else { d with frag := d.frag + n }

theorem plain_common {d : Dfn} (h : plainDfn d = 0) (hk : (d.kind == 3) = true) : d.frag = 0 := by
  have hk' : d.kind = 3 := by simpa using hk
  unfold plainDfn at h
  split at h
  · cases h
  split at h
  · omega
  · cases hf : (d.frag == 0)
    · rw [hf] at h; simp at h
    · simpa using hf

theorem shift_defs (fs : List Frg) (l : List ByteArray) (n : Int) (hn : 0 ≤ n) : ∀ ds : List Dfn, (∀ d ∈ ds, plainDfn d = 0) → (∀ d ∈ ds, Stands fs d) → movedDefs (count l n fs) ds = (movedDefs (count l 0 fs) ds).map (shiftDfn n)
  | [], _, _ => rfl
  | d :: ds, hp, hs => by
    have ih := shift_defs fs l n hn ds (fun d hd => hp d (List.mem_cons_of_mem _ hd)) (fun d hd => hs d (List.mem_cons_of_mem _ hd))
    rw [movedDefs_cons, movedDefs_cons, ih]
    cases hk : (d.kind == 3)
    · obtain ⟨f, h0, hf, _⟩ := hs d (by simp) hk
      have e1 : ∀ to, movedDfn to d = { d with frag := num to d.frag } := fun to => by unfold movedDfn; rw [hk]; rfl
      rw [e1, e1]
      dsimp only
      rw [num_get l fs n _ h0 f hf, num_get l fs 0 _ h0 f hf]
      cases hg : gone l f
      · simp only [cond_false]
        have h1 : (n + ((stays l (fs.take d.frag.toNat)).length : Int) == -1) = false := by rw [beq_eq_false_iff_ne]; omega
        have h2 : (0 + ((stays l (fs.take d.frag.toNat)).length : Int) == -1) = false := by rw [beq_eq_false_iff_ne]; omega
        rw [h1, h2]
        simp only [cond_false, List.map_cons, shiftDfn, hk]
        congr 2
        omega
      · simp
    · have h0 := plain_common (hp d (by simp)) hk
      have e1 : ∀ to, movedDfn to d = d := fun to => by unfold movedDfn; rw [hk]; rfl
      rw [e1, e1, h0]
      have h2 : ((0 : Int) == -1) = false := by decide
      rw [h2]
      simp only [cond_false, List.map_cons, shiftDfn, hk, cond_true]

theorem drop_defs (p : Prt) (l : List ByteArray) : (drop p l).defs = movedDefs (count l 0 p.frags) p.defs := rfl

theorem put_defs (a b : Prt) (l : List ByteArray) (hb : Ok b) : (put a l b).defs = a.defs ++ (drop b l).defs.map (shiftDfn a.frags.length) := by
  rw [drop_defs, ← shift_defs b.frags l a.frags.length (by omega) b.defs hb.plain hb.stands]
  rfl

theorem name_shift (n : Int) (d : Dfn) : (shiftDfn n d).name = d.name := by unfold shiftDfn; cases d.kind == 3 <;> rfl
theorem kind_shift (n : Int) (d : Dfn) : (shiftDfn n d).kind = d.kind := by unfold shiftDfn; cases d.kind == 3 <;> rfl

theorem wantedOf_moved (to : List Int) (rs : List Rel) : wantedOf (rs.map (movedRel to)) = wantedOf rs := by
  unfold wantedOf
  have hn : ∀ r, (movedRel to r).name = r.name := fun r => by unfold movedRel; cases bare r.name && !(r.frag == -1) <;> rfl
  rw [List.filter_map, List.map_map]
  congr 1
  · funext r; exact hn r
  · congr 1
    funext r
    show (!(bare (movedRel to r).name)) = _
    rw [hn]

theorem wanted_moved (to : List Int) (fs : List Frg) : wantedNames (fs.map (movedFrg to)) = wantedNames fs := by
  unfold wantedNames
  rw [List.flatMap_map]
  congr 1
  funext f
  exact wantedOf_moved to f.rels

theorem wanted_put (a b : Prt) (l : List ByteArray) : wantedNames (put a l b).frags = wantedNames a.frags ++ wantedNames (drop b l).frags := by
  rw [put_frags, drop_frags, wanted_moved]
  show List.flatMap _ _ = _
  rw [List.flatMap_append]
  congr 1
  exact wanted_moved _ _

theorem defined_put (a b : Prt) (l : List ByteArray) (hb : Ok b) : definedNames (put a l b).defs = definedNames a.defs ++ definedNames (drop b l).defs := by
  rw [put_defs a b l hb]
  unfold definedNames
  rw [List.map_append, List.map_map]
  congr 2
  funext d
  exact name_shift _ d

theorem isDef_shift (n : Int) (s : ByteArray) (k : Int) (d : Dfn) : isDef s k (shiftDfn n d) = isDef s k d := by unfold isDef; rw [name_shift, kind_shift]

theorem ofKind_app (ds es : List Dfn) (n : Int) (s : ByteArray) (k : Int) : ofKind (ds ++ es.map (shiftDfn n)) s k = ofKind ds s k ++ (ofKind es s k).map (shiftDfn n) := by
  unfold ofKind
  rw [List.filter_append, List.filter_map]
  congr 2
  congr 1
  funext d
  exact isDef_shift n s k d

theorem ofKind_kind {ds : List Dfn} {s : ByteArray} {k : Int} {d : Dfn} (h : d ∈ ofKind ds s k) : d.kind = k := by
  have := (List.mem_filter.1 h).2
  simp only [isDef, Bool.and_eq_true] at this
  simpa using this.2

theorem shift_three (n : Int) (l : List Dfn) (h : ∀ d ∈ l, d.kind = 3) : l.map (shiftDfn n) = l := by
  have : l.map (shiftDfn n) = l.map id := List.map_congr_left fun d hd => by
    unfold shiftDfn
    rw [h d hd]
    rfl
  rw [this, List.map_id]

theorem fold_kind (l : List Dfn) : ∀ o : Dfn, (l.foldl grow o).kind = o.kind ∧ (l.foldl grow o).name = o.name ∧ (l.foldl grow o).frag = o.frag ∧ (l.foldl grow o).pos = o.pos := by
  induction l with
  | nil => intro o; exact ⟨rfl, rfl, rfl, rfl⟩
  | cons d l ih => intro o; rw [List.foldl_cons]; exact ih (grow o d)

def mx (f : Dfn → Int) (l : List Dfn) (x : Int) : Int := l.foldl (fun m d => max m (f d)) x

theorem fold_size (l : List Dfn) : ∀ o : Dfn, (l.foldl grow o).size = mx (·.size) l o.size := by
  induction l with
  | nil => intro o; rfl
  | cons d l ih => intro o; rw [List.foldl_cons]; exact ih (grow o d)
theorem fold_align (l : List Dfn) : ∀ o : Dfn, (l.foldl grow o).align = mx (·.align) l o.align := by
  induction l with
  | nil => intro o; rfl
  | cons d l ih => intro o; rw [List.foldl_cons]; exact ih (grow o d)
theorem mx_max (f : Dfn → Int) (l : List Dfn) : ∀ x y : Int, mx f l (max x y) = max x (mx f l y) := by
  induction l with
  | nil => intro x y; rfl
  | cons d l ih =>
    intro x y
    show mx f l (max (max x y) (f d)) = max x (mx f l (max y (f d)))
    rw [← ih, Int.max_assoc]
theorem mx_head (f : Dfn → Int) (c : Dfn) (l : List Dfn) (x : Int) : mx f (c :: l) x = max x (mx f (c :: l) (f c)) := by
  show mx f l (max x (f c)) = max x (mx f l (max (f c) (f c)))
  rw [mx_max, Int.max_self]

theorem greatest_app (a c : Dfn) (l m : List Dfn) :
    (greatest (a :: l ++ c :: m)).size = max (greatest (a :: l)).size (greatest (c :: m)).size ∧ (greatest (a :: l ++ c :: m)).align = max (greatest (a :: l)).align (greatest (c :: m)).align ∧ (greatest (a :: l ++ c :: m)).kind = a.kind := by
  have e : greatest (a :: l ++ c :: m) = (c :: m).foldl grow (greatest (a :: l)) := by
    unfold greatest
    rw [List.foldl_append]
    rfl
  have e2 : greatest (c :: m) = (c :: m).foldl grow c := rfl
  rw [e, e2, fold_size, fold_size, fold_align, fold_align, (fold_kind _ _).1]
  exact ⟨mx_head _ c m _, mx_head _ c m _, (fold_kind _ _).1⟩

/-- what the law asks of the three that were found -/
def movedY (n : Int) (y : Dfn) : Dfn := bif (y.kind == 1 || y.kind == 2) then { y with frag := y.frag + n } else y
def joinedB (n : Int) (x y z : Dfn × Int) : Bool :=
  if x.2 = 6 ∨ y.2 = 6 ∨ (x.2 = 0 ∧ y.2 = 0 ∧ x.1.kind = 1 ∧ y.1.kind = 1) then z.2 == 6
  else if x.2 = 7 then z.2 == y.2 && (!(z.2 == 0) || sameDfn z.1 (movedY n y.1))
  else if y.2 = 7 then z.2 == x.2 && sameDfn z.1 x.1
  else if x.2 ≠ 0 ∨ y.2 ≠ 0 ∨ z.2 ≠ 0 then false
  else if y.1.kind = 1 ∨ (x.1.kind = 2 ∧ y.1.kind = 3) then sameDfn z.1 (movedY n y.1)
  else if x.1.kind = 3 ∧ y.1.kind = 3 then z.1.kind == 3 && z.1.size == max x.1.size y.1.size && z.1.align == max x.1.align y.1.align
  else sameDfn z.1 x.1

theorem sameDfn_self (d : Dfn) : sameDfn d d = true := by simp [sameDfn]

theorem shift_moved (n : Int) {d : Dfn} (h : d.kind = 1 ∨ d.kind = 2) : shiftDfn n d = movedY n d := by
  unfold shiftDfn movedY
  rcases h with h | h <;> rw [h] <;> rfl

theorem joined_in (n : Int) (A1 A3 A2 C1 C3 C2 : List Dfn) (a1 : ∀ d ∈ A1, d.kind = 1) (a3 : ∀ d ∈ A3, d.kind = 3) (a2 : ∀ d ∈ A2, d.kind = 2) (c1 : ∀ d ∈ C1, d.kind = 1) (c3 : ∀ d ∈ C3, d.kind = 3) (c2 : ∀ d ∈ C2, d.kind = 2) :
    joinedB n (findIn A1 A3 A2) (findIn C1 C3 C2) (findIn (A1 ++ C1.map (shiftDfn n)) (A3 ++ C3) (A2 ++ C2.map (shiftDfn n))) = true := by
  have g3 : ∀ (d : Dfn) (l : List Dfn), (∀ x ∈ d :: l, x.kind = 3) → (greatest (d :: l)).kind = 3 := fun d l h => by
    unfold greatest; rw [(fold_kind _ _).1]; exact h d (by simp)
  match A1, C1 with
  | _ :: _ :: _, _ => simp [findIn, joinedB]
  | [x], _ :: _ :: _ => simp [findIn, joinedB]
  | [], _ :: _ :: _ => simp [findIn, joinedB]
  | [x], [y] =>
    have := a1 x (by simp)
    have := c1 y (by simp)
    simp [findIn, joinedB, *]
  | [x], [] =>
    have hx := a1 x (by simp)
    match C3, C2 with
    | c :: m, _ =>
      have := g3 c m c3
      simp [findIn, joinedB, hx, this, sameDfn_self]
    | [], c :: m =>
      have := c2 c (by simp)
      simp [findIn, joinedB, hx, this, sameDfn_self]
    | [], [] => simp [findIn, joinedB, hx, sameDfn_self]
  | [], [y] =>
    have hy := c1 y (by simp)
    have hm := shift_moved n (.inl hy)
    match A3, A2 with
    | c :: m, _ =>
      have := g3 c m a3
      simp [findIn, joinedB, hy, this, sameDfn_self, hm]
    | [], c :: m =>
      have := a2 c (by simp)
      simp [findIn, joinedB, hy, this, sameDfn_self, hm]
    | [], [] => simp [findIn, joinedB, hy, sameDfn_self, hm]
  | [], [] =>
    match A3, C3 with
    | a :: l, c :: m =>
      have ha := g3 a l a3
      have hc := g3 c m c3
      have hx := greatest_app a c l m
      have h3 := a3 a (by simp)
      rw [List.cons_append] at hx
      simp [findIn, joinedB, ha, hc, hx, h3]
    | a :: l, [] =>
      have ha := g3 a l a3
      match C2 with
      | [] => simp [findIn, joinedB, ha, sameDfn_self]
      | c :: m =>
        have := c2 c (by simp)
        simp [findIn, joinedB, ha, this, sameDfn_self]
    | [], c :: m =>
      have hc := g3 c m c3
      have hm : movedY n (greatest (c :: m)) = greatest (c :: m) := by unfold movedY; rw [hc]; rfl
      match A2 with
      | [] => simp [findIn, joinedB, hc, sameDfn_self, hm]
      | a :: l =>
        have := a2 a (by simp)
        simp [findIn, joinedB, hc, this, sameDfn_self, hm]
    | [], [] =>
      match A2, C2 with
      | [], [] => simp [findIn, joinedB]
      | [], c :: m =>
        have hc := c2 c (by simp)
        simp [findIn, joinedB, hc, sameDfn_self, shift_moved n (.inr hc)]
      | a :: l, [] =>
        have := a2 a (by simp)
        simp [findIn, joinedB, this, sameDfn_self]
      | a :: l, c :: m =>
        have := a2 a (by simp)
        have := c2 c (by simp)
        simp [findIn, joinedB, *, sameDfn_self]

theorem joined_ok (a b : Prt) (l : List ByteArray) (s : ByteArray) (hb : Ok b) : joinedB a.frags.length (find a.defs s) (find (drop b l).defs s) (find (put a l b).defs s) = true := by
  rw [put_defs a b l hb]
  unfold find
  rw [ofKind_app, ofKind_app, ofKind_app, shift_three _ (ofKind _ s 3) (fun d hd => ofKind_kind hd)]
  exact joined_in _ _ _ _ _ _ _ (fun d hd => ofKind_kind hd) (fun d hd => ofKind_kind hd) (fun d hd => ofKind_kind hd) (fun d hd => ofKind_kind hd) (fun d hd => ofKind_kind hd) (fun d hd => ofKind_kind hd)

end Go.Proofs.YtcdpboocfkaifaaGreatDoor.M
