/-
  The plain mathematics: what a part is, what is wrong with it, when two are alike. Lists and integers alone; nothing of the program.
-/
namespace Go.Proofs.Ytebhbhbhcoijpaa.M

structure Rel where
  pos : Int
  kind : Int
  name : ByteArray
  frag : Int
  add : Int

structure Frg where
  sect : Int
  align : Int
  group : ByteArray
  bytes : List Int
  size : Int
  rels : List Rel

structure Dfn where
  name : ByteArray
  kind : Int
  frag : Int
  pos : Int
  size : Int
  align : Int

structure Prt where
  frags : List Frg
  defs : List Dfn

def within (n a b : Int) : Bool := decide (a ≤ n) && decide (n ≤ b)
def nameByte (c : Int) : Bool := (decide (97 ≤ c) && decide (c ≤ 122)) || (decide (48 ≤ c) && decide (c ≤ 57)) || c == 95
def isName (s : ByteArray) : Bool := decide (1 ≤ s.size) && decide (s.size ≤ 8) && s.data.toList.all fun c => nameByte c.toNat
def isAlign (n : Int) : Bool := n == 1 || n == 2 || n == 4 || n == 8
def wide (k : Int) : Int := if k = 1 ∨ k = 3 then 1 else if k = 2 ∨ k = 4 then 2 else 0
def lng (s sz : Int) (n : Nat) : Int := if s = 5 then sz else n
def long (f : Frg) : Int := lng f.sect f.size f.bytes.length

/-- what is wrong with what a place leads to -/
def target (r : Rel) (many : Int) : Int :=
  if r.name.toList.isEmpty then (if within r.frag (-1) (many - 1) then 0 else 5)
  else if isName r.name && r.frag == 0 then 0 else 1

/-- a place may stand there -/
def placed (r : Rel) (from_ len : Int) : Bool :=
  !(wide r.kind == 0) && within r.pos from_ (len - wide r.kind) && within r.add (-10000) 10000

def checkRels (len many : Int) : Int → List Rel → Int
  | _, [] => 0
  | e, r :: rs => if placed r e len then (if target r many = 0 then checkRels len many (r.pos + wide r.kind) rs else target r many) else 3

def formed (f : Frg) : Bool :=
  if f.sect = 5 then f.bytes.length == 0 && f.rels.length == 0 && within f.size 0 64
  else if f.sect = 3 then f.size == 0 && f.rels.length == 0
  else f.size == 0

def checkFrag (f : Frg) (many : Int) : Int :=
  if !(within f.sect 1 5) || !(isAlign f.align) then 3
  else if f.group.toList.isEmpty = false ∧ isName f.group = false then 1
  else if 64 < f.bytes.length ∨ 8 < f.rels.length then 2
  else if formed f = false then 4
  else checkRels f.bytes.length many 0 f.rels

/-- of a definition that stands in a fragment -/
def inFrag (pos size align : Int) (f : Frg) : Int := bif within pos 0 (long f) && size == 0 && align == 0 then 0 else 3

def defAt (frag pos size align : Int) (fs : List Frg) : Int :=
  if within frag 0 (fs.length - 1) then
    (match fs[frag.toNat]? with
     | some f => inFrag pos size align f
     | none => 0)
  else 5

def checkDef (d : Dfn) (fs : List Frg) : Int :=
  if isName d.name = false then 1
  else if d.kind = 1 ∨ d.kind = 2 then defAt d.frag d.pos d.size d.align fs
  else if d.kind = 3 then (bif d.frag == 0 && d.pos == 0 && within d.size 1 64 && isAlign d.align then 0 else 3)
  else 4

def checkFrags (many : Int) : List Frg → Int
  | [] => 0
  | f :: fs => if checkFrag f many = 0 then checkFrags many fs else checkFrag f many

def checkDefs (fs : List Frg) : List Dfn → Int
  | [] => 0
  | d :: ds => if checkDef d fs = 0 then checkDefs fs ds else checkDef d fs

def checkPart (p : Prt) : Int :=
  if 60 < p.frags.length ∨ 60 < p.defs.length then 2
  else if checkFrags p.frags.length p.frags = 0 then checkDefs p.frags p.defs else checkFrags p.frags.length p.frags

def sameRel (a b : Rel) : Bool := a.pos == b.pos && a.kind == b.kind && a.name.toList == b.name.toList && a.frag == b.frag && a.add == b.add
def sameDfn (a b : Dfn) : Bool := a.name.toList == b.name.toList && a.kind == b.kind && a.frag == b.frag && a.pos == b.pos && a.size == b.size && a.align == b.align

def allTwo {α : Type} (eq : α → α → Bool) : List α → List α → Bool
  | [], [] => true
  | x :: xs, y :: ys => eq x y && allTwo eq xs ys
  | _, _ => false

def sameFrg (a b : Frg) : Bool :=
  a.sect == b.sect && a.align == b.align && a.group.toList == b.group.toList && a.size == b.size && allTwo (fun x y => x == y) a.bytes b.bytes && allTwo sameRel a.rels b.rels

def samePart (a b : Prt) : Bool := allTwo sameFrg a.frags b.frags && allTwo sameDfn a.defs b.defs

end Go.Proofs.Ytebhbhbhcoijpaa.M
