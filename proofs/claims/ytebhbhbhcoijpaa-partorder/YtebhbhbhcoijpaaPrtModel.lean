/-
  The plain mathematics of package part: groups, what is dropped, what is joined. Lists and integers alone; nothing of the program.
-/
import Derived.Test.YtebhbhbhcoijpaaModel
namespace Go.Proofs.Ytebhbhbhcoijpaa.M

def has (l : List ByteArray) (g : ByteArray) : Bool := l.any fun x => x.toList == g.toList
def bare (g : ByteArray) : Bool := g.toList.isEmpty
def gone (l : List ByteArray) (f : Frg) : Bool := !(bare f.group) && has l f.group
def addGroup (l : List ByteArray) (f : Frg) : List ByteArray := bif bare f.group || has l f.group then l else l ++ [f.group]
def groups (fs : List Frg) : List ByteArray := fs.foldl addGroup []

/-- the numbers that the fragments get, those that are let go -1 -/
def count (l : List ByteArray) : Int → List Frg → List Int
  | _, [] => []
  | n, f :: fs => bif gone l f then (-1) :: count l n fs else n :: count l (n + 1) fs

def stays (l : List ByteArray) (fs : List Frg) : List Frg := fs.filter fun f => !(gone l f)

def num (to : List Int) (i : Int) : Int := to.getD i.toNat 0
def movedRel (to : List Int) (r : Rel) : Rel := bif bare r.name && !(r.frag == -1) then { r with frag := num to r.frag } else r
def movedFrg (to : List Int) (f : Frg) : Frg := { f with rels := f.rels.map (movedRel to) }
def movedDfn (to : List Int) (d : Dfn) : Dfn := bif d.kind == 3 then d else { d with frag := num to d.frag }

def movedFrags (to : List Int) (fs : List Frg) : List Frg := ((fs.zip to).filter fun x => !(x.2 == -1)).map fun x => movedFrg to x.1
def movedDefs (to : List Int) (ds : List Dfn) : List Dfn := (ds.map (movedDfn to)).filter fun d => !(d.frag == -1)
def moved (to : List Int) (p : Prt) : Prt := ⟨movedFrags to p.frags, movedDefs to p.defs⟩

def nil : Prt := ⟨[], []⟩
def plus (p q : Prt) : Prt := ⟨p.frags ++ q.frags, p.defs ++ q.defs⟩
def drop (p : Prt) (l : List ByteArray) : Prt := moved (count l 0 p.frags) p
def both (a b : Prt) : Prt := plus (moved (count [] 0 a.frags) a) (moved (count (groups a.frags) a.frags.length b.frags) b)
def full (p : Prt) : Bool := decide (60 < p.frags.length) || decide (60 < p.defs.length)

/-- the part and the error that Join answers -/
def join (a b : Prt) : Prt × Int :=
  if checkPart a = 0 then
    if checkPart b = 0 then
      bif full (both a b) then (nil, 10) else (both a b, 0)
    else (nil, checkPart b)
  else (nil, checkPart a)

def allFrom (p : Prt) : List Prt → Prt × Int
  | [] => (p, 0)
  | q :: l => if (join p q).2 = 0 then allFrom (join p q).1 l else (nil, (join p q).2)

end Go.Proofs.Ytebhbhbhcoijpaa.M
