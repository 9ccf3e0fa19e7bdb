/-
  The plain mathematics of the script: the text of a part, and the part of a text.
-/
import Derived.Test.YtogipjjmnmahnaaDoorModel
import Derived.Lib.ItoaNum
import Derived.Lib.AtoiAll
import Derived.Lib.Join
namespace Go.Proofs.YtogipjjmnmahnaaDoor.M
open Go

abbrev Txt := List UInt8

def wFrag : Txt := [102, 114, 97, 103]
def wAt : Txt := [97, 116]
def wDef : Txt := [100, 101, 102]
def sectT : List Txt := [[], [99, 111, 100, 101], [102, 105, 120, 101, 100], [116, 101, 120, 116], [100, 97, 116, 97], [122, 101, 114, 111]]
def kindT : List Txt := [[], [97, 98, 115, 49], [97, 98, 115, 50], [114, 101, 108, 49], [114, 101, 108, 50], []]
def defT : List Txt := [[], [115, 116, 114, 111, 110, 103], [119, 101, 97, 107], [99, 111, 109, 109, 111, 110], [], []]
def digits : Txt := [48, 49, 50, 51, 52, 53, 54, 55, 56, 57, 97, 98, 99, 100, 101, 102]

def wordOf (t : List Txt) (k : Int) : Txt := t.getD k.toNat []
def digit (n : Nat) : UInt8 := digits.getD n 0
def hex1 (b : Int) : Txt := [digit (b.toNat / 16), digit (b.toNat % 16)]
def hex (bs : List Int) : Txt := bs.flatMap hex1
def orDash (t : Txt) : Txt := if t = [] then [45] else t
def txt (s : ByteArray) : Txt := s.data.toList
def str (t : Txt) : ByteArray := ⟨t.toArray⟩
def content (f : Frg) : Txt := if f.sect = 5 then Lib.itoa f.size else orDash (hex f.bytes)
def toWord (r : Rel) : Txt := if txt r.name = [] then 35 :: Lib.itoa r.frag else txt r.name
def line (ws : List Txt) : Txt := Lib.join ws [32] ++ [10]
def fragLine (f : Frg) : Txt := line [wFrag, wordOf sectT f.sect, Lib.itoa f.align, orDash (txt f.group), content f]
def relLine (r : Rel) : Txt := line [wAt, Lib.itoa r.pos, wordOf kindT r.kind, toWord r, Lib.itoa r.add]
def defFirst (d : Dfn) : Int := if d.kind = 3 then d.size else d.frag
def defSecond (d : Dfn) : Int := if d.kind = 3 then d.align else d.pos
def defLine (d : Dfn) : Txt := line [wDef, txt d.name, wordOf defT d.kind, Lib.itoa (defFirst d), Lib.itoa (defSecond d)]
def relsText (rs : List Rel) : Txt := rs.flatMap relLine
def fragText (f : Frg) : Txt := fragLine f ++ relsText f.rels
def fragsText (fs : List Frg) : Txt := fs.flatMap fragText
def defsText (ds : List Dfn) : Txt := ds.flatMap defLine
def print (p : Prt) : Txt := fragsText p.frags ++ defsText p.defs

/-- a text cut at its first c -/
def cutAt (c : UInt8) : Txt → Option (Txt × Txt)
  | [] => none
  | b :: l => if b = c then some ([], l) else (cutAt c l).map fun x => (b :: x.1, x.2)

def push (b : UInt8) : List Txt → List Txt
  | [] => [[b]]
  | x :: r => (b :: x) :: r

/-- a text's pieces between its c -/
def pieces (c : UInt8) : Txt → List Txt
  | [] => [[]]
  | b :: l => if b = c then [] :: pieces c l else push b (pieces c l)

def num (t : Txt) : Option Int :=
  match Lib.atoiAll t with
  | .ok n => if Lib.itoa n = t then some n else none
  | _ => none

def findFrom : Nat → List Txt → Txt → Option Nat
  | _, [], _ => none
  | k, x :: r, w => if x = w then some k else findFrom (k + 1) r w
def find (t : List Txt) (w : Txt) : Option Nat := findFrom 0 t w

/-- the place of a digit -/
def nib (c : UInt8) : Option Nat := (digits.idxOf? c)

def pairs : Txt → Option (List Int)
  | [] => some []
  | [_] => none
  | a :: b :: r => match nib a, nib b with
    | some x, some y => (pairs r).map fun l => ((16 * x + y : Nat) : Int) :: l
    | _, _ => none

def bytesOf (t : Txt) : Option (List Int) := if t = [45] then some [] else pairs t
def groupOf (t : Txt) : ByteArray := if t = [45] then str [] else str t

def addFrag (p : Prt) (w1 w2 w3 w4 : Txt) : Option Prt :=
  match find sectT w1, num w2 with
  | some k, some a =>
    if k = 5 then (num w4).map fun n => ⟨p.frags ++ [⟨5, a, groupOf w3, [], n, []⟩], p.defs⟩
    else (bytesOf w4).map fun bs => ⟨p.frags ++ [⟨k, a, groupOf w3, bs, 0, []⟩], p.defs⟩
  | _, _ => none

def leads (t : Txt) : Option (ByteArray × Int) :=
  match t with
  | [] => some (str [], 0)
  | c :: r => if c = 35 then (num r).map fun n => (str [], n) else some (str t, 0)

def addRel (f : Frg) (r : Rel) : Frg := { f with rels := f.rels ++ [r] }
def onLast (g : Frg → Frg) : List Frg → List Frg
  | [] => []
  | [f] => [g f]
  | f :: r => f :: onLast g r

def rel4 (w1 w2 w3 w4 : Txt) : Option Rel :=
  match num w1, find kindT w2, leads w3, num w4 with
  | some a, some k, some (nm, fr), some b => some ⟨a, k, nm, fr, b⟩
  | _, _, _, _ => none

def addPlace (p : Prt) (w1 w2 w3 w4 : Txt) : Option Prt :=
  if p.frags = [] then none else (rel4 w1 w2 w3 w4).map fun r => ⟨onLast (fun f => addRel f r) p.frags, p.defs⟩

def def4 (w1 w2 w3 w4 : Txt) : Option Dfn :=
  match find defT w2, num w3, num w4 with
  | some k, some a, some b => some (if k = 3 then ⟨str w1, 3, 0, 0, a, b⟩ else ⟨str w1, k, a, b, 0, 0⟩)
  | _, _, _ => none

def addDef (p : Prt) (w1 w2 w3 w4 : Txt) : Option Prt := (def4 w1 w2 w3 w4).map fun d => ⟨p.frags, p.defs ++ [d]⟩

def five (l : List Txt) : Option (Txt × Txt × Txt × Txt × Txt) :=
  match l with
  | [a, b, c, d, e] => if a = [] ∨ b = [] ∨ c = [] ∨ d = [] ∨ e = [] then none else some (a, b, c, d, e)
  | _ => none

def addWords (p : Prt) (w0 w1 w2 w3 w4 : Txt) : Option Prt :=
  if w0 = wFrag then (if p.defs = [] then addFrag p w1 w2 w3 w4 else none)
  else if w0 = wAt then (if p.defs = [] then addPlace p w1 w2 w3 w4 else none)
  else if w0 = wDef then addDef p w1 w2 w3 w4
  else none

def addLine (p : Prt) (t : Txt) : Option Prt :=
  match five (pieces 32 t) with
  | some (w0, w1, w2, w3, w4) => addWords p w0 w1 w2 w3 w4
  | none => none

def nil : Prt := ⟨[], []⟩
def fin (p : Prt) : Prt × Nat × Int := if checkPart p = 0 then (p, 0, 0) else (nil, 0, checkPart p)

def readL : Nat → Prt → List Txt → Prt × Nat × Int
  | _, p, [] => fin p
  | k, p, t :: r =>
    match r with
    | [] => if t = [] then fin p else (nil, k, 1)
    | _ :: _ => match addLine p t with
      | some q => readL (k + 1) q r
      | none => (nil, k, 1)

def read (s : Txt) : Prt × Nat × Int := readL 0 nil (pieces 10 s)

end Go.Proofs.YtogipjjmnmahnaaDoor.M
