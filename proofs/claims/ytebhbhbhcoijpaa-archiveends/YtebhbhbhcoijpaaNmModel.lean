/-
  The plain mathematics of package names: names wanted and defined, which definition counts, what is wrong. Lists and integers alone; nothing of the program.
-/
import Derived.Test.YtebhbhbhcoijpaaPrtMath5
import Derived.Lib.SlicesCompact
namespace Go.Proofs.Ytebhbhbhcoijpaa.M
open Go

def txt' (s : ByteArray) : List UInt8 := s.data.toList
def ofTxt (t : List UInt8) : ByteArray := ⟨t.toArray⟩

theorem txt_of (t : List UInt8) : txt' (ofTxt t) = t := rfl
theorem of_txt (s : ByteArray) : ofTxt (txt' s) = s := by obtain ⟨⟨l⟩⟩ := s; rfl

def leT (x y : List UInt8) : Bool := decide (x ≤ y)

/-- rising, each once -/
def risingT (l : List (List UInt8)) : List (List UInt8) := Lib.compact (l.mergeSort fun x y => decide (x ≤ y))
def rising (l : List ByteArray) : List ByteArray := (risingT (l.map txt')).map ofTxt

def wantedOf (rs : List Rel) : List ByteArray := (rs.filter fun r => !(bare r.name)).map (·.name)
def wantedNames (fs : List Frg) : List ByteArray := fs.flatMap fun f => wantedOf f.rels
def definedNames (ds : List Dfn) : List ByteArray := ds.map (·.name)
def wanted (p : Prt) : List ByteArray := rising (wantedNames p.frags)
def defined (p : Prt) : List ByteArray := rising (definedNames p.defs)
def lacking (p : Prt) : List ByteArray := (wanted p).filter fun s => !(has (defined p) s)

def dfnZ : Dfn := ⟨⟨#[]⟩, 0, 0, 0, 0, 0⟩
def isDef (s : ByteArray) (k : Int) (d : Dfn) : Bool := d.name.toList == s.toList && d.kind == k
def ofKind (ds : List Dfn) (s : ByteArray) (k : Int) : List Dfn := ds.filter (isDef s k)
def grow (o d : Dfn) : Dfn := { o with size := max o.size d.size, align := max o.align d.align }
def greatest (l : List Dfn) : Dfn := l.foldl grow (l.headD dfnZ)

def findIn (l1 l3 l2 : List Dfn) : Dfn × Int :=
  if 1 < l1.length then (dfnZ, 6)
  else if l1.length = 1 then (l1.headD dfnZ, 0)
  else if 0 < l3.length then (greatest l3, 0)
  else if 0 < l2.length then (l2.headD dfnZ, 0)
  else (dfnZ, 7)
def find (ds : List Dfn) (s : ByteArray) : Dfn × Int := findIn (ofKind ds s 1) (ofKind ds s 3) (ofKind ds s 2)

def faultAt (ds : List Dfn) (s : ByteArray) : Option (Int × ByteArray) := if (find ds s).2 = 0 then none else some ((find ds s).2, s)
def faults (p : Prt) : List (Int × ByteArray) := (rising (wanted p ++ defined p)).filterMap (faultAt p.defs)

end Go.Proofs.Ytebhbhbhcoijpaa.M
