/-
  Whether two lists are alike: the library's Equal at definitions, places, bytes; bytes.Equal.
-/
import Derived.Test.YtpkfmfhodbjckaaGreatDoorMemX
import Derived.Test.YtpkfmfhodbjckaaGreatDoorShelf
import Derived.Laws.StructEq
namespace Go.Proofs.YtpkfmfhodbjckaaGreatDoor
open Go.RowKit Go.Shelf
set_option linter.unusedVariables false
def encRel (r:M.Rel):List Value:=[iv r.pos,iv r.kind,.string r.name,iv r.frag,iv r.add]
def encDfn (d:M.Dfn):List Value:=[.string d.name,iv d.kind,iv d.frag,iv d.pos,iv d.size,iv d.align]
theorem allTwo_eq{α:Type}(eq:α→α→Bool):∀xs ys:List α,Lib.allEq eq xs ys=M.allTwo eq xs ys
 | [],[]=>rfl
 | [],y::ys=>rfl
 | x::xs,[]=>rfl
 | x::xs,y::ys=>by rw[Lib.allEq,M.allTwo,allTwo_eq eq xs ys]
theorem SlAt.all{w:World}{a:Option Addr}{c k n:Nat}{cell:Nat→Nat→Value}(h:SlAt w (sv a n c) k n cell)(hn:0<n) :
  ∃b off,a=some (qa b off)∧∀j i,j<n→i<k→w.cell? (qa b (off+j*k+i))=some (cell j i):=by
 obtain⟨a',c',e,_,h⟩:=h
 cases e
 rcases h with h|h
 ·omega
 ·exact h
theorem below_drewN'(B:Nat)(w:World)(q:Nat):Below B w (w.drewN q):=⟨rfl,rfl,rfl,Nat.le_refl _,fun _ _=>rfl⟩
end Go.Proofs.YtpkfmfhodbjckaaGreatDoor
