/-
  The contracts of part.Groups and part.All. Variables that hold parts. Variables that hold parts; Join as a walk meets it.
-/
import Derived.Test.YtebippbakbihiaaGreatDoorPmA
namespace Go.Proofs.YtebippbakbihiaaGreatDoor
open Go.RowKit
set_option linter.unusedVariables false
theorem FragsAt.form {w:World} {v:Value} {fs:List M.Frg} (h:FragsAt w v fs):∃ a c,v=sv a fs.length c:=by
 obtain⟨cell,hs,_⟩:=h
 obtain⟨a,c,e,_⟩:=hs.form
 exact⟨a,c,e⟩
theorem DefsAt.form {w:World} {v:Value} {ds:List M.Dfn} (h:DefsAt w v ds):∃ a c,v=sv a ds.length c:=by
 obtain⟨a,c,e,_⟩:=h.1.form
 exact⟨a,c,e⟩
def PartsAt (w:World) (v:Value) (ps:List M.Prt):Prop :=
 ∃ cell,SlAt w v 2 ps.length cell∧∀ j,j<ps.length→FragsAt w (cell j 0) (ps.getD j M.nil).frags∧DefsAt w (cell j 1) (ps.getD j M.nil).defs
theorem PartsAt.later {w w':World} {v:Value} {ps:List M.Prt} (h:PartsAt w v ps) (hb:Below w.heap.size w w'):PartsAt w' v ps :=
 let ⟨cell,h1,h2⟩:=h
 ⟨cell,h1.later hb,fun j hj=>⟨(h2 j hj).1.later hb,(h2 j hj).2.later hb⟩⟩
structure Var (w:World) (b:Nat) (x1 x2:Option Addr) (y1 y2:Nat) (p:M.Prt):Prop where
 blk:w.heap[b]?=some (.cells #[sv x1 p.frags.length y1,sv x2 p.defs.length y2] 39 (0,0))
 fr:FragsAt w (sv x1 p.frags.length y1) p.frags
 df:DefsAt w (sv x2 p.defs.length y2) p.defs
theorem Var.later {w w':World} {b:Nat} {x1 x2:Option Addr} {y1 y2:Nat} {p:M.Prt} (h:Var w b x1 x2 y1 y2 p) (hb:Below w.heap.size w w'):Var w' b x1 x2 y1 y2 p :=
 ⟨(hb.block _ (lt1 h.blk)).trans h.blk,h.fr.later hb,h.df.later hb⟩
theorem Var.c0 {w:World} {b:Nat} {x1 x2:Option Addr} {y1 y2:Nat} {p:M.Prt} (h:Var w b x1 x2 y1 y2 p):w.cell? (qa b 0)=some (sv x1 p.frags.length y1):=cellB h.blk 0
theorem Var.c1 {w:World} {b:Nat} {x1 x2:Option Addr} {y1 y2:Nat} {p:M.Prt} (h:Var w b x1 x2 y1 y2 p):w.cell? (qa b 1)=some (sv x2 p.defs.length y2):=cellB h.blk 1
theorem Var.lt {w:World} {b:Nat} {x1 x2:Option Addr} {y1 y2:Nat} {p:M.Prt} (h:Var w b x1 x2 y1 y2 p):b<w.heap.size:=lt1 h.blk
theorem var_new {w:World} {x1 x2:Option Addr} {y1 y2:Nat} {p:M.Prt} (hf:FragsAt w (sv x1 p.frags.length y1) p.frags) (hd:DefsAt w (sv x2 p.defs.length y2) p.defs) :
  Var (w.alloc (.cells #[sv x1 p.frags.length y1,sv x2 p.defs.length y2] 39)) w.heap.size x1 x2 y1 y2 p :=
 ⟨heap_alloc_new _ _,hf.later ((Below.refl _ _).alloc (Nat.le_refl _) _),hd.later ((Below.refl _ _).alloc (Nat.le_refl _) _)⟩
theorem join_v {a b:M.Prt} {a1 a2 b1 b2:Option Addr} {c1 c2 d1 d2:Nat} {w:World} (hf:FragsAt w (sv a1 a.frags.length c1) a.frags) (hd:DefsAt w (sv a2 a.defs.length c2) a.defs)
  (hf':FragsAt w (sv b1 b.frags.length d1) b.frags) (hd':DefsAt w (sv b2 b.defs.length d2) b.defs) (p:M.Prt) (er:Int) (hj:M.join a b=(p,er)) :
  Calls Tryz.prog 27 #[.agg #[sv a1 a.frags.length c1,sv a2 a.defs.length c2],.agg #[sv b1 b.frags.length d1,sv b2 b.defs.length d2]] w fun e w' =>
   Below w.heap.size w w'∧∃ x1 y1 x2 y2,e=.returned (.tuple #[.agg #[sv x1 p.frags.length y1,sv x2 p.defs.length y2],iv er])∧FragsAt w' (sv x1 p.frags.length y1) p.frags∧DefsAt w' (sv x2 p.defs.length y2) p.defs:=by
 refine (join_any a b a1 a2 b1 b2 c1 c2 d1 d2 w hf hd hf' hd').mono ?_
 rintro e w' ⟨hb,es,vF,vD,rfl,hP,hes⟩
 rw[hj] at hP hes ⊢
 have hF:=hP.fragsAt
 rw[hes] at hF
 obtain⟨x1,y1,rfl⟩:=hF.form
 obtain⟨x2,y2,rfl⟩:=hP.defsAt.form
 exact⟨hb,x1,y1,x2,y2,rfl,hF,hP.defsAt⟩
end Go.Proofs.YtebippbakbihiaaGreatDoor
