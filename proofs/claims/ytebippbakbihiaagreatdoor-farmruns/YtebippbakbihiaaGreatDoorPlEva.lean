/-
  Parts of one's own in a row of one's own. The contract of plan.Eval.
-/
import Derived.Test.YtebippbakbihiaaGreatDoorPlReady
import Derived.Test.YtebippbakbihiaaGreatDoorPrtA
import Derived.BigRegion
namespace Go.Proofs.YtebippbakbihiaaGreatDoor
open Go Go.RowKit
set_option linter.unusedVariables false
structure PEnt where
 p:M.Prt
 vF:Value
 vD:Value
def pentCells (e:PEnt):List Value:=[e.vF,e.vD]
def POwn (W:World) (B:Nat) (e:PEnt):Prop:=∃ ents,PR W B ents e.p.defs e.vF e.vD∧ents.map (·.f)=e.p.frags
theorem PR.keptR {w w':World} {B B' n:Nat} {es:List Ent} {ds:List M.Dfn} {vF vD v:Value} {xs:List Value} (h:PR w B es ds vF vD) (hr:w.ownsRow B' 39 2 v n xs) (hg:w.grownBy w' v.ownBlock):PR w' B es ds vF vD :=
 ⟨h.rowF.kept hg (own_apart h.rowF hr (by decide)),h.rowD.kept hg (own_apart h.rowD hr (by decide)),fun e he=>(h.bytes e he).kept hg (own_apart (h.bytes e he) hr (by decide)),h.small,h.smallD,fun e he=>(h.rels e he).kept hg (own_apart (h.rels e he) hr (by decide))⟩
structure EvOut (w0 w':World) (v:Value) (ps:List M.Prt):Prop where
 below:Below w0.heap.size w0 w'
 ex:∃ es:List PEnt,es.map (·.p)=ps∧w'.ownsRow w0.heap.size 39 2 v es.length (es.flatMap pentCells)∧∀ e∈es,POwn w' w0.heap.size e
structure EvI (w W:World) (v:Value) (es:List PEnt):Prop where
 below:Below w.heap.size w W
 row:W.ownsRow w.heap.size 39 2 v es.length (es.flatMap pentCells)
 parts:∀ e∈es,POwn W w.heap.size e
theorem EvI.later {w W X:World} {v:Value} {es:List PEnt} (h:EvI w W v es) (hb:Below W.heap.size W X):EvI w X v es :=
 ⟨h.below.trans (hb.mono h.below.size),h.row.kept (grown_of_below hb none) own_self,fun e he=>let ⟨en,h1,h2⟩:=h.parts e he;⟨en,h1.later hb,h2⟩⟩
theorem EvI.push {w W X:World} {v v':Value} {es:List PEnt} {e:PEnt} (h:EvI w W v es) (he:POwn W w.heap.size e) (hg:W.grownBy X v.ownBlock) (hr:X.ownsRow w.heap.size 39 2 v' (es.length+1) (es.flatMap pentCells ++ pentCells e)):EvI w X v' (es ++ [e]):=by
 refine⟨h.below.grown hg h.below.size (fun k hk=>(h.row.lt k hk).1),?_,fun x hx=>?_⟩
 ·rw[List.length_append,List.flatMap_append]
  simpa [List.flatMap_cons] using hr
 ·have hx':POwn W w.heap.size x:=by
   rcases List.mem_append.1 hx with hx | hx
   ·exact h.parts x hx
   ·rw[List.mem_singleton.1 hx];exact he
  obtain⟨en,h1,h2⟩:=hx'
  exact⟨en,h1.keptR h.row hg,h2⟩
def pent0:PEnt:=⟨M.nil,sv none 0 0,sv none 0 0⟩
theorem POwn.at {W:World} {B:Nat} {e:PEnt} (h:POwn W B e):∃ a1 c1 a2 c2,e.vF=sv a1 e.p.frags.length c1∧e.vD=sv a2 e.p.defs.length c2∧FragsAt W (sv a1 e.p.frags.length c1) e.p.frags∧DefsAt W (sv a2 e.p.defs.length c2) e.p.defs:=by
 obtain⟨en,h1,h2⟩:=h
 have hF:=h1.fragsAt
 rw[h2] at hF
 obtain⟨a1,c1,e1⟩:=hF.form
 obtain⟨a2,c2,e2⟩:=h1.defsAt.form
 exact⟨a1,c1,a2,c2,e1,e2,e1 ▸ hF,e2 ▸ h1.defsAt⟩
theorem EvI.cells {w W:World} {ad:Option Addr} {cc:Nat} {es:List PEnt} (h:EvI w W (sv ad es.length cc) es) (k:Nat) (hk:k<es.length) :
  ∃ b off a1 c1 a2 c2,ad=some (qa b off)∧W.cell? (qa b (off+k*2))=some (sv a1 (es.getD k pent0).p.frags.length c1)∧W.cell? (qa b (off+k*2+1))=some (sv a2 (es.getD k pent0).p.defs.length c2)
   ∧ FragsAt W (sv a1 (es.getD k pent0).p.frags.length c1) (es.getD k pent0).p.frags∧DefsAt W (sv a2 (es.getD k pent0).p.defs.length c2) (es.getD k pent0).p.defs:=by
 obtain⟨a1,c1,a2,c2,e1,e2,hF,hD⟩:=(h.parts _ (getD_mem es pent0 k hk)).at
 obtain⟨b,off,rfl,hc⟩:=(row_slice (k:=2) pent0 pentCells (fun _=>rfl) es h.row).at k hk
 have g0:=hc 0 (by decide)
 have g1:=hc 1 (by decide)
 refine⟨b,off,a1,c1,a2,c2,rfl,?_,?_,hF,hD⟩
 ·rw[Nat.add_zero] at g0;rw[g0];exact congrArg some e1
 ·rw[g1];exact congrArg some e2
theorem checkEach_step (ps:List M.Prt) (k:Nat) (h:k<ps.length):M.checkEach (ps.drop k)=if M.checkPart (ps.getD k M.nil)=0 then M.checkEach (ps.drop (k+1)) else M.checkPart (ps.getD k M.nil):=by
 rw[drop_getD ps M.nil k h];rfl
theorem evalGo_step (parts out:List M.Prt) (l:List M.Nd) (k:Nat) (h:k<l.length):M.evalGo parts out (l.drop k)=if (M.join (M.evalLeft out (l.getD k M.nd0)) (M.evalRight parts out (l.getD k M.nd0))).2=0 then M.evalGo parts (out ++ [(M.join (M.evalLeft out (l.getD k M.nd0)) (M.evalRight parts out (l.getD k M.nd0))).1]) (l.drop (k+1)) else ([],(M.join (M.evalLeft out (l.getD k M.nd0)) (M.evalRight parts out (l.getD k M.nd0))).2):=by
 rw[drop_getD l M.nd0 k h];rfl
end Go.Proofs.YtebippbakbihiaaGreatDoor
