/-
  Where images lie in memory. Faults and layouts in memory.
-/
import Derived.Test.YtpkfmfhodbjckaaGreatDoorLkMM
set_option linter.unusedVariables false
namespace Go.Proofs.YtpkfmfhodbjckaaGreatDoor
open Go Go.RowKit
structure SegAt (w:World) (cell:Nat→Value) (s:M.Seg):Prop where
 pos:cell 0=iv s.pos
 bytes:BytesAt w (cell 1) s.bytes
 zeros:cell 2=iv s.zeros
 writes:cell 3=.bool s.writes
 works:cell 4=.bool s.works
def SegsAt (w:World) (v:Value) (l:List M.Seg):Prop :=
 ∃cell,SlAt w v 5 l.length cell∧∀j,j<l.length→SegAt w (cell j) (l.getD j M.seg0)
theorem SegAt.later{w w':World}{cell:Nat→Value}{s:M.Seg}(h:SegAt w cell s)(hb:Below w.heap.size w w'):SegAt w' cell s :=
 ⟨h.pos,h.bytes.later hb,h.zeros,h.writes,h.works⟩
theorem SegsAt.later{w w':World}{v:Value}{l:List M.Seg}(h:SegsAt w v l)(hb:Below w.heap.size w w'):SegsAt w' v l :=
 let ⟨cell,h1,h2⟩:=h
 ⟨cell,h1.later hb,fun j hj=>(h2 j hj).later hb⟩
theorem SegsAt.form{w:World}{v:Value}{l:List M.Seg}(h:SegsAt w v l):∃a c,v=sv a l.length c∧l.length≤maxLen :=
 let ⟨_,h1,_⟩:=h
 h1.form
theorem segs_nil(w:World):SegsAt w (sv none 0 0) []:=⟨fun _ _=>undef,⟨none,0,rfl,Nat.zero_le _,.inl rfl⟩,fun j hj=>absurd hj (Nat.not_lt_zero j)⟩
theorem SegsAt.cells{w:World}{a:Option Addr}{c:Nat}{l:List M.Seg}(h:SegsAt w (sv a l.length c) l)(k:Nat)(hk:k<l.length) :
  ∃b off ab cb,a=some (qa b off)∧w.cell? (qa b (off+k*5))=some (iv (l.getD k M.seg0).pos)∧w.cell? (qa b (off+k*5+1))=some (sv ab (l.getD k M.seg0).bytes.length cb)∧w.cell? (qa b (off+k*5+2))=some (iv (l.getD k M.seg0).zeros) ∧
   w.cell? (qa b (off+k*5+3))=some (.bool (l.getD k M.seg0).writes)∧w.cell? (qa b (off+k*5+4))=some (.bool (l.getD k M.seg0).works)∧BytesAt w (sv ab (l.getD k M.seg0).bytes.length cb) (l.getD k M.seg0).bytes:=by
 obtain⟨cell,h1,h2⟩:=h
 obtain⟨b,off,rfl,hc⟩:=h1.at k hk
 obtain⟨s0,s1,s2,s3,s4⟩:=h2 k hk
 obtain⟨ab,cb,e,_⟩:=s1.1.form
 rw[e] at s1
 refine⟨b,off,ab,cb,rfl,?_,?_,?_,?_,?_,s1⟩
 ·have:=hc 0 (by decide);rw[s0] at this;exact this
 ·have:=hc 1 (by decide);rw[e] at this;exact this
 ·have:=hc 2 (by decide);rw[s2] at this;exact this
 ·have:=hc 3 (by decide);rw[s3] at this;exact this
 ·have:=hc 4 (by decide);rw[s4] at this;exact this
theorem flts_nil(w:World):FltsAt w (sv none 0 0) []:=⟨none,0,rfl,Nat.zero_le _,.inl rfl⟩
structure LayAt (w:World) (vF vN vC:Value) (l:M.Lay):Prop where
 frags:IntsAt w vF l.frags
 names:StrsAt w vN l.names
 coms:IntsAt w vC l.coms
theorem LayAt.later{w w':World}{vF vN vC:Value}{l:M.Lay}(h:LayAt w vF vN vC l)(hb:Below w.heap.size w w'):LayAt w' vF vN vC l :=
 ⟨h.frags.later hb,h.names.later hb,h.coms.later hb⟩
end Go.Proofs.YtpkfmfhodbjckaaGreatDoor
