/-
  Images as plain mathematics: what is wrong with one, the byte at an address. Lists and integers alone; nothing of the program. The plain mathematics of package link: where a name stands, which number a place has, what is wrong, the image. Lists and integers alone; nothing of the program. Plain mathematics: halving finds a name; a common name has a place among the names.
-/
import Derived.Test.YtpkfmfhodbjckaaGreatDoorFltA
import Derived.Test.YtpkfmfhodbjckaaGreatDoorFlModel
import Derived.Shelf.Spec.SearchS
import Derived.Test.YtpkfmfhodbjckaaGreatDoorLyB
set_option linter.unusedVariables false
namespace Go.Proofs.YtpkfmfhodbjckaaGreatDoor.M
open Go
structure Seg where
 pos:Int
 bytes:List Int
 zeros:Int
 writes:Bool
 works:Bool
structure Img where
 entry:Int
 segs:List Seg
def img0:Img:=⟨0,[]⟩
def seg0:Seg:=⟨0,[],0,false,false⟩
def segEnd (s:Seg):Int:=s.pos+s.bytes.length+s.zeros
def chkSeg (s:Seg) (e:Int):Int :=
 if within s.pos e 65536=true then (if within s.zeros 0 65536=true then (if 65536<s.bytes.length then 3 else if 65536<segEnd s then 10 else 0) else 3) else 3
def chkSegs:List Seg→Int→Int
 | [],_=>0
 | s::l,e=>if chkSeg s e=0 then chkSegs l (segEnd s) else chkSeg s e
def chkImg (m:Img):Int :=
 if 12<m.segs.length then 2 else if chkSegs m.segs 0=0 then (if within m.entry 0 65536=true then 0 else 3) else chkSegs m.segs 0
def segHas (s:Seg) (a:Int):Bool:=decide (s.pos≤a)&&decide (a<segEnd s)
def segIx:List Seg→Int→Nat
 | [],_=>0
 | s::l,a=>if segHas s a=true then 0 else segIx l a+1
def byteOf (s:Seg) (a:Int):Int:=if a-s.pos<s.bytes.length then s.bytes.getD (a-s.pos).toNat 0 else 0
def thereAt (l:List Seg) (a:Int):Bool:=decide (segIx l a<l.length)
def segAt (l:List Seg) (a:Int):Seg:=l.getD (segIx l a) seg0
def byteIn (l:List Seg) (a:Int):Int:=byteOf (segAt l a) a
def rowOf (l:List Seg) (a:Int) (n:Nat):List Int:=(List.range n).map fun (i:Nat)=>byteIn l (a+(i:Int))
def rangeErr (m:Img) (a n:Int):Int :=
 if chkImg m=0 then (if within a 0 65536=true then (if within n 0 64=true then (if (List.range n.toNat).all (fun (i:Nat)=>thereAt m.segs (a+(i:Int)))=true then 0 else 5) else 3) else 3) else chkImg m
def range (m:Img) (a n:Int):List Int:=if rangeErr m a n=0 then rowOf m.segs a n.toNat else []
structure SegFit (s:Seg):Prop where
 pos:0≤s.pos∧s.pos≤65536
 zeros:0≤s.zeros∧s.zeros≤65536
 len:s.bytes.length≤65536
 fin:segEnd s≤65536
def halve (names:List ByteArray) (s:ByteArray):Nat:=Lib.bsGo (fun t=>Op.bytesLess (names.getD t ⟨#[]⟩).toList s.toList) names.length 0 names.length
def foundAt (names:List ByteArray) (s:ByteArray):Bool:=decide (halve names s<names.length∧names.getD (halve names s) ⟨#[]⟩=s)
def commonIn (N:List ByteArray) (C:List Int) (s:ByteArray):Int × Int :=
 if foundAt N s=true then (if halve N s<C.length then (C.getD (halve N s) 0,0) else (0,5)) else (0,5)
def whereIn (d:Dfn) (e:Int) (F:List Int) (N:List ByteArray) (C:List Int) (s:ByteArray):Int × Int :=
 if e=0 then (if d.kind=3 then commonIn N C s else if (F.length:Int)≤d.frag then (0,5) else (F.getD d.frag.toNat 0+d.pos,0)) else (0,e)
def whereOf (p:Prt) (l:Lay) (s:ByteArray):Int × Int:=whereIn (find p.defs s).1 (find p.defs s).2 l.frags l.names l.coms s
def leads (p:Prt) (l:Lay) (r:Rel):Int × Int :=
 if r.name.toList.isEmpty=true then (if r.frag<0 then (0,8) else (l.frags.getD r.frag.toNat 0,0)) else whereOf p l r.name
def number (p:Prt) (l:Lay) (i:Nat) (r:Rel):Int × Int :=
 if (leads p l r).2=0 then value r.kind (l.frags.getD i 0+r.pos) (leads p l r).1 r.add else (0,(leads p l r).2)
def fltOf (x:Int × ByteArray):Flt:=⟨x.1,x.2,0,0⟩
def faulty (l:List Flt) (s:ByteArray):Bool:=l.any fun f=>f.name.toList==s.toList
def named (p:Prt):List Flt:=(faults p).map fltOf
def nameFaults (p:Prt) (entry:ByteArray):List Flt :=
 if (find p.defs entry).2=0 then named p else if faulty (named p) entry=true then named p else named p++[⟨(find p.defs entry).2,entry,0,0⟩]
def placeFault (p:Prt) (l:Lay) (nm:List Flt) (i:Nat) (r:Rel):List Flt :=
 if faulty nm r.name=true then [] else if (number p l i r).2=0 then [] else [⟨(number p l i r).2,⟨#[]⟩,i,r.pos⟩]
def fragFaults (p:Prt) (l:Lay) (nm:List Flt) (i:Nat) (rs:List Rel):List Flt:=rs.flatMap (placeFault p l nm i)
def placeFaultsN (p:Prt) (l:Lay) (nm:List Flt) (k:Nat):List Flt:=(List.range k).flatMap fun i=>fragFaults p l nm i (p.frags.getD i frg0).rels
def placeFaults (p:Prt) (l:Lay) (nm:List Flt):List Flt:=placeFaultsN p l nm p.frags.length
def allFaults (p:Prt) (l:Lay) (entry:ByteArray):List Flt:=nameFaults p entry++placeFaults p l (nameFaults p entry)
def fillRel (p:Prt) (l:Lay) (i:Nat) (b:List Int) (r:Rel):List Int:=(putB b r.pos r.kind (number p l i r).1).1
def filled (p:Prt) (l:Lay) (i:Nat) (f:Frg):List Int:=f.rels.foldl (fillRel p l i) f.bytes
def over (out:List Int) (pos:Nat) (b:List Int):List Int:=out.take pos++(b.take (out.length-pos)++out.drop (pos+b.length))
def segStep (p:Prt) (l:Lay) (a z:Int) (from_:Int) (out:List Int) (i:Nat):List Int :=
 if a≤(p.frags.getD i frg0).sect∧(p.frags.getD i frg0).sect≤z then over out (l.frags.getD i 0-from_).toNat (filled p l i (p.frags.getD i frg0)) else out
def segN (p:Prt) (l:Lay) (a z:Nat) (k:Nat):List Int:=(List.range k).foldl (segStep p l a z (l.fr a)) (List.replicate (l.ti z-l.fr a).toNat 0)
def segBytes (p:Prt) (l:Lay) (a z:Nat):List Int:=segN p l a z p.frags.length
def image (p:Prt) (l:Lay) (entry:ByteArray):Img :=
 ⟨(whereOf p l entry).1,[⟨l.fr 1,segBytes p l 1 1,0,false,true⟩,⟨l.fr 2,segBytes p l 2 3,0,false,false⟩,⟨l.fr 4,segBytes p l 4 4,l.ti 5-l.ti 4,true,false⟩]⟩
def link (p:Prt) (base:Int) (entry:ByteArray):Img × List Flt × Int :=
 if checkPart p=0 then
  if isName entry=true then
   if (lay p base).2=0 then
    if (allFaults p (lay p base).1 entry).length=0 then (image p (lay p base).1 entry,[],0) else (img0,allFaults p (lay p base).1 entry,0)
   else (img0,[],(lay p base).2)
  else (img0,[],1)
 else (img0,[],checkPart p)
def sameSeg (a b:Seg):Bool:=a.pos==b.pos&&(a.zeros==b.zeros&&(a.writes==b.writes&&(a.works==b.works&&allTwo (fun x y=>x==y) a.bytes b.bytes)))
def sameImg (a b:Img):Bool:=a.entry==b.entry&&allTwo sameSeg a.segs b.segs
theorem find_in{ds:List Dfn}{s:ByteArray}(h0:(find ds s).2=0)(hk:(find ds s).1.kind≠3):(find ds s).1∈ds:=by
 unfold find findIn at h0 hk ⊢
 split at h0
 ·cases h0
 rename_i h1
 rw[if_neg h1] at hk ⊢
 split at h0
 ·rename_i h2
  rw[if_pos h2]
  exact(List.mem_filter.1 (head_mem (ofKind ds s 1) (by omega))).1
 rename_i h2
 rw[if_neg h2] at hk ⊢
 split at h0
 ·rename_i h3
  rw[if_pos h3] at hk
  exfalso
  apply hk
  show (greatest (ofKind ds s 3)).kind=3
  unfold greatest
  rw[(fold_kind _ _).1]
  exact ofKind_kind (head_mem _ h3)
 rename_i h3
 rw[if_neg h3] at hk ⊢
 split at h0
 ·rename_i h4
  rw[if_pos h4]
  exact(List.mem_filter.1 (head_mem _ h4)).1
 ·cases h0
theorem find_stands{p:Prt}(h:Ok p){s:ByteArray}(h0:(find p.defs s).2=0)(hk:(find p.defs s).1.kind≠3) :
  0≤(find p.defs s).1.frag∧(find p.defs s).1.frag<p.frags.length∧0≤(find p.defs s).1.pos∧(find p.defs s).1.pos≤long (p.frags.getD (find p.defs s).1.frag.toNat frg0)∧(find p.defs s).1.pos≤64:=by
 obtain⟨f,h1,h2,h3⟩:=h.stands _ (find_in h0 hk) (by rw[beq_eq_false_iff_ne];exact hk)
 have hl:=(List.getElem?_eq_some_iff.1 h2).1
 have hm:f∈p.frags:=List.mem_of_getElem? h2
 have hf:=(frgOk_of (h.shape f hm)).long64
 have hg:p.frags.getD (find p.defs s).1.frag.toNat frg0=f:=by rw[List.getD_eq_getElem?_getD,h2];rfl
 rw[hg]
 unfold within at h3
 simp only[Bool.and_eq_true,decide_eq_true_eq] at h3
 omega
end Go.Proofs.YtpkfmfhodbjckaaGreatDoor.M
namespace Go.Proofs.YtpkfmfhodbjckaaGreatDoor
open Go Go.RowKit
theorem bsGo_in(less:Nat→Bool)(k:Nat)(h1:∀t,t<k→less t=true):∀(f lo hi:Nat),(∀t,k≤t→t<hi→less t=false)→hi-lo≤f→lo≤k→k≤hi→Lib.bsGo less f lo hi=k
 | 0,lo,hi,_,hf,a,b=>by simp[Lib.bsGo];omega
 | f+1,lo,hi,h2,hf,a,b=>by
  unfold Lib.bsGo
  by_cases h:lo<hi
  ·rw[if_pos h]
   by_cases hm:(lo+hi) / 2<k
   ·rw[if_pos (h1 _ hm)]
    exact bsGo_in less k h1 f _ hi h2 (by omega) (by omega) b
   ·rw[if_neg (by rw[h2 _ (by omega) (by omega)];decide)]
    exact bsGo_in less k h1 f lo _ (fun t ht hl=>h2 t ht (by omega)) (by omega) a (by omega)
  ·rw[if_neg h];omega
theorem less_iff(a b:ByteArray):Op.bytesLess a.toList b.toList=decide (M.txt' a<M.txt' b):=by
 rw[bytesLess_eq,Lib.toList_data,Lib.toList_data];rfl
theorem halve_at{N:List ByteArray}(hs:M.Strict N){k:Nat}(hk:k<N.length):M.halve N N[k]=k:=by
 have hp:=List.pairwise_iff_getElem.1 hs
 have hg:∀t (ht:t<N.length),N.getD t ⟨#[]⟩=N[t]:=fun t ht=>by rw[List.getD_eq_getElem?_getD,List.getElem?_eq_getElem ht];rfl
 unfold M.halve
 refine bsGo_in _ k (fun t ht=>?_) _ _ _ (fun t h1 h2=>?_) (by omega) (Nat.zero_le _) (by omega)
 ·rw[hg t (by omega),less_iff]
  exact decide_eq_true (hp t k (by omega) hk ht)
 ·rw[hg t h2,less_iff]
  refine decide_eq_false fun h=>?_
  by_cases e:t=k
  ·subst e;exact List.lt_irrefl _ h
  ·exact List.lt_irrefl _ (List.lt_trans h (hp k t hk h2 (by omega)))
theorem found_at{N:List ByteArray}(hs:M.Strict N){s:ByteArray}(h:s∈N):M.foundAt N s=true∧M.halve N s<N.length∧N[M.halve N s]?=some s:=by
 obtain⟨k,hk,rfl⟩:=List.getElem_of_mem h
 have e:=halve_at hs hk
 unfold M.foundAt
 rw[e]
 exact⟨decide_eq_true ⟨hk,by rw[List.getD_eq_getElem?_getD,List.getElem?_eq_getElem hk];rfl⟩,hk,List.getElem?_eq_getElem hk⟩
theorem com_mem(ds:List M.Dfn):∀(L:List ByteArray) (c:M.CS) (s:ByteArray),(s∈c.names∨(s∈L∧(M.find ds s).2=0∧(M.find ds s).1.kind=3))→s∈(L.foldl (M.comStep ds) c).names
 | [],c,s,h=>by
  rcases h with h|⟨h,_⟩
  ·exact h
  ·cases h
 | x::L,c,s,h=>by
  rw[List.foldl_cons]
  refine com_mem ds L _ s ?_
  by_cases hx:(M.find ds x).2=0∧(M.find ds x).1.kind=3
  ·have e:(M.comStep ds c x).names=c.names++[x]:=by unfold M.comStep;rw[if_pos hx]
   rw[e]
   rcases h with h|⟨h,h2⟩
   ·exact .inl (by simp[h])
   ·rcases List.mem_cons.1 h with rfl|h
    ·exact .inl (by simp)
    ·exact .inr ⟨h,h2⟩
  ·have e:M.comStep ds c x=c:=if_neg hx
   rw[e]
   rcases h with h|⟨h,h2⟩
   ·exact .inl h
   ·rcases List.mem_cons.1 h with rfl|h
    ·exact absurd h2 hx
    ·exact .inr ⟨h,h2⟩
theorem ba_ext{a b:ByteArray}(h:a.toList=b.toList):a=b:=by
 rw[Lib.toList_data,Lib.toList_data] at h
 cases a with
 | mk x=>cases b with
  | mk y=>exact congrArg ByteArray.mk (Array.toList_inj.1 h)
theorem find_defined{ds:List M.Dfn}{s:ByteArray}(h0:(M.find ds s).2=0):s∈M.definedNames ds:=by
 have key:∀k,0<(M.ofKind ds s k).length→s∈M.definedNames ds:=fun k hk=>by
  have hm:=headD_mem hk M.dfnZ
  obtain⟨h1,h2⟩:=List.mem_filter.1 hm
  unfold M.isDef at h2
  simp only[Bool.and_eq_true,beq_iff_eq] at h2
  have e:=ba_ext h2.1
  rw[←e]
  exact List.mem_map.2 ⟨_,h1,rfl⟩
 unfold M.find M.findIn at h0
 split at h0
 ·cases h0
 split at h0
 ·exact key 1 (by omega)
 split at h0
 ·rename_i h;exact key 3 h
 split at h0
 ·rename_i h;exact key 2 h
 ·cases h0
end Go.Proofs.YtpkfmfhodbjckaaGreatDoor
