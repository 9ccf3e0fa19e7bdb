/-
  The plain mathematics: what a part is, what is wrong with it, when two are alike. Lists and integers alone; nothing of the program. The plain mathematics of package part: groups, what is dropped, what is joined. Lists and integers alone; nothing of the program. The mathematics of joining: a right part is as it was, what is joined is right, and joining is associative. What is joined is right; joining is associative; nothing joined with a part is that. What is joined is right; joining is associative; nothing joined with a part is that. Joining, in whatever way, as Join and All answer. Groups: those of a part that is joined begin with the first one's; what is dropped is gone once and for all; how many fragments a group has. The plain mathematics of package names: names wanted and defined, which definition counts, what is wrong. Lists and integers alone; nothing of the program. What is rising: the same names, each once, in order; two such lists with the same names are one. What two parts want and define, joined; which definition counts there. The plain mathematics of archives: how names stand, which parts are taken. Lists and integers alone. The closed items of the archives' fact: what is chosen of them. What is no archive's is taken as it is; an archive whose parts are lacked by nobody gives nothing: plain mathematics. What an archive gives, and what it has left: plain mathematics. ArchiveEnds: two sets of names against how names stand; what Choose gives of one part and one archive. Plain mathematics. ArchiveChooses: how names stand is told by what was taken; what lacks, looked for anew. Plain mathematics. Which definition counts in two parts, case by case; where one that counts stands. The plain mathematics of package layout: where sections, fragments and common names stand. Lists and integers alone; nothing of the program. The plain mathematics of layout.Lay: sections, one after another; what is laid out.
-/
import Derived.Lib.SlicesCompact
import Derived.Laws.Strings
import Derived.WalkKit
set_option linter.unusedVariables false
namespace Go.Proofs.YtpkfmfhodbjckaaGreatDoor.M
structure Rel where
 pos:Int
 kind:Int
 name:ByteArray
 frag:Int
 add:Int
structure Frg where
 sect:Int
 align:Int
 group:ByteArray
 bytes:List Int
 size:Int
 rels:List Rel
structure Dfn where
 name:ByteArray
 kind:Int
 frag:Int
 pos:Int
 size:Int
 align:Int
structure Prt where
 frags:List Frg
 defs:List Dfn
def within (n a b:Int):Bool:=decide (a≤n)&&decide (n≤b)
def nameByte (c:Int):Bool:=(decide (97≤c)&&decide (c≤122)) || (decide (48≤c)&&decide (c≤57)) || c==95
def isName (s:ByteArray):Bool:=decide (1≤s.size)&&decide (s.size≤8)&&s.data.toList.all fun c=>nameByte c.toNat
def isAlign (n:Int):Bool:=n==1 || n==2 || n==4 || n==8
def wide (k:Int):Int:=if k=1∨k=3 then 1 else if k=2∨k=4 then 2 else 0
def lng (s sz:Int) (n:Nat):Int:=if s=5 then sz else n
def long (f:Frg):Int:=lng f.sect f.size f.bytes.length
def target (r:Rel) (many:Int):Int :=
 if r.name.toList.isEmpty then (if within r.frag (-1) (many-1) then 0 else 5)
 else if isName r.name&&r.frag==0 then 0 else 1
def placed (r:Rel) (from_ len:Int):Bool :=
 !(wide r.kind==0)&&within r.pos from_ (len-wide r.kind)&&within r.add (-10000) 10000
def checkRels (len many:Int):Int→List Rel→Int
 | _,[]=>0
 | e,r::rs=>if placed r e len then (if target r many=0 then checkRels len many (r.pos+wide r.kind) rs else target r many) else 3
def formed (f:Frg):Bool :=
 if f.sect=5 then f.bytes.length==0&&f.rels.length==0&&within f.size 0 64
 else if f.sect=3 then f.size==0&&f.rels.length==0
 else f.size==0
def checkFrag (f:Frg) (many:Int):Int :=
 if !(within f.sect 1 5) || !(isAlign f.align) then 3
 else if f.group.toList.isEmpty=false∧isName f.group=false then 1
 else if 64<f.bytes.length∨8<f.rels.length then 2
 else if formed f=false then 4
 else checkRels f.bytes.length many 0 f.rels
def inFrag (pos size align:Int) (f:Frg):Int:=bif within pos 0 (long f)&&size==0&&align==0 then 0 else 3
def defAt (frag pos size align:Int) (fs:List Frg):Int :=
 if within frag 0 (fs.length-1) then
  (match fs[frag.toNat]? with
   | some f=>inFrag pos size align f
   | none=>0)
 else 5
def checkDef (d:Dfn) (fs:List Frg):Int :=
 if isName d.name=false then 1
 else if d.kind=1∨d.kind=2 then defAt d.frag d.pos d.size d.align fs
 else if d.kind=3 then (bif d.frag==0&&d.pos==0&&within d.size 1 64&&isAlign d.align then 0 else 3)
 else 4
def checkFrags (many:Int):List Frg→Int
 | []=>0
 | f::fs=>if checkFrag f many=0 then checkFrags many fs else checkFrag f many
def checkDefs (fs:List Frg):List Dfn→Int
 | []=>0
 | d::ds=>if checkDef d fs=0 then checkDefs fs ds else checkDef d fs
def checkPart (p:Prt):Int :=
 if 60<p.frags.length∨60<p.defs.length then 2
 else if checkFrags p.frags.length p.frags=0 then checkDefs p.frags p.defs else checkFrags p.frags.length p.frags
def allTwo {α:Type} (eq:α→α→Bool):List α→List α→Bool
 | [],[]=>true
 | x::xs,y::ys=>eq x y&&allTwo eq xs ys
 | _,_=>false
def has (l:List ByteArray) (g:ByteArray):Bool:=l.any fun x=>x.toList==g.toList
def bare (g:ByteArray):Bool:=g.toList.isEmpty
def gone (l:List ByteArray) (f:Frg):Bool:=!(bare f.group)&&has l f.group
def addGroup (l:List ByteArray) (f:Frg):List ByteArray:=bif bare f.group || has l f.group then l else l++[f.group]
def groups (fs:List Frg):List ByteArray:=fs.foldl addGroup []
def count (l:List ByteArray):Int→List Frg→List Int
 | _,[]=>[]
 | n,f::fs=>bif gone l f then (-1)::count l n fs else n::count l (n+1) fs
def stays (l:List ByteArray) (fs:List Frg):List Frg:=fs.filter fun f=>!(gone l f)
def num (to:List Int) (i:Int):Int:=to.getD i.toNat 0
def movedRel (to:List Int) (r:Rel):Rel:=bif bare r.name&&!(r.frag==-1) then { r with frag:=num to r.frag } else r
def movedFrg (to:List Int) (f:Frg):Frg:={ f with rels:=f.rels.map (movedRel to) }
def movedDfn (to:List Int) (d:Dfn):Dfn:=bif d.kind==3 then d else { d with frag:=num to d.frag }
def movedFrags (to:List Int) (fs:List Frg):List Frg:=((fs.zip to).filter fun x=>!(x.2==-1)).map fun x=>movedFrg to x.1
def movedDefs (to:List Int) (ds:List Dfn):List Dfn:=(ds.map (movedDfn to)).filter fun d=>!(d.frag==-1)
def moved (to:List Int) (p:Prt):Prt:=⟨movedFrags to p.frags,movedDefs to p.defs⟩
def nil:Prt:=⟨[],[]⟩
def plus (p q:Prt):Prt:=⟨p.frags++q.frags,p.defs++q.defs⟩
def drop (p:Prt) (l:List ByteArray):Prt:=moved (count l 0 p.frags) p
def both (a b:Prt):Prt:=plus (moved (count [] 0 a.frags) a) (moved (count (groups a.frags) a.frags.length b.frags) b)
def full (p:Prt):Bool:=decide (60<p.frags.length) || decide (60<p.defs.length)
def join (a b:Prt):Prt × Int :=
 if checkPart a=0 then
  if checkPart b=0 then
   bif full (both a b) then (nil,10) else (both a b,0)
  else (nil,checkPart b)
 else (nil,checkPart a)
def allFrom (p:Prt):List Prt→Prt × Int
 | []=>(p,0)
 | q::l=>if (join p q).2=0 then allFrom (join p q).1 l else (nil,(join p q).2)
theorem count_length(l:List ByteArray):∀(fs:List Frg) (n:Int),(count l n fs).length=fs.length
 | [],_=>rfl
 | f::fs,n=>by
  rw[count]
  cases gone l f<;>simp[count_length l fs]
theorem gone_nil(f:Frg):gone [] f=false:=by simp[gone,has]
def Fits (many:Int) (r:Rel):Prop:=bare r.name=true→-1≤r.frag∧r.frag<many
def plainRel (r:Rel):Rel:=bif bare r.name then { r with frag:=0 } else r
theorem checkRels_ok(len many:Int):∀(rs:List Rel) (e:Int),checkRels len many e rs=0↔(checkRels len 1 e (rs.map plainRel)=0∧∀r∈rs,Fits many r)
 | [],e=>by simp[checkRels]
 | r::rs,e=>by
  have ih:=checkRels_ok len many rs (r.pos+wide r.kind)
  simp only[List.map_cons,checkRels,List.forall_mem_cons]
  have e1:(plainRel r).pos=r.pos:=by unfold plainRel;cases bare r.name<;>rfl
  have e2:(plainRel r).kind=r.kind:=by unfold plainRel;cases bare r.name<;>rfl
  have e3:(plainRel r).add=r.add:=by unfold plainRel;cases bare r.name<;>rfl
  have e4:(plainRel r).name=r.name:=by unfold plainRel;cases bare r.name<;>rfl
  have hp:placed (plainRel r) e len=placed r e len:=by simp only[placed,e1,e2,e3]
  rw[hp,e1,e2]
  by_cases h:placed r e len=true
  ·rw[if_pos h,if_pos h]
   have ht:target r many=0↔(target (plainRel r) 1=0∧Fits many r):=by
    unfold target Fits plainRel
    rw[show (bif bare r.name then { r with frag:=0 } else r:Rel).name=r.name from e4]
    cases hb:bare r.name
    ·have:r.name.toList.isEmpty=false:=hb
     simp[this]
    ·have:r.name.toList.isEmpty=true:=hb
     simp[this,within]
     omega
   by_cases h1:target r many=0
   ·obtain⟨h2,h3⟩:=ht.1 h1
    rw[if_pos h1,if_pos h2,ih]
    simp[h3]
   ·rw[if_neg h1]
    constructor
    ·intro h2;exact absurd h2 h1
    ·rintro⟨h2,h3,h4⟩
     by_cases h5:target (plainRel r) 1=0
     ·exact absurd (ht.2 ⟨h5,h3⟩) h1
     ·rw[if_neg h5] at h2;exact absurd h2 h5
  ·rw[if_neg h,if_neg h];simp
def shaped (f:Frg):Int:=checkFrag { f with rels:=f.rels.map plainRel } 1
theorem checkFrag_ok(f:Frg)(many:Int):checkFrag f many=0↔(shaped f=0∧∀r∈f.rels,Fits many r):=by
 unfold shaped checkFrag
 have e:formed { f with rels:=f.rels.map plainRel }=formed f:=by simp[formed]
 rw[e]
 dsimp only
 rw[List.length_map]
 split
 ·simp
 split
 ·simp
 split
 ·simp
 split
 ·simp
 exact checkRels_ok _ _ _ _
theorem checkFrags_ok(many:Int):∀fs:List Frg,checkFrags many fs=0↔∀f∈fs,checkFrag f many=0
 | []=>by simp[checkFrags]
 | f::fs=>by
  simp only[checkFrags,List.forall_mem_cons,←checkFrags_ok many fs]
  by_cases h:checkFrag f many=0
  ·simp[h]
  ·simp[h]
theorem checkDefs_ok(fs:List Frg):∀ds:List Dfn,checkDefs fs ds=0↔∀d∈ds,checkDef d fs=0
 | []=>by simp[checkDefs]
 | d::ds=>by
  simp only[checkDefs,List.forall_mem_cons,←checkDefs_ok fs ds]
  by_cases h:checkDef d fs=0
  ·simp[h]
  ·simp[h]
def plainDfn (d:Dfn):Int :=
 if isName d.name=false then 1
 else if d.kind=1∨d.kind=2 then (bif d.size==0&&d.align==0 then 0 else 3)
 else if d.kind=3 then (bif d.frag==0&&d.pos==0&&within d.size 1 64&&isAlign d.align then 0 else 3)
 else 4
def Stands (fs:List Frg) (d:Dfn):Prop:=(d.kind==3)=false→∃f,0≤d.frag∧fs[d.frag.toNat]?=some f∧within d.pos 0 (long f)=true
theorem checkDef_ok(d:Dfn)(fs:List Frg):checkDef d fs=0↔(plainDfn d=0∧Stands fs d):=by
 unfold checkDef plainDfn Stands
 split
 ·simp
 split
 ·rename_i h1
  have hk:(d.kind==3)=false:=by rw[beq_eq_false_iff_ne];omega
  unfold defAt inFrag
  by_cases hw:within d.frag 0 (fs.length-1)=true
  ·rw[if_pos hw]
   have hw':0≤d.frag∧d.frag≤fs.length-1:=by simpa [within] using hw
   have hlt:d.frag.toNat<fs.length:=by omega
   rw[List.getElem?_eq_getElem hlt]
   dsimp only
   cases hx:within d.pos 0 (long fs[d.frag.toNat])<;>cases hs:(d.size==0)<;>cases ha:(d.align==0)<;>simp[hk,hw'.1,hx]
  ·rw[if_neg hw]
   constructor
   ·intro h;cases h
   ·rintro⟨h2,h3⟩
    obtain⟨f,h4,h5,h6⟩:=h3 hk
    have:=(List.getElem?_eq_some_iff.1 h5).1
    refine absurd ?_ hw
    simp only[within,Bool.and_eq_true,decide_eq_true_eq]
    omega
 ·split
  ·rename_i h1 h2
   simp[h2]
  ·simp
structure Ok (p:Prt):Prop where
 nf:p.frags.length≤60
 nd:p.defs.length≤60
 shape:∀f∈p.frags,shaped f=0
 fits:∀f∈p.frags,∀r∈f.rels,Fits p.frags.length r
 plain:∀d∈p.defs,plainDfn d=0
 stands:∀d∈p.defs,Stands p.frags d
theorem ok_iff(p:Prt):checkPart p=0↔Ok p:=by
 unfold checkPart
 by_cases h:60<p.frags.length∨60<p.defs.length
 ·rw[if_pos h]
  constructor
  ·intro h2;cases h2
  ·intro h2;have:=h2.nf;have:=h2.nd;omega
 ·rw[if_neg h]
  by_cases h1:checkFrags p.frags.length p.frags=0
  ·rw[if_pos h1,checkDefs_ok]
   have h2:=(checkFrags_ok _ _).1 h1
   constructor
   ·intro h3
    exact⟨by omega,by omega,fun f hf=>((checkFrag_ok f _).1 (h2 f hf)).1,fun f hf=>((checkFrag_ok f _).1 (h2 f hf)).2,fun d hd=>((checkDef_ok d _).1 (h3 d hd)).1,fun d hd=>((checkDef_ok d _).1 (h3 d hd)).2⟩
   ·intro h3 d hd
    exact(checkDef_ok d _).2 ⟨h3.plain d hd,h3.stands d hd⟩
  ·rw[if_neg h1]
   constructor
   ·intro h2;exact absurd h2 h1
   ·intro h2
    refine absurd ((checkFrags_ok _ _).2 fun f hf=>?_) h1
    exact(checkFrag_ok f _).2 ⟨h2.shape f hf,h2.fits f hf⟩
theorem count_get(l:List ByteArray):∀(fs:List Frg) (n:Int) (i:Nat) (f:Frg),fs[i]?=some f →
  (count l n fs)[i]?=some (bif gone l f then -1 else n+((stays l (fs.take i)).length:Int))
 | [],_,i,f,h=>by simp at h
 | g::fs,n,0,f,h=>by
  simp only[List.getElem?_cons_zero,Option.some.injEq] at h
  subst h
  rw[count]
  cases hg:gone l g<;>simp[stays]
 | g::fs,n,i+1,f,h=>by
  simp only[List.getElem?_cons_succ] at h
  rw[count]
  cases hg:gone l g
  ·simp only[cond_false,List.getElem?_cons_succ,count_get l fs (n+1) i f h,List.take_succ_cons,stays,List.filter_cons,hg,Bool.not_false,if_true,List.length_cons]
   cases gone l f
   ·simp;omega
   ·simp
  ·simp only[cond_true,List.getElem?_cons_succ,count_get l fs n i f h,List.take_succ_cons,stays,List.filter_cons,hg,Bool.not_true,Bool.false_eq_true,if_false]
theorem num_get(l:List ByteArray)(fs:List Frg)(n:Int)(i:Int)(h0:0≤i)(f:Frg)(h:fs[i.toNat]?=some f) :
  num (count l n fs) i=bif gone l f then -1 else n+((stays l (fs.take i.toNat)).length:Int):=by
 unfold num
 rw[List.getD_eq_getElem?_getD,count_get l fs n i.toNat f h]
 rfl
theorem zip_stays(l:List ByteArray):∀(fs:List Frg) (n:Int),0≤n→((fs.zip (count l n fs)).filter fun x=>!(x.2==-1)).map Prod.fst=stays l fs
 | [],_,_=>rfl
 | f::fs,n,hn=>by
  rw[count]
  cases hg:gone l f
  ·have hne:(n==-1)=false:=by rw[beq_eq_false_iff_ne];omega
   simp only[cond_false,List.zip_cons_cons,List.filter_cons,hne,Bool.not_false,if_true,List.map_cons,zip_stays l fs (n+1) (by omega),stays,hg]
  ·simp only[cond_true,List.zip_cons_cons,List.filter_cons,beq_self_eq_true,Bool.not_true,Bool.false_eq_true,if_false,zip_stays l fs n hn,stays,hg]
theorem movedFrags_eq(l:List ByteArray)(to:List Int)(fs:List Frg)(n:Int)(hn:0≤n)(h:to=count l n fs):movedFrags to fs=(stays l fs).map (movedFrg to):=by
 unfold movedFrags
 rw[←zip_stays l fs n hn,List.map_map,←h]
 rfl
theorem stays_nil(fs:List Frg):stays [] fs=fs:=by
 unfold stays
 rw[List.filter_eq_self]
 intro f _
 rw[gone_nil];rfl
theorem num_nil(fs:List Frg)(n i:Int)(h0:0≤i)(h:i<fs.length):num (count [] n fs) i=n+i:=by
 have hlt:i.toNat<fs.length:=by omega
 rw[num_get [] fs n i h0 fs[i.toNat] (List.getElem?_eq_getElem hlt),gone_nil,stays_nil,List.length_take]
 simp
 omega
theorem movedFrg_id(to:List Int)(f:Frg)(h:∀r∈f.rels,bare r.name=true→(r.frag==-1)=false→num to r.frag=r.frag):movedFrg to f=f:=by
 unfold movedFrg
 have:f.rels.map (movedRel to)=f.rels:=by
  rw[List.map_congr_left (g:=id),List.map_id]
  intro r hr
  unfold movedRel
  cases hb:bare r.name
  ·rfl
  ·cases h1:(r.frag==-1)
   ·simp only[Bool.not_false,Bool.and_self,cond_true,id]
    rw[h r hr hb h1]
   ·rfl
 rw[this]
theorem moved_id{p:Prt}(h:Ok p):moved (count [] 0 p.frags) p=p:=by
 unfold moved
 have e1:movedFrags (count [] 0 p.frags) p.frags=p.frags:=by
  rw[movedFrags_eq [] _ _ 0 (by omega) rfl,stays_nil,List.map_congr_left (g:=id),List.map_id]
  intro f hf
  refine movedFrg_id _ _ fun r hr hb h1=>?_
  have:=h.fits f hf r hr hb
  rw[beq_eq_false_iff_ne] at h1
  rw[num_nil _ _ _ (by omega) (by omega)]
  omega
 have e2:movedDefs (count [] 0 p.frags) p.defs=p.defs:=by
  unfold movedDefs
  have e3:p.defs.map (movedDfn (count [] 0 p.frags))=p.defs:=by
   rw[List.map_congr_left (g:=id),List.map_id]
   intro d hd
   unfold movedDfn
   cases hk:(d.kind==3)
   ·obtain⟨f,h1,h2,_⟩:=h.stands d hd hk
    have:=(List.getElem?_eq_some_iff.1 h2).1
    simp only[cond_false,id]
    rw[num_nil _ _ _ h1 (by omega)]
    simp
   ·rfl
  rw[e3,List.filter_eq_self]
  intro d hd
  cases hk:(d.kind==3)
  ·obtain⟨f,h1,h2,_⟩:=h.stands d hd hk
   simp;omega
  ·have:=h.plain d hd
   unfold plainDfn at this
   have hk':d.kind=3:=by simpa using hk
   rw[hk'] at this
   split at this
   ·cases this
   ·simp only[if_true] at this
    cases h0:(d.frag==0)
    ·rw[h0] at this;simp at this
    ·have:d.frag=0:=by simpa using h0
     rw[this];rfl
 rw[e1,e2]
theorem stays_append(l:List ByteArray)(as bs:List Frg):stays l (as++bs)=stays l as++stays l bs:=by simp[stays]
theorem count_append(l:List ByteArray):∀(as bs:List Frg) (n:Int),count l n (as++bs)=count l n as++count l (n+(stays l as).length) bs
 | [],bs,n=>by simp[count,stays]
 | f::as,bs,n=>by
  rw[List.cons_append,count,count]
  cases hg:gone l f
  ·simp only[cond_false,count_append l as bs,List.cons_append,stays,List.filter_cons,hg,Bool.not_false,if_true,List.length_cons]
   congr 2
   congr 1
   push_cast;omega
  ·simp only[cond_true,count_append l as bs,List.cons_append,stays,List.filter_cons,hg,Bool.not_true,Bool.false_eq_true,if_false]
theorem stays_get(l:List ByteArray)(fs:List Frg)(i:Nat)(f:Frg)(h:fs[i]?=some f)(hg:gone l f=false):(stays l fs)[(stays l (fs.take i)).length]?=some f:=by
 obtain⟨hlt,hf⟩:=List.getElem?_eq_some_iff.1 h
 have hs:stays l fs=stays l (fs.take i)++f::stays l (fs.drop (i+1)):=by
  have:fs=fs.take i++f::fs.drop (i+1):=by
   rw[←hf,List.getElem_cons_drop,List.take_append_drop]
  conv=>lhs;rw[this]
  rw[stays_append]
  congr 1
  simp[stays,hg]
 rw[hs];simp
def put (a:Prt) (l:List ByteArray) (b:Prt):Prt:=plus a (moved (count l a.frags.length b.frags) b)
theorem put_frags(a b:Prt)(l:List ByteArray):(put a l b).frags=a.frags++(stays l b.frags).map (movedFrg (count l a.frags.length b.frags)):=by
 show a.frags++movedFrags _ _=_
 rw[movedFrags_eq l _ _ _ (by omega) rfl]
theorem movedRel_named{to:List Int}{r:Rel}(h:bare r.name=false):movedRel to r=r:=by unfold movedRel;rw[h];rfl
theorem movedRel_gone{to:List Int}{r:Rel}(h:(r.frag==-1)=true):movedRel to r=r:=by unfold movedRel;rw[h];simp
theorem movedRel_bare{to:List Int}{r:Rel}(h:bare r.name=true)(h2:(r.frag==-1)=false):movedRel to r={ r with frag:=num to r.frag }:=by unfold movedRel;rw[h,h2];rfl
theorem plain_moved(to:List Int)(r:Rel):plainRel (movedRel to r)=plainRel r:=by
 unfold plainRel movedRel
 cases hb:bare r.name
 ·simp[hb]
 ·cases (r.frag==-1)<;>simp[hb]
theorem shaped_moved(to:List Int)(f:Frg):shaped (movedFrg to f)=shaped f:=by
 unfold shaped movedFrg
 simp only[List.map_map]
 congr 2
 congr 1
 funext r
 exact plain_moved to r
theorem plainDfn_moved(to:List Int)(d:Dfn):plainDfn (movedDfn to d)=plainDfn d:=by
 unfold movedDfn
 cases hk:(d.kind==3)
 ·have hk':d.kind≠3:=by simpa using hk
  simp[plainDfn,hk']
 ·rfl
theorem ok_put{a b:Prt}{l:List ByteArray}(ha:Ok a)(hb:Ok b)(hf:full (put a l b)=false):Ok (put a l b):=by
 have hfr:=put_frags a b l
 simp only[full,Bool.or_eq_false_iff,decide_eq_false_iff_not] at hf
 have hlen:(put a l b).frags.length=a.frags.length+(stays l b.frags).length:=by rw[hfr];simp
 refine⟨by omega,by omega,?_,?_,?_,?_⟩
 ·intro f h
  rw[hfr,List.mem_append] at h
  rcases h with h|h
  ·exact ha.shape f h
  ·obtain⟨g,hg,rfl⟩:=List.mem_map.1 h
   rw[shaped_moved]
   exact hb.shape g ((List.mem_filter.1 hg).1)
 ·intro f h r hr
  rw[hlen]
  rw[hfr,List.mem_append] at h
  rcases h with h|h
  ·intro h1
   have:=ha.fits f h r hr h1
   push_cast;omega
  ·obtain⟨g,hg,rfl⟩:=List.mem_map.1 h
   obtain⟨q,hq,rfl⟩:=List.mem_map.1 (show r∈g.rels.map (movedRel _) from hr)
   have h2:=hb.fits g ((List.mem_filter.1 hg).1) q hq
   cases hbr:bare q.name
   ·rw[movedRel_named hbr];intro h1;rw[hbr] at h1;cases h1
   ·have h3:=h2 hbr
    cases h4:(q.frag==-1)
    ·rw[movedRel_bare hbr h4]
     rw[beq_eq_false_iff_ne] at h4
     have hlt:q.frag.toNat<b.frags.length:=by omega
     intro _
     show -1≤num (count l a.frags.length b.frags) q.frag∧num (count l a.frags.length b.frags) q.frag<((a.frags.length+(stays l b.frags).length:Nat):Int)
     rw[num_get l _ _ _ (by omega) _ (List.getElem?_eq_getElem hlt)]
     cases h5:gone l b.frags[q.frag.toNat]
     ·have:=(List.getElem?_eq_some_iff.1 (stays_get l b.frags q.frag.toNat _ (List.getElem?_eq_getElem hlt) h5)).1
      rw[cond_false]
      omega
     ·rw[cond_true]
      omega
    ·rw[movedRel_gone h4]
     intro _
     have h4':q.frag=-1:=by simpa using h4
     show -1≤q.frag∧q.frag<((a.frags.length+(stays l b.frags).length:Nat):Int)
     omega
 ·intro d h
  rcases List.mem_append.1 (show d∈a.defs++movedDefs _ _ from h) with h|h
  ·exact ha.plain d h
  ·obtain⟨q,hq,rfl⟩:=List.mem_map.1 ((List.mem_filter.1 h).1)
   rw[plainDfn_moved]
   exact hb.plain q hq
 ·intro d h
  rw[hfr]
  rcases List.mem_append.1 (show d∈a.defs++movedDefs _ _ from h) with h|h
  ·intro hk
   obtain⟨f,h1,h2,h3⟩:=ha.stands d h hk
   exact⟨f,h1,by rw[List.getElem?_append_left (List.getElem?_eq_some_iff.1 h2).1];exact h2,h3⟩
  ·have hne:=(List.mem_filter.1 h).2
   obtain⟨q,hq,rfl⟩:=List.mem_map.1 ((List.mem_filter.1 h).1)
   intro hk
   have hkq:(q.kind==3)=false:=by
    unfold movedDfn at hk
    cases hq3:(q.kind==3)
    ·rfl
    ·rw[hq3,cond_true] at hk;rw[hq3] at hk;exact hk
   obtain⟨f,h1,h2,h3⟩:=hb.stands q hq hkq
   have e1:movedDfn (count l a.frags.length b.frags) q={ q with frag:=num (count l a.frags.length b.frags) q.frag }:=by unfold movedDfn;rw[hkq];rfl
   rw[e1] at hne ⊢
   dsimp only at hne ⊢
   rw[num_get l _ _ _ h1 f h2] at hne ⊢
   cases h5:gone l f
   ·rw[cond_false]
    refine⟨movedFrg (count l a.frags.length b.frags) f,by omega,?_,h3⟩
    have e2:((a.frags.length:Int)+((stays l (b.frags.take q.frag.toNat)).length:Int)).toNat=a.frags.length+(stays l (b.frags.take q.frag.toNat)).length:=by omega
    rw[e2,List.getElem?_append_right (by omega),Nat.add_sub_cancel_left,List.getElem?_map,stays_get l b.frags _ f h2 h5]
    rfl
   ·rw[h5] at hne;simp at hne
theorem movedDefs_cons(to:List Int)(d:Dfn)(ds:List Dfn):movedDefs to (d::ds)=bif (movedDfn to d).frag==-1 then movedDefs to ds else movedDfn to d::movedDefs to ds:=by
 unfold movedDefs
 rw[List.map_cons,List.filter_cons]
 cases ((movedDfn to d).frag==-1)<;>simp
theorem ok_nil:Ok nil:=(ok_iff nil).1 (by decide)
theorem both_put{a b:Prt}(ha:Ok a):both a b=put a (groups a.frags) b:=by
 unfold both put
 rw[moved_id ha]
theorem join_ok{a b:Prt}(h:(join a b).2=0):Ok a∧Ok b∧full (put a (groups a.frags) b)=false∧(join a b).1=put a (groups a.frags) b∧Ok (join a b).1:=by
 unfold join at h ⊢
 by_cases h1:checkPart a=0
 ·rw[if_pos h1] at h ⊢
  by_cases h2:checkPart b=0
  ·rw[if_pos h2] at h ⊢
   have ha:=(ok_iff a).1 h1
   have hb:=(ok_iff b).1 h2
   rw[both_put ha] at h ⊢
   cases h3:full (put a (groups a.frags) b)
   ·rw[h3] at h
    exact⟨ha,hb,rfl,rfl,ok_put ha hb h3⟩
   ·rw[h3] at h;cases h
  ·rw[if_neg h2] at h;exact absurd h h2
 ·rw[if_neg h1] at h;exact absurd h h1
theorem drop_put(p:Prt)(l:List ByteArray):drop p l=put nil l p:=by
 unfold drop put
 simp[nil,plus,moved]
theorem drop_frags(p:Prt)(l:List ByteArray):(drop p l).frags=(stays l p.frags).map (movedFrg (count l 0 p.frags)):=by
 rw[drop_put,put_frags];rfl
theorem ok_drop{p:Prt}(h:Ok p)(l:List ByteArray):Ok (drop p l):=by
 rw[drop_put]
 refine ok_put ok_nil h ?_
 have h1:(put nil l p).frags.length≤p.frags.length:=by
  rw[put_frags]
  simp only[nil,List.nil_append,List.length_map]
  exact List.length_filter_le _ _
 have h2:(put nil l p).defs.length≤p.defs.length:=by
  show ([]++movedDefs _ p.defs:List Dfn).length≤_
  unfold movedDefs
  rw[List.nil_append]
  refine Nat.le_trans (List.length_filter_le _ _) ?_
  rw[List.length_map];exact Nat.le_refl _
 have:=h.nf;have:=h.nd
 simp[full];omega
def many (s:ByteArray) (fs:List Frg):Nat:=(fs.filter fun f=>f.group.toList==s.toList).length
open Go
def txt' (s:ByteArray):List UInt8:=s.data.toList
def ofTxt (t:List UInt8):ByteArray:=⟨t.toArray⟩
theorem of_txt(s:ByteArray):ofTxt (txt' s)=s:=by obtain⟨⟨l⟩⟩:=s;rfl
def risingT (l:List (List UInt8)):List (List UInt8):=Lib.compact (l.mergeSort fun x y=>decide (x≤y))
def rising (l:List ByteArray):List ByteArray:=(risingT (l.map txt')).map ofTxt
def wantedOf (rs:List Rel):List ByteArray:=(rs.filter fun r=>!(bare r.name)).map (·.name)
def wantedNames (fs:List Frg):List ByteArray:=fs.flatMap fun f=>wantedOf f.rels
def definedNames (ds:List Dfn):List ByteArray:=ds.map (·.name)
def wanted (p:Prt):List ByteArray:=rising (wantedNames p.frags)
def defined (p:Prt):List ByteArray:=rising (definedNames p.defs)
def lacking (p:Prt):List ByteArray:=(wanted p).filter fun s=>!(has (defined p) s)
def dfnZ:Dfn:=⟨⟨#[]⟩,0,0,0,0,0⟩
def isDef (s:ByteArray) (k:Int) (d:Dfn):Bool:=d.name.toList==s.toList&&d.kind==k
def ofKind (ds:List Dfn) (s:ByteArray) (k:Int):List Dfn:=ds.filter (isDef s k)
def grow (o d:Dfn):Dfn:={ o with size:=max o.size d.size,align:=max o.align d.align }
def greatest (l:List Dfn):Dfn:=l.foldl grow (l.headD dfnZ)
def findIn (l1 l3 l2:List Dfn):Dfn × Int :=
 if 1<l1.length then (dfnZ,6)
 else if l1.length=1 then (l1.headD dfnZ,0)
 else if 0<l3.length then (greatest l3,0)
 else if 0<l2.length then (l2.headD dfnZ,0)
 else (dfnZ,7)
def find (ds:List Dfn) (s:ByteArray):Dfn × Int:=findIn (ofKind ds s 1) (ofKind ds s 3) (ofKind ds s 2)
def faultAt (ds:List Dfn) (s:ByteArray):Option (Int × ByteArray):=if (find ds s).2=0 then none else some ((find ds s).2,s)
def faults (p:Prt):List (Int × ByteArray):=(rising (wanted p++defined p)).filterMap (faultAt p.defs)
theorem lt_of_le_ne{x y:List UInt8}(h:x≤y)(hn:x≠y):x<y:=by
 apply Classical.byContradiction
 intro hc
 exact hn (List.le_antisymm h (List.not_lt.1 hc))
theorem lt_of_le_lt{x y z:List UInt8}(h:x≤y)(h2:y<z):x<z:=by
 apply Classical.byContradiction
 intro hc
 have h3:z≤x:=List.not_lt.1 hc
 exact(List.not_lt.2 (List.le_trans h3 h)) h2
theorem sort_sorted(l:List (List UInt8)):(l.mergeSort fun x y=>decide (x≤y)).Pairwise (fun a b=>a≤b):=by
 have:=List.pairwise_mergeSort (le:=fun x y:List UInt8=>decide (x≤y)) (fun a b c h1 h2=>by simp only[decide_eq_true_eq] at *;exact List.le_trans h1 h2) (fun a b=>by simp only[Bool.or_eq_true,decide_eq_true_eq];exact List.le_total a b) l
 exact this.imp (fun h=>by simpa using h)
theorem compact_up(d:Array (List UInt8))(hs:d.toList.Pairwise (fun a b=>a≤b)):∀m,m≤d.size→(Lib.compactUpTo d m).Pairwise (fun a b=>a<b)∧∀x,x∈Lib.compactUpTo d m↔∃j,j<m∧d[j]! = x
 | 0,_=>by simp[Lib.compactUpTo]
 | m+1,hm=>by
  obtain⟨h1,h2⟩:=compact_up d hs m (by omega)
  have hle:∀i j,i≤j→j<d.size→d[i]!≤d[j]!:=fun i j hij hj=>by
   by_cases he:i=j
   ·rw[he];exact List.le_refl _
   ·have:=(List.pairwise_iff_getElem.1 hs) i j (by simp;omega) (by simpa using hj) (by omega)
    rw[getElem!_pos d i (by omega),getElem!_pos d j hj]
    simpa using this
  rw[Lib.compactUpTo_succ]
  by_cases hk:Lib.keeps d m=true
  ·rw[if_pos hk]
   refine⟨List.pairwise_append.2 ⟨h1,List.pairwise_singleton _ _,fun x hx y hy=>?_⟩,fun x=>?_⟩
   ·obtain⟨j,hj,rfl⟩:=(h2 x).1 hx
    obtain rfl:=List.mem_singleton.1 hy
    have hne:d[m]!≠d[m-1]!:=by
     simp only[Lib.keeps,decide_eq_true_eq] at hk
     rcases hk with hk|hk
     ·omega
     ·exact hk
    exact lt_of_le_lt (hle j (m-1) (by omega) (by omega)) (lt_of_le_ne (hle (m-1) m (by omega) (by omega)) (fun e=>hne e.symm))
   ·rw[List.mem_append,h2,List.mem_singleton]
    constructor
    ·rintro(⟨j,hj,rfl⟩|rfl)
     ·exact⟨j,by omega,rfl⟩
     ·exact⟨m,by omega,rfl⟩
    ·rintro⟨j,hj,rfl⟩
     by_cases he:j=m
     ·subst he;exact .inr rfl
     ·exact .inl ⟨j,by omega,rfl⟩
  ·rw[if_neg hk,List.append_nil]
   refine⟨h1,fun x=>?_⟩
   rw[h2]
   simp only[Lib.keeps,decide_eq_true_eq,not_or,Decidable.not_not] at hk
   constructor
   ·rintro⟨j,hj,rfl⟩
    exact⟨j,by omega,rfl⟩
   ·rintro⟨j,hj,rfl⟩
    by_cases he:j=m
    ·subst he;exact⟨j-1,by omega,hk.2.symm⟩
    ·exact⟨j,by omega,rfl⟩
theorem mem_get(l:List (List UInt8))(x:List UInt8):(∃j,j<l.length∧l.toArray[j]! = x)↔x∈l:=by
 constructor
 ·rintro⟨j,hj,rfl⟩
  rw[getElem!_pos l.toArray j (by simpa using hj)]
  simp
 ·intro h
  obtain⟨j,hj,rfl⟩:=List.getElem_of_mem h
  exact⟨j,hj,by rw[getElem!_pos l.toArray j (by simpa using hj)];simp⟩
theorem risingT_mem(l:List (List UInt8))(x:List UInt8):x∈risingT l↔x∈l:=by
 have h:=(compact_up (l.mergeSort fun x y=>decide (x≤y)).toArray (by simpa using sort_sorted l) (l.mergeSort fun x y=>decide (x≤y)).length (by simp)).2 x
 show x∈Lib.compactUpTo _ _↔_
 rw[h,mem_get]
 exact List.mem_mergeSort
theorem risingT_sorted(l:List (List UInt8)):(risingT l).Pairwise (fun a b=>a<b) :=
 (compact_up (l.mergeSort fun x y=>decide (x≤y)).toArray (by simpa using sort_sorted l) (l.mergeSort fun x y=>decide (x≤y)).length (by simp)).1
theorem lt_irr(x:List UInt8):¬x<x:=List.lt_irrefl x
theorem lt_asym{x y:List UInt8}(h:x<y):¬y<x:=fun h2=>lt_irr _ (List.lt_trans h h2)
theorem strict_one:∀(l m:List (List UInt8)),l.Pairwise (fun a b=>a<b)→m.Pairwise (fun a b=>a<b)→(∀x,x∈l↔x∈m)→l=m
 | [],[],_,_,_=>rfl
 | [],y::m,_,_,h=>by have:=(h y).2 (by simp);simp at this
 | x::l,[],_,_,h=>by have:=(h x).1 (by simp);simp at this
 | x::l,y::m,hl,hm,h=>by
  rw[List.pairwise_cons] at hl hm
  have e:x=y:=by
   have hx:=(h x).1 (by simp)
   have hy:=(h y).2 (by simp)
   rw[List.mem_cons] at hx hy
   rcases hx with hx|hx
   ·exact hx
   ·rcases hy with hy|hy
    ·exact hy.symm
    ·exact absurd (hl.1 y hy) (lt_asym (hm.1 x hx))
  subst e
  rw[strict_one l m hl.2 hm.2 (fun z=>?_)]
  constructor
  ·intro hz
   have:=(h z).1 (by simp[hz])
   rw[List.mem_cons] at this
   rcases this with rfl|h1
   ·exact absurd (hl.1 z hz) (lt_irr _)
   ·exact h1
  ·intro hz
   have:=(h z).2 (by simp[hz])
   rw[List.mem_cons] at this
   rcases this with rfl|h1
   ·exact absurd (hm.1 z hz) (lt_irr _)
   ·exact h1
theorem rising_mem(l:List ByteArray)(s:ByteArray):s∈rising l↔s∈l:=by
 unfold rising
 rw[List.mem_map]
 constructor
 ·rintro⟨t,ht,rfl⟩
  rw[risingT_mem,List.mem_map] at ht
  obtain⟨u,hu,rfl⟩:=ht
  rw[of_txt];exact hu
 ·intro h
  exact⟨txt' s,(risingT_mem _ _).2 (List.mem_map_of_mem h),of_txt s⟩
def Strict (l:List ByteArray):Prop:=l.Pairwise fun a b=>txt' a<txt' b
theorem rising_strict(l:List ByteArray):Strict (rising l):=by
 unfold Strict rising
 rw[List.pairwise_map]
 exact(risingT_sorted _).imp (fun h=>h)
theorem strict_eq{l m:List ByteArray}(hl:Strict l)(hm:Strict m)(h:∀s,s∈l↔s∈m):l=m:=by
 have e:l.map txt'=m.map txt':=strict_one _ _ (by rw[List.pairwise_map];exact hl) (by rw[List.pairwise_map];exact hm) (fun x=>by
  simp only[List.mem_map]
  constructor
  ·rintro⟨s,hs,rfl⟩;exact⟨s,(h s).1 hs,rfl⟩
  ·rintro⟨s,hs,rfl⟩;exact⟨s,(h s).2 hs,rfl⟩)
 have f:=congrArg (List.map ofTxt) e
 rw[List.map_map,List.map_map,show ofTxt ∘ txt'=id from funext of_txt,List.map_id,List.map_id] at f
 exact f
theorem rising_eq{l m:List ByteArray}(hm:Strict m)(h:∀s,s∈l↔s∈m):rising l=m :=
 strict_eq (rising_strict l) hm (fun s=>by rw[rising_mem];exact h s)
theorem rising_rising(l m:List ByteArray):rising (rising l++rising m)=rising (l++m) :=
 rising_eq (rising_strict _) (fun s=>by simp[rising_mem])
theorem filter_strict{l:List ByteArray}(h:Strict l)(f:ByteArray→Bool):Strict (l.filter f):=h.filter f
def shiftDfn (n:Int) (d:Dfn):Dfn:=bif d.kind==3 then d else { d with frag:=d.frag+n }
theorem plain_common{d:Dfn}(h:plainDfn d=0)(hk:(d.kind==3)=true):d.frag=0:=by
 have hk':d.kind=3:=by simpa using hk
 unfold plainDfn at h
 split at h
 ·cases h
 split at h
 ·omega
 ·cases hf:(d.frag==0)
  ·rw[hf] at h;simp at h
  ·simpa using hf
theorem shift_defs(fs:List Frg)(l:List ByteArray)(n:Int)(hn:0≤n):∀ds:List Dfn,(∀d∈ds,plainDfn d=0)→(∀d∈ds,Stands fs d)→movedDefs (count l n fs) ds=(movedDefs (count l 0 fs) ds).map (shiftDfn n)
 | [],_,_=>rfl
 | d::ds,hp,hs=>by
  have ih:=shift_defs fs l n hn ds (fun d hd=>hp d (List.mem_cons_of_mem _ hd)) (fun d hd=>hs d (List.mem_cons_of_mem _ hd))
  rw[movedDefs_cons,movedDefs_cons,ih]
  cases hk:(d.kind==3)
  ·obtain⟨f,h0,hf,_⟩:=hs d (by simp) hk
   have e1:∀to,movedDfn to d={ d with frag:=num to d.frag }:=fun to=>by unfold movedDfn;rw[hk];rfl
   rw[e1,e1]
   dsimp only
   rw[num_get l fs n _ h0 f hf,num_get l fs 0 _ h0 f hf]
   cases hg:gone l f
   ·simp only[cond_false]
    have h1:(n+((stays l (fs.take d.frag.toNat)).length:Int)==-1)=false:=by rw[beq_eq_false_iff_ne];omega
    have h2:(0+((stays l (fs.take d.frag.toNat)).length:Int)==-1)=false:=by rw[beq_eq_false_iff_ne];omega
    rw[h1,h2]
    simp only[cond_false,List.map_cons,shiftDfn,hk]
    congr 2
    omega
   ·simp
  ·have h0:=plain_common (hp d (by simp)) hk
   have e1:∀to,movedDfn to d=d:=fun to=>by unfold movedDfn;rw[hk];rfl
   rw[e1,e1,h0]
   have h2:((0:Int)==-1)=false:=by decide
   rw[h2]
   simp only[cond_false,List.map_cons,shiftDfn,hk,cond_true]
theorem drop_defs(p:Prt)(l:List ByteArray):(drop p l).defs=movedDefs (count l 0 p.frags) p.defs:=rfl
theorem put_defs(a b:Prt)(l:List ByteArray)(hb:Ok b):(put a l b).defs=a.defs++(drop b l).defs.map (shiftDfn a.frags.length):=by
 rw[drop_defs,←shift_defs b.frags l a.frags.length (by omega) b.defs hb.plain hb.stands]
 rfl
theorem name_shift(n:Int)(d:Dfn):(shiftDfn n d).name=d.name:=by unfold shiftDfn;cases d.kind==3<;>rfl
theorem kind_shift(n:Int)(d:Dfn):(shiftDfn n d).kind=d.kind:=by unfold shiftDfn;cases d.kind==3<;>rfl
theorem isDef_shift(n:Int)(s:ByteArray)(k:Int)(d:Dfn):isDef s k (shiftDfn n d)=isDef s k d:=by unfold isDef;rw[name_shift,kind_shift]
theorem ofKind_app(ds es:List Dfn)(n:Int)(s:ByteArray)(k:Int):ofKind (ds++es.map (shiftDfn n)) s k=ofKind ds s k++(ofKind es s k).map (shiftDfn n):=by
 unfold ofKind
 rw[List.filter_append,List.filter_map]
 congr 2
 congr 1
 funext d
 exact isDef_shift n s k d
theorem ofKind_kind{ds:List Dfn}{s:ByteArray}{k:Int}{d:Dfn}(h:d∈ofKind ds s k):d.kind=k:=by
 have:=(List.mem_filter.1 h).2
 simp only[isDef,Bool.and_eq_true] at this
 simpa using this.2
theorem shift_three(n:Int)(l:List Dfn)(h:∀d∈l,d.kind=3):l.map (shiftDfn n)=l:=by
 have:l.map (shiftDfn n)=l.map id:=List.map_congr_left fun d hd=>by
  unfold shiftDfn
  rw[h d hd]
  rfl
 rw[this,List.map_id]
theorem fold_kind(l:List Dfn):∀o:Dfn,(l.foldl grow o).kind=o.kind∧(l.foldl grow o).name=o.name∧(l.foldl grow o).frag=o.frag∧(l.foldl grow o).pos=o.pos:=by
 induction l with
 | nil=>intro o;exact⟨rfl,rfl,rfl,rfl⟩
 | cons d l ih=>intro o;rw[List.foldl_cons];exact ih (grow o d)
def mx (f:Dfn→Int) (l:List Dfn) (x:Int):Int:=l.foldl (fun m d=>max m (f d)) x
theorem fold_size(l:List Dfn):∀o:Dfn,(l.foldl grow o).size=mx (·.size) l o.size:=by
 induction l with
 | nil=>intro o;rfl
 | cons d l ih=>intro o;rw[List.foldl_cons];exact ih (grow o d)
theorem fold_align(l:List Dfn):∀o:Dfn,(l.foldl grow o).align=mx (·.align) l o.align:=by
 induction l with
 | nil=>intro o;rfl
 | cons d l ih=>intro o;rw[List.foldl_cons];exact ih (grow o d)
theorem mx_max(f:Dfn→Int)(l:List Dfn):∀x y:Int,mx f l (max x y)=max x (mx f l y):=by
 induction l with
 | nil=>intro x y;rfl
 | cons d l ih =>
  intro x y
  show mx f l (max (max x y) (f d))=max x (mx f l (max y (f d)))
  rw[←ih,Int.max_assoc]
theorem mx_head(f:Dfn→Int)(c:Dfn)(l:List Dfn)(x:Int):mx f (c::l) x=max x (mx f (c::l) (f c)):=by
 show mx f l (max x (f c))=max x (mx f l (max (f c) (f c)))
 rw[mx_max,Int.max_self]
theorem greatest_app(a c:Dfn)(l m:List Dfn) :
  (greatest (a::l++c::m)).size=max (greatest (a::l)).size (greatest (c::m)).size∧(greatest (a::l++c::m)).align=max (greatest (a::l)).align (greatest (c::m)).align∧(greatest (a::l++c::m)).kind=a.kind:=by
 have e:greatest (a::l++c::m)=(c::m).foldl grow (greatest (a::l)):=by
  unfold greatest
  rw[List.foldl_append]
  rfl
 have e2:greatest (c::m)=(c::m).foldl grow c:=rfl
 rw[e,e2,fold_size,fold_size,fold_align,fold_align,(fold_kind _ _).1]
 exact⟨mx_head _ c m _,mx_head _ c m _,(fold_kind _ _).1⟩
def movedY (n:Int) (y:Dfn):Dfn:=bif (y.kind==1 || y.kind==2) then { y with frag:=y.frag+n } else y
theorem shift_moved(n:Int){d:Dfn}(h:d.kind=1∨d.kind=2):shiftDfn n d=movedY n d:=by
 unfold shiftDfn movedY
 rcases h with h|h<;>rw[h]<;>rfl
end Go.Proofs.YtpkfmfhodbjckaaGreatDoor.M
namespace Go.Proofs.YtpkfmfhodbjckaaGreatDoor.M
abbrev St:=List UInt8→Int
def St.set (st:St) (n:ByteArray) (v:Int):St:=fun s=>if s=n.data.toList then v else st s
def want (st:St) (n:ByteArray):St:=if st n.data.toList=2 then st else st.set n 1
def wantAll (st:St) (l:List ByteArray):St:=l.foldl want st
def defAll (st:St) (l:List Dfn):St:=l.foldl (fun s d=>s.set d.name 2) st
def enter (st:St) (p:Prt):St:=defAll (wantAll st (wanted p)) p.defs
def firstAll (l:List ByteArray):St:=l.foldl (fun s n=>s.set n 1) (fun _=>0)
def helps (st:St) (d:Dfn):Bool:=d.kind !=3&&st d.name.data.toList==1
def partHelps (st:St) (p:Prt):Bool:=p.defs.any (helps st)
structure Ars where
 st:St
 out:List Prt
 tk:List Bool
def take (s:Ars) (p:Prt):Ars:=⟨enter s.st p,s.out++[p],s.tk⟩
def nilP:Prt:=⟨[],[]⟩
def step (parts:List Prt) (s:Ars × Bool) (i:Nat):Ars × Bool :=
 if s.1.tk.getD i false=false∧partHelps s.1.st (parts.getD i nilP)=true then ({ take s.1 (parts.getD i nilP) with tk:=s.1.tk.set i true },true) else s
def roundN (parts:List Prt) (s:Ars):Nat→Ars × Bool
 | 0=>(s,false)
 | i+1=>step parts (roundN parts s i) i
def round (parts:List Prt) (s:Ars):Ars × Bool:=roundN parts s parts.length
def rounds (parts:List Prt):Nat→Ars→Ars
 | 0,s=>s
 | f+1,s=>if (round parts s).2 then rounds parts f (round parts s).1 else (round parts s).1
def none8:List Bool:=List.replicate 8 false
def search (parts:List Prt) (st:St) (out:List Prt):Ars:=rounds parts 9 ⟨st,out,none8⟩
structure Itm where
 arch:Bool
 parts:List Prt
def chooseStep (s:St × List Prt) (it:Itm):St × List Prt :=
 if it.arch then ((search it.parts s.1 s.2).st,(search it.parts s.1 s.2).out) else (enter s.1 (it.parts.getD 0 nilP),s.2++[it.parts.getD 0 nilP])
def checkParts:List Prt→Int
 | []=>0
 | p::ps=>if checkPart p=0 then checkParts ps else checkPart p
def checkItem (it:Itm):Int :=
 if 8<it.parts.length then 2 else if it.arch=false∧¬it.parts.length=1 then 4 else checkParts it.parts
def checkItems1:List Itm→Int
 | []=>0
 | it::l=>if checkItem it=0 then checkItems1 l else checkItem it
def checkItems (l:List Itm):Int:=if 12<l.length then 2 else checkItems1 l
def checkFirst1:List ByteArray→Int
 | []=>0
 | s::l=>if isName s then checkFirst1 l else 1
def checkFirst (l:List ByteArray):Int:=if 12<l.length then 2 else checkFirst1 l
def choose (l:List Itm) (first:List ByteArray):List Prt × Int :=
 if checkItems l=0 then (if checkFirst first=0 then ((l.foldl chooseStep (firstAll first,[])).2,0) else ([],checkFirst first)) else ([],checkItems l)
def cnt (l:List Bool):Nat:=(l.filter id).length
theorem cnt_set:∀(l:List Bool) (i:Nat),i<l.length→l.getD i false=false→cnt (l.set i true)=cnt l+1
 | [],i,h,_=>by simp at h
 | b::l,0,_,hb=>by
  have:b=false:=hb
  subst this
  simp[cnt]
 | b::l,i+1,h,hb=>by
  have:=cnt_set l i (by simpa using h) hb
  simp only[List.set_cons_succ,cnt,List.filter_cons] at this ⊢
  cases b<;>simp[this]
theorem step_len(parts:List Prt)(s:Ars × Bool)(i:Nat):(step parts s i).1.tk.length=s.1.tk.length:=by
 unfold step;split<;>simp
theorem roundN_len(parts:List Prt)(s:Ars):∀i,(roundN parts s i).1.tk.length=s.tk.length
 | 0=>rfl
 | i+1=>by rw[roundN,step_len];exact roundN_len parts s i
theorem roundN_cnt(parts:List Prt)(s:Ars):∀i,i≤s.tk.length→cnt s.tk≤cnt (roundN parts s i).1.tk∧((roundN parts s i).2=true→cnt s.tk+1≤cnt (roundN parts s i).1.tk)
 | 0,_=>⟨Nat.le_refl _,fun h=>by cases h⟩
 | i+1,hi=>by
  have ih:=roundN_cnt parts s i (by omega)
  rw[roundN]
  unfold step
  split
  ·rename_i h
   have:=cnt_set (roundN parts s i).1.tk i (by rw[roundN_len];omega) h.1
   simp only
   omega
  ·exact ih
theorem cnt_le(l:List Bool):cnt l≤l.length:=List.length_filter_le _ _
open Go
def pA:Prt:=⟨[⟨1,1,⟨#[]⟩,[9,0,0],0,[⟨1,2,⟨#[102]⟩,0,0⟩]⟩],[⟨⟨#[109,97,105,110]⟩,1,0,0,0,0⟩]⟩
def pD:Prt:=⟨[⟨1,4,⟨#[103]⟩,[7],0,[⟨0,1,⟨#[119]⟩,0,0⟩]⟩],[⟨⟨#[102]⟩,1,0,0,0,0⟩]⟩
def pW:Prt:=⟨[⟨4,2,⟨#[]⟩,[5],0,[]⟩],[⟨⟨#[119]⟩,2,0,0,0,0⟩]⟩
def en (st:St) (l:List ByteArray) (p:Prt):St:=defAll (wantAll st l) p.defs
def s1:St:=en (fun _=>0) [⟨#[102]⟩] pA
def s2:St:=en s1 [⟨#[119]⟩] pD
def s3:St:=en s2 [] pW
theorem step_yes{parts:List Prt}{s:Ars}{b:Bool}{i:Nat}(h1:s.tk.getD i false=false)(h2:partHelps s.st (parts.getD i nilP)=true):step parts (s,b) i=(⟨enter s.st (parts.getD i nilP),s.out++[parts.getD i nilP],s.tk.set i true⟩,true):=by
 unfold step
 rw[if_pos ⟨h1,h2⟩]
 rfl
end Go.Proofs.YtpkfmfhodbjckaaGreatDoor.M
namespace Go.Proofs.YtpkfmfhodbjckaaGreatDoor.M
theorem choose_out{l:List Itm}{first:List ByteArray}(h:(choose l first).2=0):checkItems l=0∧checkFirst first=0∧(choose l first).1=(l.foldl chooseStep (firstAll first,[])).2:=by
 unfold choose at h ⊢
 by_cases h1:checkItems l=0
 ·rw[if_pos h1] at h ⊢
  by_cases h2:checkFirst first=0
  ·rw[if_pos h2] at h ⊢;exact⟨h1,h2,rfl⟩
  ·rw[if_neg h2] at h;exact absurd h h2
 ·rw[if_neg h1] at h;exact absurd h h1
def enterAll (st:St) (l:List Prt):St:=l.foldl enter st
theorem set_two{st:St}{n:ByteArray}{x:List UInt8}(h:st x=2):st.set n 2 x=2:=by
 unfold St.set;split
 ·rfl
 ·exact h
theorem want_two{st:St}{n:ByteArray}{x:List UInt8}(h:st x=2):want st n x=2:=by
 unfold want
 by_cases h2:st n.data.toList=2
 ·rw[if_pos h2];exact h
 ·rw[if_neg h2]
  unfold St.set
  rw[if_neg]
  ·exact h
  ·intro e;rw[e] at h;exact h2 h
theorem wantAll_two:∀(l:List ByteArray) {st:St} {x:List UInt8},st x=2→wantAll st l x=2
 | [],st,x,h=>h
 | n::l,st,x,h=>wantAll_two l (want_two h)
theorem defAll_two:∀(l:List Dfn) {st:St} {x:List UInt8},st x=2→defAll st l x=2
 | [],st,x,h=>h
 | d::l,st,x,h=>defAll_two l (set_two h)
theorem enter_two{st:St}{p:Prt}{x:List UInt8}(h:st x=2):enter st p x=2:=defAll_two _ (wantAll_two _ h)
theorem defAll_def:∀(l:List Dfn) (st:St),∀d∈l,defAll st l d.name.data.toList=2
 | [],st,d,hd=>by cases hd
 | e::l,st,d,hd=>by
  rcases List.mem_cons.1 hd with rfl|hd
  ·refine defAll_two l ?_
   simp[St.set]
  ·exact defAll_def l _ d hd
theorem enter_def(st:St)(p:Prt):∀d∈p.defs,enter st p d.name.data.toList=2:=defAll_def p.defs _
structure Tk (parts:List Prt) (st:St) (out:List Prt) (s:Ars):Prop where
 ex:∃ts:List Prt,s.out=out++ts∧s.st=enterAll st ts∧∀k,k<ts.length→partHelps (enterAll st (ts.take k)) (ts.getD k nilP)=true∧ts.getD k nilP∈parts
 tk:∀i,i<parts.length→s.tk.getD i false=true→∀d∈(parts.getD i nilP).defs,s.st d.name.data.toList=2
theorem Tk.step{parts:List Prt}{st:St}{out:List Prt}{s:Ars}{b:Bool}{i:Nat}(h:Tk parts st out s)(hi:i<parts.length):Tk parts st out (M.step parts (s,b) i).1:=by
 by_cases hc:s.tk.getD i false=false∧partHelps s.st (parts.getD i nilP)=true
 ·rw[step_yes hc.1 hc.2]
  obtain⟨ts,h1,h2,h3⟩:=h.ex
  have hm:parts.getD i nilP∈parts:=by
   rw[List.getD_eq_getElem?_getD,List.getElem?_eq_getElem hi];exact List.getElem_mem hi
  refine⟨⟨ts++[parts.getD i nilP],?_,?_,fun k hk=>?_⟩,fun j hj hb d hd=>?_⟩
  ·show s.out++[parts.getD i nilP]=_
   rw[h1,List.append_assoc]
  ·show enter s.st (parts.getD i nilP)=_
   rw[h2];unfold enterAll;rw[List.foldl_append];rfl
  ·rw[List.length_append] at hk
   by_cases hk':k<ts.length
   ·rw[List.take_append_of_le_length (by omega)]
    have e:(ts++[parts.getD i nilP]).getD k nilP=ts.getD k nilP:=by
     simp only[List.getD_eq_getElem?_getD]
     rw[List.getElem?_append_left hk']
    rw[e];exact h3 k hk'
   ·obtain rfl:k=ts.length:=by simp at hk;omega
    have e:(ts++[parts.getD i nilP]).getD ts.length nilP=parts.getD i nilP:=by
     rw[List.getD_eq_getElem?_getD,List.getElem?_append_right (Nat.le_refl _),Nat.sub_self];rfl
    rw[e,List.take_append_of_le_length (Nat.le_refl _),List.take_length,←h2]
    exact⟨hc.2,hm⟩
  ·show enter s.st (parts.getD i nilP) d.name.data.toList=2
   by_cases e:i=j
   ·subst e;exact enter_def _ _ d hd
   ·refine enter_two (h.tk j hj ?_ d hd)
    have hb':(s.tk.set i true).getD j false=true:=hb
    rw[List.getD_eq_getElem?_getD,List.getElem?_set_ne e,←List.getD_eq_getElem?_getD] at hb'
    exact hb'
 ·rw[show M.step parts (s,b) i=(s,b) from if_neg hc]
  exact h
theorem Tk.roundN{parts:List Prt}{st:St}{out:List Prt}{s:Ars}(h:Tk parts st out s):∀i,i≤parts.length→Tk parts st out (M.roundN parts s i).1
 | 0,_=>h
 | i+1,hi=>by
  rw[M.roundN]
  have:=(Tk.roundN h i (by omega)).step (b:=(M.roundN parts s i).2) (i:=i) (by omega)
  exact this
abbrev BSet:=List UInt8→Bool
def BSet.put (S:BSet) (n:ByteArray):BSet:=fun x=>if x=n.data.toList then true else S x
def addAll (S:BSet) (l:List ByteArray):BSet:=l.foldl BSet.put S
def noNames:BSet:=fun _=>false
theorem addAll_at:∀(l:List ByteArray) (S:BSet) (x:List UInt8),addAll S l x=true↔S x=true∨∃n∈l,x=n.data.toList
 | [],S,x=>by simp[addAll]
 | m::l,S,x=>by
  show addAll (S.put m) l x=true↔_
  rw[addAll_at l (S.put m) x]
  unfold BSet.put
  by_cases e:x=m.data.toList
  ·simp[e]
  ·simp[e]
theorem addAll_same{l l':List ByteArray}(S:BSet)(h:∀s,s∈l↔s∈l'):addAll S l=addAll S l':=by
 funext x
 have h1:=addAll_at l S x
 have h2:=addAll_at l' S x
 have:addAll S l x=true↔addAll S l' x=true:=by
  rw[h1,h2]
  constructor
  ·rintro(h3|⟨n,hn,e⟩)
   ·exact .inl h3
   ·exact .inr ⟨n,(h n).1 hn,e⟩
  ·rintro(h3|⟨n,hn,e⟩)
   ·exact .inl h3
   ·exact .inr ⟨n,(h n).2 hn,e⟩
 cases h3:addAll S l x<;>cases h4:addAll S l' x<;>simp_all
structure Rl (L H:BSet) (st:St):Prop where
 two:∀x,st x=2↔H x=true
 one:∀x,st x=1↔(L x=true∧H x=false)
theorem Rl.zero:Rl noNames noNames (fun _=>0):=⟨fun x=>by simp[noNames],fun x=>by simp[noNames]⟩
theorem Rl.first{L:BSet}{st:St}(h:Rl L noNames st)(n:ByteArray):Rl (L.put n) noNames (st.set n 1):=by
 refine⟨fun x=>?_,fun x=>?_⟩
 ·have:=h.two x
  unfold St.set
  split
  ·simp[noNames]
  ·exact this
 ·have:=h.one x
  unfold St.set BSet.put
  split
  ·simp[noNames]
  ·exact this
theorem Rl.want{L H:BSet}{st:St}(h:Rl L H st)(n:ByteArray):Rl (L.put n) H (want st n):=by
 unfold M.want
 by_cases e:st n.data.toList=2
 ·rw[if_pos e]
  refine⟨h.two,fun x=>?_⟩
  have h1:=h.one x
  unfold BSet.put
  split
  ·rename_i ex
   subst ex
   have:=(h.two _).1 e
   rw[e,this]
   simp
  ·exact h1
 ·rw[if_neg e]
  have hH:H n.data.toList=false:=by
   cases hh:H n.data.toList
   ·rfl
   ·exact absurd ((h.two _).2 hh) e
  refine⟨fun x=>?_,fun x=>?_⟩
  ·have:=h.two x
   unfold St.set
   split
   ·rename_i ex
    rw[ex,hH];simp
   ·exact this
  ·have:=h.one x
   unfold St.set BSet.put
   split
   ·rename_i ex
    rw[ex,hH];simp
   ·exact this
theorem Rl.defn{L H:BSet}{st:St}(h:Rl L H st)(n:ByteArray):Rl L (H.put n) (st.set n 2):=by
 refine⟨fun x=>?_,fun x=>?_⟩
 ·have:=h.two x
  unfold St.set BSet.put
  split
  ·simp
  ·exact this
 ·have:=h.one x
  unfold St.set BSet.put
  split
  ·simp
  ·exact this
theorem Rl.wants{H:BSet} : ∀(l:List ByteArray) {L:BSet} {st:St},Rl L H st→Rl (addAll L l) H (wantAll st l)
 | [],_,_,h=>h
 | n::l,_,_,h=>Rl.wants l (h.want n)
theorem Rl.defs{L:BSet} : ∀(l:List Dfn) {H:BSet} {st:St},Rl L H st→Rl L (addAll H (l.map (·.name))) (defAll st l)
 | [],_,_,h=>h
 | d::l,_,_,h=>Rl.defs l (h.defn d.name)
theorem Rl.firsts:∀(l:List ByteArray) {L:BSet} {st:St},Rl L noNames st→Rl (addAll L l) noNames (l.foldl (fun s n=>s.set n 1) st)
 | [],_,_,h=>h
 | n::l,_,_,h=>Rl.firsts l (h.first n)
theorem Rl.start(l:List ByteArray):Rl (addAll noNames l) noNames (firstAll l):=Rl.firsts l Rl.zero
theorem Rl.enter{L H:BSet}{st:St}(h:Rl L H st)(p:Prt):Rl (addAll L (wanted p)) (addAll H (defined p)) (enter st p):=by
 have:=Rl.defs p.defs (Rl.wants (wanted p) h)
 have e:addAll H (defined p)=addAll H (p.defs.map (fun d=>d.name)):=addAll_same H (fun s=>rising_mem (definedNames p.defs) s)
 rw[e]
 exact this
theorem Rl.helps{L H:BSet}{st:St}(h:Rl L H st)(d:Dfn):helps st d=(d.kind !=3&&L d.name.data.toList&&!H d.name.data.toList):=by
 unfold M.helps
 have h1:=h.one d.name.data.toList
 cases hk:(d.kind !=3)
 ·simp
 ·cases hL:L d.name.data.toList<;>cases hH:H d.name.data.toList<;>simp_all
theorem step_out{parts:List Prt}{s:Ars × Bool}{i o:Nat}(h:s.1.out.length=o+cnt s.1.tk)(hi:i<s.1.tk.length):(step parts s i).1.out.length=o+cnt (step parts s i).1.tk:=by
 unfold step
 split
 ·rename_i hc
  have:=cnt_set s.1.tk i hi hc.1
  simp only[take,List.length_append,List.length_singleton]
  omega
 ·exact h
theorem roundN_out{parts:List Prt}{s:Ars}{o:Nat}(h:s.out.length=o+cnt s.tk):∀i,i≤s.tk.length→(roundN parts s i).1.out.length=o+cnt (roundN parts s i).1.tk
 | 0,_=>h
 | i+1,hi=>by
  rw[roundN]
  exact step_out (roundN_out h i (by omega)) (by rw[roundN_len];omega)
theorem rounds_out{parts:List Prt}{o:Nat} : ∀(f:Nat) (s:Ars),parts.length≤s.tk.length→s.out.length=o+cnt s.tk→(rounds parts f s).out.length≤o+s.tk.length
 | 0,s,_,h=>by have:=cnt_le s.tk;show s.out.length≤_;omega
 | f+1,s,hp,h=>by
  have h1:=roundN_out (parts:=parts) h parts.length hp
  have h2:=roundN_len parts s parts.length
  show (if (round parts s).2 then rounds parts f (round parts s).1 else (round parts s).1).out.length≤_
  split
  ·have:=rounds_out (parts:=parts) f (round parts s).1 (by unfold round;rw[h2];exact hp) h1
   unfold round at this ⊢
   rw[h2] at this
   exact this
  ·have:=cnt_le (roundN parts s parts.length).1.tk
   unfold round
   rw[h2] at this
   omega
theorem search_out(parts:List Prt)(st:St)(out:List Prt)(h8:parts.length≤8):(search parts st out).out.length≤out.length+8 :=
 rounds_out (parts:=parts) (o:=out.length) 9 ⟨st,out,none8⟩ h8 (by show out.length=out.length+cnt none8;simp[cnt,none8])
theorem enterAll_one(st:St)(l:List Prt)(p:Prt):enterAll st (l++[p])=enter (enterAll st l) p:=by
 unfold enterAll;rw[List.foldl_append];rfl
theorem step_st{parts:List Prt}{s:Ars × Bool}{i:Nat}{st0:St}(h:s.1.st=enterAll st0 s.1.out):(step parts s i).1.st=enterAll st0 (step parts s i).1.out:=by
 unfold step
 split
 ·show enter s.1.st _=enterAll st0 (s.1.out++[_])
  rw[enterAll_one,h]
 ·exact h
theorem roundN_st{parts:List Prt}{s:Ars}{st0:St}(h:s.st=enterAll st0 s.out):∀i,(roundN parts s i).1.st=enterAll st0 (roundN parts s i).1.out
 | 0=>h
 | i+1=>step_st (roundN_st h i)
theorem rounds_st{parts:List Prt}{st0:St} : ∀(f:Nat) (s:Ars),s.st=enterAll st0 s.out→(rounds parts f s).st=enterAll st0 (rounds parts f s).out
 | 0,s,h=>h
 | f+1,s,h=>by
  show (if (round parts s).2 then rounds parts f (round parts s).1 else (round parts s).1).st=enterAll st0 (if (round parts s).2 then rounds parts f (round parts s).1 else (round parts s).1).out
  split
  ·exact rounds_st f _ (roundN_st h _)
  ·exact roundN_st h _
theorem chooseStep_st{st0:St}{s:St × List Prt}(it:Itm)(h:s.1=enterAll st0 s.2):(chooseStep s it).1=enterAll st0 (chooseStep s it).2:=by
 unfold chooseStep
 split
 ·exact rounds_st 9 _ h
 ·show enter s.1 _=enterAll st0 (s.2++[_])
  rw[enterAll_one,h]
theorem choose_st(first:List ByteArray):∀(l:List Itm) (s:St × List Prt),s.1=enterAll (firstAll first) s.2→(l.foldl chooseStep s).1=enterAll (firstAll first) (l.foldl chooseStep s).2
 | [],s,h=>h
 | it::l,s,h=>choose_st first l (chooseStep s it) (chooseStep_st it h)
theorem addAll_append(S:BSet)(l l':List ByteArray):addAll S (l++l')=addAll (addAll S l) l':=by
 unfold addAll;rw[List.foldl_append]
theorem Rl.all:∀(l:List Prt) {L H:BSet} {st:St},Rl L H st→Rl (addAll L (l.flatMap wanted)) (addAll H (l.flatMap defined)) (enterAll st l)
 | [],_,_,_,h=>h
 | p::l,L,H,st,h=>by
  have:=Rl.all l (h.enter p)
  rw[List.flatMap_cons,List.flatMap_cons,addAll_append,addAll_append]
  exact this
theorem lack_anew(first:List ByteArray)(out:List Prt):Rl (addAll noNames (first++out.flatMap wanted)) (addAll noNames (out.flatMap defined)) (enterAll (firstAll first) out):=by
 rw[addAll_append]
 exact Rl.all out (Rl.start first)
open Go
def Ways (n:Int) (x y z:Dfn × Int):Prop :=
 (x.2=6∧z.2=6) ∨
 (¬x.2=6∧y.2=6∧z.2=6) ∨
 (x.2=0∧y.2=0∧x.1.kind=1∧y.1.kind=1∧z.2=6) ∨
 (x.2=7∧y.2=7∧z.2=7) ∨
 (x.2=7∧y.2=0∧z=(movedY n y.1,0)) ∨
 (x.2=0∧y.2=7∧z=(x.1,0)) ∨
 (x.2=0∧y.2=0∧¬x.1.kind=1∧y.1.kind=1∧z=(movedY n y.1,0)) ∨
 (x.2=0∧y.2=0∧x.1.kind=2∧y.1.kind=3∧z=(movedY n y.1,0)) ∨
 (x.2=0∧y.2=0∧x.1.kind=3∧y.1.kind=3∧z.2=0∧z.1.kind=3∧z.1.size=max x.1.size y.1.size∧z.1.align=max x.1.align y.1.align) ∨
 (x.2=0∧y.2=0∧((x.1.kind=1∧y.1.kind=2)∨(x.1.kind=1∧y.1.kind=3)∨(x.1.kind=2∧y.1.kind=2)∨(x.1.kind=3∧y.1.kind=2))∧z=(x.1,0))
theorem Ways.twiceL{n:Int}{x y z:Dfn × Int}(h1:x.2=6)(h2:z.2=6):Ways n x y z:=.inl ⟨h1,h2⟩
theorem Ways.twiceR{n:Int}{x y z:Dfn × Int}(h0:¬x.2=6)(h1:y.2=6)(h2:z.2=6):Ways n x y z:=.inr (.inl ⟨h0,h1,h2⟩)
theorem Ways.both{n:Int}{x y z:Dfn × Int}(h1:x.2=0)(h2:y.2=0)(h3:x.1.kind=1)(h4:y.1.kind=1)(h5:z.2=6):Ways n x y z:=.inr (.inr (.inl ⟨h1,h2,h3,h4,h5⟩))
theorem Ways.none{n:Int}{x y z:Dfn × Int}(h1:x.2=7)(h2:y.2=7)(h3:z.2=7):Ways n x y z:=.inr (.inr (.inr (.inl ⟨h1,h2,h3⟩)))
theorem Ways.right{n:Int}{x y z:Dfn × Int}(h1:x.2=7)(h2:y.2=0)(h3:z=(movedY n y.1,0)):Ways n x y z:=.inr (.inr (.inr (.inr (.inl ⟨h1,h2,h3⟩))))
theorem Ways.left{n:Int}{x y z:Dfn × Int}(h1:x.2=0)(h2:y.2=7)(h3:z=(x.1,0)):Ways n x y z:=.inr (.inr (.inr (.inr (.inr (.inl ⟨h1,h2,h3⟩)))))
theorem Ways.strong{n:Int}{x y z:Dfn × Int}(h1:x.2=0)(h2:y.2=0)(h3:¬x.1.kind=1)(h4:y.1.kind=1)(h5:z=(movedY n y.1,0)):Ways n x y z:=.inr (.inr (.inr (.inr (.inr (.inr (.inl ⟨h1,h2,h3,h4,h5⟩))))))
theorem Ways.weak{n:Int}{x y z:Dfn × Int}(h1:x.2=0)(h2:y.2=0)(h3:x.1.kind=2)(h4:y.1.kind=3)(h5:z=(movedY n y.1,0)):Ways n x y z:=.inr (.inr (.inr (.inr (.inr (.inr (.inr (.inl ⟨h1,h2,h3,h4,h5⟩)))))))
theorem Ways.common{n:Int}{x y z:Dfn × Int}(h1:x.2=0)(h2:y.2=0)(h3:x.1.kind=3)(h4:y.1.kind=3)(h5:z.2=0)(h6:z.1.kind=3)(h7:z.1.size=max x.1.size y.1.size)(h8:z.1.align=max x.1.align y.1.align):Ways n x y z:=.inr (.inr (.inr (.inr (.inr (.inr (.inr (.inr (.inl ⟨h1,h2,h3,h4,h5,h6,h7,h8⟩))))))))
theorem Ways.first{n:Int}{x y z:Dfn × Int}(h1:x.2=0)(h2:y.2=0)(h3:(x.1.kind=1∧y.1.kind=2)∨(x.1.kind=1∧y.1.kind=3)∨(x.1.kind=2∧y.1.kind=2)∨(x.1.kind=3∧y.1.kind=2))(h4:z=(x.1,0)):Ways n x y z:=.inr (.inr (.inr (.inr (.inr (.inr (.inr (.inr (.inr ⟨h1,h2,h3,h4⟩))))))))
theorem ways_in(n:Int)(A1 A3 A2 C1 C3 C2:List Dfn)(a1:∀d∈A1,d.kind=1)(a3:∀d∈A3,d.kind=3)(a2:∀d∈A2,d.kind=2)(c1:∀d∈C1,d.kind=1)(c3:∀d∈C3,d.kind=3)(c2:∀d∈C2,d.kind=2) :
  Ways n (findIn A1 A3 A2) (findIn C1 C3 C2) (findIn (A1++C1.map (shiftDfn n)) (A3++C3) (A2++C2.map (shiftDfn n))):=by
 have g3:∀(d:Dfn) (l:List Dfn),(∀x∈d::l,x.kind=3)→(greatest (d::l)).kind=3:=fun d l h=>by
  unfold greatest;rw[(fold_kind _ _).1];exact h d (by simp)
 match A1,C1 with
 | _::_::_,_=>exact .twiceL (by simp[findIn]) (by simp[findIn])
 | [x],_::_::_=>exact .twiceR (by simp[findIn]) (by simp[findIn]) (by simp[findIn])
 | [],_::_::_ =>
  refine .twiceR ?_ (by simp[findIn]) (by simp[findIn])
  match A3,A2 with
  | _::_,_=>simp[findIn]
  | [],_::_=>simp[findIn]
  | [],[]=>simp[findIn]
 | [x],[y] =>
  have:=a1 x (by simp)
  have:=c1 y (by simp)
  exact .both (by simp[findIn]) (by simp[findIn]) (by simpa [findIn]) (by simpa [findIn]) (by simp[findIn])
 | [x],[] =>
  have hx:=a1 x (by simp)
  match C3,C2 with
  | c::m,_ =>
   have:=g3 c m c3
   exact .first (by simp[findIn]) (by simp[findIn]) (.inr (.inl ⟨by simpa [findIn],by simpa [findIn]⟩)) (by simp[findIn])
  | [],c::m =>
   have:=c2 c (by simp)
   exact .first (by simp[findIn]) (by simp[findIn]) (.inl ⟨by simpa [findIn],by simpa [findIn]⟩) (by simp[findIn])
  | [],[]=>exact .left (by simp[findIn]) (by simp[findIn]) (by simp[findIn])
 | [],[y] =>
  have hy:=c1 y (by simp)
  have hm:=shift_moved n (.inl hy)
  match A3,A2 with
  | c::m,_ =>
   have:=g3 c m a3
   exact .strong (by simp[findIn]) (by simp[findIn]) (by simp[findIn,this]) (by simpa [findIn]) (by simp[findIn,hm])
  | [],c::m =>
   have:=a2 c (by simp)
   exact .strong (by simp[findIn]) (by simp[findIn]) (by simp[findIn,this]) (by simpa [findIn]) (by simp[findIn,hm])
  | [],[]=>exact .right (by simp[findIn]) (by simp[findIn]) (by simp[findIn,hm])
 | [],[] =>
  match A3,C3 with
  | a::l,c::m =>
   have ha:=g3 a l a3
   have hc:=g3 c m c3
   have hx:=greatest_app a c l m
   have h3:=a3 a (by simp)
   rw[List.cons_append] at hx
   exact .common (by simp[findIn]) (by simp[findIn]) (by simpa [findIn]) (by simpa [findIn]) (by simp[findIn]) (by simp[findIn,hx,h3]) (by simp[findIn,hx]) (by simp[findIn,hx])
  | a::l,[] =>
   have ha:=g3 a l a3
   match C2 with
   | []=>exact .left (by simp[findIn]) (by simp[findIn]) (by simp[findIn])
   | c::m =>
    have:=c2 c (by simp)
    exact .first (by simp[findIn]) (by simp[findIn]) (.inr (.inr (.inr ⟨by simpa [findIn],by simpa [findIn]⟩))) (by simp[findIn])
  | [],c::m =>
   have hc:=g3 c m c3
   have hm:movedY n (greatest (c::m))=greatest (c::m):=by unfold movedY;rw[hc];rfl
   match A2 with
   | []=>exact .right (by simp[findIn]) (by simp[findIn]) (by simp[findIn,hm])
   | a::l =>
    have:=a2 a (by simp)
    exact .weak (by simp[findIn]) (by simp[findIn]) (by simpa [findIn]) (by simpa [findIn]) (by simp[findIn,hm])
  | [],[] =>
   match A2,C2 with
   | [],[]=>exact .none (by simp[findIn]) (by simp[findIn]) (by simp[findIn])
   | [],c::m =>
    have hc:=c2 c (by simp)
    exact .right (by simp[findIn]) (by simp[findIn]) (by simp[findIn,shift_moved n (.inr hc)])
   | a::l,[] =>
    exact .left (by simp[findIn]) (by simp[findIn]) (by simp[findIn])
   | a::l,c::m =>
    have:=a2 a (by simp)
    have:=c2 c (by simp)
    exact .first (by simp[findIn]) (by simp[findIn]) (.inr (.inr (.inl ⟨by simpa [findIn],by simpa [findIn]⟩))) (by simp[findIn])
theorem ways(a b:Prt)(l:List ByteArray)(s:ByteArray)(hb:Ok b):Ways a.frags.length (find a.defs s) (find (drop b l).defs s) (find (put a l b).defs s):=by
 rw[put_defs a b l hb]
 unfold find
 rw[ofKind_app,ofKind_app,ofKind_app,shift_three _ (ofKind _ s 3) (fun d hd=>ofKind_kind hd)]
 exact ways_in _ _ _ _ _ _ _ (fun d hd=>ofKind_kind hd) (fun d hd=>ofKind_kind hd) (fun d hd=>ofKind_kind hd) (fun d hd=>ofKind_kind hd) (fun d hd=>ofKind_kind hd) (fun d hd=>ofKind_kind hd)
theorem head_mem(l:List Dfn)(h:0<l.length):l.headD dfnZ∈l:=by
 cases l with
 | nil=>simp at h
 | cons x l=>simp
def next (a d:Int):Int:=(a+d-1) / d*d
abbrev Seen:=List (List Int × Int × Int)
def look:Seen→List Int→Int→Option Int
 | [],_,_=>none
 | (b,a,x)::r,bs,al=>if b=bs∧a=al then some x else look r bs al
structure LS where
 adr:List Int
 pos:Int
 seen:Seen
def layNew (sect:Int) (s:LS) (i:Nat) (f:Frg):LS :=
 ⟨s.adr.set i (next s.pos f.align),next s.pos f.align+long f,if sect=3 then (f.bytes,f.align,next s.pos f.align)::s.seen else s.seen⟩
def layOld (s:LS) (i:Nat) (x:Int):LS:=⟨s.adr.set i x,s.pos,s.seen⟩
def layStep (sect:Int) (s:LS) (i:Nat) (f:Frg):LS :=
 if f.sect=sect then (look s.seen f.bytes f.align).elim (layNew sect s i f) (layOld s i) else s
def layGo (sect:Int):LS→Nat→List Frg→LS
 | s,_,[]=>s
 | s,i,f::fs=>layGo sect (layStep sect s i f) (i+1) fs
def layFrags (sect:Int) (tl:List Int) (fs:List Frg) (pos:Int):LS:=layGo sect ⟨tl,pos,[]⟩ 0 fs
theorem layGo_snoc(sect:Int)(f:Frg):∀(l:List Frg) (s:LS) (i:Nat),layGo sect s i (l++[f])=layStep sect (layGo sect s i l) (i+l.length) f
 | [],s,i=>rfl
 | g::l,s,i=>by
  show layGo sect (layStep sect s i g) (i+1) (l++[f])=_
  rw[layGo_snoc sect f l]
  show _=layStep sect (layGo sect (layStep sect s i g) (i+1) l) (i+(l.length+1)) f
  rw[Nat.add_assoc,Nat.add_comm 1]
structure SS where
 adr:List Int
 pos:Int
 fr:List Int
 till:List Int
structure CS where
 names:List ByteArray
 at_:List Int
 pos:Int
def comStep (ds:List Dfn) (s:CS) (n:ByteArray):CS :=
 if (find ds n).2=0∧(find ds n).1.kind=3 then ⟨s.names++[n],s.at_++[next s.pos (find ds n).1.align],next s.pos (find ds n).1.align+(find ds n).1.size⟩ else s
def commons (p:Prt) (pos:Int):CS:=(defined p).foldl (comStep p.defs) ⟨[],[],pos⟩
def AlignOk (a:Int):Prop:=a=1∨a=2∨a=4∨a=8∨a=16
theorem next_bounds{a d:Int}(h:0≤a)(hd:AlignOk d):a≤next a d∧next a d≤a+d-1:=by
 unfold next
 rcases hd with rfl|rfl|rfl|rfl|rfl<;>omega
theorem next_div{a d:Int}(hd:AlignOk d):next a d % d=0:=by
 unfold next
 rcases hd with rfl|rfl|rfl|rfl|rfl<;>omega
theorem next_shift{a d t:Int}(hd:AlignOk d):next (a+16*t) d=next a d+16*t:=by
 unfold next
 rcases hd with rfl|rfl|rfl|rfl|rfl<;>omega
theorem AlignOk.pos{d:Int}(hd:AlignOk d):1≤d∧d≤16:=by
 rcases hd with rfl|rfl|rfl|rfl|rfl<;>omega
structure FrgOk (f:Frg):Prop where
 align:AlignOk f.align
 small:f.align≤8
 long0:0≤long f
 long64:long f≤64
 sect:1≤f.sect∧f.sect≤5
theorem alignOk_of{a:Int}(h:isAlign a=true):AlignOk a∧a≤8:=by
 unfold isAlign at h
 simp only[Bool.or_eq_true,beq_iff_eq] at h
 unfold AlignOk
 omega
theorem frgOk_of{f:Frg}(h:shaped f=0):FrgOk f:=by
 unfold shaped checkFrag at h
 split at h
 ·cases h
 rename_i h1
 simp only[Bool.or_eq_true,Bool.not_eq_true',not_or,Bool.not_eq_false] at h1
 split at h
 ·cases h
 split at h
 ·cases h
 rename_i h3
 split at h
 ·cases h
 rename_i h4
 have h4':=(Bool.not_eq_false _).mp h4
 simp only at h1 h3
 have ha:=alignOk_of h1.2
 have hs:1≤f.sect∧f.sect≤5:=by simpa [within] using h1.1
 unfold formed at h4'
 refine⟨ha.1,ha.2,?_,?_,hs⟩
 all_goals
  unfold long lng
  split
  ·rename_i h5
   simp[h5,within] at h4'
   omega
  ·have:f.bytes.length≤64:=by omega
   omega
theorem layStep_pos{sect:Int}{s:LS}{i:Nat}{f:Frg}(hf:FrgOk f)(h0:0≤s.pos):s.pos≤(layStep sect s i f).pos∧(layStep sect s i f).pos≤s.pos+71:=by
 unfold layStep
 split
 ·cases look s.seen f.bytes f.align with
  | none =>
   show s.pos≤next s.pos f.align+long f∧next s.pos f.align+long f≤s.pos+71
   have:=next_bounds h0 hf.align
   have:=hf.small
   have:=hf.long0
   have:=hf.long64
   omega
  | some x=>exact⟨Int.le_refl _,by show s.pos≤s.pos+71;omega⟩
 ·omega
theorem layGo_pos{sect:Int} : ∀(l:List Frg) (s:LS) (i:Nat),(∀f∈l,FrgOk f)→0≤s.pos→s.pos≤(layGo sect s i l).pos∧(layGo sect s i l).pos≤s.pos+71*l.length
 | [],s,i,_,_=>⟨Int.le_refl _,by show s.pos≤s.pos+71*((0:Nat):Int);omega⟩
 | f::l,s,i,h,h0=>by
  have h1:=layStep_pos (sect:=sect) (i:=i) (h f (List.mem_cons_self ..)) h0
  have h2:=layGo_pos (sect:=sect) l (layStep sect s i f) (i+1) (fun g hg=>h g (List.mem_cons_of_mem _ hg)) (by omega)
  show s.pos≤(layGo sect (layStep sect s i f) (i+1) l).pos∧(layGo sect (layStep sect s i f) (i+1) l).pos≤s.pos+71*((l.length+1:Nat):Int)
  omega
theorem layStep_len(sect:Int)(s:LS)(i:Nat)(f:Frg):(layStep sect s i f).adr.length=s.adr.length:=by
 unfold layStep
 split
 ·cases look s.seen f.bytes f.align with
  | none=>exact List.length_set ..
  | some x=>exact List.length_set ..
 ·rfl
theorem layGo_len(sect:Int):∀(l:List Frg) (s:LS) (i:Nat),(layGo sect s i l).adr.length=s.adr.length
 | [],_,_=>rfl
 | f::l,s,i=>(layGo_len sect l (layStep sect s i f) (i+1)).trans (layStep_len sect s i f)
theorem look_mem:∀ {s:Seen} {bs:List Int} {al x:Int},look s bs al=some x→(bs,al,x)∈s
 | (b,a,y)::r,bs,al,x,h=>by
  unfold look at h
  split at h
  ·rename_i e
   obtain⟨rfl,rfl⟩:=e
   cases h
   exact List.mem_cons_self ..
  ·exact List.mem_cons_of_mem _ (look_mem h)
theorem layStep_seen{sect lo:Int}{s:LS}{i:Nat}{f:Frg}(hf:FrgOk f)(h0:0≤s.pos)(hlo:lo≤s.pos)(h:∀x∈s.seen,lo≤x.2.2∧x.2.2≤s.pos):∀x∈(layStep sect s i f).seen,lo≤x.2.2∧x.2.2≤(layStep sect s i f).pos:=by
 have hp:=layStep_pos (sect:=sect) (i:=i) hf h0
 intro x hx
 have keep:x∈s.seen→lo≤x.2.2∧x.2.2≤(layStep sect s i f).pos:=fun hx=>⟨(h x hx).1,Int.le_trans (h x hx).2 hp.1⟩
 unfold layStep at hx
 split at hx
 ·rename_i hs
  cases hl:look s.seen f.bytes f.align with
  | none =>
   rw[hl] at hx
   have hx':x∈(layNew sect s i f).seen:=hx
   unfold layNew at hx'
   simp only at hx'
   split at hx'
   ·rcases List.mem_cons.1 hx' with rfl|hx'
    ·unfold layStep
     rw[if_pos hs,hl]
     show lo≤next s.pos f.align∧next s.pos f.align≤next s.pos f.align+long f
     have:=next_bounds h0 hf.align
     have:=hf.long0
     omega
    ·exact keep hx'
   ·exact keep hx'
  | some y =>
   rw[hl] at hx
   exact keep hx
 ·exact keep hx
def secN (fs:List Frg) (base:Int):Nat→List Int × Int
 | 0=>(List.replicate fs.length 0,base)
 | k+1=>((layFrags ((k:Int)+1) (secN fs base k).1 fs (next (secN fs base k).2 16)).adr,(layFrags ((k:Int)+1) (secN fs base k).1 fs (next (secN fs base k).2 16)).pos)
def frAt (p:Prt) (base:Int) (k i:Nat):Int:=if 1≤i∧i≤k then next (secN p.frags base (i-1)).2 16 else 0
def tillOf (p:Prt) (base:Int) (i:Nat):Int:=if i=5 then (commons p (secN p.frags base 5).2).pos else (secN p.frags base i).2
def tiAt (p:Prt) (base:Int) (k i:Nat):Int:=if 1≤i∧i≤k then tillOf p base i else 0
structure Lay where
 frags:List Int
 names:List ByteArray
 coms:List Int
 fr:Nat→Int
 ti:Nat→Int
def lay0:Lay:=⟨[],[],[],fun _=>0,fun _=>0⟩
def layAll (p:Prt) (base:Int):Lay:=⟨(secN p.frags base 5).1,(commons p (secN p.frags base 5).2).names,(commons p (secN p.frags base 5).2).at_,frAt p base 5,tiAt p base 5⟩
def lay (p:Prt) (base:Int):Lay × Int :=
 if checkPart p=0 then
  if base<0∨65536≤base then (lay0,3)
  else if 65536<tillOf p base 5 then (lay0,10) else (layAll p base,0)
 else (lay0,checkPart p)
theorem secN_len(fs:List Frg)(base:Int):∀k,(secN fs base k).1.length=fs.length
 | 0=>List.length_replicate ..
 | k+1=>(layGo_len ..).trans (secN_len fs base k)
theorem secN_pos{fs:List Frg}{base:Int}(hf:∀f∈fs,FrgOk f)(hn:fs.length≤60)(h0:0≤base):∀k:Nat,base≤(secN fs base k).2∧(secN fs base k).2≤base+4275*k
 | 0=>⟨Int.le_refl _,by show base≤base+4275*((0:Nat):Int);omega⟩
 | k+1=>by
  have ih:=secN_pos hf hn h0 k
  have hb:=next_bounds (a:=(secN fs base k).2) (d:=16) (by omega) (.inr (.inr (.inr (.inr rfl))))
  have hg:=layGo_pos (sect:=(k:Int)+1) fs ⟨(secN fs base k).1,next (secN fs base k).2 16,[]⟩ 0 hf (by show 0≤next (secN fs base k).2 16;omega)
  simp only at hg
  show base≤(layGo ((k:Int)+1) ⟨(secN fs base k).1,next (secN fs base k).2 16,[]⟩ 0 fs).pos∧(layGo ((k:Int)+1) ⟨(secN fs base k).1,next (secN fs base k).2 16,[]⟩ 0 fs).pos≤base+4275*((k+1:Nat):Int)
  omega
end Go.Proofs.YtpkfmfhodbjckaaGreatDoor.M
