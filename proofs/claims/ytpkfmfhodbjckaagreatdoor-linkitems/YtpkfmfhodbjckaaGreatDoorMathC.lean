/-
  The plain mathematics of layouts that are moved; a closed part. The plain mathematics of layouts that are moved: sixteen addresses farther, or as many times. The plain mathematics of where fragments and common names stand apart. The plain mathematics of where fragments and common names stand apart, all sections together. Plain mathematics: what a layout says of what the link needs.
-/
import Derived.WalkKit
import Derived.Test.YtpkfmfhodbjckaaGreatDoorLkFb
set_option linter.unusedVariables false
namespace Go.Proofs.YtpkfmfhodbjckaaGreatDoor.M
open Go
theorem getD_set(l:List Int)(i j:Nat)(x:Int):(l.set i x).getD j 0=if i=j∧j<l.length then x else l.getD j 0:=by
 rw[List.getD_eq_getElem?_getD,List.getD_eq_getElem?_getD,List.getElem?_set]
 by_cases h:i=j
 ·subst h
  by_cases h2:i<l.length
  ·simp[h2]
  ·simp[h2]
 ·simp[h]
structure Sh (d:Int) (P:Nat→Prop) (s s':LS):Prop where
 pos:s'.pos=s.pos+d
 seen:∀bs al,look s'.seen bs al=(look s.seen bs al).map (· + d)
 len:s'.adr.length=s.adr.length
 adr:∀j,P j→s'.adr.getD j 0=s.adr.getD j 0+d
theorem Sh.step{t:Int}{P:Nat→Prop}{s s':LS}(h:Sh (16*t) P s s'){sect:Int}{i:Nat}{f:Frg}(hf:FrgOk f)(hi:i<s.adr.length):Sh (16*t) (fun j=>P j∨(j=i∧f.sect=sect)) (layStep sect s i f) (layStep sect s' i f):=by
 unfold layStep
 by_cases hs:f.sect=sect
 ·rw[if_pos hs,if_pos hs,h.seen]
  cases hl:look s.seen f.bytes f.align with
  | some x =>
   show Sh (16*t) _ (layOld s i x) (layOld s' i (x+16*t))
   refine⟨h.pos,h.seen,?_,fun j hj=>?_⟩
   ·show (s'.adr.set i _).length=(s.adr.set i _).length
    rw[List.length_set,List.length_set,h.len]
   ·show (s'.adr.set i _).getD j 0=(s.adr.set i _).getD j 0+_
    rw[getD_set,getD_set,h.len]
    by_cases hij:i=j∧j<s.adr.length
    ·rw[if_pos hij,if_pos hij]
    ·rw[if_neg hij,if_neg hij]
     rcases hj with hj|⟨rfl,_⟩
     ·exact h.adr j hj
     ·exact absurd ⟨rfl,hi⟩ hij
  | none =>
   show Sh (16*t) _ (layNew sect s i f) (layNew sect s' i f)
   have hn:next s'.pos f.align=next s.pos f.align+16*t:=by rw[h.pos];exact next_shift hf.align
   refine⟨?_,fun bs al=>?_,?_,fun j hj=>?_⟩
   ·show next s'.pos f.align+long f=next s.pos f.align+long f+16*t
    rw[hn];omega
   ·show look (if sect=3 then (f.bytes,f.align,next s'.pos f.align)::s'.seen else s'.seen) bs al=(look (if sect=3 then (f.bytes,f.align,next s.pos f.align)::s.seen else s.seen) bs al).map (· + 16*t)
    split
    ·unfold look
     split
     ·rw[hn];rfl
     ·exact h.seen bs al
    ·exact h.seen bs al
   ·show (s'.adr.set i _).length=(s.adr.set i _).length
    rw[List.length_set,List.length_set,h.len]
   ·show (s'.adr.set i _).getD j 0=(s.adr.set i _).getD j 0+_
    rw[getD_set,getD_set,h.len]
    by_cases hij:i=j∧j<s.adr.length
    ·rw[if_pos hij,if_pos hij,hn]
    ·rw[if_neg hij,if_neg hij]
     rcases hj with hj|⟨rfl,_⟩
     ·exact h.adr j hj
     ·exact absurd ⟨rfl,hi⟩ hij
 ·rw[if_neg hs,if_neg hs]
  exact⟨h.pos,h.seen,h.len,fun j hj=>by
   rcases hj with hj|⟨_,h2⟩
   ·exact h.adr j hj
   ·exact absurd h2 hs⟩
theorem Sh.weak{d:Int}{P Q:Nat→Prop}{s s':LS}(h:Sh d P s s')(hq:∀j,Q j→P j):Sh d Q s s':=⟨h.pos,h.seen,h.len,fun j hj=>h.adr j (hq j hj)⟩
theorem Sh.go{t sect:Int} : ∀(l:List Frg) {P:Nat→Prop} {s s':LS} (i:Nat),Sh (16*t) P s s'→(∀f∈l,FrgOk f)→i+l.length≤s.adr.length→Sh (16*t) (fun j=>P j∨∃f,i≤j∧l[j-i]?=some f∧f.sect=sect) (layGo sect s i l) (layGo sect s' i l)
 | [],P,s,s',i,h,_,_=>h.weak fun j hj=>by
  rcases hj with hj|⟨f,_,h2,_⟩
  ·exact hj
  ·simp at h2
 | f::l,P,s,s',i,h,hf,hl=>by
  have hl':i+(l.length+1)≤s.adr.length:=hl
  have h1:=h.step (sect:=sect) (i:=i) (hf f (List.mem_cons_self ..)) (by omega)
  have h2:=Sh.go (t:=t) (sect:=sect) l (i+1) h1 (fun g hg=>hf g (List.mem_cons_of_mem _ hg)) (by rw[layStep_len];omega)
  refine h2.weak fun j hj=>?_
  rcases hj with hj|⟨g,hij,hg,hs⟩
  ·exact .inl (.inl hj)
  ·by_cases e:j=i
   ·subst e
    rw[Nat.sub_self] at hg
    cases hg
    exact .inl (.inr ⟨rfl,hs⟩)
   ·refine .inr ⟨g,by omega,?_,hs⟩
    rw[show j-i=(j-(i+1))+1 by omega] at hg
    simpa using hg
structure Moved (p:Prt) (base t:Int):Prop where
 frags:∀j,j<p.frags.length→(layAll p (base+16*t)).frags.getD j 0=(layAll p base).frags.getD j 0+16*t
 names:(layAll p (base+16*t)).names=(layAll p base).names
 coms:(layAll p (base+16*t)).coms=(layAll p base).coms.map (· + 16*t)
 fr:∀i,1≤i→i≤5→(layAll p (base+16*t)).fr i=(layAll p base).fr i+16*t
 ti:∀i,1≤i→i≤5→(layAll p (base+16*t)).ti i=(layAll p base).ti i+16*t
theorem lay_names(p:Prt)(base:Int):(layAll p base).names=(commons p (secN p.frags base 5).2).names:=rfl
theorem lay_coms(p:Prt)(base:Int):(layAll p base).coms=(commons p (secN p.frags base 5).2).at_:=rfl
theorem lay_frags(p:Prt)(base:Int):(layAll p base).frags=(secN p.frags base 5).1:=rfl
theorem lay_fr(p:Prt)(base:Int)(i:Nat):(layAll p base).fr i=frAt p base 5 i:=rfl
theorem lay_ti(p:Prt)(base:Int)(i:Nat):(layAll p base).ti i=tiAt p base 5 i:=rfl
structure Ap (sect lo:Int) (fs:List Frg) (i:Nat) (s:LS):Prop where
 pos:lo≤s.pos
 len:s.adr.length=fs.length
 each:∀(j:Nat) (f:Frg),j<i→fs[j]?=some f→f.sect=sect→lo≤s.adr.getD j 0∧s.adr.getD j 0 % f.align=0∧s.adr.getD j 0+long f≤s.pos
 seen:sect=3→∀(j:Nat) (f:Frg),j<i→fs[j]?=some f→f.sect=sect→look s.seen f.bytes f.align=some (s.adr.getD j 0)
 none:sect≠3→s.seen=[]
 bound:∀x∈s.seen,lo≤x.2.2∧x.2.2 % x.2.1=0∧x.2.2+x.1.length≤s.pos
 two:∀x∈s.seen,∀y∈s.seen,x=y∨x.2.2+x.1.length≤y.2.2∨y.2.2+y.1.length≤x.2.2
 pair:sect≠3→∀(j k:Nat) (f g:Frg),k<j→j<i→fs[j]?=some f→fs[k]?=some g→f.sect=sect→g.sect=sect→s.adr.getD k 0+long g≤s.adr.getD j 0
theorem long_text{f:Frg}(h:f.sect=3):long f=f.bytes.length:=by
 unfold long lng
 rw[if_neg (by omega)]
theorem Ap.step{sect lo:Int}{fs:List Frg}{i:Nat}{s:LS}(h:Ap sect lo fs i s)(h0:0≤lo){f:Frg}(hi:fs[i]?=some f)(hf:FrgOk f):Ap sect lo fs (i+1) (layStep sect s i f):=by
 have hil:i<fs.length:=(List.getElem?_eq_some_iff.1 hi).1
 have hs0:0≤s.pos:=Int.le_trans h0 h.pos
 have hla:=hf.long0
 unfold layStep
 by_cases hc:f.sect=sect
 ·rw[if_pos hc]
  cases hk:look s.seen f.bytes f.align with
  | some x =>
   show Ap sect lo fs (i+1) (layOld s i x)
   have hsec:sect=3:=by
    by_cases e:sect=3
    ·exact e
    ·rw[h.none e] at hk;cases hk
   have hm:=look_mem hk
   have hb:=h.bound _ hm
   have hlt:long f=f.bytes.length:=long_text (hc.trans hsec)
   have hget:∀j,j≠i→(s.adr.set i x).getD j 0=s.adr.getD j 0:=fun j hj=>by rw[getD_set,if_neg (fun e=>hj e.1.symm)]
   have hgi:(s.adr.set i x).getD i 0=x:=by rw[getD_set,if_pos ⟨rfl,by rw[h.len];exact hil⟩]
   refine⟨h.pos,?_,fun j g hj hg hs=>?_,fun h3 j g hj hg hs=>?_,h.none,h.bound,h.two,fun h3=>absurd hsec h3⟩
   ·show (s.adr.set i x).length=_
    rw[List.length_set,h.len]
   ·show lo≤(s.adr.set i x).getD j 0∧(s.adr.set i x).getD j 0 % g.align=0∧(s.adr.set i x).getD j 0+long g≤s.pos
    by_cases e:j=i
    ·subst e
     rw[hi] at hg
     cases hg
     rw[hgi,hlt]
     exact hb
    ·rw[hget j e];exact h.each j g (by omega) hg hs
   ·show look s.seen g.bytes g.align=some ((s.adr.set i x).getD j 0)
    by_cases e:j=i
    ·subst e
     rw[hi] at hg
     cases hg
     rw[hgi,hk]
    ·rw[hget j e];exact h.seen h3 j g (by omega) hg hs
  | none =>
   show Ap sect lo fs (i+1) (layNew sect s i f)
   have hb:=next_bounds hs0 hf.align
   have hd:=next_div (a:=s.pos) hf.align
   generalize hx:next s.pos f.align=x at hb hd
   have ea:(layNew sect s i f).adr=s.adr.set i x:=by show s.adr.set i (next s.pos f.align)=_;rw[hx]
   have ep:(layNew sect s i f).pos=x+long f:=by show next s.pos f.align+long f=_;rw[hx]
   have es:(layNew sect s i f).seen=if sect=3 then (f.bytes,f.align,x)::s.seen else s.seen:=by show (if sect=3 then (f.bytes,f.align,next s.pos f.align)::s.seen else s.seen)=_;rw[hx]
   have hget:∀j,j≠i→(s.adr.set i x).getD j 0=s.adr.getD j 0:=fun j hj=>by rw[getD_set,if_neg (fun e=>hj e.1.symm)]
   have hgi:(s.adr.set i x).getD i 0=x:=by rw[getD_set,if_pos ⟨rfl,by rw[h.len];exact hil⟩]
   have hlo:=h.pos
   refine⟨by rw[ep];omega,by rw[ea,List.length_set,h.len],fun j g hj hg hs=>?_,fun h3 j g hj hg hs=>?_,fun h3=>?_,fun y hy=>?_,fun y hy z hz=>?_,fun h3 j k g g' hkj hj hg hg' hs hs'=>?_⟩
   ·rw[ea,ep]
    by_cases e:j=i
    ·subst e
     rw[hi] at hg
     cases hg
     rw[hgi]
     exact⟨by omega,hd,Int.le_refl _⟩
    ·rw[hget j e]
     have:=h.each j g (by omega) hg hs
     exact⟨this.1,this.2.1,by omega⟩
   ·rw[ea,es,if_pos h3]
    by_cases e:j=i
    ·subst e
     rw[hi] at hg
     cases hg
     rw[hgi]
     simp[look]
    ·rw[hget j e]
     have:=h.seen h3 j g (by omega) hg hs
     unfold look
     rw[if_neg (fun e'=>by rw[←e'.1,←e'.2,hk] at this;cases this)]
     exact this
   ·rw[es,if_neg h3];exact h.none h3
   ·rw[es] at hy
    rw[ep]
    split at hy
    ·rename_i h3
     have hlt:long f=f.bytes.length:=long_text (hc.trans h3)
     rcases List.mem_cons.1 hy with rfl|hy
     ·exact⟨by show lo≤x;omega,hd,by show x+(f.bytes.length:Int)≤x+long f;omega⟩
     ·have:=h.bound y hy
      exact⟨this.1,this.2.1,by omega⟩
    ·have:=h.bound y hy
     exact⟨this.1,this.2.1,by omega⟩
   ·rw[es] at hy hz
    split at hy
    ·rename_i h3
     rw[if_pos h3] at hz
     rcases List.mem_cons.1 hy with rfl|hy<;>rcases List.mem_cons.1 hz with rfl|hz
     ·exact .inl rfl
     ·have:=h.bound z hz
      exact .inr (.inr (by show z.2.2+(z.1.length:Int)≤x;omega))
     ·have:=h.bound y hy
      exact .inr (.inl (by show y.2.2+(y.1.length:Int)≤x;omega))
     ·exact h.two y hy z hz
    ·rename_i h3
     rw[if_neg h3] at hz
     exact h.two y hy z hz
   ·rw[ea]
    have hki:k≠i:=by omega
    rw[hget k hki]
    by_cases e:j=i
    ·subst e
     rw[hgi]
     have:=(h.each k g' (by omega) hg' hs').2.2
     omega
    ·rw[hget j e]
     exact h.pair h3 j k g g' hkj (by omega) hg hg' hs hs'
 ·rw[if_neg hc]
  have nj:∀(j:Nat) (g:Frg),j<i+1→fs[j]?=some g→g.sect=sect→j<i:=fun j g hj hg hs=>by
   by_cases e:j=i
   ·subst e
    rw[hi] at hg
    cases hg
    exact absurd hs hc
   ·omega
  exact⟨h.pos,h.len,fun j g hj hg hs=>h.each j g (nj j g hj hg hs) hg hs,fun h3 j g hj hg hs=>h.seen h3 j g (nj j g hj hg hs) hg hs,h.none,h.bound,h.two,fun h3 j k g g' hkj hj hg hg' hs hs'=>h.pair h3 j k g g' hkj (nj j g hj hg hs) hg hg' hs hs'⟩
theorem Ap.go{sect lo:Int}{fs:List Frg}(h0:0≤lo)(hf:∀f∈fs,FrgOk f):∀(l:List Frg) (i:Nat) (s:LS),fs.drop i=l→Ap sect lo fs i s→Ap sect lo fs fs.length (layGo sect s i l)
 | [],i,s,hl,h=>by
  have:fs.length≤i:=by
   have:=congrArg List.length hl
   rw[List.length_drop] at this
   simp at this
   omega
  exact⟨h.pos,h.len,fun j g hj=>h.each j g (by omega),fun h3 j g hj=>h.seen h3 j g (by omega),h.none,h.bound,h.two,fun h3 j k g g' hkj hj=>h.pair h3 j k g g' hkj (by omega)⟩
 | f::l,i,s,hl,h=>by
  have hi:fs[i]?=some f:=by
   have:=congrArg (fun x=>x[0]?) hl
   simpa using this
  refine Ap.go h0 hf l (i+1) (layStep sect s i f) ?_ (h.step h0 hi (hf f (List.mem_of_getElem? hi)))
  rw[←List.drop_drop,hl]
  rfl
theorem layStep_other{sect:Int}{s:LS}{i j:Nat}{f:Frg}(h:j=i→f.sect≠sect):(layStep sect s i f).adr.getD j 0=s.adr.getD j 0:=by
 unfold layStep
 by_cases hc:f.sect=sect
 ·have hij:¬i=j:=fun e=>h e.symm hc
  rw[if_pos hc]
  cases look s.seen f.bytes f.align with
  | none =>
   show (s.adr.set i _).getD j 0=_
   rw[getD_set,if_neg (fun e=>hij e.1)]
  | some x =>
   show (s.adr.set i _).getD j 0=_
   rw[getD_set,if_neg (fun e=>hij e.1)]
 ·rw[if_neg hc]
theorem layGo_other{sect:Int}{j:Nat} : ∀(l:List Frg) (s:LS) (i:Nat),(∀f,i≤j→l[j-i]?=some f→f.sect≠sect)→(layGo sect s i l).adr.getD j 0=s.adr.getD j 0
 | [],_,_,_=>rfl
 | f::l,s,i,h=>by
  refine(layGo_other l (layStep sect s i f) (i+1) fun g hij hg=>h g (by omega) ?_).trans (layStep_other fun e=>h f (by omega) ?_)
  ·rw[show j-i=(j-(i+1))+1 by omega];simpa using hg
  ·subst e;simp
theorem sec_ap{fs:List Frg}{base:Int}(hf:∀f∈fs,FrgOk f)(hn:fs.length≤60)(h0:0≤base)(k:Nat):Ap ((k:Int)+1) (next (secN fs base k).2 16) fs fs.length (layFrags ((k:Int)+1) (secN fs base k).1 fs (next (secN fs base k).2 16)):=by
 have hp:=(secN_pos hf hn h0 k).1
 have hb:=next_bounds (a:=(secN fs base k).2) (d:=16) (by omega) (.inr (.inr (.inr (.inr rfl))))
 refine Ap.go (by omega) hf fs 0 _ rfl ⟨Int.le_refl _,secN_len _ _ _,fun j g hj=>by omega,fun _ j g hj=>by omega,fun _=>rfl,(fun x hx=>by cases hx),(fun x hx=>by cases hx),fun _ j k g g' hkj hj=>by omega⟩
theorem sec_keep{fs:List Frg}{base:Int}{j:Nat}{f:Frg}(hj:fs[j]?=some f):∀(m k:Nat),f.sect≤(k:Int)→(secN fs base (k+m)).1.getD j 0=(secN fs base k).1.getD j 0
 | 0,k,_=>rfl
 | m+1,k,h=>by
  refine Eq.trans ?_ (sec_keep hj m k h)
  show (layGo (((k+m:Nat):Int)+1) ⟨(secN fs base (k+m)).1,next (secN fs base (k+m)).2 16,[]⟩ 0 fs).adr.getD j 0=_
  refine layGo_other fs _ 0 fun g _ hg=>?_
  rw[Nat.sub_zero,hj] at hg
  cases hg
  omega
theorem sec_mono{fs:List Frg}{base:Int}(hf:∀f∈fs,FrgOk f)(hn:fs.length≤60)(h0:0≤base)(k:Nat):next (secN fs base k).2 16≤(secN fs base (k+1)).2∧(secN fs base k).2≤next (secN fs base k).2 16:=by
 have hp:=(secN_pos hf hn h0 k).1
 have hb:=next_bounds (a:=(secN fs base k).2) (d:=16) (by omega) (.inr (.inr (.inr (.inr rfl))))
 exact⟨(sec_ap hf hn h0 k).pos,hb.1⟩
structure Cm (ds:List Dfn) (lo:Int) (s:CS):Prop where
 pos:lo≤s.pos
 len:s.names.length=s.at_.length
 each:∀(i:Nat) (n:ByteArray),s.names[i]?=some n→(find ds n).2=0∧(find ds n).1.kind=3∧ComOk (find ds n).1∧s.at_.getD i 0 % (find ds n).1.align=0∧lo≤s.at_.getD i 0∧s.at_.getD i 0+(find ds n).1.size≤s.pos
 rise:∀(i:Nat) (n:ByteArray),i+1<s.names.length→s.names[i]?=some n→s.at_.getD i 0+(find ds n).1.size≤s.at_.getD (i+1) 0
theorem getD_snoc(l:List Int)(x:Int)(i:Nat):(l++[x]).getD i 0=if i=l.length then x else l.getD i 0:=by
 rw[List.getD_eq_getElem?_getD,List.getD_eq_getElem?_getD]
 by_cases h:i<l.length
 ·rw[List.getElem?_append_left h,if_neg (by omega)]
 ·rw[List.getElem?_append_right (by omega)]
  by_cases e:i=l.length
  ·subst e;simp
  ·rw[if_neg e,List.getElem?_eq_none (by simp;omega),List.getElem?_eq_none (by omega)]
theorem Cm.step{ds:List Dfn}{lo:Int}{s:CS}(h:Cm ds lo s)(h0:0≤lo)(hc:∀n,(find ds n).2=0→(find ds n).1.kind=3→ComOk (find ds n).1)(n:ByteArray):Cm ds lo (comStep ds s n):=by
 unfold comStep
 by_cases hk:(find ds n).2=0∧(find ds n).1.kind=3
 ·rw[if_pos hk]
  have ho:=hc n hk.1 hk.2
  have hp:=h.pos
  have hb:=next_bounds (a:=s.pos) (by omega) ho.align
  have hd:=next_div (a:=s.pos) ho.align
  have hz:=ho.size0
  generalize next s.pos (find ds n).1.align=x at hb hd ⊢
  refine⟨by show lo≤x+_;omega,by simp[h.len],fun i m hm=>?_,fun i m hi hm=>?_⟩
  ·show (find ds m).2=0∧(find ds m).1.kind=3∧ComOk (find ds m).1∧(s.at_++[x]).getD i 0 % (find ds m).1.align=0∧lo≤(s.at_++[x]).getD i 0∧(s.at_++[x]).getD i 0+(find ds m).1.size≤x+(find ds n).1.size
   have hm':(s.names++[n])[i]?=some m:=hm
   rw[getD_snoc]
   by_cases e:i<s.names.length
   ·rw[List.getElem?_append_left e] at hm'
    rw[if_neg (by rw[←h.len];omega)]
    obtain⟨e1,e2,e3,e4,e5,e6⟩:=h.each i m hm'
    exact⟨e1,e2,e3,e4,e5,by omega⟩
   ·rw[List.getElem?_append_right (by omega)] at hm'
    have e2:i-s.names.length=0:=by
     have:=(List.getElem?_eq_some_iff.1 hm').1
     simp at this
     omega
    rw[e2] at hm'
    cases hm'
    rw[if_pos (by rw[←h.len];omega)]
    exact⟨hk.1,hk.2,ho,hd,by omega,Int.le_refl _⟩
  ·show (s.at_++[x]).getD i 0+(find ds m).1.size≤(s.at_++[x]).getD (i+1) 0
   have hi':i+1<(s.names++[n]).length:=hi
   rw[List.length_append,List.length_singleton] at hi'
   have hm':(s.names++[n])[i]?=some m:=hm
   rw[List.getElem?_append_left (by omega)] at hm'
   rw[getD_snoc,getD_snoc,if_neg (by rw[←h.len];omega)]
   by_cases e:i+1=s.at_.length
   ·rw[if_pos e]
    have:=(h.each i m hm').2.2.2.2.2
    omega
   ·rw[if_neg e]
    exact h.rise i m (by rw[h.len];rw[←h.len] at e ⊢;omega) hm'
 ·rw[if_neg hk];exact h
theorem Cm.fold{ds:List Dfn}{lo:Int}(h0:0≤lo)(hc:∀n,(find ds n).2=0→(find ds n).1.kind=3→ComOk (find ds n).1):∀(L:List ByteArray) (s:CS),Cm ds lo s→Cm ds lo (L.foldl (comStep ds) s)
 | [],_,h=>h
 | n::L,s,h=>Cm.fold h0 hc L _ (h.step h0 hc n)
theorem com_names(ds:List Dfn):∀(L:List ByteArray) (s:CS),∃F:ByteArray→Bool,(L.foldl (comStep ds) s).names=s.names++L.filter F
 | L,s=>⟨fun n=>decide ((find ds n).2=0∧(find ds n).1.kind=3),by
  induction L generalizing s with
  | nil=>simp
  | cons n L ih =>
   rw[List.foldl_cons,ih]
   unfold comStep
   by_cases hk:(find ds n).2=0∧(find ds n).1.kind=3
   ·rw[if_pos hk,List.filter_cons,if_pos (by simpa using hk)]
    simp
   ·rw[if_neg hk,List.filter_cons,if_neg (by simpa using hk)]⟩
structure Apart (p:Prt) (base:Int):Prop where
 fr16:∀i,1≤i→i≤5→(layAll p base).fr i % 16=0
 fr1:base≤(layAll p base).fr 1
 frN:∀i,1≤i→i≤4→(layAll p base).ti i≤(layAll p base).fr (i+1)
 ti:∀i,1≤i→i≤5→(layAll p base).fr i≤(layAll p base).ti i∧(layAll p base).ti i≤65536∧0≤(layAll p base).fr i
 frag:∀(j:Nat) (f:Frg) (k:Nat),p.frags[j]?=some f→f.sect=k→(layAll p base).frags.getD j 0 % f.align=0∧(layAll p base).fr k≤(layAll p base).frags.getD j 0∧(layAll p base).frags.getD j 0+long f≤(layAll p base).ti k
 apart:∀(j k:Nat) (f g:Frg),k<j→p.frags[j]?=some f→p.frags[k]?=some g→f.sect=g.sect→(f.sect≠3→(layAll p base).frags.getD k 0+long g≤(layAll p base).frags.getD j 0)∧(f.sect=3→(f.align=g.align→f.bytes=g.bytes→(layAll p base).frags.getD j 0=(layAll p base).frags.getD k 0)∧((layAll p base).frags.getD j 0=(layAll p base).frags.getD k 0∨(layAll p base).frags.getD k 0+long g≤(layAll p base).frags.getD j 0∨(layAll p base).frags.getD j 0+long f≤(layAll p base).frags.getD k 0))
 lenF:(layAll p base).frags.length=p.frags.length
 lenN:(layAll p base).names.length=(layAll p base).coms.length
 com:∀(i:Nat) (n:ByteArray),(layAll p base).names[i]?=some n→(find p.defs n).2=0∧(find p.defs n).1.kind=3∧ComOk (find p.defs n).1∧(layAll p base).coms.getD i 0 % (find p.defs n).1.align=0∧(layAll p base).fr 5≤(layAll p base).coms.getD i 0∧(layAll p base).coms.getD i 0+(find p.defs n).1.size≤(layAll p base).ti 5
 zero:∀(i j:Nat) (n:ByteArray) (f:Frg),(layAll p base).names[i]?=some n→p.frags[j]?=some f→f.sect=5→(layAll p base).frags.getD j 0+f.size≤(layAll p base).coms.getD i 0
 rise:∀(i:Nat) (n:ByteArray),i+1<(layAll p base).names.length→(layAll p base).names[i]?=some n→(layAll p base).coms.getD i 0+(find p.defs n).1.size≤(layAll p base).coms.getD (i+1) 0
 strict:Strict (layAll p base).names
 twin:∀(j k:Nat) (f g:Frg),p.frags[j]?=some f→p.frags[k]?=some g→f.sect=3→g.sect=3→(f.bytes=g.bytes∧(layAll p base).frags.getD j 0=(layAll p base).frags.getD k 0)∨(layAll p base).frags.getD k 0+g.bytes.length≤(layAll p base).frags.getD j 0∨(layAll p base).frags.getD j 0+f.bytes.length≤(layAll p base).frags.getD k 0
theorem apart_of{p:Prt}{base:Int}(hp:Ok p)(h0:0≤base)(h5:tillOf p base 5≤65536):Apart p base:=by
 have hf:∀f∈p.frags,FrgOk f:=fun f hf=>frgOk_of (hp.shape f hf)
 have hn:=hp.nf
 have hpos:=secN_pos hf hn h0
 have hm:=sec_mono hf hn h0
 have hc:∀n,(find p.defs n).2=0→(find p.defs n).1.kind=3→ComOk (find p.defs n).1:=fun n h1 h2=>common_ok hp n h1 h2
 have hcm:Cm p.defs (secN p.frags base 5).2 (commons p (secN p.frags base 5).2):=Cm.fold (by have:=(hpos 5).1;omega) hc (defined p) ⟨[],[],(secN p.frags base 5).2⟩ ⟨Int.le_refl _,rfl,(fun i n h=>by cases h),fun i n h=>absurd h (Nat.not_lt_zero _)⟩
 have hfr:∀i,1≤i→i≤5→(layAll p base).fr i=next (secN p.frags base (i-1)).2 16:=fun i h1 h2=>by rw[lay_fr];unfold frAt;rw[if_pos ⟨h1,h2⟩]
 have hti:∀i,1≤i→i≤5→(layAll p base).ti i=tillOf p base i:=fun i h1 h2=>by rw[lay_ti];unfold tiAt;rw[if_pos ⟨h1,h2⟩]
 have htl:∀i,i≤4→tillOf p base i=(secN p.frags base i).2:=fun i h=>by unfold tillOf;rw[if_neg (by omega)]
 have ht5:tillOf p base 5=(commons p (secN p.frags base 5).2).pos:=by unfold tillOf;rw[if_pos rfl]
 have htg:∀i,i≤5→(secN p.frags base i).2≤tillOf p base i:=fun i h=>by
  by_cases e:i=5
  ·subst e;rw[ht5];exact hcm.pos
  ·rw[htl i (by omega)];exact Int.le_refl _
 have hup:∀i,i≤5→(secN p.frags base i).2≤65536:=by
  have m0:next (secN p.frags base 0).2 16≤(secN p.frags base 1).2∧(secN p.frags base 0).2≤next (secN p.frags base 0).2 16:=hm 0
  have m1:next (secN p.frags base 1).2 16≤(secN p.frags base 2).2∧(secN p.frags base 1).2≤next (secN p.frags base 1).2 16:=hm 1
  have m2:next (secN p.frags base 2).2 16≤(secN p.frags base 3).2∧(secN p.frags base 2).2≤next (secN p.frags base 2).2 16:=hm 2
  have m3:next (secN p.frags base 3).2 16≤(secN p.frags base 4).2∧(secN p.frags base 3).2≤next (secN p.frags base 3).2 16:=hm 3
  have m4:next (secN p.frags base 4).2 16≤(secN p.frags base 5).2∧(secN p.frags base 4).2≤next (secN p.frags base 4).2 16:=hm 4
  have m5:=htg 5 (by omega)
  intro i hi
  have hcase:i=0∨i=1∨i=2∨i=3∨i=4∨i=5:=by omega
  rcases hcase with rfl|rfl|rfl|rfl|rfl|rfl<;>omega
 have hsec:∀(j:Nat) (f:Frg) (k:Nat),p.frags[j]?=some f→f.sect=(k:Int)+1→k≤4→(layAll p base).frags.getD j 0=(secN p.frags base (k+1)).1.getD j 0:=fun j f k hj hs hk=>by
  rw[lay_frags]
  have:=sec_keep (base:=base) hj (4-k) (k+1) (by rw[hs];omega)
  rw[show k+1+(4-k)=5 by omega] at this
  exact this
 have hkk:∀f∈p.frags,∃k:Nat,f.sect=(k:Int)+1∧k≤4:=fun f h=>by
  have:=(hf f h).sect
  exact⟨(f.sect-1).toNat,by omega,by omega⟩
 refine⟨fun i h1 h2=>?_,?_,fun i h1 h2=>?_,fun i h1 h2=>?_,fun j f k hj hs=>?_,fun j k f g hkj hj hk hs=>?_,?_,hcm.len,fun i n hi=>?_,fun i j n f hi hj hs=>?_,fun i n hi hn=>?_,?_,fun j k f g hj hk h3 h3'=>?_⟩
 ·rw[hfr i h1 h2];exact next_div (.inr (.inr (.inr (.inr rfl))))
 ·rw[hfr 1 (by omega) (by omega)]
  exact(hm 0).2
 ·rw[hti i h1 (by omega),hfr (i+1) (by omega) (by omega),htl i h2,Nat.add_sub_cancel]
  exact(hm i).2
 ·rw[hfr i h1 h2,hti i h1 h2]
  obtain⟨m,rfl⟩:∃m,i=m+1:=⟨i-1,by omega⟩
  rw[Nat.add_sub_cancel]
  have a1:=(hm m).1
  have a2:=(hm m).2
  have a3:=htg (m+1) h2
  have a4:=(hpos m).1
  refine⟨by omega,?_,by omega⟩
  by_cases e:m+1=5
  ·rw[e];exact h5
  ·rw[htl (m+1) (by omega)];exact hup _ h2
 ·obtain⟨m,hm1,hm4⟩:=hkk f (List.mem_of_getElem? hj)
  obtain rfl:k=m+1:=by omega
  have hap:=(sec_ap hf hn h0 m).each j f (List.getElem?_eq_some_iff.1 hj).1 hj hm1
  rw[hsec j f m hj hm1 hm4,hfr (m+1) (by omega) (by omega),hti (m+1) (by omega) (by omega),Nat.add_sub_cancel]
  have hg:=htg (m+1) (by omega)
  have e1:(layFrags ((m:Int)+1) (secN p.frags base m).1 p.frags (next (secN p.frags base m).2 16)).adr=(secN p.frags base (m+1)).1:=rfl
  have e2:(layFrags ((m:Int)+1) (secN p.frags base m).1 p.frags (next (secN p.frags base m).2 16)).pos=(secN p.frags base (m+1)).2:=rfl
  rw[e1,e2] at hap
  exact⟨hap.2.1,hap.1,by omega⟩
 ·obtain⟨m,hm1,hm4⟩:=hkk f (List.mem_of_getElem? hj)
  have hg1:g.sect=(m:Int)+1:=hs▸hm1
  have hA:=sec_ap hf hn h0 m
  have e1:(layFrags ((m:Int)+1) (secN p.frags base m).1 p.frags (next (secN p.frags base m).2 16)).adr=(secN p.frags base (m+1)).1:=rfl
  have hjl:=(List.getElem?_eq_some_iff.1 hj).1
  have hkl:=(List.getElem?_eq_some_iff.1 hk).1
  rw[hsec j f m hj hm1 hm4,hsec k g m hk hg1 hm4]
  refine⟨fun h3=>?_,fun h3=>?_⟩
  ·have:=hA.pair (by omega) j k f g hkj hjl hj hk hm1 hg1
   rw[e1] at this
   exact this
  ·have l1:=hA.seen (by omega) j f hjl hj hm1
   have l2:=hA.seen (by omega) k g hkl hk hg1
   rw[e1] at l1 l2
   refine⟨fun ha hb=>?_,?_⟩
   ·rw[ha,hb,l2] at l1
    exact(Option.some.inj l1).symm
   ·have t:=hA.two _ (look_mem l1) _ (look_mem l2)
    simp only at t
    rw[long_text h3,long_text (hs▸h3)]
    rcases t with t|t|t
    ·exact .inl (congrArg (fun z:List Int × Int × Int=>z.2.2) t)
    ·exact .inr (.inr t)
    ·exact .inr (.inl t)
 ·rw[lay_frags];exact secN_len _ _ _
 ·rw[lay_names] at hi
  rw[lay_coms,hfr 5 (by omega) (by omega),hti 5 (by omega) (by omega),ht5]
  obtain⟨e1,e2,e3,e4,e5,e6⟩:=hcm.each i n hi
  have h45:next (secN p.frags base 4).2 16≤(secN p.frags base 5).2:=(hm 4).1
  exact⟨e1,e2,e3,e4,by show next (secN p.frags base 4).2 16≤_;omega,e6⟩
 ·rw[lay_names] at hi
  rw[lay_coms,hsec j f 4 hj hs (by omega)]
  have hap:=(sec_ap hf hn h0 4).each j f (List.getElem?_eq_some_iff.1 hj).1 hj hs
  have e1:(layFrags (((4:Nat):Int)+1) (secN p.frags base 4).1 p.frags (next (secN p.frags base 4).2 16)).adr=(secN p.frags base (4+1)).1:=rfl
  have e2:(layFrags (((4:Nat):Int)+1) (secN p.frags base 4).1 p.frags (next (secN p.frags base 4).2 16)).pos=(secN p.frags base 5).2:=rfl
  rw[e1,e2] at hap
  have hlf:long f=f.size:=by unfold long lng;rw[if_pos hs]
  have:=(hcm.each i n hi).2.2.2.2.1
  rw[hlf] at hap
  omega
 ·rw[lay_names] at hi hn
  rw[lay_coms]
  exact hcm.rise i n hi hn
 ·rw[lay_names]
  obtain⟨F,hF⟩:=com_names p.defs (defined p) ⟨[],[],(secN p.frags base 5).2⟩
  have:(commons p (secN p.frags base 5).2).names=(defined p).filter F:=by
   show (List.foldl (comStep p.defs) ⟨[],[],(secN p.frags base 5).2⟩ (defined p)).names=_
   rw[hF];rfl
  rw[this]
  exact filter_strict (rising_strict _) _
 ·have hA:=sec_ap hf hn h0 2
  have e1:(layFrags (((2:Nat):Int)+1) (secN p.frags base 2).1 p.frags (next (secN p.frags base 2).2 16)).adr=(secN p.frags base (2+1)).1:=rfl
  have hjl:=(List.getElem?_eq_some_iff.1 hj).1
  have hkl:=(List.getElem?_eq_some_iff.1 hk).1
  rw[hsec j f 2 hj h3 (by omega),hsec k g 2 hk h3' (by omega)]
  have l1:=hA.seen (by omega) j f hjl hj h3
  have l2:=hA.seen (by omega) k g hkl hk h3'
  rw[e1] at l1 l2
  have t:=hA.two _ (look_mem l1) _ (look_mem l2)
  simp only at t
  rcases t with t|t|t
  ·exact .inl ⟨congrArg (fun z:List Int × Int × Int=>z.1) t,congrArg (fun z:List Int × Int × Int=>z.2.2) t⟩
  ·exact .inr (.inr t)
  ·exact .inr (.inl t)
end Go.Proofs.YtpkfmfhodbjckaaGreatDoor.M
namespace Go.Proofs.YtpkfmfhodbjckaaGreatDoor
open Go Go.RowKit
theorem lay_facts{p:M.Prt}{base:Int}(h:(M.lay p base).2=0):M.checkPart p=0∧0≤base∧base<65536∧M.lay p base=(M.layAll p base,0)∧M.Apart p base:=by
 unfold M.lay at h ⊢
 split at h
 ·rename_i hck
  rw[if_pos hck]
  split at h
  ·cases h
  ·rename_i hb
   rw[if_neg hb]
   split at h
   ·cases h
   ·rename_i ht
    rw[if_neg ht]
    exact⟨hck,by omega,by omega,rfl,M.apart_of ((M.ok_iff p).1 hck) (by omega) (by omega)⟩
 ·rename_i hck
  exact absurd h hck
theorem names_few{p:M.Prt}(h:M.Ok p)(base:Int):(M.layAll p base).names.length≤60:=by
 obtain⟨F,hF⟩:=M.com_names p.defs (M.defined p) ⟨[],[],(M.secN p.frags base 5).2⟩
 have h1:(M.layAll p base).names=(M.defined p).filter F:=by
  show (M.commons p (M.secN p.frags base 5).2).names=_
  unfold M.commons
  rw[hF];rfl
 have h2:(M.defined p).length≤(M.definedNames p.defs).length:=rising_le (M.definedNames p.defs)
 have h3:(M.definedNames p.defs).length=p.defs.length:=by simp[M.definedNames]
 have h4:=List.length_filter_le F (M.defined p)
 have h5:=h.nd
 rw[h1]
 omega
theorem frag_in{p:M.Prt}{base:Int}(hp:M.Ok p)(ha:M.Apart p base){i:Nat}(hi:i<p.frags.length) :
  ∃k:Nat,(p.frags.getD i frg0).sect=k∧1≤k∧k≤5∧(M.layAll p base).fr k≤(M.layAll p base).frags.getD i 0∧(M.layAll p base).frags.getD i 0+M.long (p.frags.getD i frg0)≤(M.layAll p base).ti k∧0≤M.long (p.frags.getD i frg0):=by
 have hf:=M.frgOk_of (hp.shape _ (getD_mem p.frags frg0 i hi))
 have hs:=hf.sect
 obtain⟨k,hk⟩:∃k:Nat,(p.frags.getD i frg0).sect=k:=⟨(p.frags.getD i frg0).sect.toNat,by omega⟩
 obtain⟨_,h2,h3⟩:=ha.frag i (p.frags.getD i frg0) k (getElem?_getD p.frags frg0 i hi) hk
 exact⟨k,hk,by omega,by omega,h2,h3,hf.long0⟩
theorem lkOk_of{p:M.Prt}{base:Int}(hck:M.checkPart p=0)(ha:M.Apart p base):M.LkOk p (M.layAll p base):=by
 have hp:=(M.ok_iff p).1 hck
 refine⟨hck,ha.lenF,fun x hx=>?_,Nat.le_trans (names_few hp base) (by decide)⟩
 obtain⟨i,hi,rfl⟩:=List.getElem_of_mem hx
 obtain⟨k,_,h1,h2,h3,h4,h5⟩:=frag_in hp ha (i:=i) (by rw[←ha.lenF];exact hi)
 have hti:=ha.ti k h1 h2
 have e:(M.layAll p base).frags.getD i 0=(M.layAll p base).frags[i]:=by rw[List.getD_eq_getElem?_getD,List.getElem?_eq_getElem hi];rfl
 rw[e] at h3 h4
 omega
theorem segOk_of{p:M.Prt}{base:Int}(hp:M.Ok p)(ha:M.Apart p base){a z:Nat}(h:(a=1∧z=1)∨(a=2∧z=3)∨(a=4∧z=4)):SegOk p (M.layAll p base) a z:=by
 have t1:=ha.ti 1 (by decide) (by decide)
 have t2:=ha.ti 2 (by decide) (by decide)
 have t3:=ha.ti 3 (by decide) (by decide)
 have t4:=ha.ti 4 (by decide) (by decide)
 have n2:=ha.frN 2 (by decide) (by decide)
 have n2':(M.layAll p base).ti 2≤(M.layAll p base).fr 3:=n2
 rcases h with ⟨rfl,rfl⟩|⟨rfl,rfl⟩|⟨rfl,rfl⟩
 ·refine⟨⟨by decide,by decide⟩,t1.2.2,t1.1,t1.2.1,fun i hi h1 h2=>?_⟩
  obtain⟨k,hk,k1,k2,k3,k4,k5⟩:=frag_in hp ha hi
  obtain rfl:k=1:=by omega
  omega
 ·refine⟨⟨by decide,by decide⟩,t2.2.2,by omega,t3.2.1,fun i hi h1 h2=>?_⟩
  obtain⟨k,hk,k1,k2,k3,k4,k5⟩:=frag_in hp ha hi
  have:k=2∨k=3:=by omega
  rcases this with rfl|rfl<;>omega
 ·refine⟨⟨by decide,by decide⟩,t4.2.2,t4.1,t4.2.1,fun i hi h1 h2=>?_⟩
  obtain⟨k,hk,k1,k2,k3,k4,k5⟩:=frag_in hp ha hi
  obtain rfl:k=4:=by omega
  omega
end Go.Proofs.YtpkfmfhodbjckaaGreatDoor
