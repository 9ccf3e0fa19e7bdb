/-
  Plain mathematics: linked sixteen addresses farther. Plain mathematics: which faults a link tells. What is put is got, and all else is as it was: plain mathematics. Plain mathematics: the bytes of a fragment with its numbers in their places, and where they come to in their segment. Plain mathematics of the reference's Linked: what its memory holds comes to the bytes of the segments.
-/
import Derived.Test.YtpkfmfhodbjckaaGreatDoorLkMath2
import Derived.Test.YtpkfmfhodbjckaaGreatDoorLkLink
import Derived.Test.YtpkfmfhodbjckaaGreatDoorTwF
set_option linter.unusedVariables false
namespace Go.Proofs.YtpkfmfhodbjckaaGreatDoor
open Go Go.RowKit
structure ImgMoved (m n:M.Img):Prop where
 entry:n.entry=m.entry+16
 e0:0≤m.entry∧m.entry≤65536
 len:m.segs.length=3∧n.segs.length=3
 seg:∀k,k<3→(n.segs.getD k M.seg0).pos=(m.segs.getD k M.seg0).pos+16∧0≤(m.segs.getD k M.seg0).pos∧(m.segs.getD k M.seg0).pos≤65536∧(n.segs.getD k M.seg0).bytes.length=(m.segs.getD k M.seg0).bytes.length ∧
  (n.segs.getD k M.seg0).zeros=(m.segs.getD k M.seg0).zeros∧(n.segs.getD k M.seg0).writes=(m.segs.getD k M.seg0).writes∧(n.segs.getD k M.seg0).works=(m.segs.getD k M.seg0).works
theorem faulty_app{l m:List Flt}{s:ByteArray}(h:M.faulty l s=true):M.faulty (l++m) s=true:=by
 unfold M.faulty at *
 rw[List.any_append,h,Bool.true_or]
end Go.Proofs.YtpkfmfhodbjckaaGreatDoor
namespace Go.Proofs.YtpkfmfhodbjckaaGreatDoor.M
open Go.RowKit
theorem whole_bytes{k n:Int}(hk:known k=true)(hf:fits k n=true):whole (byteAt n 0) (if wide k=2 then byteAt n 1 else 0) k=n:=by
 rcases kinds hk with rfl|rfl|rfl|rfl
 all_goals
  simp only[fits,lo,hi,within,wide,whole,byteAt,Bool.and_eq_true,decide_eq_true_eq] at hf ⊢
  simp at hf ⊢
  omega
theorem whole_fits{k a b:Int}(hk:known k=true)(ha:0≤a∧a<256)(hb:0≤b∧b<256)(h1:wide k=1→b=0):fits k (whole a b k)=true:=by
 rcases kinds hk with rfl|rfl|rfl|rfl
 ·obtain rfl:b=0:=h1 rfl
  simp[fits,lo,hi,within,whole,wide]
  omega
 ·simp[fits,lo,hi,within,whole,wide]
  omega
 ·obtain rfl:b=0:=h1 rfl
  simp[fits,lo,hi,within,whole,wide]
  split<;>omega
 ·simp[fits,lo,hi,within,whole,wide]
  split<;>omega
theorem byteAt_whole{k a b:Int}(hk:known k=true)(ha:0≤a∧a<256)(hb:0≤b∧b<256):byteAt (whole a b k) 0=a∧(wide k=2→byteAt (whole a b k) 1=b):=by
 unfold whole
 generalize fits k (a+256*b)=ft
 have hw:wide k=1∨wide k=2:=by rcases kinds hk with rfl|rfl|rfl|rfl<;>simp[wide]
 generalize wide k=wd at *
 rcases hw with rfl|rfl<;>cases ft<;>simp[byteAt]<;>omega
theorem putN_at{bs:List Int}{p:Nat}{n:Int} : ∀(w:Nat) (i:Nat),i<bs.length→(putN bs p n w).getD i 0=if p≤i∧i<p+w then byteAt n (i-p) else bs.getD i 0
 | 0,i,hi=>by
  rw[if_neg (by omega)];rfl
 | w+1,i,hi=>by
  have ih:=putN_at (bs:=bs) (p:=p) (n:=n) w i hi
  have hl:(putN bs p n w).length=bs.length:=putN_len bs p n w
  show ((putN bs p n w).set (p+w) (byteAt n w)).getD i 0=_
  rw[List.getD_eq_getElem?_getD] at ih ⊢
  rw[List.getElem?_set]
  by_cases e:p+w=i
  ·subst e
   rw[if_pos rfl,if_pos (by omega),if_pos (by omega),show p+w-p=w by omega];rfl
  ·rw[if_neg e,ih]
   by_cases h2:p≤i∧i<p+w
   ·rw[if_pos h2,if_pos (by omega)]
   ·rw[if_neg h2,if_neg (by omega)]
theorem getD_ext{l l':List Int}(hl:l.length=l'.length)(h:∀i,i<l.length→l.getD i 0=l'.getD i 0):l=l':=by
 refine List.ext_getElem hl fun i h1 h2=>?_
 have:=h i h1
 rw[List.getD_eq_getElem?_getD,List.getD_eq_getElem?_getD,List.getElem?_eq_getElem h1,List.getElem?_eq_getElem h2] at this
 exact this
theorem put_ok{bs c:List Int}{pos k n:Int}(h:putB bs pos k n=(c,0)):place bs.length pos k=0∧fits k n=true∧c=putN bs pos.toNat n (wide k).toNat:=by
 unfold putB at h
 by_cases h1:place bs.length pos k=0
 ·rw[if_pos h1] at h
  cases h2:fits k n
  ·rw[h2] at h;simp at h
  ·rw[h2] at h
   exact⟨h1,rfl,(congrArg Prod.fst h).symm⟩
 ·rw[if_neg h1] at h
  exact absurd (congrArg Prod.snd h) h1
theorem put_back{bs c:List Int}{pos k n:Int}(hb:∀b∈bs,0≤b∧b<256)(h:putB bs pos k n=(c,0)) :
  c.length=bs.length∧get c pos k=(n,0)∧(∀i:Nat,i<bs.length→((i:Int)<pos∨pos+wide k≤(i:Int))→bs.getD i 0=c.getD i 0)∧∃x,get bs pos k=(x,0)∧putB c pos k x=(bs,0):=by
 obtain⟨hp,hf,rfl⟩:=put_ok h
 obtain⟨hk,hl,hp0,hpw⟩:=place_ok hp
 have hlen:(putN bs pos.toNat n (wide k).toNat).length=bs.length:=putN_len _ _ _ _
 have hw:wide k=1∨wide k=2:=by rcases kinds hk with rfl|rfl|rfl|rfl<;>simp[wide]
 have hr:∀i,0≤bs.getD i 0∧bs.getD i 0<256:=fun i=>by
  by_cases hi:i<bs.length
  ·exact hb _ (getD_mem bs 0 i hi)
  ·rw[List.getD_eq_getElem?_getD,List.getElem?_eq_none (by omega)];decide
 have hr2:0≤second bs pos.toNat k∧second bs pos.toNat k<256:=by
  unfold second;split
  ·exact hr _
  ·decide
 refine⟨hlen,?_,fun i hi ho=>?_,whole (bs.getD pos.toNat 0) (second bs pos.toNat k) k,?_,?_⟩
 ·unfold get
  rw[hlen,if_pos hp]
  have e1:(putN bs pos.toNat n (wide k).toNat).getD pos.toNat 0=byteAt n 0:=by
   rw[putN_at _ _ (by omega),if_pos (by omega),Nat.sub_self]
  have e2:second (putN bs pos.toNat n (wide k).toNat) pos.toNat k=if wide k=2 then byteAt n 1 else 0:=by
   unfold second
   rcases hw with h1|h1
   ·rw[h1];rfl
   ·rw[if_pos h1,if_pos h1,putN_at _ _ (by omega),if_pos (by omega),show pos.toNat+1-pos.toNat=1 by omega]
  rw[e1,e2,whole_bytes hk hf]
 ·rw[putN_at _ _ hi,if_neg (by omega)]
 ·unfold get
  rw[if_pos hp]
 ·have hfx:=whole_fits (k:=k) (a:=bs.getD pos.toNat 0) (b:=second bs pos.toNat k) hk (hr _) hr2 (fun h1=>by unfold second;rw[if_neg (by omega)])
  obtain⟨hx0,hx1⟩:=byteAt_whole (k:=k) (a:=bs.getD pos.toNat 0) (b:=second bs pos.toNat k) hk (hr _) hr2
  generalize whole (bs.getD pos.toNat 0) (second bs pos.toNat k) k=x at *
  unfold putB
  rw[hlen,if_pos hp,hfx]
  have e:putN (putN bs pos.toNat n (wide k).toNat) pos.toNat x (wide k).toNat=bs:=by
   refine getD_ext (by rw[putN_len,putN_len]) fun i hi=>?_
   rw[putN_len,putN_len] at hi
   rw[putN_at _ _ (by rw[putN_len];exact hi)]
   by_cases hin:pos.toNat≤i∧i<pos.toNat+(wide k).toNat
   ·rw[if_pos hin]
    rcases(by omega:i=pos.toNat∨i=pos.toNat+1∧wide k=2) with rfl|⟨rfl,h2⟩
    ·rw[Nat.sub_self,hx0]
    ·rw[show pos.toNat+1-pos.toNat=1 by omega,hx1 h2,second,if_pos h2]
   ·rw[if_neg hin,putN_at _ _ hi,if_neg hin]
  rw[e];rfl
end Go.Proofs.YtpkfmfhodbjckaaGreatDoor.M
namespace Go.Proofs.YtpkfmfhodbjckaaGreatDoor
open Go Go.RowKit
theorem swithin_iff{n lo hi:Int} : M.within n lo hi=true↔lo≤n∧n≤hi:=by
 unfold M.within;simp
theorem get_congr{C D:List Int}{pos k:Int}(hp:M.place D.length pos k=0)(hl:C.length=D.length)(h:∀j:Nat,pos≤(j:Int)→(j:Int)<pos+M.wide k→C.getD j 0=D.getD j 0):M.get C pos k=M.get D pos k:=by
 obtain⟨hk,hlen,hp0,hpw⟩:=place_ok hp
 have hw:M.wide k=1∨M.wide k=2:=by rcases M.kinds hk with rfl|rfl|rfl|rfl<;>simp[M.wide]
 have e0:C.getD pos.toNat 0=D.getD pos.toNat 0:=h pos.toNat (by omega) (by omega)
 have e1:M.second C pos.toNat k=M.second D pos.toNat k:=by
  unfold M.second
  by_cases h2:M.wide k=2
  ·rw[if_pos h2,if_pos h2];exact h (pos.toNat+1) (by omega) (by omega)
  ·rw[if_neg h2,if_neg h2]
 unfold M.get
 rw[hl,e0,e1]
theorem value_fits{k pos tt add:Int}(h:(M.value k pos tt add).2=0):M.known k=true∧M.fits k (M.value k pos tt add).1=true:=by
 unfold M.value at h ⊢
 split at h
 ·cases h
 ·rename_i h1
  split at h
  ·cases h
  ·rename_i h2
   split at h
   ·cases h
   ·rename_i h3
    rw[if_neg h1,if_neg h2,if_neg h3]
    exact⟨by simpa using h1,by simpa using h3⟩
theorem number_fits{p:M.Prt}{l:M.Lay}{i:Nat}{r:M.Rel}(h:(M.number p l i r).2=0):M.known r.kind=true∧M.fits r.kind (M.number p l i r).1=true∧(M.leads p l r).2=0:=by
 by_cases hl:(M.leads p l r).2=0
 ·rw[number_ok hl] at h ⊢
  have:=value_fits h
  exact⟨this.1,this.2,hl⟩
 ·rw[number_err hl] at h
  exact absurd h hl
theorem place_of{len many:Int}{r:M.Rel}(h:M.RelOk many len r)(hl:len≤64):M.place len r.pos r.kind=0:=by
 unfold M.place
 rw[if_neg (by rw[h.kind];decide),if_neg (by omega),if_neg]
 have:=h.pos0
 have:=h.pos
 rw[swithin_iff.2 (by omega)];decide
theorem fold_places(p:M.Prt)(l:M.Lay)(i:Nat)(n:Nat)(many:Int)(hn:n≤64):∀(rs:List M.Rel) (e:Int) (B:List Int),0≤e→M.checkRels n many e rs=0→(∀r∈rs,(M.number p l i r).2=0)→B.length=n→(∀b∈B,0≤b∧b<256) →
  (rs.foldl (M.fillRel p l i) B).length=n∧(∀b∈rs.foldl (M.fillRel p l i) B,0≤b∧b<256)∧(∀j:Nat,j<n→(j:Int)<e→(rs.foldl (M.fillRel p l i) B).getD j 0=B.getD j 0) ∧
  (∀j:Nat,j<n→(∀r∈rs,(j:Int)<r.pos∨r.pos+M.wide r.kind≤(j:Int))→(rs.foldl (M.fillRel p l i) B).getD j 0=B.getD j 0)∧∀r∈rs,M.get (rs.foldl (M.fillRel p l i) B) r.pos r.kind=((M.number p l i r).1,0)
 | [],e,B,_,_,_,hB,hb=>⟨hB,hb,fun _ _ _=>rfl,fun _ _ _=>rfl,fun r hr=>by cases hr⟩
 | x::rs,e,B,he,hc,hnum,hB,hb=>by
  have hx:=M.rels_ok n many (x::rs) e he hc x (List.mem_cons_self ..)
  have hpl:M.place B.length x.pos x.kind=0:=by rw[hB];exact place_of hx.1 (by omega)
  obtain⟨hk,hf,_⟩:=number_fits (hnum x (List.mem_cons_self ..))
  obtain⟨B',hB'⟩:∃B',M.putB B x.pos x.kind (M.number p l i x).1=(B',0):=by
   unfold M.putB
   rw[if_pos hpl,if_pos hf]
   exact⟨_,rfl⟩
  obtain⟨q1,q2,q3,_⟩:=M.put_back hb hB'
  have hw0:1≤M.wide x.kind:=by rcases M.kinds hk with h|h|h|h<;>rw[h]<;>decide
  have hb':∀b∈B',0≤b∧b<256:=by
   have hput:=(M.put_ok hB').2.2
   rw[hput]
   exact fun b hbm=>putN_range hb _ _ _ b hbm
  have hstep:M.fillRel p l i B x=B':=by unfold M.fillRel;rw[hB']
  have hc2:M.checkRels n many (x.pos+M.wide x.kind) rs=0:=by
   unfold M.checkRels at hc
   split at hc
   ·split at hc
    ·exact hc
    ·rename_i ht;exact absurd hc ht
   ·cases hc
  have hp0:=hx.1.pos0
  have ih:=fold_places p l i n many hn rs (x.pos+M.wide x.kind) B' (by omega) hc2 (fun r hr=>hnum r (List.mem_cons_of_mem _ hr)) (by rw[q1,hB]) hb'
  have hfold:(x::rs).foldl (M.fillRel p l i) B=rs.foldl (M.fillRel p l i) B':=by rw[List.foldl_cons,hstep]
  rw[hfold]
  obtain⟨i1,i2,i3,i4,i5⟩:=ih
  refine⟨i1,i2,fun j hj hje=>?_,fun j hj hout=>?_,fun r hr=>?_⟩
  ·rw[i3 j hj (by omega),←q3 j (by omega) (.inl (by omega))]
  ·rw[i4 j hj (fun r hr=>hout r (List.mem_cons_of_mem _ hr)),←q3 j (by omega) (hout x (List.mem_cons_self ..))]
  ·rcases List.mem_cons.1 hr with rfl|hr
   ·rw[←q2]
    refine get_congr (by rw[q1];exact hpl) (by rw[i1,q1,hB]) (fun j h1 h2=>?_)
    have:=hx.1.pos
    exact i3 j (by omega) (by omega)
   ·exact i5 r hr
theorem over_at{O b:List Int}{pos:Nat}(h:pos+b.length≤O.length)(j:Nat)(hj:j<O.length):(M.over O pos b).getD j 0=if pos≤j∧j<pos+b.length then b.getD (j-pos) 0 else O.getD j 0:=by
 unfold M.over
 have hb:b.take (O.length-pos)=b:=List.take_of_length_le (by omega)
 rw[hb]
 simp only[List.getD_eq_getElem?_getD]
 by_cases h1:j<pos
 ·rw[if_neg (by omega),List.getElem?_append_left (by rw[List.length_take];omega),List.getElem?_take,if_pos h1]
 ·rw[List.getElem?_append_right (by rw[List.length_take];omega),List.length_take,Nat.min_eq_left (by omega)]
  by_cases h2:j<pos+b.length
  ·rw[if_pos ⟨by omega,h2⟩,List.getElem?_append_left (by omega)]
  ·rw[if_neg (by omega),List.getElem?_append_right (by omega),List.getElem?_drop]
   congr 2
   omega
structure Place (p:M.Prt) (l:M.Lay) (i:Nat) (f:M.Frg) (B:List Int):Prop where
 len:B.length=f.bytes.length
 rel:∀r∈f.rels,∃tt num,(r.name.toList.isEmpty=false→M.whereOf p l r.name=(tt,0))∧(r.name.toList.isEmpty=true→0≤r.frag∧r.frag<p.frags.length∧l.frags.getD r.frag.toNat 0=tt)∧M.value r.kind (l.frags.getD i 0+r.pos) tt r.add=(num,0)∧M.get B r.pos r.kind=(num,0) ∧
  0≤r.pos∧r.pos+M.wide r.kind≤f.bytes.length∧1≤M.wide r.kind∧M.wide r.kind≤2
 rest:∀k:Nat,k<f.bytes.length→(∀r∈f.rels,(k:Int)<r.pos∨r.pos+M.wide r.kind≤(k:Int))→B.getD k 0=f.bytes.getD k 0
theorem no_faults{p:M.Prt}{l:M.Lay}{s:ByteArray}(h:M.allFaults p l s=[]){i:Nat}(hi:i<p.frags.length){r:M.Rel}(hr:r∈(p.frags.getD i frg0).rels):(M.number p l i r).2=0:=by
 obtain⟨h1,h2⟩:=List.append_eq_nil_iff.1 h
 rw[h1] at h2
 unfold M.placeFaults M.placeFaultsN at h2
 have h3:=List.flatMap_eq_nil_iff.1 h2 i (by simpa using hi)
 unfold M.fragFaults at h3
 have h4:=List.flatMap_eq_nil_iff.1 h3 r hr
 unfold M.placeFault at h4
 rw[if_neg (by unfold M.faulty;simp)] at h4
 split at h4
 ·assumption
 ·cases h4
theorem segN_at{p:M.Prt}{base:Int}{s:ByteArray}(hp:M.Ok p)(ha:M.Apart p base)(hfl:∀i,i<p.frags.length→(M.filled p (M.layAll p base) i (p.frags.getD i frg0)).length=(p.frags.getD i frg0).bytes.length){a z:Nat}(hz:z≤4)(hso:SegOk p (M.layAll p base) a z)
  (hin:∀i,i<p.frags.length→(a:Int)≤(p.frags.getD i frg0).sect→(p.frags.getD i frg0).sect≤z→(M.layAll p base).fr a≤(M.layAll p base).frags.getD i 0∧(M.layAll p base).frags.getD i 0+(p.frags.getD i frg0).bytes.length≤(M.layAll p base).ti z) {i:Nat} (hi:i<p.frags.length) (h1:(a:Int)≤(p.frags.getD i frg0).sect) (h2:(p.frags.getD i frg0).sect≤z) :
  ∀n,i<n→n≤p.frags.length→∀k:Nat,k<(p.frags.getD i frg0).bytes.length→(M.segN p (M.layAll p base) a z n).getD (((M.layAll p base).frags.getD i 0-(M.layAll p base).fr a).toNat+k) 0=(M.filled p (M.layAll p base) i (p.frags.getD i frg0)).getD k 0:=by
 intro n
 induction n with
 | zero=>intro h;exact absurd h (Nat.not_lt_zero _)
 | succ n ih =>
  intro hin1 hn1 k hk
  have hpi:=hin i hi h1 h2
  have hlen:(M.segN p (M.layAll p base) a z n).length=((M.layAll p base).ti z-(M.layAll p base).fr a).toNat:=segN_len p _ a z n
  rw[segN_succ]
  by_cases hc:(a:Int)≤(p.frags.getD n frg0).sect∧(p.frags.getD n frg0).sect≤z
  ·rw[segStep_in hc]
   have hnl:n<p.frags.length:=hn1
   have hpn:=hin n hnl hc.1 hc.2
   have hfn:=hfl n hnl
   rw[over_at (by rw[hfn,hlen];omega) _ (by rw[hlen];omega),hfn]
   by_cases e:n=i
   ·subst e
    rw[if_pos (by omega)]
    congr 1
    omega
   ·have hlt:i<n:=by omega
    have ihk:=ih hlt (by omega) k hk
    have hgi:=getElem?_getD p.frags frg0 i hi
    have hgn:=getElem?_getD p.frags frg0 n hnl
    have lgi:M.long (p.frags.getD i frg0)=(p.frags.getD i frg0).bytes.length:=by unfold M.long M.lng;rw[if_neg (by omega)]
    have lgn:M.long (p.frags.getD n frg0)=(p.frags.getD n frg0).bytes.length:=by unfold M.long M.lng;rw[if_neg (by omega)]
    obtain⟨ci,hci,ci1,ci5,ci3,ci4,ci6⟩:=frag_in hp ha hi
    obtain⟨cn,hcn,cn1,cn5,cn3,cn4,cn6⟩:=frag_in hp ha hnl
    have apart:(M.layAll p base).frags.getD i 0+(p.frags.getD i frg0).bytes.length≤(M.layAll p base).frags.getD n 0∨(M.layAll p base).frags.getD n 0+(p.frags.getD n frg0).bytes.length≤(M.layAll p base).frags.getD i 0∨((p.frags.getD n frg0).bytes=(p.frags.getD i frg0).bytes∧(M.layAll p base).frags.getD n 0=(M.layAll p base).frags.getD i 0∧(p.frags.getD n frg0).sect=3∧(p.frags.getD i frg0).sect=3):=by
     have mono:∀x y:Nat,1≤x→x<y→y≤5→(M.layAll p base).ti x≤(M.layAll p base).fr y:=by
      have n1:(M.layAll p base).ti 1≤(M.layAll p base).fr 2:=ha.frN 1 (by decide) (by decide)
      have n2:(M.layAll p base).ti 2≤(M.layAll p base).fr 3:=ha.frN 2 (by decide) (by decide)
      have n3:(M.layAll p base).ti 3≤(M.layAll p base).fr 4:=ha.frN 3 (by decide) (by decide)
      have n4:(M.layAll p base).ti 4≤(M.layAll p base).fr 5:=ha.frN 4 (by decide) (by decide)
      have t2:=ha.ti 2 (by decide) (by decide)
      have t3:=ha.ti 3 (by decide) (by decide)
      have t4:=ha.ti 4 (by decide) (by decide)
      intro x y hx hxy hy
      have hxc:x=1∨x=2∨x=3∨x=4:=by omega
      have hyc:y=2∨y=3∨y=4∨y=5:=by omega
      rcases hxc with rfl|rfl|rfl|rfl<;>rcases hyc with rfl|rfl|rfl|rfl<;>omega
     by_cases hs:ci=cn
     ·subst hs
      by_cases h3:ci=3
      ·subst h3
       have tw:=ha.twin n i _ _ hgn hgi hcn hci
       rcases tw with ⟨t1,t2⟩|t|t
       ·exact .inr (.inr ⟨t1,t2,hcn,hci⟩)
       ·exact .inl t
       ·exact .inr (.inl t)
      ·have ap:=(ha.apart n i _ _ hlt hgn hgi (by rw[hci,hcn])).1 (by rw[hcn];omega)
       rw[lgi] at ap
       exact .inl ap
     ·by_cases hlt2:ci<cn
      ·have:=mono ci cn ci1 hlt2 cn5
       exact .inl (by omega)
      ·have:=mono cn ci cn1 (by omega) ci5
       exact .inr (.inl (by omega))
    rcases apart with h|h|⟨t1,t2,t3,t4⟩
    ·rw[if_neg (by omega)];exact ihk
    ·rw[if_neg (by omega)];exact ihk
    ·have f3:∀j,j<p.frags.length→(p.frags.getD j frg0).sect=3→M.filled p (M.layAll p base) j (p.frags.getD j frg0)=(p.frags.getD j frg0).bytes:=fun j hj h3=>by
      have hform:=(M.frag_parts (M.frag_ok hp (getD_mem p.frags frg0 j hj))).2.2.2.1
      unfold M.formed at hform
      rw[if_neg (by omega),if_pos h3] at hform
      simp only[Bool.and_eq_true,beq_iff_eq] at hform
      have:=List.eq_nil_of_length_eq_zero hform.2
      unfold M.filled
      rw[this];rfl
     rw[f3 n hnl t3,f3 i hi t4,t1,t2,if_pos (by omega)]
     congr 1
     omega
  ·rw[segStep_out hc]
   have hne:n≠i:=fun e=>by subst e;exact hc ⟨h1,h2⟩
   exact ih (by omega) (by omega) k hk
def wrB (m:Int→Int) (a v:Int):Int→Int:=fun x=>if x=a then v else m x
theorem wrB_self(m:Int→Int)(a v:Int):wrB m a v a=v:=if_pos rfl
theorem wrB_ne{m:Int→Int}{a v x:Int}(h:x≠a):wrB m a v x=m x:=if_neg h
section
variable {p : M.Prt} {base : Int}
theorem frags_meet(hp:M.Ok p)(ha:M.Apart p base){q i:Nat}(hq:q<p.frags.length)(hi:i<p.frags.length){k j:Nat}(hk:k<(p.frags.getD q frg0).bytes.length)(hj:j<(p.frags.getD i frg0).bytes.length)
  (e:(M.layAll p base).frags.getD q 0+(k:Int)=(M.layAll p base).frags.getD i 0+(j:Int)):(q=i∧k=j)∨((p.frags.getD q frg0).sect=3∧(p.frags.getD i frg0).sect=3∧(p.frags.getD q frg0).bytes=(p.frags.getD i frg0).bytes∧k=j):=by
 by_cases hqi:q=i
 ·subst hqi;exact .inl ⟨rfl,by omega⟩
 have hgi:=getElem?_getD p.frags frg0 i hi
 have hgq:=getElem?_getD p.frags frg0 q hq
 have lg:∀n,n<p.frags.length→0<(p.frags.getD n frg0).bytes.length→M.long (p.frags.getD n frg0)=(p.frags.getD n frg0).bytes.length:=fun n hn h0=>by
  have hform:=(M.frag_parts (M.frag_ok hp (getD_mem p.frags frg0 n hn))).2.2.2.1
  unfold M.formed at hform
  by_cases h5:(p.frags.getD n frg0).sect=5
  ·rw[if_pos h5] at hform
   simp only[Bool.and_eq_true,beq_iff_eq] at hform
   omega
  ·unfold M.long M.lng;rw[if_neg h5]
 have lgi:=lg i hi (by omega)
 have lgq:=lg q hq (by omega)
 obtain⟨ci,hci,ci1,ci5,ci3,ci4,ci6⟩:=frag_in hp ha hi
 obtain⟨cq,hcq,cq1,cq5,cq3,cq4,cq6⟩:=frag_in hp ha hq
 have mono:∀x y:Nat,1≤x→x<y→y≤5→(M.layAll p base).ti x≤(M.layAll p base).fr y:=by
  have n1:(M.layAll p base).ti 1≤(M.layAll p base).fr 2:=ha.frN 1 (by decide) (by decide)
  have n2:(M.layAll p base).ti 2≤(M.layAll p base).fr 3:=ha.frN 2 (by decide) (by decide)
  have n3:(M.layAll p base).ti 3≤(M.layAll p base).fr 4:=ha.frN 3 (by decide) (by decide)
  have n4:(M.layAll p base).ti 4≤(M.layAll p base).fr 5:=ha.frN 4 (by decide) (by decide)
  have t2:=ha.ti 2 (by decide) (by decide)
  have t3:=ha.ti 3 (by decide) (by decide)
  have t4:=ha.ti 4 (by decide) (by decide)
  intro x y hx hxy hy
  have hxc:x=1∨x=2∨x=3∨x=4:=by omega
  have hyc:y=2∨y=3∨y=4∨y=5:=by omega
  rcases hxc with rfl|rfl|rfl|rfl<;>rcases hyc with rfl|rfl|rfl|rfl<;>omega
 by_cases hs:ci=cq
 ·subst hs
  by_cases h3:ci=3
  ·subst h3
   rcases ha.twin q i _ _ hgq hgi hcq hci with ⟨t1,t2⟩|t|t
   ·exact .inr ⟨hcq,hci,t1,by omega⟩
   ·exfalso;omega
   ·exfalso;omega
  ·exfalso
   rcases Nat.lt_or_ge i q with h|h
   ·have ap:=(ha.apart q i _ _ h hgq hgi (by rw[hci,hcq])).1 (by rw[hcq];omega)
    rw[lgi] at ap
    omega
   ·have ap:=(ha.apart i q _ _ (by omega) hgi hgq (by rw[hci,hcq])).1 (by rw[hci];omega)
    rw[lgq] at ap
    omega
 ·exfalso
  by_cases hlt2:ci<cq
  ·have:=mono ci cq ci1 hlt2 cq5
   omega
  ·have:=mono cq ci cq1 (by omega) ci5
   omega
structure Q1 (p:M.Prt) (base:Int) (i j:Nat) (m:Int→Int):Prop where
 at':∀q k:Nat,q<p.frags.length→k<(p.frags.getD q frg0).bytes.length→(q<i∨(q=i∧k<j))→m ((M.layAll p base).frags.getD q 0+(k:Int))=(p.frags.getD q frg0).bytes.getD k 0
 out:∀x:Int,(∀q k:Nat,q<p.frags.length→k<(p.frags.getD q frg0).bytes.length→x≠(M.layAll p base).frags.getD q 0+(k:Int))→m x=0
theorem Q1.start:Q1 p base 0 0 (fun _=>0):=⟨fun q k _ _ h=>by omega,fun _ _=>rfl⟩
theorem Q1.step(hp:M.Ok p)(ha:M.Apart p base){i j:Nat}{m:Int→Int}(h:Q1 p base i j m)(hi:i<p.frags.length)(hj:j<(p.frags.getD i frg0).bytes.length):Q1 p base i (j+1) (wrB m ((M.layAll p base).frags.getD i 0+(j:Int)) ((p.frags.getD i frg0).bytes.getD j 0)):=by
 refine⟨fun q k hq hk hc=>?_,fun x hx=>?_⟩
 ·by_cases e:(M.layAll p base).frags.getD q 0+(k:Int)=(M.layAll p base).frags.getD i 0+(j:Int)
  ·rw[e,wrB_self]
   rcases frags_meet hp ha hq hi hk hj e with ⟨rfl,rfl⟩|⟨_,_,h1,rfl⟩
   ·rfl
   ·rw[h1]
  ·rw[wrB_ne e]
   refine h.at' q k hq hk ?_
   rcases hc with hc|⟨rfl,hc⟩
   ·exact .inl hc
   ·refine .inr ⟨rfl,?_⟩
    rcases Nat.lt_or_ge k j with h1|h1
    ·exact h1
    ·exact absurd (by rw[show k=j by omega]) e
 ·rw[wrB_ne (hx i j hi hj)]
  exact h.out x hx
theorem Q1.next{i:Nat}{m:Int→Int}(h:Q1 p base i (p.frags.getD i frg0).bytes.length m):Q1 p base (i+1) 0 m :=
 ⟨fun q k hq hk hc=>h.at' q k hq hk (by
  rcases hc with hc|⟨_,hc⟩
  ·rcases Nat.lt_or_ge q i with h1|h1
   ·exact .inl h1
   ·obtain rfl:q=i:=by omega
    exact .inr ⟨rfl,hk⟩
  ·omega),h.out⟩
def partF (p:M.Prt) (l:M.Lay) (i j:Nat):List Int:=((p.frags.getD i frg0).rels.take j).foldl (M.fillRel p l i) (p.frags.getD i frg0).bytes
def curF (p:M.Prt) (l:M.Lay) (i j q:Nat):List Int:=if q<i then M.filled p l q (p.frags.getD q frg0) else if q=i then partF p l i j else (p.frags.getD q frg0).bytes
structure Q2 (p:M.Prt) (base:Int) (i j:Nat) (m:Int→Int):Prop where
 at':∀q k:Nat,q<p.frags.length→k<(p.frags.getD q frg0).bytes.length→m ((M.layAll p base).frags.getD q 0+(k:Int))=(curF p (M.layAll p base) i j q).getD k 0
 out:∀x:Int,(∀q k:Nat,q<p.frags.length→k<(p.frags.getD q frg0).bytes.length→x≠(M.layAll p base).frags.getD q 0+(k:Int))→m x=0
theorem Q2.start{m:Int→Int}(h:Q1 p base p.frags.length 0 m):Q2 p base 0 0 m:=by
 refine⟨fun q k hq hk=>?_,h.out⟩
 rw[h.at' q k hq hk (.inl hq)]
 unfold curF partF
 rw[if_neg (Nat.not_lt_zero _)]
 split
 ·rename_i e;subst e;rfl
 ·rfl
theorem Q2.next{i:Nat}{m:Int→Int}(h:Q2 p base i (p.frags.getD i frg0).rels.length m):Q2 p base (i+1) 0 m:=by
 refine⟨fun q k hq hk=>?_,h.out⟩
 rw[h.at' q k hq hk]
 unfold curF
 rcases Nat.lt_trichotomy q i with h1|h1|h1
 ·rw[if_pos h1,if_pos (by omega)]
 ·subst h1
  rw[if_neg (Nat.lt_irrefl _),if_pos rfl,if_pos (by omega)]
  unfold partF M.filled
  rw[List.take_length]
 ·rw[if_neg (by omega),if_neg (by omega),if_neg (by omega)]
  split
  ·rename_i e;subst e;unfold partF;rfl
  ·rfl
def wrN (m:Int→Int) (a n:Int) (t:Nat):Int→Int:=fun x=>if a≤x∧x<a+(t:Int) then M.byteAt n (x-a).toNat else m x
theorem wrN_zero(m:Int→Int)(a n:Int):wrN m a n 0=m:=by
 funext x;unfold wrN;rw[if_neg (by omega)]
theorem wrN_succ(m:Int→Int)(a n:Int)(t:Nat):wrB (wrN m a n t) (a+(t:Int)) (M.byteAt n t)=wrN m a n (t+1):=by
 funext x
 unfold wrB wrN
 by_cases e:x=a+(t:Int)
 ·rw[if_pos e,if_pos (by omega),show (x-a).toNat=t by omega]
 ·rw[if_neg e]
  by_cases h:a≤x∧x<a+(t:Int)
  ·rw[if_pos h,if_pos (by omega)]
  ·rw[if_neg h,if_neg (by omega)]
theorem Q2.step(hp:M.Ok p)(ha:M.Apart p base){i j:Nat}{m:Int→Int}(h:Q2 p base i j m)(hi:i<p.frags.length){r:M.Rel}(hr:(p.frags.getD i frg0).rels[j]?=some r)(hk:M.known r.kind=true)(hf:M.fits r.kind (M.number p (M.layAll p base) i r).1=true)
  (hl:(partF p (M.layAll p base) i j).length=(p.frags.getD i frg0).bytes.length) (hpl:M.place (p.frags.getD i frg0).bytes.length r.pos r.kind=0) :
  Q2 p base i (j+1) (wrN m ((M.layAll p base).frags.getD i 0+r.pos) (M.number p (M.layAll p base) i r).1 (M.wide r.kind).toNat):=by
 have hpos:0≤r.pos∧r.pos+M.wide r.kind≤(p.frags.getD i frg0).bytes.length:=by
  unfold M.place at hpl
  rw[if_neg (by rw[hk];decide)] at hpl
  split at hpl
  ·cases hpl
  ·split at hpl
   ·cases hpl
   ·rename_i h1
    simp only[Bool.not_eq_false] at h1
    have:=swithin_iff.1 h1
    omega
 have hw0:0≤M.wide r.kind:=by have:=of_decide_eq_true hk;omega
 have hpart:partF p (M.layAll p base) i (j+1)=M.putN (partF p (M.layAll p base) i j) r.pos.toNat (M.number p (M.layAll p base) i r).1 (M.wide r.kind).toNat:=by
  have hlt:=(List.getElem?_eq_some_iff.1 hr).1
  have e:partF p (M.layAll p base) i (j+1)=M.fillRel p (M.layAll p base) i (partF p (M.layAll p base) i j) r:=by
   unfold partF
   rw[List.take_add_one,hr,Option.toList_some,List.foldl_append]
   rfl
  rw[e]
  unfold M.fillRel M.putB
  rw[hl,if_pos hpl,if_pos hf]
 have hno3:(p.frags.getD i frg0).sect≠3:=fun h3=>by
  have hform:=(M.frag_parts (M.frag_ok hp (getD_mem p.frags frg0 i hi))).2.2.2.1
  unfold M.formed at hform
  rw[if_neg (by omega),if_pos h3] at hform
  simp only[Bool.and_eq_true,beq_iff_eq] at hform
  rw[List.eq_nil_of_length_eq_zero hform.2] at hr
  cases hr
 refine⟨fun q k hq hkq=>?_,fun x hx=>?_⟩
 ·unfold wrN
  by_cases hin:(M.layAll p base).frags.getD i 0+r.pos≤(M.layAll p base).frags.getD q 0+(k:Int)∧(M.layAll p base).frags.getD q 0+(k:Int)<(M.layAll p base).frags.getD i 0+r.pos+((M.wide r.kind).toNat:Int)
  ·rw[if_pos hin]
   have e:(M.layAll p base).frags.getD q 0+(k:Int)=(M.layAll p base).frags.getD i 0+(((M.layAll p base).frags.getD q 0+(k:Int)-(M.layAll p base).frags.getD i 0).toNat:Int):=by omega
   rcases frags_meet hp ha hq hi hkq (by omega) e with ⟨rfl,e2⟩|⟨_,h3,_,_⟩
   ·unfold curF
    rw[if_neg (Nat.lt_irrefl _),if_pos rfl,hpart,M.putN_at _ _ (by rw[hl];exact hkq),if_pos (by omega)]
    congr 1
    omega
   ·exact absurd h3 hno3
  ·rw[if_neg hin,h.at' q k hq hkq]
   unfold curF
   by_cases hqi:q<i
   ·rw[if_pos hqi,if_pos hqi]
   ·rw[if_neg hqi,if_neg hqi]
    by_cases he:q=i
    ·subst he
     rw[if_pos rfl,if_pos rfl,hpart,M.putN_at _ _ (by rw[hl];exact hkq),if_neg (by omega)]
    ·rw[if_neg he,if_neg he]
 ·unfold wrN
  rw[if_neg (fun hin=>?_)]
  ·exact h.out x hx
  ·exact hx i (x-(M.layAll p base).frags.getD i 0).toNat hi (by omega) (by omega)
theorem segN_zero(hfl:∀i,i<p.frags.length→(M.filled p (M.layAll p base) i (p.frags.getD i frg0)).length=(p.frags.getD i frg0).bytes.length){a z:Nat}
  (hin:∀i,i<p.frags.length→(a:Int)≤(p.frags.getD i frg0).sect→(p.frags.getD i frg0).sect≤z→(M.layAll p base).fr a≤(M.layAll p base).frags.getD i 0∧(M.layAll p base).frags.getD i 0+(p.frags.getD i frg0).bytes.length≤(M.layAll p base).ti z) {x:Nat} (hx:x<((M.layAll p base).ti z-(M.layAll p base).fr a).toNat)
  (hno:∀q k:Nat,q<p.frags.length→k<(p.frags.getD q frg0).bytes.length→(M.layAll p base).fr a+(x:Int)≠(M.layAll p base).frags.getD q 0+(k:Int)) :
  ∀n,n≤p.frags.length→(M.segN p (M.layAll p base) a z n).getD x 0=0
 | 0,_=>by
  show (List.replicate _ 0).getD x 0=0
  rw[List.getD_eq_getElem?_getD,List.getElem?_replicate]
  split<;>rfl
 | n+1,hn=>by
  have ih:=segN_zero hfl hin hx hno n (by omega)
  have hlen:(M.segN p (M.layAll p base) a z n).length=((M.layAll p base).ti z-(M.layAll p base).fr a).toNat:=segN_len p _ a z n
  rw[segN_succ]
  by_cases hc:(a:Int)≤(p.frags.getD n frg0).sect∧(p.frags.getD n frg0).sect≤z
  ·rw[segStep_in hc]
   have hpn:=hin n hn hc.1 hc.2
   have hfn:=hfl n hn
   rw[over_at (by rw[hfn,hlen];omega) _ (by rw[hlen];omega),hfn,if_neg]
   ·exact ih
   ·intro hh
    exact hno n (x-((M.layAll p base).frags.getD n 0-(M.layAll p base).fr a).toNat) hn (by omega) (by omega)
  ·rw[segStep_out hc];exact ih
theorem Q2.seg(hp:M.Ok p)(ha:M.Apart p base)(hfl:∀i,i<p.frags.length→(M.filled p (M.layAll p base) i (p.frags.getD i frg0)).length=(p.frags.getD i frg0).bytes.length){m:Int→Int}(h:Q2 p base p.frags.length 0 m){a z:Nat}(haz:(a=1∧z=1)∨(a=2∧z=3)∨(a=4∧z=4))
  {x:Nat} (hx:x<((M.layAll p base).ti z-(M.layAll p base).fr a).toNat):m ((M.layAll p base).fr a+(x:Int))=(M.segBytes p (M.layAll p base) a z).getD x 0:=by
 have t1:=ha.ti 1 (by decide) (by decide)
 have t2:=ha.ti 2 (by decide) (by decide)
 have t3:=ha.ti 3 (by decide) (by decide)
 have t4:=ha.ti 4 (by decide) (by decide)
 have t5:=ha.ti 5 (by decide) (by decide)
 have n1:(M.layAll p base).ti 1≤(M.layAll p base).fr 2:=ha.frN 1 (by decide) (by decide)
 have n2:(M.layAll p base).ti 2≤(M.layAll p base).fr 3:=ha.frN 2 (by decide) (by decide)
 have n3:(M.layAll p base).ti 3≤(M.layAll p base).fr 4:=ha.frN 3 (by decide) (by decide)
 have n4:(M.layAll p base).ti 4≤(M.layAll p base).fr 5:=ha.frN 4 (by decide) (by decide)
 have hlb:∀i,i<p.frags.length→(p.frags.getD i frg0).sect≠5→M.long (p.frags.getD i frg0)=(p.frags.getD i frg0).bytes.length:=fun i _ h5=>by unfold M.long M.lng;rw[if_neg h5]
 have hin:∀i,i<p.frags.length→(a:Int)≤(p.frags.getD i frg0).sect→(p.frags.getD i frg0).sect≤z→(M.layAll p base).fr a≤(M.layAll p base).frags.getD i 0∧(M.layAll p base).frags.getD i 0+(p.frags.getD i frg0).bytes.length≤(M.layAll p base).ti z:=fun i hi h1 h2=>by
  obtain⟨c,hc,c1,c5,c3,c4,c6⟩:=frag_in hp ha hi
  rw[hlb i hi (by omega)] at c4
  have hcc:c=1∨c=2∨c=3∨c=4:=by omega
  rcases haz with ⟨rfl,rfl⟩|⟨rfl,rfl⟩|⟨rfl,rfl⟩<;>rcases hcc with rfl|rfl|rfl|rfl<;>omega
 by_cases hex:∃q k:Nat,q<p.frags.length∧k<(p.frags.getD q frg0).bytes.length∧(M.layAll p base).fr a+(x:Int)=(M.layAll p base).frags.getD q 0+(k:Int)
 ·obtain⟨q,k,hq,hk,e⟩:=hex
  obtain⟨c,hc,c1,c5,c3,c4,c6⟩:=frag_in hp ha hq
  have h5:(p.frags.getD q frg0).sect≠5:=fun h5=>by
   have hform:=(M.frag_parts (M.frag_ok hp (getD_mem p.frags frg0 q hq))).2.2.2.1
   unfold M.formed at hform
   rw[if_pos h5] at hform
   simp only[Bool.and_eq_true,beq_iff_eq] at hform
   omega
  rw[hlb q hq h5] at c4
  have hcc:c=1∨c=2∨c=3∨c=4:=by omega
  have hs:(a:Int)≤(p.frags.getD q frg0).sect∧(p.frags.getD q frg0).sect≤z:=by
   rcases haz with ⟨rfl,rfl⟩|⟨rfl,rfl⟩|⟨rfl,rfl⟩<;>rcases hcc with rfl|rfl|rfl|rfl<;>omega
  rw[e,h.at' q k hq hk]
  have hseg:=segN_at (s:=⟨#[]⟩) hp ha hfl (by omega) (segOk_of hp ha haz) hin hq hs.1 hs.2 p.frags.length hq (Nat.le_refl _) k hk
  have hi:=hin q hq hs.1 hs.2
  unfold M.segBytes
  rw[show x=((M.layAll p base).frags.getD q 0-(M.layAll p base).fr a).toNat+k by omega,hseg]
  unfold curF
  rw[if_pos hq]
 ·have hno:∀q k:Nat,q<p.frags.length→k<(p.frags.getD q frg0).bytes.length→(M.layAll p base).fr a+(x:Int)≠(M.layAll p base).frags.getD q 0+(k:Int):=fun q k hq hk e=>hex ⟨q,k,hq,hk,e⟩
  rw[h.out _ hno]
  exact(segN_zero hfl hin hx hno p.frags.length (Nat.le_refl _)).symm
end
end Go.Proofs.YtpkfmfhodbjckaaGreatDoor
