/-
  The contract of names.find's own function: the definitions of a name and a kind. The contract of part.groups. The contract of part.count. 'append(s, x...)' onto a row of one's own, of whatever slice: its cells are known, or it is nil. The contract of part.movedFrag.
-/
import Derived.Test.YtpkfmfhodbjckaaGreatDoorFrC
import Derived.Test.YtpkfmfhodbjckaaGreatDoorSame
import Derived.Lib.Hide
import Derived.Deep.DeepCutAuto
import Derived.Deep.AppendLies
import Derived.Deep.WholeRow
import Derived.Laws.OwnMore
set_option linter.unusedVariables false
set_option maxHeartbeats 8000000
set_option maxRecDepth 100000
namespace Go.Proofs.YtpkfmfhodbjckaaGreatDoor
open Go.RowKit
def dfnArr (d:M.Dfn):Array Value:=#[.string d.name,iv d.kind,iv d.frag,iv d.pos,iv d.size,iv d.align]
theorem row_defs{w:World}{B:Nat}{v:Value}{l:List M.Dfn}(h:w.ownsRow B 72 6 v l.length (l.flatMap encDfn))(hs:∀d∈l,d.name.size≤maxLen):DefsAt w v l:=by
 refine⟨(row_slice (k:=6) dfn0 encDfn (fun _=>rfl) l h).congr' (fun j i hj hi=>?_),hs⟩
 rcases(by omega:i=0∨i=1∨i=2∨i=3∨i=4∨i=5) with rfl|rfl|rfl|rfl|rfl|rfl<;>rfl
theorem kind_take(ds:List M.Dfn)(s:ByteArray)(kind:Int)(k:Nat)(h:k<ds.length):M.ofKind (ds.take (k+1)) s kind=M.ofKind (ds.take k) s kind++bif M.isDef s kind (ds.getD k dfn0) then [ds.getD k dfn0] else []:=by
 unfold M.ofKind
 rw[List.take_succ_eq_append_getElem h,List.filter_append,List.getD_eq_getElem?_getD,List.getElem?_eq_getElem h]
 simp only[Option.getD_some,List.filter_cons,List.filter_nil]
 cases M.isDef s kind ds[k]<;>rfl
theorem ofKind_any(ds:List M.Dfn)(s:ByteArray)(kind:Int)(a:Option Addr)(c X:Nat)(w:World)(hd:DefsAt w (sv a ds.length c) ds)(h60:ds.length≤60)
  (c0:w.cell? (qa X 0)=some (sv a ds.length c)) (c1:w.cell? (qa (X+1) 0)=some (.string s)) :
  Calls Tryz.prog 142 #[iv kind,qv X 0,qv (X+1) 0] w fun e w' =>
   Below w.heap.size w w'∧∃x y,e=.returned (sv x (M.ofKind ds s kind).length y)∧DefsAt w' (sv x (M.ofKind ds s kind).length y) (M.ofKind ds s kind):=by
 obtain⟨i1,hi1,hy0,hy1,hy2⟩:=info_parts (P:=Tryz.prog) (e:=72) (z:=.agg #[.string ⟨#[]⟩,iv 0,iv 0,iv 0,iv 0,iv 0]) (size:=6) (bytes:=56) (by kernel_rfl)
 have hX0:X<w.heap.size:=wlt c0
 have hX1:X+1<w.heap.size:=wlt c1
 go_enter Tryz.func142,Tryz.ntmps142
 go_wp2_with fail
 go_loopw [5,10] (fun s5 s10 wr=>∃(k:Nat) (l:List M.Dfn),k≤ds.length∧s10=iv k∧Hid (l=M.ofKind (ds.take k) s kind)∧l.length≤k∧wr.ownsRow w.heap.size 72 6 s5 l.length (l.flatMap encDfn)∧Hid (Below w.heap.size w wr)) (fun _ s10 _=>ds.length-(intOf s10).toNat)
 case atStart=>exact⟨0,[],Nat.zero_le _,rfl,rfl,Nat.le_refl _,World.ownsRow_nil _ _ _ _,Below.refl _ _⟩
 case round =>
  obtain⟨k,l,hk,rfl,HL,hlk,hown,HB⟩:=hrel
  have hw0:w.heap.size≤wr.heap.size:=HB.out.size
  by_cases hlt:k<ds.length
  ·obtain⟨b,off,rfl,e0,e1,e2,e3,e4,e5,hnm⟩:=(hd.later HB.out).cells k hlt
   have hbr:b<wr.heap.size:=wlt e0
   have cs1:wr.cell? (qa (X+1) 0)=some (.string s):=cell_later HB.out c1
   have HL1:=kind_take ds s kind k hlt
   rw[←HL.out] at HL1
   have hkl:(k:Int)<(ds.length:Int):=by omega
   have hXr:X+1<wr.heap.size:=by omega
   clear HL hd c0 c1 hX0 hX1
   unfold M.isDef at HL1
   generalize ds.getD k dfn0=d at *
   obtain⟨nm,kd,fr,pos,sz,al⟩:=d
   simp only at e0 e1 e2 e3 e4 e5 hnm HL1
   obtain⟨a5,n5,c5,rfl⟩:=own_form hown
   cases hx:(nm.toList==s.toList)
   ·rw[hx] at HL1
    have HL2:Hid (l=M.ofKind (ds.take (k+1)) s kind):=by rw[Hid,HL1];simp
    clear HL1
    have HE:Hid (∀o,(wr.alloc o).ownsRow w.heap.size 72 6 (sv a5 n5 c5) l.length (l.flatMap encDfn)∧Below w.heap.size w (wr.alloc o)):=fun o=>⟨hown.alloc o,HB.out.alloc hw0 _⟩
    go_wp2
    go_roundw
    case rel=>exact⟨k+1,l,by omega,by go_num,HL2,by omega,(HE.out _).1,(HE.out _).2⟩
    case measure=>simp[intOf];omega
   ·cases hy:(kd==kind)
    ·rw[hx,hy] at HL1
     have HL2:Hid (l=M.ofKind (ds.take (k+1)) s kind):=by rw[Hid,HL1];simp
     clear HL1
     have HE:Hid (∀o,(wr.alloc o).ownsRow w.heap.size 72 6 (sv a5 n5 c5) l.length (l.flatMap encDfn)∧Below w.heap.size w (wr.alloc o)):=fun o=>⟨hown.alloc o,HB.out.alloc hw0 _⟩
     go_wp2
     go_roundw
     case rel=>exact⟨k+1,l,by omega,by go_num,HL2,by omega,(HE.out _).1,(HE.out _).2⟩
     case measure=>simp[intOf];omega
    ·rw[hx,hy] at HL1
     have HL2:Hid (l++[⟨nm,kd,fr,pos,sz,al⟩]=M.ofKind (ds.take (k+1)) s kind):=by rw[Hid,HL1];simp
     clear HL1
     go_upto_region 6 with fail
     have hownX:=hown.alloc (.cells #[.string nm,iv kd,iv fr,iv pos,iv sz,iv al] 72)
     have HBX:Hid (Below w.heap.size w (wr.alloc (.cells #[.string nm,iv kd,iv fr,iv pos,iv sz,iv al] 72))):=HB.out.alloc hw0 _
     have x3:=heap_alloc_new wr (.cells #[.string nm,iv kd,iv fr,iv pos,iv sz,iv al] 72)
     have hXs:wr.heap.size<(wr.alloc (.cells #[.string nm,iv kd,iv fr,iv pos,iv sz,iv al] 72)).heap.size:=by simp
     clear hown HB e0 e1 e2 e3 e4 e5 cs1
     generalize wr.alloc (.cells #[.string nm,iv kd,iv fr,iv pos,iv sz,iv al] 72)=Y at *
     have k0:=cellC x3 0 rfl
     have k1:=cellC x3 1 rfl
     have k2:=cellC x3 2 rfl
     have k3:=cellC x3 3 rfl
     have k4:=cellC x3 4 rfl
     have k5:=cellC x3 5 rfl
     have hwY:w.heap.size≤Y.heap.size:=by omega
     have hnews:∀j u,(#[.string nm,iv kd,iv fr,iv pos,iv sz,iv al]:Array Value).toList[j]?=some u→(Y.alloc (.cells #[.string nm,iv kd,iv fr,iv pos,iv sz,iv al] 72)).cell? ((qa Y.heap.size 0).add j)=some u:=World.news_of_block (heap_alloc_new Y _)
     have HE:Hid (∀v' w3,(Y.alloc (.cells #[.string nm,iv kd,iv fr,iv pos,iv sz,iv al] 72)).grownBy w3 (sv a5 n5 c5).ownBlock→w3.ownsRow w.heap.size 72 6 v' (l.length+1) (l.flatMap encDfn++(#[.string nm,iv kd,iv fr,iv pos,iv sz,iv al]:Array Value).toList)→w3.ownsRow w.heap.size 72 6 v' (l++[(⟨nm,kd,fr,pos,sz,al⟩:M.Dfn)]).length ((l++[(⟨nm,kd,fr,pos,sz,al⟩:M.Dfn)]).flatMap encDfn)∧Below w.heap.size w w3):=fun v' w3 hg ho =>
      ⟨by rw[List.length_append,List.flatMap_append];exact ho,(HBX.out.alloc hwY _).grown hg (by simp;omega) (fun k hk=>(hownX.lt k hk).1)⟩
     clear x3 HBX
     go_wp2_with (at_builtin;refine wpList_append_own _ rfl _ _ 41 rfl w.heap.size 72 i1 (.agg #[.string ⟨#[]⟩,iv 0,iv 0,iv 0,iv 0,iv 0]) 6 56 Tryz.underlying41 hi1 hy0 hy1 hy2 rfl (by decide) _ _ _ rfl (hownX.alloc _) ⟨Y.heap.size,0,none⟩ 1 1 (#[.string nm,iv kd,iv fr,iv pos,iv sz,iv al]:Array Value).toList rfl rfl hnews (fun u hu=>by simp at hu;rcases hu with rfl|rfl|rfl|rfl|rfl|rfl<;>rfl) (by unfold maxLen;omega) (by omega) (by simp;omega) ?_;intro v' w3 hown' hgrow3 hnil3)
     go_roundw
     case rel=>exact⟨k+1,l++[⟨nm,kd,fr,pos,sz,al⟩],by omega,by go_num,HL2,by simp;omega,(HE.out _ _ hgrow3 hown').1,(HE.out _ _ hgrow3 hown').2⟩
     case measure=>simp[intOf];omega
  ·have hkl:k=ds.length:=by omega
   have HL2:l=M.ofKind ds s kind:=by rw[HL.out,hkl,List.take_length]
   have hs:∀d∈l,d.name.size≤maxLen:=fun d hd'=>hd.2 d (by rw[HL2] at hd';exact(List.mem_filter.1 hd').1)
   have HD:Hid (DefsAt wr u5 l):=row_defs hown hs
   have HL3:Hid (l=M.ofKind ds s kind):=HL2
   clear HL HL2 hs
   subst hkl
   obtain⟨a5,c5,he,_⟩:=HD.out.1.form
   subst he
   go_wp2
   go_ret
   exact⟨HB.out,a5,c5,by rw[←HL3.out];rfl,by rw[←HL3.out];exact HD.out⟩
theorem row_strs{w:World}{B:Nat}{v:Value}{l:List ByteArray}(h:w.ownsRow B 9 1 v l.length (l.map Value.string))(hs:∀s∈l,s.size≤maxLen):StrsAt w v l:=by
 refine⟨?_,hs⟩
 have e1:l.map Value.string=l.flatMap (fun x=>[Value.string x]):=by clear h hs;induction l<;>simp_all
 rw[e1] at h
 refine(row_slice (k:=1) str0 (fun x=>[Value.string x]) (fun _=>rfl) l h).congr' (fun j i hj hi=>?_)
 obtain rfl:i=0:=by omega
 rfl
theorem own_cap{w:World}{B k n:Nat}{e:TypeId}{v:Value}{xs:List Value}(h:w.ownsRow B e k v n xs):∃ad nn cc,v=sv ad nn cc∧nn≤cc:=by
 rcases h.2 with ⟨h1,_⟩|⟨g,cap,cur,h1,_,_,h2,_⟩
 ·exact⟨_,_,_,h1,Nat.le_refl _⟩
 ·exact⟨_,_,_,h1,h2⟩
theorem groups_any(fs:List M.Frg)(a:Option Addr)(c:Nat)(w:World)(hf:FragsAt w (sv a fs.length c) fs)(h60:fs.length≤60) :
  Calls Tryz.prog 53 #[sv a fs.length c] w fun e w'=>Below w.heap.size w w'∧∃v,e=.returned v∧(∃ad nn cc,v=sv ad nn cc∧nn≤cc)∧StrsAt w' v (M.groups fs):=by
 obtain⟨i0,hi,hz0,hz1,hz2⟩:=info_parts (P:=Tryz.prog) (e:=9) (z:=.string ⟨#[]⟩) (size:=1) (bytes:=16) (by kernel_rfl)
 go_enter Tryz.func53,Tryz.ntmps53
 go_wp2_with fail
 go_loopw [3,8] (fun s3 s8 wr=>∃(k:Nat) (l:List ByteArray),k≤fs.length∧s8=iv k∧Hid (l=(fs.take k).foldl M.addGroup [])∧l.length≤k∧Hid (∀s∈l,s.size≤maxLen)∧wr.ownsRow w.heap.size 9 1 s3 l.length (l.map Value.string)∧Hid (Below w.heap.size w wr)) (fun _ s8 _=>fs.length-(intOf s8).toNat)
 case atStart=>exact⟨0,[],Nat.zero_le _,rfl,rfl,Nat.le_refl _,(fun s hs=>by cases hs),World.ownsRow_nil _ _ _ _,Below.refl _ _⟩
 case round =>
  obtain⟨k,l,hk,rfl,HL,hlk,HS,hown,HB⟩:=hrel
  by_cases hlt:k<fs.length
  ·obtain⟨b,off,ab,cb,ar,cr,rfl,e0,e1,e2,e3,e4,e5,hBy,hRl,hg,hbl⟩:=(hf.later HB.out).cells k hlt
   have HL1:Hid (M.addGroup l (fs.getD k frg0)=(fs.take (k+1)).foldl M.addGroup []):=by
    rw[Hid,List.take_succ_eq_append_getElem hlt,List.foldl_append,←HL.out]
    simp only[List.foldl_cons,List.foldl_nil]
    rw[List.getD_eq_getElem?_getD,List.getElem?_eq_getElem hlt];rfl
   clear hBy hRl hbl HL
   have HSt:Hid (∀o,StrsAt (wr.alloc o) u3 l):=fun o=>row_strs (hown.alloc o) HS.out
   obtain⟨ad,nn,cc,rfl⟩:=own_form hown
   have hnn:nn=l.length:=by obtain⟨_,_,h,_⟩:=(HSt.out (.cells #[] 0)).1.form;cases h;rfl
   subst hnn
   unfold M.addGroup at HL1
   generalize fs.getD k frg0=f at *
   obtain⟨s,al,g,bs,sz,rs⟩:=f
   simp only at e0 e1 e2 e3 e4 e5 hg HL1
   have hbr:b<wr.heap.size:=wlt e0
   have hkl:(k:Int)<(fs.length:Int):=by omega
   have hw0:w.heap.size≤wr.heap.size:=HB.out.size
   generalize bs.length=n1 at *
   generalize rs.length=m1 at *
   have HK:Hid (∀o,Calls Tryz.prog 91 #[sv ad l.length cc,.string g] (wr.alloc o) fun e w'=>e=.returned (.bool (M.has l g))∧w'=wr.alloc o):=fun o=>containsS_any l g ad cc _ (HSt.out o)
   have HBa:Hid (∀o,Below w.heap.size w (wr.alloc o)):=fun o=>HB.out.alloc hw0 o
   clear hf
   cases hb:M.bare g
   ·rw[hb] at HL1
    have hb':g.toList.isEmpty=false:=hb
    clear hb
    cases hh:M.has l g
    ·rw[hh] at HL1 HK
     have HL2:Hid (l++[g]=(fs.take (k+1)).foldl M.addGroup []):=HL1
     clear HL1
     go_wp2_with (go_at_call 91;refine(HK.out _).mono ?_;rintro e w1 ⟨rfl,rfl⟩;refine Hid.out ?_)
     have hownX:=hown.alloc (.cells #[iv s,iv al,.string g,sv ab n1 cb,iv sz,sv ar m1 cr] 87)
     have HBX:=HBa.out (.cells #[iv s,iv al,.string g,sv ab n1 cb,iv sz,sv ar m1 cr] 87)
     have HBX:Hid (Below w.heap.size w _):=HBX
     have hxc:(wr.alloc (.cells #[iv s,iv al,.string g,sv ab n1 cb,iv sz,sv ar m1 cr] 87)).cell? (qa wr.heap.size 2)=some (.string g):=by simp
     have hxs:wr.heap.size<(wr.alloc (.cells #[iv s,iv al,.string g,sv ab n1 cb,iv sz,sv ar m1 cr] 87)).heap.size:=by simp
     clear HK HBa HSt
     generalize wr.alloc (.cells #[iv s,iv al,.string g,sv ab n1 cb,iv sz,sv ar m1 cr] 87)=X at *
     refine Lib.hid ?_
     go_wp2_with (at_builtin;refine wpList_append_own _ rfl _ _ 39 rfl w.heap.size 9 i0 (.string ⟨#[]⟩) 1 16 Tryz.underlying39 hi hz0 hz1 hz2 rfl (by decide) _ _ _ rfl (hownX.alloc _) ⟨X.heap.size,0,none⟩ 1 1 [.string g] rfl rfl (cell_one_new _ _ _) (fun u hu=>by simp at hu;subst hu;rfl) (by unfold maxLen;omega) (by omega) (by simp;omega) ?_;intro v' w3 hown' hgrow3 hnil3)
     go_roundw
     case rel =>
      refine⟨k+1,l++[g],by omega,by go_num,HL2,by simp;omega,?_,?_,?_⟩
      ·intro x hx
       rcases List.mem_append.1 hx with hx|hx
       ·exact HS.out x hx
       ·rw[List.mem_singleton.1 hx];exact hg
      ·rw[List.length_append,List.map_append];exact hown'
      ·refine(HBX.out.alloc (by omega) _).grown hgrow3 (by simp;omega) (fun k hk=>?_)
       exact(hownX.lt k hk).1
     case measure=>simp[intOf];omega
    ·rw[hh] at HL1 HK
     have HL2:Hid (l=(fs.take (k+1)).foldl M.addGroup []):=HL1
     clear HL1
     go_wp2_with (go_at_call 91;refine(HK.out _).mono ?_;rintro e w1 ⟨rfl,rfl⟩)
     go_roundw
     case rel=>exact⟨k+1,l,by omega,by go_num,HL2,by omega,HS,hown.alloc _,HBa.out _⟩
     case measure=>simp[intOf];omega
   ·rw[hb] at HL1
    have hb':g.toList.isEmpty=true:=hb
    clear hb
    have HL2:Hid (l=(fs.take (k+1)).foldl M.addGroup []):=HL1
    clear HL1
    go_wp2_with fail
    go_roundw
    case rel=>exact⟨k+1,l,by omega,by go_num,HL2,by omega,HS,hown.alloc _,HBa.out _⟩
    case measure=>simp[intOf];omega
  ·have hkl:k=fs.length:=by omega
   have HL2:Hid (l=M.groups fs):=by
    rw[Hid,HL.out,hkl,List.take_length];rfl
   have HSt:Hid (StrsAt wr u3 l):=row_strs hown HS.out
   have hform:=own_cap hown
   clear HL
   subst hkl
   go_wp2
   go_ret
   exact⟨HB.out,_,rfl,hform,by rw[←HL2.out];exact HSt.out⟩
structure Nums (c:Array Value) (tq:List Int):Prop where
 size:c.size=60
 at':∀i,i<60→c[i]?=some (iv (tq.getD i 0))
theorem Nums.one{c:Array Value}{tq:List Int}(h:Nums c tq):c.all (·.oneCell')=true:=by
 rw[Array.all_eq_true]
 intro i hi
 have h2:=h.at' i (by rw[←h.size];exact hi)
 rw[Array.getElem?_eq_getElem hi] at h2
 rw[Option.some.inj h2];rfl
theorem Nums.zero:Nums (Array.replicate 60 (iv 0)) []:=by
 refine⟨by simp,fun i hi=>?_⟩
 simp[hi]
theorem Nums.set{c:Array Value}{tq:List Int}(h:Nums c tq)(x:Int)(hl:tq.length<60):Nums (c.setIfInBounds tq.length (iv x)) (tq++[x]):=by
 refine⟨by simp[h.size],fun i hi=>?_⟩
 rw[Array.getElem?_setIfInBounds]
 by_cases e:tq.length=i
 ·subst e
  rw[if_pos rfl,if_pos (by rw[h.size];exact hi)]
  simp
 ·rw[if_neg e,h.at' i hi]
  congr 2
  rw[List.getD_eq_getElem?_getD,List.getD_eq_getElem?_getD]
  by_cases h2:i<tq.length
  ·rw[List.getElem?_append_left h2]
  ·rw[List.getElem?_append_right (by omega),List.getElem?_eq_none (by omega),List.getElem?_eq_none (by simp;omega)]
theorem nums_info:(Tryz.prog.info? 110).map (·.size)=some 60:=by kernel_rfl
theorem count_take(l:List ByteArray)(n:Int)(fs:List M.Frg)(k:Nat)(h:k<fs.length) :
  M.count l n (fs.take (k+1))=M.count l n (fs.take k)++[bif M.gone l (fs.getD k frg0) then -1 else n+((M.stays l (fs.take k)).length:Int)]:=by
 rw[List.take_succ_eq_append_getElem h,M.count_append]
 congr 1
 rw[List.getD_eq_getElem?_getD,List.getElem?_eq_getElem h]
 simp only[M.count,Option.getD_some]
 cases M.gone l fs[k]<;>rfl
theorem below_setRow{B:Nat}{a w:World}{g:Nat}{c:Array Value}(h:Below B a w)(hg:B≤g):Below B a (w.setRow g c) :=
 ⟨h.os,h.tape,h.output,by simpa using h.size,fun k hk=>(setRow_other _ _ _ _ (by omega)).trans (h.block k hk)⟩
theorem stays_take(l:List ByteArray)(fs:List M.Frg)(k:Nat)(h:k<fs.length) :
  ((M.stays l (fs.take (k+1))).length:Int)=((M.stays l (fs.take k)).length:Int)+bif M.gone l (fs.getD k frg0) then 0 else 1:=by
 rw[List.take_succ_eq_append_getElem h,M.stays_append,List.getD_eq_getElem?_getD,List.getElem?_eq_getElem h]
 simp only[M.stays,List.length_append,Option.getD_some,List.filter_cons,List.filter_nil]
 cases M.gone l fs[k]<;>simp
theorem count_any(fs:List M.Frg)(l:List ByteArray)(n:Int)(a a':Option Addr)(c c':Nat)(w:World)(hf:FragsAt w (sv a fs.length c) fs)(hl:StrsAt w (sv a' l.length c') l)(h60:fs.length≤60)(hn:0≤n∧n≤1000) :
  Calls Tryz.prog 52 #[sv a fs.length c,sv a' l.length c',iv n] w fun e w'=>Below w.heap.size w w'∧∃C,e=.returned (.agg C)∧Nums C (M.count l n fs):=by
 go_enter Tryz.func52,Tryz.ntmps52
 go_wp2_with fail
 go_loopw [8,14] (fun s8 s14 wr=>∃(k:Nat) (tq:List Int) (nx:Int) (Z C:Array Value),k≤fs.length∧s14=iv k∧s8=iv nx∧0≤nx∧nx≤n+k∧Hid (tq=M.count l n (fs.take k))∧Hid (nx=n+((M.stays l (fs.take k)).length:Int))∧tq.length=k∧Hid (Nums C tq)∧Hid (Z.size=60)
   ∧ wr.heap[w.heap.size]?=some (.cells Z 110 (0,0))∧wr.heap[w.heap.size+1]?=some (.cells C 110 (0,0))∧Hid (Below w.heap.size w wr)) (fun _ s14 _=>fs.length-(intOf s14).toNat)
 case atStart=>exact⟨0,[],n,_,_,Nat.zero_le _,rfl,rfl,hn.1,by omega,rfl,(show n=n+0 by omega),rfl,Nums.zero,(show Array.size (Array.replicate 60 (iv 0))=60 by simp),heap_alloc2_old _ _ _,heap_alloc2_new _ _ _,(bra _ _).alloc (by simp) _⟩
 case round =>
  obtain⟨k,tq,nx,Z,C,hk,rfl,rfl,hnx0,hnx1,HT,HN,hto,HC,HZ,h6,h7,HB⟩:=hrel
  by_cases hlt:k<fs.length
  ·obtain⟨b,off,ab,cb,ar,cr,rfl,e0,e1,e2,e3,e4,e5,hBy,hRl,hg,hbl⟩:=(hf.later HB.out).cells k hlt
   have HT1:Hid (M.count l n (fs.take (k+1))=tq++[bif M.gone l (fs.getD k frg0) then -1 else nx]):=by
    rw[Hid,count_take l n fs k hlt,←HT.out,←HN.out]
   have HN1:Hid (n+((M.stays l (fs.take (k+1))).length:Int)=nx+bif M.gone l (fs.getD k frg0) then 0 else 1):=by
    rw[Hid,stays_take l fs k hlt,HN.out];omega
   clear hBy hRl hbl HT HN
   have HSt:Hid (∀o,StrsAt (wr.alloc o) (sv a' l.length c') l):=fun o=>(hl.later HB.out).later (bra _ o)
   unfold M.gone at HT1 HN1
   generalize fs.getD k frg0=f at *
   obtain⟨s,al,g,bs,sz,rs⟩:=f
   simp only at e0 e1 e2 e3 e4 e5 hg HT1 HN1
   have hbr:b<wr.heap.size:=wlt e0
   have hkl:(k:Int)<(fs.length:Int):=by omega
   have hk60:(k:Int)<60:=by omega
   have hk0:(0:Int)≤(k:Int):=by omega
   have hw0:w.heap.size≤wr.heap.size:=HB.out.size
   have hlt6:=lt1 h6
   have hlt7:=lt1 h7
   generalize bs.length=n1 at *
   generalize rs.length=m1 at *
   have HK:Hid (∀o,Calls Tryz.prog 91 #[sv a' l.length c',.string g] (wr.alloc o) fun e w'=>e=.returned (.bool (M.has l g))∧w'=wr.alloc o):=fun o=>containsS_any l g a' c' _ (HSt.out o)
   have x6:=(heap_alloc_old wr (.cells #[iv s,iv al,.string g,sv ab n1 cb,iv sz,sv ar m1 cr] 87) hlt6).trans h6
   have x7:=(heap_alloc_old wr (.cells #[iv s,iv al,.string g,sv ab n1 cb,iv sz,sv ar m1 cr] 87) hlt7).trans h7
   have HBX:Hid (Below w.heap.size w (wr.alloc (.cells #[iv s,iv al,.string g,sv ab n1 cb,iv sz,sv ar m1 cr] 87))):=HB.out.alloc hw0 _
   have hck:(wr.alloc (.cells #[iv s,iv al,.string g,sv ab n1 cb,iv sz,sv ar m1 cr] 87)).cell? (qa (w.heap.size+1) k)=some (iv (tq.getD k 0)):=(cellB x7 k).trans (HC.out.at' k (by omega))
   have hfk:(wr.alloc (.cells #[iv s,iv al,.string g,sv ab n1 cb,iv sz,sv ar m1 cr] 87)).frozen? (qa (w.heap.size+1) k)=false:=frozenB x7 k
   have HEnd:Hid (∀v,((wr.setCell (qa (w.heap.size+1) k) v).alloc (.cells #[iv s,iv al,.string g,sv ab n1 cb,iv sz,sv ar m1 cr] 87)).heap[w.heap.size]?=some (.cells Z 110 (0,0))∧((wr.setCell (qa (w.heap.size+1) k) v).alloc (.cells #[iv s,iv al,.string g,sv ab n1 cb,iv sz,sv ar m1 cr] 87)).heap[w.heap.size+1]?=some (.cells (C.setIfInBounds k v) 110 (0,0))∧Below w.heap.size w ((wr.setCell (qa (w.heap.size+1) k) v).alloc (.cells #[iv s,iv al,.string g,sv ab n1 cb,iv sz,sv ar m1 cr] 87))):=fun v =>
    ⟨(heap_alloc_old _ _ (by simpa using hlt6)).trans ((Below.heap_setCell _ _ _ _ (by show w.heap.size≠w.heap.size+1;omega)).trans h6),(heap_alloc_old _ _ (by simpa using hlt7)).trans (setB' h7 v),(HB.out.setCell (by show w.heap.size≤w.heap.size+1;omega) v).alloc (by simpa using hw0) _⟩
   have hxc:(wr.alloc (.cells #[iv s,iv al,.string g,sv ab n1 cb,iv sz,sv ar m1 cr] 87)).cell? (qa wr.heap.size 2)=some (.string g):=by simp
   clear hf hl h6 h7 x6 x7 HBX HSt
   have HCs:Hid (∀x,Nums (C.setIfInBounds k (iv x)) (tq++[x])):=fun x=>by have:=HC.out.set x (by omega);rwa [hto] at this
   cases hb:M.bare g
   ·have hb':g.toList.isEmpty=false:=hb
    cases hh:M.has l g
    ·rw[hb,hh] at HT1 HN1
     rw[hh] at HK
     have HT2:Hid (tq++[nx]=M.count l n (fs.take (k+1))):=HT1.symm
     have HN2:Hid (nx+1=n+((M.stays l (fs.take (k+1))).length:Int)):=HN1.symm
     clear HT1 HN1 hb
     go_wp2_with (go_at_call 91;refine(HK.out _).mono ?_;rintro e w1 ⟨rfl,rfl⟩)
     go_roundw
     case rel=>exact⟨k+1,tq++[nx],nx+1,Z,_,by omega,by go_num,by go_num,by omega,by omega,HT2,HN2,by simp;omega,HCs.out _,HZ,(HEnd.out _).1,(HEnd.out _).2.1,(HEnd.out _).2.2⟩
     case measure=>simp[intOf];omega
    ·rw[hb,hh] at HT1 HN1
     rw[hh] at HK
     have HT2:Hid (tq++[-1]=M.count l n (fs.take (k+1))):=HT1.symm
     have HN2:Hid (nx=n+((M.stays l (fs.take (k+1))).length:Int)):=by have h:n+((M.stays l (fs.take (k+1))).length:Int)=nx+0:=HN1.out;rw[Hid];omega
     clear HT1 HN1 hb
     go_wp2_with (go_at_call 91;refine(HK.out _).mono ?_;rintro e w1 ⟨rfl,rfl⟩)
     go_roundw
     case rel=>exact⟨k+1,tq++[-1],nx,Z,_,by omega,by go_num,rfl,by omega,by omega,HT2,HN2,by simp;omega,HCs.out _,HZ,(HEnd.out _).1,(HEnd.out _).2.1,(HEnd.out _).2.2⟩
     case measure=>simp[intOf];omega
   ·rw[hb] at HT1 HN1
    have hb':g.toList.isEmpty=true:=hb
    have HT2:Hid (tq++[nx]=M.count l n (fs.take (k+1))):=HT1.symm
    have HN2:Hid (nx+1=n+((M.stays l (fs.take (k+1))).length:Int)):=HN1.symm
    clear HT1 HN1 hb
    go_wp2_with fail
    go_roundw
    case rel=>exact⟨k+1,tq++[nx],nx+1,Z,_,by omega,by go_num,by go_num,by omega,by omega,HT2,HN2,by simp;omega,HCs.out _,HZ,(HEnd.out _).1,(HEnd.out _).2.1,(HEnd.out _).2.2⟩
    case measure=>simp[intOf];omega
  ·have hkl:k=fs.length:=by omega
   have HT2:Hid (tq=M.count l n fs):=by rw[Hid,HT.out,hkl,List.take_length]
   have hcs:C.size=60:=HC.out.size
   have hsi:(Tryz.prog.info? 110).map (·.size)=some C.size:=by rw[hcs];exact nums_info
   have hzc:Z.size=C.size:=by rw[hcs];exact HZ.out
   have h1c:=HC.out.one
   have HEnd:Hid ((wr.setRow w.heap.size C).heap[w.heap.size]?=some (.cells C 110 (0,0))):=setRow_heap _ _ _ _ _ _ h6
   have HBe:Hid (Below w.heap.size w (wr.setRow w.heap.size C)):=below_setRow HB.out (Nat.le_refl _)
   clear HT HN
   subst hkl
   go_wp2_with (first|(refine wpList_load_row rfl 110 _ rfl (w.heap.size+1) rfl 110 C (0,0) _ h7 Tryz.underlying110 rfl hsi ?_)|(refine wpList_store_row rfl 110 _ _ rfl w.heap.size C rfl rfl 110 Z h6 hsi hzc h1c ?_))
   refine bodyPost_ret (v:=.agg C) (results_cell_row Tryz.results52 _ _ w.heap.size 110 C (0,0) _ rfl HEnd.out Tryz.underlying110 rfl hsi) rfl ?_
   exact⟨HBe.out,C,rfl,by rw[←HT2.out];exact HC.out⟩
end Go.Proofs.YtpkfmfhodbjckaaGreatDoor
namespace Go.Proofs.YtpkfmfhodbjckaaGreatDoor
open Go Go.RowKit
def Src (w:World) (u:Value) (m:Nat) (news:List Value):Prop :=
 ∃ad c,u=sv ad m c∧((news=[]∧m=0∧ad=none)∨∃a,ad=some a∧∀j x,news[j]?=some x→w.cell? (a.add j)=some x)
theorem Src.alloc{w:World}{u:Value}{m:Nat}{news:List Value}(h:Src w u m news)(o:Obj):Src (w.alloc o) u m news:=by
 obtain⟨ad,c,rfl,h⟩:=h
 refine⟨ad,c,rfl,?_⟩
 rcases h with h|⟨a,rfl,h⟩
 ·exact .inl h
 ·exact .inr ⟨a,rfl,fun j x hx=>cell_later (bra _ o) (h j x hx)⟩
theorem Src.later{w w':World}{u:Value}{m:Nat}{news:List Value}(h:Src w u m news)(hb:Below w.heap.size w w'):Src w' u m news:=by
 obtain⟨ad,c,rfl,h⟩:=h
 refine⟨ad,c,rfl,?_⟩
 rcases h with h|⟨a,rfl,h⟩
 ·exact .inl h
 ·exact .inr ⟨a,rfl,fun j x hx=>cell_later hb (h j x hx)⟩
theorem addr_add(b off q:Nat):(qa b (off+q))=(qa b off).add q:=by
 unfold Addr.add
 split<;>simp_all
theorem SlAt.src{w:World}{u:Value}{k n:Nat}{cell:Nat→Nat→Value}(h:SlAt w u k n cell)(hk:0<k)(news:List Value)(hl:news.length=n*k)(hc:∀j i,j<n→i<k→news[j*k+i]?=some (cell j i)):Src w u n news:=by
 obtain⟨a,c,rfl,hn,h⟩:=h
 refine⟨a,c,rfl,?_⟩
 by_cases h0:n=0
 ·subst h0
  have:news=[]:=by rw[Nat.zero_mul] at hl;exact List.length_eq_zero_iff.1 hl
  subst this
  cases a with
  | none=>exact .inl ⟨rfl,rfl,rfl⟩
  | some a=>exact .inr ⟨a,rfl,fun j x hx=>by simp at hx⟩
 ·rcases h with h|⟨b,off,rfl,h⟩
  ·exact absurd h h0
  ·refine .inr ⟨_,rfl,fun q x hx=>?_⟩
   have hq:q<n*k:=by rw[←hl];exact(List.getElem?_eq_some_iff.1 hx).1
   have e:q=q / k*k+q % k:=by rw[Nat.mul_comm];exact(Nat.div_add_mod q k).symm
   have h1:q / k<n:=(Nat.div_lt_iff_lt_mul hk).2 hq
   have h2:q % k<k:=Nat.mod_lt _ hk
   have h3:=hc (q / k) (q % k) h1 h2
   rw[←e,hx] at h3
   have h4:=h (q / k) (q % k) h1 h2
   have e2:(qa b (off+q / k*k+q % k))=(qa b off).add q:=by
    rw[show off+q / k*k+q % k=off+q by omega]
    exact addr_add b off q
   rw[e2] at h4
   rw[h4,Option.some.inj h3]
theorem row_src{w:World}{B k n:Nat}{e:TypeId}{v:Value}{xs:List Value}(h:w.ownsRow B e k v n xs):Src w v n xs:=by
 rcases h.2 with ⟨h1,h2⟩|⟨g,cap,cur,h1,_⟩
 ·subst h2
  have:xs=[]:=by have:=h.1;rw[Nat.zero_mul] at this;exact List.length_eq_zero_iff.1 this
  exact⟨none,0,h1,.inl ⟨this,rfl,rfl⟩⟩
 ·refine⟨_,_,h1,.inr ⟨_,rfl,fun j x hx=>?_⟩⟩
  exact h.cells (show v.ownBlock=some g by rw[h1];rfl) j x hx
theorem run_append_none{P:Program}(w:World)(base:Nat)(t ty e:TypeId)(i:TypeInfo)(size:Nat)(ht:P.underlying t=some (.slice e))(hi:P.info? e=some i)(v:Value)(n:Nat)(xs:List Value)(hown:w.ownsRow base e size v n xs)(c:Nat) :
  (Builtin.append_ #[t,t] ty #[v,sv none 0 c]).run P w=.ok v w :=
 run_append_owned_none w base t ty e i size ht hi v n xs hown
theorem wp_append_src{P:Program}(w:World){o:Oper}{a:Act}{K:Act→World→Prop}{Q:Exit→Act→World→Prop}(s x:Operand)(t:TypeId)
  (ho:o.op=.call { callee:=.builtin .append,args:=#[s,x],argTypes:=#[t,t] })
  (base:Nat) (e:TypeId) (i:TypeInfo) (z:Value) (size bytes:Nat) (ht:P.underlying t=some (.slice e)) (hi:P.info? e=some i) (hz:i.zero=some z)
  (hsize:i.size=size) (hby:i.bytes=bytes) (hzs:z.cells.size=size) (hsz:0<size)
  (v:Value) (n:Nat) (xs:List Value) (hs:a.eval s=v) (hown:w.ownsRow base e size v n xs)
  (u:Value) (m:Nat) (news:List Value) (hx:a.eval x=u) (hsrc:Src w u m news) (hl:news.length=m*size) (h1:∀u∈news,u.oneCell'=true)
  (h63:n+m≤maxLen) (hbytes:(n+m)*bytes≤140737488355328) (hbase:base≤w.heap.size)
  (h:∀v' w',w'.ownsRow base e size v' (n+m) (xs++news)→w.grownBy w' v.ownBlock→K (a.put o.dst v') w'):o.wp P a w K Q:=by
 obtain⟨ad,c,rfl,hsrc⟩:=hsrc
 rcases hsrc with ⟨rfl,rfl,rfl⟩|⟨a',rfl,hnews⟩
 ·have hr:=run_append_none (P:=P) w base t o.type e i size ht hi v n xs hown c
  unfold Oper.wp execOp
  simp only[ho,resolve,invoke,builtin,Sem.run_bind,Sem.run_pure,Result.andThen_ok,List.map_toArray,List.map_cons,List.map_nil,hs,hx,hr]
  exact h v w (by simpa using hown) (grown_of_below (Below.refl _ _) _)
 ·exact wp_append_own w s x t ho base e i z size bytes ht hi hz hsize hby hzs hsz v n xs hs hown a' m c news hx hl hnews h1 h63 hbytes hbase fun v' w' h2 h3 _=>h v' w' h2 h3
theorem wpList_append_src{P:Program}(w:World){ops:Array Oper}{rest:List Oper}{o:Oper}{a:Act}{Q:Exit→Act→World→Prop}(hgd:o.guard=none)(s x:Operand)(t:TypeId)
  (ho:o.op=.call { callee:=.builtin .append,args:=#[s,x],argTypes:=#[t,t] })
  (base:Nat) (e:TypeId) (i:TypeInfo) (z:Value) (size bytes:Nat) (ht:P.underlying t=some (.slice e)) (hi:P.info? e=some i) (hz:i.zero=some z)
  (hsize:i.size=size) (hby:i.bytes=bytes) (hzs:z.cells.size=size) (hsz:0<size)
  (v:Value) (n:Nat) (xs:List Value) (hs:a.eval s=v) (hown:w.ownsRow base e size v n xs)
  (u:Value) (m:Nat) (news:List Value) (hx:a.eval x=u) (hsrc:Src w u m news) (hl:news.length=m*size) (h1:∀u∈news,u.oneCell'=true)
  (h63:n+m≤maxLen) (hbytes:(n+m)*bytes≤140737488355328) (hbase:base≤w.heap.size)
  (h:∀v' w',w'.ownsRow base e size v' (n+m) (xs++news)→w.grownBy w' v.ownBlock→wpList P ops Q rest (a.put o.dst v') w'):wpList P ops Q (o::rest) a w :=
 wpList_plain hgd fun _ hK=>wp_append_src w s x t ho base e i z size bytes ht hi hz hsize hby hzs hsz v n xs hs hown u m news hx hsrc hl h1 h63 hbytes hbase fun v' w' h2 h3=>hK _ _ (h v' w' h2 h3)
end Go.Proofs.YtpkfmfhodbjckaaGreatDoor
namespace Go.Proofs.YtpkfmfhodbjckaaGreatDoor
open Go.RowKit
def frgZ:Array Value:=#[iv 0,iv 0,.string ⟨#[]⟩,sv none 0 0,iv 0,sv none 0 0]
theorem row_setc{w:World}{B k n g i:Nat}{e e':TypeId}{v u:Value}{xs:List Value}{cs:Array Value}{fr:Nat × Nat}(h:w.ownsRow B e k v n xs)(hb:w.heap[g]?=some (.cells cs e' fr))(hne:e≠e'):(w.setCell (qa g i) u).ownsRow B e k v n xs :=
 h.kept (grown_set w g i u) (own_ne h hb hne)
theorem grown_trans{a b c:World}{r:Option Nat}(h:a.grownBy b r)(h':b.grownBy c r):a.grownBy c r :=
 ⟨h'.os.trans h.os,h'.tape.trans h.tape,h'.output.trans h.output,Nat.le_trans h.size h'.size,fun k hk hne=>(h'.block k (Nat.lt_of_lt_of_le hk h.size) hne).trans (h.block k hk hne)⟩
theorem store6(W:World)(g:Nat)(c0 c1 c2 c3 c4 c5 a0 a1 a2 a3 a4 a5:Value)(t:TypeId)(h:W.heap[g]?=some (.cells #[c0,c1,c2,c3,c4,c5] t (0,0))) :
  ((((((W.setCell (qa g 0) a0).setCell (qa g 1) a1).setCell (qa g 2) a2).setCell (qa g 3) a3).setCell (qa g 4) a4).setCell (qa g 5) a5).heap[g]?=some (.cells #[a0,a1,a2,a3,a4,a5] t (0,0)) ∧
  W.grownBy ((((((W.setCell (qa g 0) a0).setCell (qa g 1) a1).setCell (qa g 2) a2).setCell (qa g 3) a3).setCell (qa g 4) a4).setCell (qa g 5) a5) (some g):=by
 have h0:(W.setCell (qa g 0) a0).heap[g]?=some (.cells #[a0,c1,c2,c3,c4,c5] t (0,0)):=setB' h a0
 have h1:((W.setCell (qa g 0) a0).setCell (qa g 1) a1).heap[g]?=some (.cells #[a0,a1,c2,c3,c4,c5] t (0,0)):=setB' h0 a1
 have h2:(((W.setCell (qa g 0) a0).setCell (qa g 1) a1).setCell (qa g 2) a2).heap[g]?=some (.cells #[a0,a1,a2,c3,c4,c5] t (0,0)):=setB' h1 a2
 have h3:((((W.setCell (qa g 0) a0).setCell (qa g 1) a1).setCell (qa g 2) a2).setCell (qa g 3) a3).heap[g]?=some (.cells #[a0,a1,a2,a3,c4,c5] t (0,0)):=setB' h2 a3
 have h4:(((((W.setCell (qa g 0) a0).setCell (qa g 1) a1).setCell (qa g 2) a2).setCell (qa g 3) a3).setCell (qa g 4) a4).heap[g]?=some (.cells #[a0,a1,a2,a3,a4,c5] t (0,0)):=setB' h3 a4
 exact⟨setB' h4 a5,grown_trans (grown_trans (grown_trans (grown_trans (grown_trans (grown_set W g 0 a0) (grown_set _ g 1 a1)) (grown_set _ g 2 a2)) (grown_set _ g 3 a3)) (grown_set _ g 4 a4)) (grown_set _ g 5 a5)⟩
structure MFrag (w wr:World) (f:M.Frg) (C:Array Value) (bv:Value) (ar:Option Addr) (cr:Nat) (k:Nat) (acc:List M.Rel) (pv:Value):Prop where
 q0:wr.heap[w.heap.size]?=some (.cells #[iv f.sect,iv f.align,.string f.group,bv,iv f.size,sv ar f.rels.length cr] 87 (0,0))
 q1:wr.heap[w.heap.size+1]?=some (.cells C 110 (0,0))
 q2:wr.heap[w.heap.size+2]?=some (.cells frgZ 87 (0,0))
 by':wr.ownsRow w.heap.size 5 1 bv f.bytes.length (f.bytes.map (Value.int .u8))
 own:wr.ownsRow w.heap.size 89 5 pv k (acc.flatMap encRel)
 len:acc.length=k
 below:Below w.heap.size w wr
theorem mfrag_step{w X w3:World}{f:M.Frg}{C:Array Value}{bv v v':Value}{ar:Option Addr}{cr k:Nat}{acc':List M.Rel}{o:Obj}{n:Nat}{xs:List Value}
  (hby:X.ownsRow w.heap.size 5 1 bv f.bytes.length (f.bytes.map (Value.int .u8))) (hown:X.ownsRow w.heap.size 89 5 v n xs)
  (x0:X.heap[w.heap.size]?=some (.cells #[iv f.sect,iv f.align,.string f.group,bv,iv f.size,sv ar f.rels.length cr] 87 (0,0)))
  (x1:X.heap[w.heap.size+1]?=some (.cells C 110 (0,0))) (x2:X.heap[w.heap.size+2]?=some (.cells frgZ 87 (0,0)))
  (hB:Below w.heap.size w X) (hs:w.heap.size≤X.heap.size) (hg:(X.alloc o).grownBy w3 v.ownBlock) (ho:w3.ownsRow w.heap.size 89 5 v' k (acc'.flatMap encRel)) (hl:acc'.length=k):MFrag w w3 f C bv ar cr k acc' v':=by
 have keep:∀(g:Nat) (cs:Array Value) (t:TypeId),X.heap[g]?=some (.cells cs t (0,0))→89≠t→w3.heap[g]?=some (.cells cs t (0,0)):=fun g cs t h ht=>by
  have hlt:=lt1 h
  rw[hg.block g (by simp;omega),heap_alloc_old X o hlt]
  ·exact h
  ·rcases own_ne hown h ht with h1|h1
   ·rw[h1];simp
   ·exact fun e=>h1 e.symm
 refine⟨keep _ _ _ x0 (by decide),keep _ _ _ x1 (by decide),keep _ _ _ x2 (by decide),?_,ho,hl,(hB.alloc hs _).grown hg (by simp;omega) (fun k hk=>(hown.lt k hk).1)⟩
 exact(hby.alloc o).kept hg (own_apart hby hown (by decide))
theorem relsAt_cells{w:World}{a:Option Addr}{c:Nat}{rs:List M.Rel}(h:RelsAt w (sv a rs.length c) rs)(k:Nat)(hk:k<rs.length) :
  ∃b off,a=some (qa b off)∧w.cell? (qa b (off+k*5))=some (iv (rs.getD k rel0).pos)∧w.cell? (qa b (off+k*5+1))=some (iv (rs.getD k rel0).kind)
   ∧ w.cell? (qa b (off+k*5+2))=some (.string (rs.getD k rel0).name)∧w.cell? (qa b (off+k*5+3))=some (iv (rs.getD k rel0).frag)
   ∧ w.cell? (qa b (off+k*5+4))=some (iv (rs.getD k rel0).add):=by
 obtain⟨b,off,rfl,hc⟩:=h.1.at k hk
 exact⟨b,off,rfl,hc 0 (by decide),hc 1 (by decide),hc 2 (by decide),hc 3 (by decide),hc 4 (by decide)⟩
theorem BytesAt.src{w:World}{v:Value}{bs:List Int}(h:BytesAt w v bs):Src w v bs.length (bs.map (Value.int .u8)) :=
 h.1.src (by decide) _ (by simp) (fun j i hj hi=>by
  obtain rfl:i=0:=by omega
  rw[Nat.mul_one,Nat.add_zero,List.getElem?_map,getElem?_getD bs 0 j hj];rfl)
theorem movedFrag_any(f:M.Frg)(ns:List Int)(C:Array Value)(ab ar:Option Addr)(cb cr:Nat)(w:World)(hC:Nums C ns)
  (hBy:BytesAt w (sv ab f.bytes.length cb) f.bytes) (hRl:RelsAt w (sv ar f.rels.length cr) f.rels)
  (h64:f.bytes.length≤64) (h8:f.rels.length≤8) (hfit:∀r∈f.rels,M.bare r.name=true→-1≤r.frag∧r.frag<60) :
  Calls Tryz.prog 90 #[.agg #[iv f.sect,iv f.align,.string f.group,sv ab f.bytes.length cb,iv f.size,sv ar f.rels.length cr],.agg C] w fun e w' =>
   Below w.heap.size w w'∧∃bv rv,e=.returned (.agg #[iv f.sect,iv f.align,.string f.group,bv,iv f.size,rv])∧w'.ownsRow w.heap.size 5 1 bv f.bytes.length (f.bytes.map (Value.int .u8)) ∧
    w'.ownsRow w.heap.size 89 5 rv f.rels.length ((f.rels.map (M.movedRel ns)).flatMap encRel):=by
 obtain⟨i0,hi0,hz0,hz1,hz2⟩:=info_parts (P:=Tryz.prog) (e:=5) (z:=.int .u8 0) (size:=1) (bytes:=1) (by kernel_rfl)
 obtain⟨i1,hi1,hy0,hy1,hy2⟩:=info_parts (P:=Tryz.prog) (e:=89) (z:=.agg #[iv 0,iv 0,.string ⟨#[]⟩,iv 0,iv 0]) (size:=5) (bytes:=48) (by kernel_rfl)
 go_enter Tryz.func90,Tryz.ntmps90
 go_upto_region 1 with fail
 have y0:(((w.alloc (.cells #[iv f.sect,iv f.align,.string f.group,sv ab f.bytes.length cb,iv f.size,sv ar f.rels.length cr] 87)).alloc (.cells C 110)).alloc (.cells #[iv 0,iv 0,.string ⟨#[]⟩,sv none 0 0,iv 0,sv none 0 0] 87)).heap[w.heap.size]?=some (.cells #[iv f.sect,iv f.align,.string f.group,sv ab f.bytes.length cb,iv f.size,sv ar f.rels.length cr] 87 (0,0)):=(heap_alloc_old _ _ (by simp;omega)).trans (heap_alloc2_old _ _ _)
 have y1:(((w.alloc (.cells #[iv f.sect,iv f.align,.string f.group,sv ab f.bytes.length cb,iv f.size,sv ar f.rels.length cr] 87)).alloc (.cells C 110)).alloc (.cells #[iv 0,iv 0,.string ⟨#[]⟩,sv none 0 0,iv 0,sv none 0 0] 87)).heap[w.heap.size+1]?=some (.cells C 110 (0,0)):=(heap_alloc_old _ _ (by simp)).trans (heap_alloc2_new _ _ _)
 have y2:(((w.alloc (.cells #[iv f.sect,iv f.align,.string f.group,sv ab f.bytes.length cb,iv f.size,sv ar f.rels.length cr] 87)).alloc (.cells C 110)).alloc (.cells #[iv 0,iv 0,.string ⟨#[]⟩,sv none 0 0,iv 0,sv none 0 0] 87)).heap[w.heap.size+2]?=some (.cells frgZ 87 (0,0)):=by
  have:=heap_alloc_new ((w.alloc (.cells #[iv f.sect,iv f.align,.string f.group,sv ab f.bytes.length cb,iv f.size,sv ar f.rels.length cr] 87)).alloc (.cells C 110)) (.cells frgZ 87)
  simpa [frgZ] using this
 have HBY:Hid (Below w.heap.size w (((w.alloc (.cells #[iv f.sect,iv f.align,.string f.group,sv ab f.bytes.length cb,iv f.size,sv ar f.rels.length cr] 87)).alloc (.cells C 110)).alloc (.cells #[iv 0,iv 0,.string ⟨#[]⟩,sv none 0 0,iv 0,sv none 0 0] 87))):=((bra _ _).alloc (by simp) _).alloc (by simp;omega) _
 generalize ((w.alloc (.cells #[iv f.sect,iv f.align,.string f.group,sv ab f.bytes.length cb,iv f.size,sv ar f.rels.length cr] 87)).alloc (.cells C 110)).alloc (.cells #[iv 0,iv 0,.string ⟨#[]⟩,sv none 0 0,iv 0,sv none 0 0] 87)=Y at *
 have hl0:=lt1 y0
 have c3:=cellC y0 3 rfl
 have hsrc:=(hBy.later HBY.out).src
 have hnone:∀w3,Y.grownBy w3 (sv none 0 0).ownBlock→Below Y.heap.size Y w3:=fun w3 hg=>⟨hg.os,hg.tape,hg.output,hg.size,fun k hk=>hg.block k hk (by simp[Value.ownBlock])⟩
 go_wp2_with (at_builtin;refine wpList_append_src _ rfl _ _ 54 rfl w.heap.size 5 i0 (.int .u8 0) 1 1 Tryz.underlying54 hi0 hz0 hz1 hz2 rfl (by decide) (sv none 0 0) 0 [] rfl (World.ownsRow_nil _ _ _ _) _ f.bytes.length (f.bytes.map (Value.int .u8)) rfl hsrc (by simp) (fun u hu=>by obtain⟨b,_,rfl⟩:=List.mem_map.1 hu;rfl) (by unfold maxLen;omega) (by omega) (by omega) ?_;intro bv w3 hownb hgrow3;refine Hid.out ?_)
 obtain⟨av,nv,cv,rfl⟩:=own_form hownb
 have hb3:=hnone _ hgrow3
 have z0:=(hb3.block _ hl0).trans y0
 have z3:=cellC z0 3 rfl
 have f3:=frozenB z0 3
 have z5:=cellC z0 5 rfl
 refine Lib.hid ?_
 go_wp2_with fail
 have z1:=blk hb3 y1
 have z2:=blk hb3 y2
 have HM:Hid (MFrag w (w3.setCell (qa w.heap.size 3) (sv av nv cv)) f C (sv av nv cv) ar cr 0 [] (sv none 0 0)):=by
  have hs:=grown_set w3 w.heap.size 3 (sv av nv cv)
  rw[Nat.zero_add,List.nil_append] at hownb
  refine⟨setB' z0 (sv av nv cv),(Below.heap_setCell _ _ _ _ (by show w.heap.size+1≠w.heap.size;omega)).trans z1,(Below.heap_setCell _ _ _ _ (by show w.heap.size+2≠w.heap.size;omega)).trans z2,hownb.kept hs (own_ne hownb z0 (by decide)),World.ownsRow_nil _ _ _ _,rfl,?_⟩
  exact(HBY.out.trans (hb3.mono (by omega))).setCell (Nat.le_refl _) _
 clear z0 z1 z2 z3 z5 f3 y0 y1 y2 c3 hsrc hnone hownb hgrow3 hb3 HBY hl0
 go_loopw [5,15] (fun s5 s15 wr=>∃(k:Nat) (acc:List M.Rel),k≤f.rels.length∧s15=iv k∧Hid (acc=(f.rels.take k).map (M.movedRel ns))∧MFrag w wr f C (sv av nv cv) ar cr k acc s5) (fun _ s15 _=>f.rels.length-(intOf s15).toNat)
 case atStart=>exact⟨0,[],Nat.zero_le _,rfl,rfl,HM.out⟩
 case round =>
  obtain⟨k,acc,hk,rfl,HA,hM⟩:=hrel
  obtain⟨q0,q1,q2,hby,hown,hla,hB⟩:=hM
  have HB:Hid (Below w.heap.size w wr):=hB
  clear hB HM
  have hl0:=lt1 q0
  have hl1:=lt1 q1
  have hl2:=lt1 q2
  have hw0:w.heap.size≤wr.heap.size:=by omega
  by_cases hlt:k<f.rels.length
  ·obtain⟨b,off,rfl,e0,e1,e2,e3,e4⟩:=relsAt_cells (hRl.later HB.out) k hlt
   have hbr:b<wr.heap.size:=wlt e0
   have HA1:Hid (acc++[M.movedRel ns (f.rels.getD k rel0)]=(f.rels.take (k+1)).map (M.movedRel ns)):=by
    rw[Hid,List.take_succ_eq_append_getElem hlt,List.map_append,←HA.out]
    simp only[List.map_cons,List.map_nil]
    rw[List.getD_eq_getElem?_getD,List.getElem?_eq_getElem hlt];rfl
   have HF:Hid (M.bare (f.rels.getD k rel0).name=true→-1≤(f.rels.getD k rel0).frag∧(f.rels.getD k rel0).frag<60):=hfit _ (getD_mem f.rels rel0 k hlt)
   have hkl:(k:Int)<(f.rels.length:Int):=by omega
   clear hBy hRl hfit HA
   generalize f.rels.getD k rel0=r at *
   obtain⟨pos,kd,nm,fr,ad⟩:=r
   simp only at e0 e1 e2 e3 e4 HF HA1
   obtain⟨a5,n5,c5,rfl⟩:=own_form hown
   cases hb:M.bare nm
   ·have HA2:Hid (acc++[⟨pos,kd,nm,fr,ad⟩]=(f.rels.take (k+1)).map (M.movedRel ns)):=by rw[M.movedRel_named hb] at HA1;exact HA1
    have hb':nm.toList.isEmpty=false:=hb
    clear HA1 hb
    go_upto_region 8 with fail
    have hownX:=hown.alloc (.cells #[iv pos,iv kd,.string nm,iv fr,iv ad] 89)
    have hbyX:=hby.alloc (.cells #[iv pos,iv kd,.string nm,iv fr,iv ad] 89)
    have HBX:Hid (Below w.heap.size w (wr.alloc (.cells #[iv pos,iv kd,.string nm,iv fr,iv ad] 89))):=HB.out.alloc hw0 _
    have x0:=(heap_alloc_old wr (.cells #[iv pos,iv kd,.string nm,iv fr,iv ad] 89) hl0).trans q0
    have x1:=(heap_alloc_old wr (.cells #[iv pos,iv kd,.string nm,iv fr,iv ad] 89) hl1).trans q1
    have x2:=(heap_alloc_old wr (.cells #[iv pos,iv kd,.string nm,iv fr,iv ad] 89) hl2).trans q2
    have x3:=heap_alloc_new wr (.cells #[iv pos,iv kd,.string nm,iv fr,iv ad] 89)
    have hXs:wr.heap.size<(wr.alloc (.cells #[iv pos,iv kd,.string nm,iv fr,iv ad] 89)).heap.size:=by simp
    clear q0 q1 q2 hown hby HB e0 e1 e2 e3 e4
    generalize wr.alloc (.cells #[iv pos,iv kd,.string nm,iv fr,iv ad] 89)=X at *
    have k0:=cellC x3 0 rfl
    have k1:=cellC x3 1 rfl
    have k2:=cellC x3 2 rfl
    have k3:=cellC x3 3 rfl
    have k4:=cellC x3 4 rfl
    have hwX:w.heap.size≤X.heap.size:=by omega
    have hnews:∀j u,(#[iv pos,iv kd,.string nm,iv fr,iv ad]:Array Value).toList[j]?=some u→(X.alloc (.cells #[iv pos,iv kd,.string nm,iv fr,iv ad] 89)).cell? ((qa X.heap.size 0).add j)=some u:=World.news_of_block (heap_alloc_new X _)
    have HE:Hid (∀v' w3,(X.alloc (.cells #[iv pos,iv kd,.string nm,iv fr,iv ad] 89)).grownBy w3 (sv a5 n5 c5).ownBlock→w3.ownsRow w.heap.size 89 5 v' (k+1) (acc.flatMap encRel++(#[iv pos,iv kd,.string nm,iv fr,iv ad]:Array Value).toList)→MFrag w w3 f C (sv av nv cv) _ cr (k+1) (acc++[⟨pos,kd,nm,fr,ad⟩]) v'):=fun v' w3 hg ho =>
     mfrag_step (X:=X) hbyX hownX x0 x1 x2 HBX.out hwX hg (by rw[List.flatMap_append];exact ho) (by rw[List.length_append];simp;omega)
    clear x0 x1 x2 x3 hbyX HBX
    go_wp2_with (at_builtin;refine wpList_append_own _ rfl _ _ 85 rfl w.heap.size 89 i1 (.agg #[iv 0,iv 0,.string ⟨#[]⟩,iv 0,iv 0]) 5 48 Tryz.underlying85 hi1 hy0 hy1 hy2 rfl (by decide) _ _ _ rfl (hownX.alloc _) ⟨X.heap.size,0,none⟩ 1 1 (#[iv pos,iv kd,.string nm,iv fr,iv ad]:Array Value).toList rfl rfl hnews (fun u hu=>by simp at hu;rcases hu with rfl|rfl|rfl|rfl|rfl<;>rfl) (by unfold maxLen;omega) (by omega) (by simp;omega) ?_;intro v' w3 hown' hgrow3 hnil3)
    go_roundw
    case rel=>exact⟨k+1,acc++[⟨pos,kd,nm,fr,ad⟩],by omega,by go_num,HA2,HE.out _ _ hgrow3 hown'⟩
    case measure=>simp[intOf];omega
   ·have hb':nm.toList.isEmpty=true:=hb
    have hfr:=HF.out hb
    cases h1:(fr==-1)
    ·have HA2:Hid (acc++[⟨pos,kd,nm,M.num ns fr,ad⟩]=(f.rels.take (k+1)).map (M.movedRel ns)):=by rw[M.movedRel_bare hb h1] at HA1;exact HA1
     have hn1:(fr !=-1)=true:=by simpa using h1
     have hge:0≤fr:=by rw[beq_eq_false_iff_ne] at h1;omega
     obtain⟨j,rfl⟩:∃j:Nat,fr=(j:Int):=⟨fr.toNat,by omega⟩
     have hj60:(j:Int)<60:=hfr.2
     have hnum:M.num ns j=ns.getD j 0:=by unfold M.num;simp
     rw[hnum] at HA2
     have hcj:wr.cell? (qa (w.heap.size+1) j)=some (iv (ns.getD j 0)):=(cellB q1 j).trans (hC.at' j (by omega))
     clear HA1 hb hnum
     generalize ns.getD j 0=nw at *
     go_upto_region 8 with fail
     have hownX:=hown.alloc (.cells #[iv pos,iv kd,.string nm,iv nw,iv ad] 89)
     have hbyX:=hby.alloc (.cells #[iv pos,iv kd,.string nm,iv nw,iv ad] 89)
     have HBX:Hid (Below w.heap.size w (wr.alloc (.cells #[iv pos,iv kd,.string nm,iv nw,iv ad] 89))):=HB.out.alloc hw0 _
     have x0:=(heap_alloc_old wr (.cells #[iv pos,iv kd,.string nm,iv nw,iv ad] 89) hl0).trans q0
     have x1:=(heap_alloc_old wr (.cells #[iv pos,iv kd,.string nm,iv nw,iv ad] 89) hl1).trans q1
     have x2:=(heap_alloc_old wr (.cells #[iv pos,iv kd,.string nm,iv nw,iv ad] 89) hl2).trans q2
     have x3:=heap_alloc_new wr (.cells #[iv pos,iv kd,.string nm,iv nw,iv ad] 89)
     have hXs:wr.heap.size<(wr.alloc (.cells #[iv pos,iv kd,.string nm,iv nw,iv ad] 89)).heap.size:=by simp
     clear q0 q1 q2 hown hby HB e0 e1 e2 e3 e4
     generalize wr.alloc (.cells #[iv pos,iv kd,.string nm,iv nw,iv ad] 89)=X at *
     have k0:=cellC x3 0 rfl
     have k1:=cellC x3 1 rfl
     have k2:=cellC x3 2 rfl
     have k3:=cellC x3 3 rfl
     have k4:=cellC x3 4 rfl
     have hwX:w.heap.size≤X.heap.size:=by omega
     have hnews:∀j u,(#[iv pos,iv kd,.string nm,iv nw,iv ad]:Array Value).toList[j]?=some u→(X.alloc (.cells #[iv pos,iv kd,.string nm,iv nw,iv ad] 89)).cell? ((qa X.heap.size 0).add j)=some u:=World.news_of_block (heap_alloc_new X _)
     have HE:Hid (∀v' w3,(X.alloc (.cells #[iv pos,iv kd,.string nm,iv nw,iv ad] 89)).grownBy w3 (sv a5 n5 c5).ownBlock→w3.ownsRow w.heap.size 89 5 v' (k+1) (acc.flatMap encRel++(#[iv pos,iv kd,.string nm,iv nw,iv ad]:Array Value).toList)→MFrag w w3 f C (sv av nv cv) _ cr (k+1) (acc++[⟨pos,kd,nm,nw,ad⟩]) v'):=fun v' w3 hg ho =>
      mfrag_step (X:=X) hbyX hownX x0 x1 x2 HBX.out hwX hg (by rw[List.flatMap_append];exact ho) (by rw[List.length_append];simp;omega)
     clear x0 x1 x2 x3 hbyX HBX
     go_wp2_with (at_builtin;refine wpList_append_own _ rfl _ _ 85 rfl w.heap.size 89 i1 (.agg #[iv 0,iv 0,.string ⟨#[]⟩,iv 0,iv 0]) 5 48 Tryz.underlying85 hi1 hy0 hy1 hy2 rfl (by decide) _ _ _ rfl (hownX.alloc _) ⟨X.heap.size,0,none⟩ 1 1 (#[iv pos,iv kd,.string nm,iv nw,iv ad]:Array Value).toList rfl rfl hnews (fun u hu=>by simp at hu;rcases hu with rfl|rfl|rfl|rfl|rfl<;>rfl) (by unfold maxLen;omega) (by omega) (by simp;omega) ?_;intro v' w3 hown' hgrow3 hnil3)
     go_roundw
     case rel=>exact⟨k+1,acc++[⟨pos,kd,nm,nw,ad⟩],by omega,by go_num,HA2,HE.out _ _ hgrow3 hown'⟩
     case measure=>simp[intOf];omega
    ·have HA2:Hid (acc++[⟨pos,kd,nm,fr,ad⟩]=(f.rels.take (k+1)).map (M.movedRel ns)):=by rw[M.movedRel_gone h1] at HA1;exact HA1
     have hn1:(fr !=-1)=false:=by simpa using h1
     clear HA1 hb
     go_upto_region 8 with fail
     have hownX:=hown.alloc (.cells #[iv pos,iv kd,.string nm,iv fr,iv ad] 89)
     have hbyX:=hby.alloc (.cells #[iv pos,iv kd,.string nm,iv fr,iv ad] 89)
     have HBX:Hid (Below w.heap.size w (wr.alloc (.cells #[iv pos,iv kd,.string nm,iv fr,iv ad] 89))):=HB.out.alloc hw0 _
     have x0:=(heap_alloc_old wr (.cells #[iv pos,iv kd,.string nm,iv fr,iv ad] 89) hl0).trans q0
     have x1:=(heap_alloc_old wr (.cells #[iv pos,iv kd,.string nm,iv fr,iv ad] 89) hl1).trans q1
     have x2:=(heap_alloc_old wr (.cells #[iv pos,iv kd,.string nm,iv fr,iv ad] 89) hl2).trans q2
     have x3:=heap_alloc_new wr (.cells #[iv pos,iv kd,.string nm,iv fr,iv ad] 89)
     have hXs:wr.heap.size<(wr.alloc (.cells #[iv pos,iv kd,.string nm,iv fr,iv ad] 89)).heap.size:=by simp
     clear q0 q1 q2 hown hby HB e0 e1 e2 e3 e4
     generalize wr.alloc (.cells #[iv pos,iv kd,.string nm,iv fr,iv ad] 89)=X at *
     have k0:=cellC x3 0 rfl
     have k1:=cellC x3 1 rfl
     have k2:=cellC x3 2 rfl
     have k3:=cellC x3 3 rfl
     have k4:=cellC x3 4 rfl
     have hwX:w.heap.size≤X.heap.size:=by omega
     have hnews:∀j u,(#[iv pos,iv kd,.string nm,iv fr,iv ad]:Array Value).toList[j]?=some u→(X.alloc (.cells #[iv pos,iv kd,.string nm,iv fr,iv ad] 89)).cell? ((qa X.heap.size 0).add j)=some u:=World.news_of_block (heap_alloc_new X _)
     have HE:Hid (∀v' w3,(X.alloc (.cells #[iv pos,iv kd,.string nm,iv fr,iv ad] 89)).grownBy w3 (sv a5 n5 c5).ownBlock→w3.ownsRow w.heap.size 89 5 v' (k+1) (acc.flatMap encRel++(#[iv pos,iv kd,.string nm,iv fr,iv ad]:Array Value).toList)→MFrag w w3 f C (sv av nv cv) _ cr (k+1) (acc++[⟨pos,kd,nm,fr,ad⟩]) v'):=fun v' w3 hg ho =>
      mfrag_step (X:=X) hbyX hownX x0 x1 x2 HBX.out hwX hg (by rw[List.flatMap_append];exact ho) (by rw[List.length_append];simp;omega)
     clear x0 x1 x2 x3 hbyX HBX
     go_wp2_with (at_builtin;refine wpList_append_own _ rfl _ _ 85 rfl w.heap.size 89 i1 (.agg #[iv 0,iv 0,.string ⟨#[]⟩,iv 0,iv 0]) 5 48 Tryz.underlying85 hi1 hy0 hy1 hy2 rfl (by decide) _ _ _ rfl (hownX.alloc _) ⟨X.heap.size,0,none⟩ 1 1 (#[iv pos,iv kd,.string nm,iv fr,iv ad]:Array Value).toList rfl rfl hnews (fun u hu=>by simp at hu;rcases hu with rfl|rfl|rfl|rfl|rfl<;>rfl) (by unfold maxLen;omega) (by omega) (by simp;omega) ?_;intro v' w3 hown' hgrow3 hnil3)
     go_roundw
     case rel=>exact⟨k+1,acc++[⟨pos,kd,nm,fr,ad⟩],by omega,by go_num,HA2,HE.out _ _ hgrow3 hown'⟩
     case measure=>simp[intOf];omega
  ·have hkl:k=f.rels.length:=by omega
   have HA2:Hid (acc=f.rels.map (M.movedRel ns)):=by rw[Hid,HA.out,hkl,List.take_length]
   clear HA hBy hRl hfit
   subst hkl
   obtain⟨a5,n5,p5,rfl⟩:=own_form hown
   have c0:=cellC q0 0 rfl
   have c1:=cellC q0 1 rfl
   have c2:=cellC q0 2 rfl
   have c3:=cellC q0 3 rfl
   have c4:=cellC q0 4 rfl
   have c5:=cellC q0 5 rfl
   have f5:=frozenB q0 5
   have d0:=cellC q2 0 rfl
   have d1:=cellC q2 1 rfl
   have d2:=cellC q2 2 rfl
   have d3:=cellC q2 3 rfl
   have d4:=cellC q2 4 rfl
   have d5:=cellC q2 5 rfl
   have g0:=frozenB q2 0
   have g1:=frozenB q2 1
   have g2:=frozenB q2 2
   have g3:=frozenB q2 3
   have g4:=frozenB q2 4
   have g5:=frozenB q2 5
   have x0:=setB' (i:=5) q0 (sv a5 n5 p5)
   have x2:(wr.setCell (qa w.heap.size 5) (sv a5 n5 p5)).heap[w.heap.size+1+1]?=some (.cells frgZ 87 (0,0)):=(Below.heap_setCell _ _ _ _ (by show w.heap.size+1+1≠w.heap.size;omega)).trans q2
   have hbyX:=row_setc (i:=5) (u:=sv a5 n5 p5) hby q0 (by decide)
   have hownX:=row_setc (i:=5) (u:=sv a5 n5 p5) hown q0 (by decide)
   have HBX:=HB.out.setCell (p:=⟨w.heap.size,5,none⟩) (Nat.le_refl _) (sv a5 n5 p5)
   have HSt:Hid _:=store6 (wr.setCell (qa w.heap.size 5) (sv a5 n5 p5)) (w.heap.size+1+1) _ _ _ _ _ _ (iv f.sect) (iv f.align) (.string f.group) (sv av nv cv) (iv f.size) (sv a5 n5 p5) 87 x2
   have HRes:Hid (Below w.heap.size w _∧World.ownsRow _ w.heap.size 5 1 (sv av nv cv) f.bytes.length (f.bytes.map (Value.int .u8))∧World.ownsRow _ w.heap.size 89 5 (sv a5 n5 p5) f.rels.length ((f.rels.map (M.movedRel ns)).flatMap encRel)) :=
    ⟨HBX.grown HSt.out.2 (by simpa using hw0) (fun k hk=>by cases hk;omega),hbyX.kept HSt.out.2 (own_ne hbyX x2 (by decide)),by rw[←HA2.out];exact hownX.kept HSt.out.2 (own_ne hownX x2 (by decide))⟩
   clear x0 x2 hbyX hownX HBX
   go_wp2
   refine bodyPost_ret (v:=.agg #[iv f.sect,iv f.align,.string f.group,sv av nv cv,iv f.size,sv a5 n5 p5]) (results_cell_row Tryz.results90 _ _ (w.heap.size+1+1) 87 _ (0,0) _ rfl HSt.out.1 Tryz.underlying87 rfl (by kernel_rfl)) rfl ?_
   exact⟨HRes.out.1,_,_,rfl,HRes.out.2.1,HRes.out.2.2⟩
end Go.Proofs.YtpkfmfhodbjckaaGreatDoor
