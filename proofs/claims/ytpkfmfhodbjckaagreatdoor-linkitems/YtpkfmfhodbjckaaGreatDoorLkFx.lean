/-
  The contract of link.faulty: is a name one of the faults? The contract of link.placeFaults. The contracts of link.nameFaults and link.allFaults.
-/
import Derived.Test.YtpkfmfhodbjckaaGreatDoorLkNn
set_option linter.unusedVariables false
set_option maxHeartbeats 8000000
set_option maxRecDepth 100000
namespace Go.Proofs.YtpkfmfhodbjckaaGreatDoor
open Go Go.RowKit
theorem FltsAt.cells{w:World}{a:Option Addr}{c:Nat}{l:List Flt}(h:FltsAt w (sv a l.length c) l)(k:Nat)(hk:k<l.length) :
  ∃b off,a=some (qa b off)∧w.cell? (qa b (off+k*4))=some (iv (l.getD k flt0).e)∧w.cell? (qa b (off+k*4+1))=some (.string (l.getD k flt0).name)∧w.cell? (qa b (off+k*4+2))=some (iv (l.getD k flt0).frag)∧w.cell? (qa b (off+k*4+3))=some (iv (l.getD k flt0).pos):=by
 obtain⟨b,off,e,hc⟩:=SlAt.at h k hk
 exact⟨b,off,e,hc 0 (by decide),hc 1 (by decide),hc 2 (by decide),hc 3 (by decide)⟩
theorem faultyFn_any(f:Flt)(n:Nat)(s:ByteArray)(w:World)(hs:w.cell? (qa n 0)=some (.string s)) :
  Calls Tryz.prog 132 #[.agg #[iv f.e,.string f.name,iv f.frag,iv f.pos],qv n 0] w fun e w'=>e=.returned (.bool (f.name.toList==s.toList))∧Below w.heap.size w w':=by
 obtain⟨e,nm,fr,pos⟩:=f
 have hA:Below w.heap.size w (w.alloc (.cells #[iv e,.string nm,iv fr,iv pos] 49)):=bra _ _
 have hnw:n<w.heap.size:=wlt hs
 simp only
 go_enter Tryz.func132,Tryz.ntmps132
 go_wp2
 go_ret
 exact⟨rfl,hA⟩
theorem indexFaulty_any(l:List Flt)(a:Option Addr)(c n:Nat)(s:ByteArray)(w:World)(h:FltsAt w (sv a l.length c) l)(hs:w.cell? (qa n 0)=some (.string s)) :
  Calls Tryz.prog 72 #[sv a l.length c,.func (.func 132) #[] #[qv n 0]] w fun e w'=>(∃x,e=.returned (iv x)∧decide (0≤x)=M.faulty l s)∧Below w.heap.size w w':=by
 have hn:l.length≤maxLen:=by obtain⟨_,_,_,h⟩:=SlAt.form h;exact h
 unfold maxLen at hn
 have HH:Hid (∀W,Below w.heap.size w W→FltsAt W (sv a l.length c) l∧W.cell? (qa n 0)=some (.string s)):=fun W hW=>⟨h.later hW,cell_later hW hs⟩
 clear h hs
 have HA0:Hid (M.faulty (l.take 0) s=false):=rfl
 go_enter Tryz.func72,Tryz.ntmps72
 go_wp2_with fail
 go_loopw [8] (fun s8 wr=>∃(k:Nat),k≤l.length∧s8=iv k∧Hid (M.faulty (l.take k) s=false)∧Hid (Below w.heap.size w wr)) (fun s8 _=>l.length-(intOf s8).toNat)
 case atStart=>exact⟨0,Nat.zero_le _,rfl,HA0,Below.refl _ _⟩
 case round =>
  obtain⟨k,hk,rfl,HA,HB⟩:=hrel
  clear HA0
  by_cases hlt:k<l.length
  ·obtain⟨bb,off,rfl,e0,e1,e2,e3⟩:=(HH.out wr HB.out).1.cells k hlt
   have hkl:(k:Int)<(l.length:Int):=by omega
   have KC:Hid (Calls Tryz.prog 132 #[.agg #[iv (l.getD k flt0).e,.string (l.getD k flt0).name,iv (l.getD k flt0).frag,iv (l.getD k flt0).pos],qv n 0] wr fun e w'=>e=.returned (.bool ((l.getD k flt0).name.toList==s.toList))∧Below wr.heap.size wr w'):=faultyFn_any (l.getD k flt0) n s wr (HH.out wr HB.out).2
   have HN:Hid (M.faulty (l.take (k+1)) s=((l.getD k flt0).name.toList==s.toList)):=by
    have:=HA.out
    unfold M.faulty at this ⊢
    rw[Hid,List.take_succ_eq_append_getElem hlt,List.any_append,this,List.getD_eq_getElem?_getD,List.getElem?_eq_getElem hlt];simp
   have HT:Hid (((l.getD k flt0).name.toList==s.toList)=true→M.faulty l s=true):=fun h=>List.any_eq_true.2 ⟨_,getD_mem l flt0 k hlt,h⟩
   clear HA
   generalize ((l.getD k flt0).name.toList==s.toList)=R at *
   generalize l.getD k flt0=d at *
   obtain⟨er,nm,fr,pos⟩:=d
   simp only at e0 e1 e2 e3 KC
   cases R
   ·clear HT
    go_wp2_with (go_at_call 132;refine KC.out.mono ?_;rintro e w1 ⟨rfl,hb1⟩)
    go_roundw
    case rel=>exact⟨k+1,by omega,by go_num,HN,HB.out.trans (hb1.mono HB.out.size)⟩
    case measure=>simp[intOf];omega
   ·have HAn:Hid _:=HT.out rfl
    clear HT HN
    go_wp2_with (go_at_call 132;refine KC.out.mono ?_;rintro e w1 ⟨rfl,hb1⟩)
    go_ret
    exact⟨⟨_,rfl,by rw[HAn.out];simp⟩,HB.out.trans (hb1.mono HB.out.size)⟩
  ·obtain rfl:k=l.length:=by omega
   have HAn:Hid (M.faulty l s=false):=by have:=HA.out;rwa [List.take_length] at this
   clear HA
   go_wp2
   go_ret
   exact⟨⟨_,rfl,by rw[HAn.out];decide⟩,HB.out⟩
theorem containsFaulty_any(l:List Flt)(a:Option Addr)(c n:Nat)(s:ByteArray)(w:World)(h:FltsAt w (sv a l.length c) l)(hs:w.cell? (qa n 0)=some (.string s)) :
  Calls Tryz.prog 34 #[sv a l.length c,.func (.func 132) #[] #[qv n 0]] w fun e w'=>e=.returned (.bool (M.faulty l s))∧Below w.heap.size w w':=by
 have HK:Hid _:=indexFaulty_any l a c n s w h hs
 generalize M.faulty l s=R at *
 clear h hs
 go_enter Tryz.func34,Tryz.ntmps34
 go_wp2_with (go_at_call 72;refine Calls.mono HK.out ?_;rintro e w1 ⟨⟨x,rfl,hx⟩,hb1⟩)
 go_ret
 exact⟨by simp_all,hb1⟩
theorem faulty_any(l:List Flt)(a:Option Addr)(c:Nat)(s:ByteArray)(w:World)(h:FltsAt w (sv a l.length c) l) :
  Calls Tryz.prog 117 #[sv a l.length c,.string s] w fun e w'=>e=.returned (.bool (M.faulty l s))∧Below w.heap.size w w':=by
 have hA:Below w.heap.size w (w.alloc (.cells #[.string s] 9)):=bra _ _
 have q:=heap_alloc_new w (.cells #[.string s] 9)
 have HK:Hid (Calls Tryz.prog 34 #[sv a l.length c,.func (.func 132) #[] #[qv w.heap.size 0]] (w.alloc (.cells #[.string s] 9)) _):=containsFaulty_any l a c w.heap.size s _ (h.later hA) (cellB q 0)
 generalize M.faulty l s=R at *
 clear h q
 go_enter Tryz.func117,Tryz.ntmps117
 go_wp2_with (go_at_call 34;refine HK.out.mono ?_;rintro e w1 ⟨rfl,hb1⟩)
 go_ret
 exact⟨rfl,hA.trans (hb1.mono hA.size)⟩
theorem fragFaults_take(p:M.Prt)(l:M.Lay)(nm:List Flt)(i:Nat)(rs:List M.Rel)(j:Nat)(h:j<rs.length):M.fragFaults p l nm i (rs.take (j+1))=M.fragFaults p l nm i (rs.take j)++M.placeFault p l nm i (rs.getD j rel0):=by
 unfold M.fragFaults
 rw[List.take_succ_eq_append_getElem h,List.flatMap_append,List.getD_eq_getElem?_getD,List.getElem?_eq_getElem h]
 simp
theorem placeFaults_succ(p:M.Prt)(l:M.Lay)(nm:List Flt)(k:Nat):M.placeFaultsN p l nm (k+1)=M.placeFaultsN p l nm k++M.fragFaults p l nm k (p.frags.getD k frg0).rels:=by
 unfold M.placeFaultsN
 rw[List.range_succ,List.flatMap_append]
 simp
theorem placeFault_told{p:M.Prt}{l:M.Lay}{nm:List Flt}{i:Nat}{r:M.Rel}(h:M.faulty nm r.name=true):M.placeFault p l nm i r=[]:=if_pos h
theorem placeFault_none{p:M.Prt}{l:M.Lay}{nm:List Flt}{i:Nat}{r:M.Rel}(h:M.faulty nm r.name=false)(h2:(M.number p l i r).2=0):M.placeFault p l nm i r=[]:=by
 unfold M.placeFault;rw[if_neg (by rw[h];decide),if_pos h2]
theorem placeFault_some{p:M.Prt}{l:M.Lay}{nm:List Flt}{i:Nat}{r:M.Rel}(h:M.faulty nm r.name=false)(h2:¬(M.number p l i r).2=0):M.placeFault p l nm i r=[⟨(M.number p l i r).2,⟨#[]⟩,i,r.pos⟩]:=by
 unfold M.placeFault;rw[if_neg (by rw[h];decide),if_neg h2]
def FRow (w:World) (B:Nat) (v:Value) (l:List Flt):Prop:=w.ownsRow B 49 4 v l.length (l.flatMap encF)
theorem FRow.later{w w':World}{B:Nat}{v:Value}{l:List Flt}(h:FRow w B v l)(hb:Below w.heap.size w w'):FRow w' B v l:=World.ownsRow.kept h (grown_of_below hb none) own_self
theorem placeFaults_any(p:M.Prt)(l:M.Lay)(nm:List Flt)(a1 an:Option Addr)(c1 cn bp bl:Nat)(w:World)(hf:FragsAt w (sv a1 p.frags.length c1) p.frags)(hn:FltsAt w (sv an nm.length cn) nm)(h:NumAt w bp bl p l) :
  Calls Tryz.prog 87 #[sv a1 p.frags.length c1,sv an nm.length cn,.func (.func 83) #[] #[qv bp 0,qv bl 0]] w
   fun e w'=>Below w.heap.size w w'∧∃v,e=.returned v∧FRow w' w.heap.size v (M.placeFaults p l nm)∧(M.placeFaults p l nm).length≤480:=by
 obtain⟨i1,hi1,hy0,hy1,hy2⟩:=info_parts (P:=Tryz.prog) (e:=49) (z:=.agg #[iv 0,.string ⟨#[]⟩,iv 0,iv 0]) (size:=4) (bytes:=40) (by kernel_rfl)
 have hok:=(M.ok_iff p).1 h.ok.ck
 have h60:=hok.nf
 have HRk:Hid (∀f∈p.frags,f.rels.length≤8∧∀r∈f.rels,(r.name.toList.isEmpty=true→r.frag<p.frags.length)∧0≤r.pos∧r.pos≤64):=fun f hf=>by
  refine⟨(M.frag_parts (M.frag_ok hok hf)).2.2.1,fun r hr=>?_⟩
  obtain⟨h1,h2⟩:=M.rel_ok hok hf hr
  have h3:=h1.pos
  have h4:0≤M.wide r.kind:=by unfold M.wide;split;decide;split<;>decide
  exact⟨fun hb=>(h1.frag hb).2,h1.pos0,by omega⟩
 have HH:Hid (∀W,Below w.heap.size w W→FragsAt W (sv a1 p.frags.length c1) p.frags∧FltsAt W (sv an nm.length cn) nm∧NumAt W bp bl p l):=fun W hW=>⟨hf.later hW,hn.later hW,h.later hW⟩
 have KF:Hid (∀W s,Below w.heap.size w W→Calls Tryz.prog 117 #[sv an nm.length cn,.string s] W fun e w'=>e=.returned (.bool (M.faulty nm s))∧Below W.heap.size W w'):=fun W s hW=>faulty_any nm an cn s W (hn.later hW)
 have KN:Hid (∀W i (r:M.Rel),Below w.heap.size w W→i<p.frags.length→(r.name.toList.isEmpty=true→r.frag<p.frags.length)→0≤r.pos→r.pos≤64→Calls Tryz.prog 83 #[iv i,.agg #[iv r.pos,iv r.kind,.string r.name,iv r.frag,iv r.add],qv bp 0,qv bl 0] W fun e w'=>e=.returned (.tuple #[iv (M.number p l i r).1,iv (M.number p l i r).2])∧Below W.heap.size W w'):=fun W i r hW hi h1 h2 h3=>number_any p l i r bp bl W (h.later hW) hi h1 h2 h3
 have HF0:Hid (FragsAt w (sv a1 p.frags.length c1) p.frags):=hf
 clear hf hn h hok
 have HP0:Hid (M.placeFaultsN p l nm 0=[]):=rfl
 have HPS:Hid (∀k,M.placeFaultsN p l nm (k+1)=M.placeFaultsN p l nm k++M.fragFaults p l nm k (p.frags.getD k frg0).rels):=placeFaults_succ p l nm
 have HPE:Hid (M.placeFaults p l nm=M.placeFaultsN p l nm p.frags.length):=rfl
 generalize M.placeFaults p l nm=PF at *
 go_enter Tryz.func87,Tryz.ntmps87
 go_wp2_with fail
 go_loopw [7,16] (fun s7 s16 wr=>∃(k:Nat) (m:List Flt),k≤p.frags.length∧s16=iv k∧Hid (m=M.placeFaultsN p l nm k)∧m.length≤8*k∧FRow wr w.heap.size s7 m∧Hid (Below w.heap.size w wr)) (fun _ s16 _=>p.frags.length-(intOf s16).toNat)
 case atStart=>exact⟨0,[],Nat.zero_le _,rfl,HP0.out.symm,Nat.le_refl _,World.ownsRow_nil _ _ _ _,Below.refl _ _⟩
 case round =>
  obtain⟨k,m,hk,rfl,HM,hmk,hown,HB⟩:=hrel
  have hw0:w.heap.size≤wr.heap.size:=HB.out.size
  by_cases hlt:k<p.frags.length
  ·obtain⟨b,off,ab,cb,ar,cr,rfl,e0,e1,e2,e3,e4,e5,_,hRl,_,_⟩:=FragsAt.cells HF0.out k hlt
   replace e0:=cell_later HB.out e0
   replace e1:=cell_later HB.out e1
   replace e2:=cell_later HB.out e2
   replace e3:=cell_later HB.out e3
   replace e4:=cell_later HB.out e4
   replace e5:=cell_later HB.out e5
   obtain⟨hr8,hrk⟩:=HRk.out _ (getD_mem p.frags frg0 k hlt)
   have HRk':Hid _:=hrk
   have HL1:=HPS.out k
   rw[←HM.out] at HL1
   have hkl:(k:Int)<(p.frags.length:Int):=by omega
   have hbr:b<wr.heap.size:=wlt e0
   clear HM hrk
   generalize p.frags.getD k frg0=f at *
   obtain⟨s,al,g,bs,sz,rs⟩:=f
   simp only at e0 e1 e2 e3 e4 e5 hRl hr8 HL1 HRk'
   have HL2:Hid (M.placeFaultsN p l nm (k+1)=m++M.fragFaults p l nm k rs):=HL1
   clear HL1
   generalize bs.length=nb at *
   have HRl:Hid (∀W,Below w.heap.size w W→RelsAt W (sv ar rs.length cr) rs):=fun W hW=>hRl.later hW
   clear hRl
   obtain⟨a5,n5,c5,rfl⟩:=own_form hown
   go_upto_region 6 with fail
   have hbX:Below wr.heap.size wr (wr.alloc (.cells #[iv s,iv al,.string g,sv ab nb cb,iv sz,sv ar rs.length cr] 87)):=bra _ _
   have hownX:=hown.later hbX
   have HBX:Hid (Below w.heap.size w (wr.alloc (.cells #[iv s,iv al,.string g,sv ab nb cb,iv sz,sv ar rs.length cr] 87))):=HB.out.alloc hw0 _
   clear hown HB e0 e1 e2 e3 e4 e5 hbX HF0
   generalize wr.alloc (.cells #[iv s,iv al,.string g,sv ab nb cb,iv sz,sv ar rs.length cr] 87)=X at *
   rename World=>W0
   go_loopw [7,24] (fun s7 s24 wi=>∃(j:Nat) (t:List Flt),j≤rs.length∧s24=iv j∧Hid (t=m++M.fragFaults p l nm k (rs.take j))∧t.length≤m.length+j∧FRow wi w.heap.size s7 t∧Hid (Below w.heap.size w wi)) (fun _ s24 _=>rs.length-(intOf s24).toNat)
   case atStart=>exact⟨0,m,Nat.zero_le _,rfl,by simp[Hid,M.fragFaults],by omega,hownX,HBX.out⟩
   case round =>
    obtain⟨j,t,hj,rfl,HT,htj,hown,HB⟩:=hrel
    clear hownX HBX
    have hw1:w.heap.size≤wr.heap.size:=HB.out.size
    by_cases hjt:j<rs.length
    ·obtain⟨b',off',rfl,e0,e1,e2,e3,e4⟩:=relsAt_cells (HRl.out wr HB.out) j hjt
     have hbr':b' < wr.heap.size:=wlt e0
     have HT1:m++M.fragFaults p l nm k (rs.take (j+1))=t++M.placeFault p l nm k (rs.getD j rel0):=by rw[fragFaults_take p l nm k rs j hjt,←List.append_assoc,←HT.out]
     have hjl:(j:Int)<(rs.length:Int):=by omega
     obtain⟨g1,g2,g3⟩:=HRk'.out _ (getD_mem rs rel0 j hjt)
     have P1:Hid _:=@placeFault_told p l nm k (rs.getD j rel0)
     have P2:Hid _:=@placeFault_none p l nm k (rs.getD j rel0)
     have P3:Hid _:=@placeFault_some p l nm k (rs.getD j rel0)
     have KN':Hid (∀W,Below w.heap.size w W→_):=fun W hW=>KN.out W k (rs.getD j rel0) hW hlt g1 g2 g3
     have KF':Hid (∀W,Below w.heap.size w W→_):=fun W hW=>KF.out W (rs.getD j rel0).name hW
     clear HT g1 g2 g3
     generalize M.placeFault p l nm k (rs.getD j rel0)=pf at *
     generalize M.number p l k (rs.getD j rel0)=nu at *
     generalize rs.getD j rel0=r at *
     obtain⟨pos,kd,name,fr,ad⟩:=r
     simp only at e0 e1 e2 e3 e4 HT1 P1 P2 P3 KN' KF'
     generalize M.faulty nm name=fy at *
     obtain⟨a6,n6,c6,rfl⟩:=own_form hown
     go_upto_region 8 with fail
     have hbY:Below wr.heap.size wr (wr.alloc (.cells #[iv pos,iv kd,.string name,iv fr,iv ad] 89)):=bra _ _
     have hownY:=hown.later hbY
     have HBY:Hid (Below w.heap.size w (wr.alloc (.cells #[iv pos,iv kd,.string name,iv fr,iv ad] 89))):=HB.out.alloc hw1 _
     have x3:=heap_alloc_new wr (.cells #[iv pos,iv kd,.string name,iv fr,iv ad] 89)
     clear hown HB e0 e1 e2 e3 e4 hbY
     generalize wr.alloc (.cells #[iv pos,iv kd,.string name,iv fr,iv ad] 89)=Y at *
     generalize wr.heap.size=ny at *
     have k2:=cellC x3 2 rfl
     have hlY:=lt1 x3
     have KF2:Hid (Calls Tryz.prog 117 #[sv an nm.length cn,.string name] Y _):=KF'.out Y HBY.out
     have HY:Hid (∀W,Below Y.heap.size Y W→FRow W w.heap.size (sv a6 n6 c6) t∧Below w.heap.size w W∧W.heap[ny]?=some (.cells #[iv pos,iv kd,.string name,iv fr,iv ad] 89 (0,0))):=fun W hW=>⟨hownY.later hW,HBY.out.trans (hW.mono HBY.out.size),(hW.block _ hlY).trans x3⟩
     clear hownY HBY x3 KF'
     obtain⟨n1,n2⟩:=nu
     simp only at KN' P2 P3
     cases fy
     ·go_upto_region 9 with (go_at_call 117;refine KF2.out.mono ?_;rintro e Z ⟨rfl,hbZ⟩)
      obtain⟨-,hBZ,z3⟩:=HY.out Z hbZ
      have KN2:Hid (Calls Tryz.prog 83 #[iv k,.agg #[iv pos,iv kd,.string name,iv fr,iv ad],qv bp 0,qv bl 0] Z _):=KN'.out Z hBZ
      have z0:=cellC z3 0 rfl
      have z1:=cellC z3 1 rfl
      have z2:=cellC z3 2 rfl
      have z4:=cellC z3 3 rfl
      have z5:=cellC z3 4 rfl
      have hlZ:=lt1 z3
      clear hBZ z3 KN' k2 KF2
      by_cases hne:n2=0
      ·subst hne
       have HE:Hid (t=m++M.fragFaults p l nm k (rs.take (j+1))):=by rw[Hid,HT1,P2.out (by trivial) (by trivial),List.append_nil]
       clear P1 P2 P3 HT1
       go_wp2_with (go_at_call 83;refine KN2.out.mono ?_;rintro e V ⟨rfl,hbV⟩)
       obtain⟨h1,h2,-⟩:=HY.out V (hbZ.trans (hbV.mono hbZ.size))
       go_roundw
       case rel=>exact⟨j+1,t,by omega,by go_num,HE,by omega,h1,h2⟩
       case measure=>simp[intOf];omega
      ·have hne':(n2 !=0)=true:=by simpa using hne
       have HE:Hid (t++[⟨n2,⟨#[]⟩,k,pos⟩]=m++M.fragFaults p l nm k (rs.take (j+1))):=by rw[Hid,HT1,P3.out (by trivial) hne]
       clear P1 P2 P3 HT1
       go_upto_region 11 with (go_at_call 83;refine KN2.out.mono ?_;rintro e V ⟨rfl,hbV⟩)
       obtain⟨h1,h2,v3⟩:=HY.out V (hbZ.trans (hbV.mono hbZ.size))
       have v0:=cellC v3 0 rfl
       have hlV:=lt1 v3
       have hwV:w.heap.size≤V.heap.size:=h2.size
       have HBV:Hid _:=h2
       clear KN2 z0 z1 z2 z4 z5 v3 h2 hbV hbZ
       have hnews:∀j u,(#[iv n2,.string ⟨#[]⟩,iv k,iv pos]:Array Value).toList[j]?=some u→(V.alloc (.cells #[iv n2,.string ⟨#[]⟩,iv k,iv pos] 49)).cell? ((qa V.heap.size 0).add j)=some u:=World.news_of_block (heap_alloc_new V _)
       go_wp2_with (at_builtin;refine wpList_append_own _ rfl _ _ 26 rfl w.heap.size 49 i1 (.agg #[iv 0,.string ⟨#[]⟩,iv 0,iv 0]) 4 40 Tryz.underlying26 hi1 hy0 hy1 hy2 rfl (by decide) _ _ _ rfl (World.ownsRow.alloc h1 _) ⟨V.heap.size,0,none⟩ 1 1 (#[iv n2,.string ⟨#[]⟩,iv k,iv pos]:Array Value).toList rfl rfl hnews (fun u hu=>by simp at hu;rcases hu with rfl|rfl|rfl|rfl<;>rfl) (by unfold maxLen;omega) (by omega) (by simp;omega) ?_;intro v' w3 hown' hgrow3 hnil3)
       have HE1:Hid (FRow w3 w.heap.size v' (t++[⟨n2,⟨#[]⟩,k,pos⟩])):=by
        unfold FRow
        rw[Hid,List.length_append,List.flatMap_append];exact hown'
       have HE2:Hid (Below w.heap.size w w3):=(HBV.out.alloc hwV _).grown hgrow3 (by simp;omega) (fun k hk=>(World.ownsRow.lt h1 k hk).1)
       go_roundw
       case rel=>exact⟨j+1,t++[⟨n2,⟨#[]⟩,k,pos⟩],by omega,by go_num,HE,by simp;omega,HE1.out,HE2⟩
       case measure=>simp[intOf];omega
     ·have HE:Hid (t=m++M.fragFaults p l nm k (rs.take (j+1))):=by rw[Hid,HT1,P1.out rfl,List.append_nil]
      clear P1 P2 P3 HT1 KN'
      go_wp2_with (go_at_call 117;refine KF2.out.mono ?_;rintro e Z ⟨rfl,hbZ⟩)
      obtain⟨h1,h2,-⟩:=HY.out Z hbZ
      go_roundw
      case rel=>exact⟨j+1,t,by omega,by go_num,HE,by omega,h1,h2⟩
      case measure=>simp[intOf];omega
    ·have hjl:j=rs.length:=by omega
     have HM2:Hid (t=M.placeFaultsN p l nm (k+1)):=by rw[Hid,HT.out,hjl,List.take_length,HL2.out]
     clear HT HL2
     subst hjl
     go_wp2
     go_roundw
     case rel=>exact⟨k+1,t,by omega,by go_num,HM2,by omega,hown,HB⟩
     case measure=>simp[intOf];omega
  ·have hkl:k=p.frags.length:=by omega
   have HL2:Hid (m=PF):=by rw[Hid,HM.out,hkl,HPE.out]
   clear HM
   subst hkl
   obtain⟨a5,n5,c5,rfl⟩:=own_form hown
   go_wp2
   go_ret
   exact⟨HB.out,_,rfl,by rw[←HL2.out];exact hown,by rw[←HL2.out];omega⟩
theorem own_weaken{w:World}{B B' k n:Nat}{e:TypeId}{v:Value}{xs:List Value}(h:w.ownsRow B e k v n xs)(hB:B'≤B):w.ownsRow B' e k v n xs :=
 let ⟨h0,h1⟩:=h
 ⟨h0,h1.imp id fun ⟨g,cap,cs,e,hg,r⟩=>⟨g,cap,cs,e,Nat.le_trans hB hg,r⟩⟩
theorem nameFaults_ok{p:M.Prt}{s:ByteArray}(h:(M.find p.defs s).2=0):M.nameFaults p s=M.named p:=if_pos h
theorem nameFaults_told{p:M.Prt}{s:ByteArray}(h:¬(M.find p.defs s).2=0)(h2:M.faulty (M.named p) s=true):M.nameFaults p s=M.named p:=by
 unfold M.nameFaults;rw[if_neg h,if_pos h2]
theorem nameFaults_more{p:M.Prt}{s:ByteArray}(h:¬(M.find p.defs s).2=0)(h2:M.faulty (M.named p) s=false):M.nameFaults p s=M.named p++[⟨(M.find p.defs s).2,s,0,0⟩]:=by
 unfold M.nameFaults;rw[if_neg h,if_neg (by rw[h2];decide)]
theorem named_flat(l:List (Int × ByteArray)):l.flatMap encFlt=(l.map M.fltOf).flatMap encF:=by
 induction l with
 | nil=>rfl
 | cons x l ih=>rw[List.flatMap_cons,ih];rfl
theorem named_len{p:M.Prt}(h:M.Ok p):(M.named p).length≤540:=by
 have h1:=List.length_filterMap_le (M.faultAt p.defs) (M.rising (M.wanted p++M.defined p))
 have h2:=rising_le (M.wanted p++M.defined p)
 have h3:=rising_le (M.wantedNames p.frags)
 have h4:=rising_le (M.definedNames p.defs)
 have h5:=wantedNames_le p.frags (fun f hf=>(M.frag_parts (M.frag_ok h hf)).2.2.1)
 have h6:(M.definedNames p.defs).length=p.defs.length:=by simp[M.definedNames]
 have h7:=h.nf
 have h8:=h.nd
 rw[List.length_append] at h2
 unfold M.named M.faults
 rw[List.length_map]
 unfold M.wanted M.defined at *
 omega
theorem nameFaults_any(p:M.Prt)(s:ByteArray)(a1 a2:Option Addr)(c1 c2:Nat)(w:World)(hf:FragsAt w (sv a1 p.frags.length c1) p.frags)(hd:DefsAt w (sv a2 p.defs.length c2) p.defs)(hck:M.checkPart p=0) :
  Calls Tryz.prog 86 #[.agg #[sv a1 p.frags.length c1,sv a2 p.defs.length c2],.string s] w
   fun e w'=>Below w.heap.size w w'∧∃v,e=.returned v∧FRow w' w.heap.size v (M.nameFaults p s)∧(M.nameFaults p s).length≤541:=by
 obtain⟨i1,hi1,hy0,hy1,hy2⟩:=info_parts (P:=Tryz.prog) (e:=49) (z:=.agg #[iv 0,.string ⟨#[]⟩,iv 0,iv 0]) (size:=4) (bytes:=40) (by kernel_rfl)
 have hnl:=named_len ((M.ok_iff p).1 hck)
 have hA:Below w.heap.size w (w.alloc (.cells #[sv a1 p.frags.length c1,sv a2 p.defs.length c2] 43)):=bra _ _
 have q:=heap_alloc_new w (.cells #[sv a1 p.frags.length c1,sv a2 p.defs.length c2] 43)
 have KS:Hid (Calls Tryz.prog 116 #[.agg #[sv a1 p.frags.length c1,sv a2 p.defs.length c2]] (w.alloc (.cells #[sv a1 p.frags.length c1,sv a2 p.defs.length c2] 43)) fun e w'=>Below (w.alloc (.cells #[sv a1 p.frags.length c1,sv a2 p.defs.length c2] 43)).heap.size (w.alloc (.cells #[sv a1 p.frags.length c1,sv a2 p.defs.length c2] 43)) w'∧∃v,e=.returned (.tuple #[v,iv 0])∧FRow w' w.heap.size v (M.named p)):=by
  refine(faultsP_any p a1 a2 c1 c2 _ (hf.later hA) (hd.later hA)).mono ?_
  rintro e w' ⟨hb,v,rfl,ho⟩
  rw[hck]
  refine⟨hb,v,rfl,?_⟩
  have hfo:faultsOfP p=M.faults p:=if_pos hck
  rw[hfo,named_flat] at ho
  unfold FRow M.named
  rw[List.length_map]
  exact own_weaken ho (by simp)
 have KFd:Hid (∀W,Below w.heap.size w W→Calls Tryz.prog 110 #[.agg #[sv a1 p.frags.length c1,sv a2 p.defs.length c2],.string s] W fun e w'=>e=.returned (.tuple #[.agg (dfnArr (M.find p.defs s).1),iv (M.find p.defs s).2])∧Below W.heap.size W w'):=fun W hW=>by
  have:=findP_any p s a1 a2 c1 c2 W (hf.later hW) (hd.later hW)
  unfold findOf at this
  rwa [if_pos hck] at this
 have N1:Hid _:=@nameFaults_ok p s
 have N2:Hid _:=@nameFaults_told p s
 have N3:Hid _:=@nameFaults_more p s
 clear hf hd hck
 generalize M.nameFaults p s=NF at *
 generalize M.find p.defs s=V at *
 obtain⟨d,er⟩:=V
 obtain⟨nm,kd,fg,ps,sz,al⟩:=d
 simp only[dfnArr] at KFd N1 N2 N3
 have u0:=cellB q 0
 have u1:=cellB q 1
 go_enter Tryz.func86,Tryz.ntmps86
 go_upto_region 2 with (go_at_call 116;refine KS.out.mono ?_;rintro e X ⟨hbX,v,rfl,hoX⟩)
 have HBX:Hid (Below w.heap.size w X):=hA.trans (hbX.mono hA.size)
 have x0:=blk hbX q
 have c0:=cellC x0 0 rfl
 have c1':=cellC x0 1 rfl
 have hlX:=lt1 x0
 clear hA q u0 u1 hbX KS x0
 obtain⟨ax,cx,rfl⟩:=own_len hoX
 have KFd':Hid (Calls Tryz.prog 110 #[.agg #[sv a1 p.frags.length c1,sv a2 p.defs.length c2],.string s] X _):=KFd.out X HBX.out
 clear KFd
 go_upto_region 3 with (go_at_call 110;refine KFd'.out.mono ?_;rintro e Y0 ⟨rfl,hbY0⟩)
 have hbY:Below X.heap.size X (Y0.alloc (.cells #[.string nm,iv kd,iv fg,iv ps,iv sz,iv al] 72)):=hbY0.alloc hbY0.size _
 have hoY:=hoX.later hbY
 have HBY:Hid (Below w.heap.size w (Y0.alloc (.cells #[.string nm,iv kd,iv fg,iv ps,iv sz,iv al] 72))):=HBX.out.trans (hbY.mono HBX.out.size)
 clear hbY hbY0 KFd' c0 c1' hoX HBX hlX
 generalize Y0.alloc (.cells #[.string nm,iv kd,iv fg,iv ps,iv sz,iv al] 72)=Y at *
 generalize Y0.heap.size=ny at *
 have KF:Hid (Calls Tryz.prog 117 #[sv ax (M.named p).length cx,.string s] Y _):=faulty_any (M.named p) ax cx s Y (row_flts hoY)
 generalize M.faulty (M.named p) s=fy at *
 generalize M.named p=nd at *
 have hwY:w.heap.size≤Y.heap.size:=HBY.out.size
 by_cases he:er=0
 ·subst he
  obtain rfl:NF=nd:=N1.out (by trivial)
  clear N1 N2 N3 KF
  go_wp2
  go_ret
  exact⟨HBY.out,_,rfl,hoY,by omega⟩
 ·have he':(er !=0)=true:=by simpa using he
  cases fy
  ·obtain rfl:NF=nd++[⟨er,s,0,0⟩]:=N3.out he (by trivial)
   clear N1 N2 N3 he
   go_upto_region 4 with (go_at_call 117;refine KF.out.mono ?_;rintro e V ⟨rfl,hbV⟩)
   have hoV:=hoY.later hbV
   have HBV:Hid (Below w.heap.size w V):=HBY.out.trans (hbV.mono HBY.out.size)
   have hwV:w.heap.size≤V.heap.size:=HBV.out.size
   clear hoY HBY KF hbV hwY
   have hnews:∀j u,(#[iv er,.string s,iv 0,iv 0]:Array Value).toList[j]?=some u→(V.alloc (.cells #[iv er,.string s,iv 0,iv 0] 49)).cell? ((qa V.heap.size 0).add j)=some u:=World.news_of_block (heap_alloc_new V _)
   go_wp2_with (at_builtin;refine wpList_append_own _ rfl _ _ 26 rfl w.heap.size 49 i1 (.agg #[iv 0,.string ⟨#[]⟩,iv 0,iv 0]) 4 40 Tryz.underlying26 hi1 hy0 hy1 hy2 rfl (by decide) _ _ _ rfl (World.ownsRow.alloc hoV _) ⟨V.heap.size,0,none⟩ 1 1 (#[iv er,.string s,iv 0,iv 0]:Array Value).toList rfl rfl hnews (fun u hu=>by simp at hu;rcases hu with rfl|rfl|rfl|rfl<;>rfl) (by unfold maxLen;omega) (by omega) (by simp;omega) ?_;intro v' w3 hown' hgrow3 hnil3)
   have HE1:Hid (FRow w3 w.heap.size v' (nd++[⟨er,s,0,0⟩])):=by
    unfold FRow
    rw[Hid,List.length_append,List.flatMap_append];exact hown'
   have HE2:Hid (Below w.heap.size w w3):=(HBV.out.alloc hwV _).grown hgrow3 (by simp;omega) (fun k hk=>(World.ownsRow.lt hoV k hk).1)
   go_ret
   exact⟨HE2.out,_,rfl,HE1.out⟩
  ·obtain rfl:NF=nd:=N2.out he (by trivial)
   clear N1 N2 N3 he
   go_wp2_with (go_at_call 117;refine KF.out.mono ?_;rintro e V ⟨rfl,hbV⟩)
   go_ret
   exact⟨HBY.out.trans (hbV.mono HBY.out.size),_,rfl,hoY.later hbV,by omega⟩
theorem allFaults_any(p:M.Prt)(l:M.Lay)(s:ByteArray)(a1 a2:Option Addr)(c1 c2 bp bl:Nat)(w:World)(hf:FragsAt w (sv a1 p.frags.length c1) p.frags)(hd:DefsAt w (sv a2 p.defs.length c2) p.defs)(h:NumAt w bp bl p l) :
  Calls Tryz.prog 49 #[.agg #[sv a1 p.frags.length c1,sv a2 p.defs.length c2],.string s,.func (.func 83) #[] #[qv bp 0,qv bl 0]] w
   fun e w'=>Below w.heap.size w w'∧∃v,e=.returned v∧FRow w' w.heap.size v (M.allFaults p l s)∧(M.allFaults p l s).length≤1100:=by
 obtain⟨i1,hi1,hy0,hy1,hy2⟩:=info_parts (P:=Tryz.prog) (e:=49) (z:=.agg #[iv 0,.string ⟨#[]⟩,iv 0,iv 0]) (size:=4) (bytes:=40) (by kernel_rfl)
 have hA:Below w.heap.size w (w.alloc (.cells #[sv a1 p.frags.length c1,sv a2 p.defs.length c2] 43)):=bra _ _
 have q:=heap_alloc_new w (.cells #[sv a1 p.frags.length c1,sv a2 p.defs.length c2] 43)
 have KN:Hid (Calls Tryz.prog 86 #[.agg #[sv a1 p.frags.length c1,sv a2 p.defs.length c2],.string s] (w.alloc (.cells #[sv a1 p.frags.length c1,sv a2 p.defs.length c2] 43)) _):=nameFaults_any p s a1 a2 c1 c2 _ (hf.later hA) (hd.later hA) h.ok.ck
 have KP:Hid (∀W nm an cn,Below w.heap.size w W→FltsAt W (sv an nm.length cn) nm→Calls Tryz.prog 87 #[sv a1 p.frags.length c1,sv an nm.length cn,.func (.func 83) #[] #[qv bp 0,qv bl 0]] W
   fun e w'=>Below W.heap.size W w'∧∃v,e=.returned v∧FRow w' W.heap.size v (M.placeFaults p l nm)∧(M.placeFaults p l nm).length≤480):=fun W nm an cn hW hn=>placeFaults_any p l nm a1 an c1 cn bp bl W (hf.later hW) hn (h.later hW)
 have HAl:Hid (M.allFaults p l s=M.nameFaults p s++M.placeFaults p l (M.nameFaults p s)):=rfl
 have u0:=cellB q 0
 have u1:=cellB q 1
 clear hf hd h
 generalize M.allFaults p l s=AF at *
 generalize M.nameFaults p s=nf at *
 go_enter Tryz.func49,Tryz.ntmps49
 go_upto_region 2 with (go_at_call 86;refine KN.out.mono ?_;rintro e X ⟨hbX,v,rfl,hoX,hnl⟩)
 have HBX:Hid (Below w.heap.size w X):=hA.trans (hbX.mono hA.size)
 have x0:=blk hbX q
 have c0:=cellC x0 0 rfl
 have hlX:=lt1 x0
 have hoX':FRow X w.heap.size v nf:=own_weaken hoX (by simp)
 clear hA q u0 u1 hbX KN x0 hoX
 obtain⟨ax,cx,rfl⟩:=own_len hoX'
 have KP':Hid (Calls Tryz.prog 87 #[sv a1 p.frags.length c1,sv ax nf.length cx,.func (.func 83) #[] #[qv bp 0,qv bl 0]] X _):=KP.out X nf ax cx HBX.out (row_flts hoX')
 clear KP
 have HO:Hid (FRow X w.heap.size (sv ax nf.length cx) nf):=hoX'
 clear hoX'
 generalize M.placeFaults p l nf=pf at *
 have hfl:∀x:List Flt,(x.flatMap encF).length=x.length*4:=fun x=>by
  induction x with
  | nil=>rfl
  | cons y x ih=>rw[List.flatMap_cons,List.length_append,ih,List.length_cons];show 4+x.length*4=(x.length+1)*4;omega
 have hf1:∀u∈pf.flatMap encF,u.oneCell'=true:=fun u hu=>by
  obtain⟨f,_,h⟩:=List.mem_flatMap.1 hu
  unfold encF at h
  simp at h
  rcases h with rfl|rfl|rfl|rfl<;>rfl
 have Hfl:Hid _:=hfl pf
 have Hf1:Hid _:=hf1
 clear hfl hf1
 go_wp2_with (first|(go_at_call 87;refine KP'.out.mono ?_;rintro e Y ⟨hbY,vp,rfl,hoP,hpl⟩;have hoY:=HO.out.later hbY;have HBY:Hid (Below w.heap.size w Y):=HBX.out.trans (hbY.mono HBX.out.size);have hwY:=HBY.out.size;obtain⟨ap,cp,rfl⟩:=own_len hoP)|(at_builtin;refine wpList_append_src _ rfl _ _ 26 rfl w.heap.size 49 i1 (.agg #[iv 0,.string ⟨#[]⟩,iv 0,iv 0]) 4 40 Tryz.underlying26 hi1 hy0 hy1 hy2 rfl (by decide) _ nf.length (nf.flatMap encF) rfl hoY _ pf.length (pf.flatMap encF) rfl (row_src hoP) Hfl.out Hf1.out (by unfold maxLen;omega) (by omega) hwY ?_;intro v1 w1 ho1 hg1))
 have HE2:Hid (Below w.heap.size w w1):=HBY.out.grown hg1 hwY (fun k hk=>(World.ownsRow.lt hoY k hk).1)
 go_ret
 refine⟨HE2.out,_,rfl,?_,?_⟩
 ·rw[HAl.out]
  unfold FRow
  rw[List.length_append,List.flatMap_append]
  exact ho1
 ·rw[HAl.out,List.length_append]
  omega
end Go.Proofs.YtpkfmfhodbjckaaGreatDoor
