/-
  The contract of link.filled: a fragment's bytes with their numbers in their places. The contract of link.segmentBytes: the bytes of a segment.
-/
import Derived.Test.YtpkfmfhodbjckaaGreatDoorLkNn
import Derived.Deep.RegionLaw
import Derived.Deep.DeepCutAuto
set_option linter.unusedVariables false
set_option maxHeartbeats 8000000
set_option maxRecDepth 100000
namespace Go.Proofs.YtpkfmfhodbjckaaGreatDoor
open Go Go.RowKit
theorem fill_take(p:M.Prt)(l:M.Lay)(i:Nat)(b:List Int)(rs:List M.Rel)(j:Nat)(h:j<rs.length):(rs.take (j+1)).foldl (M.fillRel p l i) b=(M.putB ((rs.take j).foldl (M.fillRel p l i) b) (rs.getD j rel0).pos (rs.getD j rel0).kind (M.number p l i (rs.getD j rel0)).1).1:=by
 rw[List.take_succ_eq_append_getElem h,List.foldl_append,List.getD_eq_getElem?_getD,List.getElem?_eq_getElem h]
 rfl
theorem filled_any(p:M.Prt)(l:M.Lay)(i:Nat)(f:M.Frg)(ab ar:Option Addr)(cb cr bp bl:Nat)(w:World)(h:NumAt w bp bl p l)(hi:i<p.frags.length)(hB:BytesAt w (sv ab f.bytes.length cb) f.bytes)(hR:RelsAt w (sv ar f.rels.length cr) f.rels)
  (hok:∀r∈f.rels,(r.name.toList.isEmpty=true→r.frag<p.frags.length)∧0≤r.pos∧r.pos≤64) (h8:f.rels.length≤8) :
  Calls Tryz.prog 119 #[.agg #[iv f.sect,iv f.align,.string f.group,sv ab f.bytes.length cb,iv f.size,sv ar f.rels.length cr],iv i,.func (.func 83) #[] #[qv bp 0,qv bl 0]] w
   fun e w'=>Below w.heap.size w w'∧∃a c,e=.returned (sv a (M.filled p l i f).length c)∧BytesAt w' (sv a (M.filled p l i f).length c) (M.filled p l i f):=by
 have HFl:Hid (M.filled p l i f=f.rels.foldl (M.fillRel p l i) f.bytes):=rfl
 generalize M.filled p l i f=FL at *
 obtain⟨s,al,g,bs,sz,rs⟩:=f
 simp only at hB hR hok HFl h8 ⊢
 have KN:Hid (∀W (r:M.Rel),Below w.heap.size w W→(r.name.toList.isEmpty=true→r.frag<p.frags.length)→0≤r.pos→r.pos≤64→Calls Tryz.prog 83 #[iv i,.agg #[iv r.pos,iv r.kind,.string r.name,iv r.frag,iv r.add],qv bp 0,qv bl 0] W fun e w'=>e=.returned (.tuple #[iv (M.number p l i r).1,iv (M.number p l i r).2])∧Below W.heap.size W w'):=fun W r hW h1 h2 h3=>number_any p l i r bp bl W (h.later hW) hi h1 h2 h3
 have HR:Hid (∀W,Below w.heap.size w W→RelsAt W (sv ar rs.length cr) rs):=fun W hW=>hR.later hW
 have HOk:Hid _:=hok
 have hA:Below w.heap.size w (w.alloc (.cells #[iv s,iv al,.string g,sv ab bs.length cb,iv sz,sv ar rs.length cr] 87)):=bra _ _
 have HA:Hid _:=hA
 have HB0:=hB.later hA
 have HB0':Hid (BytesAt (w.alloc (.cells #[iv s,iv al,.string g,sv ab bs.length cb,iv sz,sv ar rs.length cr] 87)) (sv ab bs.length cb) bs):=HB0
 clear h hB hR hok hA HB0
 go_enter Tryz.func119,Tryz.ntmps119
 go_wp2_with fail
 go_loopw [7,17] (fun s7 s17 wr=>∃(j:Nat) (b:List Int) (a:Option Addr) (c:Nat),j≤rs.length∧s17=iv j∧s7=sv a b.length c∧Hid (b=(rs.take j).foldl (M.fillRel p l i) bs)∧Hid (BytesAt wr (sv a b.length c) b)∧Hid (Below w.heap.size w wr)) (fun _ s17 _=>rs.length-(intOf s17).toNat)
 case atStart=>exact⟨0,bs,ab,cb,Nat.zero_le _,rfl,rfl,rfl,HB0',HA⟩
 case round =>
  obtain⟨j,b,a,c,hj,rfl,rfl,HE,HBy,HB⟩:=hrel
  clear HB0' HA
  by_cases hjt:j<rs.length
  ·obtain⟨b',off',rfl,e0,e1,e2,e3,e4⟩:=relsAt_cells (HR.out wr HB.out) j hjt
   have hbr':b' < wr.heap.size:=wlt e0
   have hjl:(j:Int)<(rs.length:Int):=by omega
   obtain⟨g1,g2,g3⟩:=HOk.out _ (getD_mem rs rel0 j hjt)
   have KN':Hid (∀W,Below w.heap.size w W→_):=fun W hW=>KN.out W (rs.getD j rel0) hW g1 g2 g3
   have HT:=fill_take p l i bs rs j hjt
   rw[←HE.out] at HT
   clear g1 g2 g3 HE
   generalize M.number p l i (rs.getD j rel0)=nu at *
   generalize rs.getD j rel0=r at *
   obtain⟨pos,kd,name,fr,ad⟩:=r
   obtain⟨n1,n2⟩:=nu
   simp only at e0 e1 e2 e3 e4 HT KN'
   have HT':Hid _:=HT.symm
   clear HT
   go_upto_region 5 with fail
   have hbY:Below wr.heap.size wr (wr.alloc (.cells #[iv pos,iv kd,.string name,iv fr,iv ad] 89)):=bra _ _
   have HByY:Hid _:=HBy.out.later hbY
   have HBY:Hid (Below w.heap.size w (wr.alloc (.cells #[iv pos,iv kd,.string name,iv fr,iv ad] 89))):=HB.out.alloc HB.out.size _
   have x3:=heap_alloc_new wr (.cells #[iv pos,iv kd,.string name,iv fr,iv ad] 89)
   clear HB HBy e0 e1 e2 e3 e4 hbY
   generalize wr.alloc (.cells #[iv pos,iv kd,.string name,iv fr,iv ad] 89)=Y at *
   generalize wr.heap.size=ny at *
   have k0:=cellC x3 0 rfl
   have k1:=cellC x3 1 rfl
   have k2:=cellC x3 2 rfl
   have k3:=cellC x3 3 rfl
   have k4:=cellC x3 4 rfl
   have hlY:=lt1 x3
   have KN2:Hid (Calls Tryz.prog 83 #[iv i,.agg #[iv pos,iv kd,.string name,iv fr,iv ad],qv bp 0,qv bl 0] Y _):=KN'.out Y HBY.out
   have KP:Hid (∀W,Below Y.heap.size Y W→Calls Tryz.prog 134 #[sv a b.length c,iv pos,iv kd,iv n1] W fun e w'=>Below W.heap.size W w'∧∃a' c',e=.returned (.tuple #[sv a' (M.putB b pos kd n1).1.length c',iv (M.putB b pos kd n1).2])∧BytesAt w' (sv a' (M.putB b pos kd n1).1.length c') (M.putB b pos kd n1).1):=fun W hW=>put_any b a c pos kd n1 W (BytesAt.later HByY.out hW)
   clear HByY x3 KN'
   generalize M.putB b pos kd n1=PB at *
   generalize b.length=nb at *
   go_wp2_with (first|(go_at_call 83;refine KN2.out.mono ?_;rintro e Z ⟨rfl,hbZ⟩;have z0:=cell_later hbZ k0;have z1:=cell_later hbZ k1;have hlZ:=Nat.lt_of_lt_of_le hlY hbZ.size)|(go_at_call 134;refine(KP.out _ hbZ).mono ?_;rintro e V ⟨hbV,a',c',rfl,hBV⟩))
   have HBV:Hid _:=hBV
   have HE2:Hid (Below w.heap.size w V):=(HBY.out.trans (hbZ.mono HBY.out.size)).trans (hbV.mono (Nat.le_trans HBY.out.size hbZ.size))
   go_roundw
   case rel=>exact⟨j+1,PB.1,a',c',by omega,by go_num,rfl,HT',HBV,HE2⟩
   case measure=>simp[intOf];omega
  ·have hjl:j=rs.length:=by omega
   have HE2:Hid (b=FL):=by rw[Hid,HE.out,hjl,List.take_length,HFl.out]
   obtain rfl:=HE2.out
   clear HE HE2 HFl
   subst hjl
   go_wp2
   go_ret
   exact⟨HB.out,a,c,rfl,HBy.out⟩
theorem step_call3{P:Program}{w:World}{ops:Array Oper}{o:Oper}{a:Act}{K:Act→World→Prop}{Q:Exit→Act→World→Prop}{E:Prop}(hgd:o.guard=none)(f:FuncId)(x y z:Operand)(t1 t2 t3:TypeId)
  (ho:o.op=.call { callee:=.value (.func f),args:=#[x,y,z],argTypes:=#[t1,t2,t3] }) (v1 v2 v3:Value) (hx:a.eval x=v1) (hy:a.eval y=v2) (hz:a.eval z=v3) (he:∀args w,(callFunc f args).run P w=.ok (.enter f args) w) {post:Ending→World→Prop} (hc:Calls P f #[v1,v2,v3] w post)
  (h:∀e w',post e w'→∃u,e=.returned u∧K (a.put o.dst u) w'):if Region.wanted o (yielded ops a.tmps)=true then Oper.wp P o a w K Q else E:=by
 have hw:Region.wanted o (yielded ops a.tmps)=true:=by simp[Region.wanted,hgd]
 rw[if_pos hw]
 have hrun:(execOp a.eval o).run P w=.ok (.enter f #[v1,v2,v3]) w:=by
  simp only[execOp,ho,resolve,invoke,Sem.run_bind,List.map_toArray,List.map_cons,List.map_nil,hx,hy,hz]
  simp[Act.eval,he,go_sem]
 unfold Oper.wp
 rw[hrun,Oper.upon_enter]
 refine hc.mono fun e w' hp=>?_
 obtain⟨u,rfl,hk⟩:=h e w' hp
 exact hk
theorem made_bytes(n:Nat):(madeCells (Value.int .u8 0).cells (n*1)).toList=(List.replicate n (0:Int)).map (Value.int .u8):=by
 refine List.ext_getElem (by simp[madeCells]) fun i h1 h2=>?_
 simp[madeCells,Value.cells,Nat.mod_one]
def enc8 (l:List Int):List Value:=l.map (Value.int .u8)
theorem enc8_len(l:List Int):(enc8 l).length=l.length:=List.length_map _
theorem over_len(O:List Int)(lo:Nat)(b:List Int):(M.over O lo b).length=O.length:=by
 unfold M.over
 simp only[List.length_append,List.length_take,List.length_drop]
 omega
theorem over_splice(O b:List Int)(lo:Nat):splice (enc8 O) lo (enc8 (b.take (O.length-lo)))=enc8 (M.over O lo b):=by
 have hl:(enc8 (b.take (O.length-lo))).length=min (O.length-lo) b.length:=by rw[enc8_len,List.length_take]
 unfold splice M.over
 rw[hl]
 unfold enc8
 simp only[List.map_append,List.map_take,List.map_drop]
 by_cases h:b.length≤O.length-lo
 ·rw[Nat.min_eq_right h]
 ·rw[Nat.min_eq_left (by omega)]
  have e1:∀k,O.length≤k→(O.map (Value.int .u8)).drop k=[]:=fun k hk=>List.drop_eq_nil_of_le (by rw[List.length_map];exact hk)
  rw[e1 _ (by omega),e1 _ (by omega)]
theorem over_mem{O b:List Int}{lo:Nat}(hO:∀x∈O,0≤x∧x<256)(hb:∀x∈b,0≤x∧x<256):∀x∈M.over O lo b,0≤x∧x<256:=fun x hx=>by
 unfold M.over at hx
 rcases List.mem_append.1 hx with h|h
 ·exact hO x (List.mem_of_mem_take h)
 ·rcases List.mem_append.1 h with h|h
  ·exact hb x (List.mem_of_mem_take h)
  ·exact hO x (List.mem_of_mem_drop h)
theorem segN_succ(p:M.Prt)(l:M.Lay)(a z k:Nat):M.segN p l a z (k+1)=M.segStep p l a z (l.fr a) (M.segN p l a z k) k:=by
 unfold M.segN
 rw[List.range_succ,List.foldl_append]
 rfl
theorem segStep_len(p:M.Prt)(l:M.Lay)(a z f:Int)(O:List Int)(i:Nat):(M.segStep p l a z f O i).length=O.length:=by
 unfold M.segStep
 split
 ·exact over_len _ _ _
 ·rfl
theorem segN_len(p:M.Prt)(l:M.Lay)(a z:Nat):∀k,(M.segN p l a z k).length=(l.ti z-l.fr a).toNat
 | 0=>by unfold M.segN;simp
 | k+1=>by rw[segN_succ,segStep_len,segN_len p l a z k]
theorem segStep_in{p:M.Prt}{l:M.Lay}{a z f:Int}{O:List Int}{i:Nat}(h:a≤(p.frags.getD i frg0).sect∧(p.frags.getD i frg0).sect≤z):M.segStep p l a z f O i=M.over O (l.frags.getD i 0-f).toNat (M.filled p l i (p.frags.getD i frg0)):=if_pos h
theorem segStep_out{p:M.Prt}{l:M.Lay}{a z f:Int}{O:List Int}{i:Nat}(h:¬(a≤(p.frags.getD i frg0).sect∧(p.frags.getD i frg0).sect≤z)):M.segStep p l a z f O i=O:=if_neg h
def BBlk (w:World) (v:Value) (bs:List Int):Prop:=∃G,v=sv (some (qa G 0)) bs.length bs.length∧w.heap[G]?=some (.cells (enc8 bs).toArray 5 (0,0))∧(∀b∈bs,0≤b∧b<256)∧bs.length≤65536
theorem BBlk.bytes{w:World}{v:Value}{bs:List Int}(h:BBlk w v bs):BytesAt w v bs:=by
 obtain⟨G,rfl,h1,h2,h3⟩:=h
 exact bytes_row h2 (by unfold maxLen;omega) h1 _
theorem BBlk.later{w w':World}{v:Value}{bs:List Int}(h:BBlk w v bs)(hb:Below w.heap.size w w'):BBlk w' v bs:=by
 obtain⟨G,rfl,h1,h2,h3⟩:=h
 exact⟨G,rfl,blk hb h1,h2,h3⟩
structure SegOk (p:M.Prt) (l:M.Lay) (a z:Nat):Prop where
 six:a≤5∧z≤5
 lo:0≤l.fr a
 mid:l.fr a≤l.ti z
 hi:l.ti z≤65536
 at_:∀i,i<p.frags.length→(a:Int)≤(p.frags.getD i frg0).sect→(p.frags.getD i frg0).sect≤z→l.fr a≤l.frags.getD i 0∧l.frags.getD i 0≤l.ti z
theorem layArr_fr{vF vN vC:Value}{f t:Nat→Int}{a:Nat}(h:a≤5):(layArr vF vN vC f t)[3+a]?=some (iv (f a)):=by
 have:a=0∨a=1∨a=2∨a=3∨a=4∨a=5:=by omega
 rcases this with rfl|rfl|rfl|rfl|rfl|rfl<;>rfl
theorem layArr_ti{vF vN vC:Value}{f t:Nat→Int}{a:Nat}(h:a≤5):(layArr vF vN vC f t)[9+a]?=some (iv (t a)):=by
 have:a=0∨a=1∨a=2∨a=3∨a=4∨a=5:=by omega
 rcases this with rfl|rfl|rfl|rfl|rfl|rfl<;>rfl
theorem segmentBytes_any(p:M.Prt)(l:M.Lay)(a z:Nat)(b1 b2:Bool)(a1:Option Addr)(c1 bp bl:Nat)(xf xn xc:Option Addr)(yf yn yc:Nat)(w:World)(hf:FragsAt w (sv a1 p.frags.length c1) p.frags)(hL:LayAt w (sv xf l.frags.length yf) (sv xn l.names.length yn) (sv xc l.coms.length yc) l)(h:NumAt w bp bl p l)(ho:SegOk p l a z) :
  Calls Tryz.prog 89 #[sv a1 p.frags.length c1,.agg #[sv xf l.frags.length yf,sv xn l.names.length yn,sv xc l.coms.length yc,iv (l.fr 0),iv (l.fr 1),iv (l.fr 2),iv (l.fr 3),iv (l.fr 4),iv (l.fr 5),iv (l.ti 0),iv (l.ti 1),iv (l.ti 2),iv (l.ti 3),iv (l.ti 4),iv (l.ti 5)],.agg #[iv a,iv z,.bool b1,.bool b2],.func (.func 83) #[] #[qv bp 0,qv bl 0]] w
   fun e w'=>Below w.heap.size w w'∧∃v,e=.returned v∧BBlk w' v (M.segBytes p l a z):=by
 obtain⟨i1,hi1,hy0,hy1,hy2⟩:=info_parts (P:=Tryz.prog) (e:=5) (z:=.int .u8 0) (size:=1) (bytes:=1) (by kernel_rfl)
 have hok:=(M.ok_iff p).1 h.ok.ck
 have h60:=hok.nf
 obtain⟨⟨ha5,hz5⟩,hlo,hmid,hhi,hat⟩:=ho
 have HRk:Hid (∀f∈p.frags,f.rels.length≤8∧∀r∈f.rels,(r.name.toList.isEmpty=true→r.frag<p.frags.length)∧0≤r.pos∧r.pos≤64):=fun f hf=>by
  refine⟨(M.frag_parts (M.frag_ok hok hf)).2.2.1,fun r hr=>?_⟩
  obtain⟨h1,h2⟩:=M.rel_ok hok hf hr
  have h3:=h1.pos
  have h4:0≤M.wide r.kind:=by unfold M.wide;split;decide;split<;>decide
  exact⟨fun hb=>(h1.frag hb).2,h1.pos0,by omega⟩
 have HN:Hid (∀W,Below w.heap.size w W→NumAt W bp bl p l∧IntsAt W (sv xf l.frags.length yf) l.frags):=fun W hW=>⟨h.later hW,hL.frags.later hW⟩
 have HF0:Hid (FragsAt w (sv a1 p.frags.length c1) p.frags):=hf
 have HLen:Hid (l.frags.length=p.frags.length):=h.ok.len
 have HAt:Hid _:=hat
 have HS0:Hid (M.segN p l a z 0=List.replicate (l.ti z-l.fr a).toNat 0):=rfl
 have HSS:Hid (∀k,M.segN p l a z (k+1)=M.segStep p l a z (l.fr a) (M.segN p l a z k) k):=segN_succ p l a z
 have HSL:Hid (∀k,(M.segN p l a z k).length=(l.ti z-l.fr a).toNat):=segN_len p l a z
 have HSE:Hid (M.segBytes p l a z=M.segN p l a z p.frags.length):=rfl
 -- the two boxes
 obtain⟨A0,HA0⟩:∃A0,Hid (A0=layArr (sv xf l.frags.length yf) (sv xn l.names.length yn) (sv xc l.coms.length yc) l.fr l.ti):=⟨_,rfl⟩
 have hfr:A0[3+a]?=some (iv (l.fr a)):=by rw[HA0.out];exact layArr_fr ha5
 have hti:A0[9+z]?=some (iv (l.ti z)):=by rw[HA0.out];exact layArr_ti hz5
 have hl0:A0[0]?=some (sv xf l.frags.length yf):=by rw[HA0.out];rfl
 obtain⟨X0,HX0⟩:∃X0,Hid (X0=(w.alloc (.cells #[sv xf l.frags.length yf,sv xn l.names.length yn,sv xc l.coms.length yc,iv (l.fr 0),iv (l.fr 1),iv (l.fr 2),iv (l.fr 3),iv (l.fr 4),iv (l.fr 5),iv (l.ti 0),iv (l.ti 1),iv (l.ti 2),iv (l.ti 3),iv (l.ti 4),iv (l.ti 5)] 76)).alloc (.cells #[iv a,iv z,.bool b1,.bool b2] 148)):=⟨_,rfl⟩
 have q0:X0.heap[w.heap.size]?=some (.cells A0 76 (0,0)):=by rw[HX0.out,HA0.out];exact heap_alloc2_old _ _ _
 have q1:X0.heap[w.heap.size+1]?=some (.cells #[iv a,iv z,.bool b1,.bool b2] 148 (0,0)):=by rw[HX0.out];exact heap_alloc2_new _ _ _
 have hX0:Below w.heap.size w X0:=by rw[HX0.out];exact(bra _ _).alloc (by simp) _
 obtain⟨n,hn⟩:∃n:Nat,l.ti z=l.fr a+n:=⟨(l.ti z-l.fr a).toNat,by omega⟩
 obtain⟨w1,hmk,hrow,hgr⟩:=run_make_full X0 X0.heap.size 54 5 i1 (.int .u8 0) 1 Tryz.underlying54 hi1 hy0 hy1 .i64 .i64 n (by rw[hy2];omega) (by unfold maxLen;omega) (Nat.le_refl _)
 have hB1:Below X0.heap.size X0 w1:=(Below.refl _ _).grown hgr (Nat.le_refl _) (fun k hk=>by cases hk)
 have hw1:w1.heap[X0.heap.size]?=some (.cells (enc8 (M.segN p l a z 0)).toArray 5 (0,0)):=by
  have hs0:M.segN p l a z 0=List.replicate n 0:=by rw[HS0.out,hn];congr 1;omega
  rw[hs0]
  rcases hrow.2 with ⟨h1,_⟩|⟨g,cap,cur,h1,_,h2,_,_,h5,h6⟩
  ·cases h1
  ·cases h1
   rw[made_bytes] at h6
   have:cur.toList=enc8 (List.replicate n 0):=by
    have hcl:cur.toList.length=n:=by simpa using h5
    rw[List.take_of_length_le (by rw[hcl];simp)] at h6
    exact h6
   rw[←this]
   exact h2
 have HR0:Hid (∀b∈M.segN p l a z 0,0≤b∧b<256):=fun b hb=>by
  rw[HS0.out] at hb
  obtain⟨_,rfl⟩:=List.mem_replicate.1 hb
  decide
 have HLn:Hid (∀k,(M.segN p l a z k).length=n):=fun k=>by rw[HSL.out k,hn];omega
 have HW1:Hid (w1.heap[X0.heap.size]?=some (.cells (enc8 (M.segN p l a z 0)).toArray 5 (0,0))):=hw1
 have HB1:Hid (Below X0.heap.size X0 w1):=hB1
 have HX:Hid (Below w.heap.size w X0):=hX0
 have hsz1:=lt1 q1
 have HQ:Hid (∀W,Below X0.heap.size X0 W→W.heap[w.heap.size]?=some (.cells A0 76 (0,0))∧W.heap[w.heap.size+1]?=some (.cells #[iv a,iv z,.bool b1,.bool b2] 148 (0,0))∧Below w.heap.size w W):=fun W hW=>⟨(hW.block _ (by omega)).trans q0,(hW.block _ hsz1).trans q1,hX0.trans (hW.mono (by omega))⟩
 have eg:∀args w,(callFunc 119 args).run Tryz.prog w=.ok (.enter 119 args) w:=enters_of Tryz.func119 (by kernel_rfl) rfl
 rw[hn] at hti hmid hhi HAt
 clear hw1 hB1 hX0 hrow hgr hf hL h hat hok HS0 HSL hmid
 generalize M.segBytes p l a z=SB at *
 have c0:=cellB q1 0
 have c1':=cellB q1 1
 have c2:=(cellB q0 (3+a)).trans hfr
 have c3:=(cellB q0 (9+z)).trans hti
 clear q0 q1 hn
 generalize l.fr a=Fa at *
 simp at c0 c1'
 have ha6:(a:Int)<6:=by omega
 have hz6:(z:Int)<6:=by omega
 have hlw:w.heap.size<X0.heap.size:=by omega
 have hsub:Fa+(n:Int)-Fa=(n:Int):=by omega
 go_enter Tryz.func89,Tryz.ntmps89
 go_upto_region 1 with fail
 rw[←HX0.out]
 clear HX0 HA0
 go_wp2_with fail
 clear c0 c1' c2 c3 hmk hsub
 go_loopw [28] (fun s28 wr=>∃(k:Nat),k≤p.frags.length∧s28=iv k∧Hid (wr.heap[X0.heap.size]?=some (.cells (enc8 (M.segN p l a z k)).toArray 5 (0,0)))∧Hid (∀b∈M.segN p l a z k,0≤b∧b<256)∧Hid (Below X0.heap.size X0 wr)) (fun s28 _=>p.frags.length-(intOf s28).toNat)
 case atStart=>exact⟨0,Nat.zero_le _,rfl,HW1,HR0,HB1⟩
 case round =>
  obtain⟨k,hk,rfl,HR,HRg,HB⟩:=hrel
  clear HW1 HR0 HB1
  by_cases hlt:k<p.frags.length
  ·obtain⟨bw0,bw1,hbw⟩:=HQ.out _ HB.out
   obtain⟨b,off,ab,cb,ar,cr,rfl,e0,e1,e2,e3,e4,e5,hBy,hRl,_,_⟩:=FragsAt.cells HF0.out k hlt
   replace e0:=cell_later hbw e0
   replace e1:=cell_later hbw e1
   replace e2:=cell_later hbw e2
   replace e3:=cell_later hbw e3
   replace e4:=cell_later hbw e4
   replace e5:=cell_later hbw e5
   obtain⟨hr8,hrk⟩:=HRk.out _ (getD_mem p.frags frg0 k hlt)
   have HRk':Hid _:=hrk
   have HAt':Hid _:=HAt.out k hlt
   have KFl:Hid (∀W,Below w.heap.size w W→_):=fun W hW=>filled_any p l k (p.frags.getD k frg0) ab ar cb cr bp bl W (HN.out W hW).1 hlt (hBy.later hW) (hRl.later hW) hrk hr8
   have HIn:Hid _:=@segStep_in p l a z Fa (M.segN p l a z k) k
   have HOut:Hid _:=@segStep_out p l a z Fa (M.segN p l a z k) k
   have HS1:Hid _:=HSS.out k
   have hkl:(k:Int)<(p.frags.length:Int):=by omega
   have hbr:b<wr.heap.size:=wlt e0
   have hG:=lt1 HR.out
   clear hBy hRl hrk
   generalize M.filled p l k (p.frags.getD k frg0)=FL at *
   generalize p.frags.getD k frg0=f at *
   obtain⟨s,al,g,bs,sz,rs⟩:=f
   simp only at e0 e1 e2 e3 e4 e5 hr8 HRk' KFl HIn HOut HAt'
   generalize bs.length=nb at *
   generalize rs.length=nr at *
   generalize M.segStep p l a z Fa (M.segN p l a z k) k=O2 at *
   go_upto_region 6 with fail
   have hbY:Below wr.heap.size wr (wr.alloc (.cells #[iv s,iv al,.string g,sv ab nb cb,iv sz,sv ar nr cr] 87)):=bra _ _
   have HBY:Hid (Below X0.heap.size X0 (wr.alloc (.cells #[iv s,iv al,.string g,sv ab nb cb,iv sz,sv ar nr cr] 87))):=HB.out.trans (hbY.mono (Nat.le_of_lt hG))
   have HRY:Hid _:=(hbY.block _ hG).trans HR.out
   have x3:=heap_alloc_new wr (.cells #[iv s,iv al,.string g,sv ab nb cb,iv sz,sv ar nr cr] 87)
   clear HB HR e0 e1 e2 e3 e4 e5 hbY bw0 bw1 hbw hbr
   generalize wr.alloc (.cells #[iv s,iv al,.string g,sv ab nb cb,iv sz,sv ar nr cr] 87)=Y at *
   generalize wr.heap.size=nf at *
   obtain⟨y0,y1,hbw⟩:=HQ.out _ HBY.out
   have k0:=cellC x3 0 rfl
   have k1:=cellC x3 1 rfl
   have k2:=cellC x3 2 rfl
   have k3:=cellC x3 3 rfl
   have k4:=cellC x3 4 rfl
   have k5:=cellC x3 5 rfl
   have s0:=cellC y1 0 rfl
   have s1:=cellC y1 1 rfl
   have hlY:=lt1 x3
   have hly0:=lt1 y0
   have hly1:=lt1 y1
   have l0:Y.cell? (qa w.heap.size 0)=some (sv xf l.frags.length yf):=(cellB y0 0).trans hl0
   by_cases h1:(a:Int)≤s
   ·by_cases h2:s≤(z:Int)
    ·obtain⟨hx1,hx2⟩:=HAt'.out h1 h2
     have HO:Hid (M.segN p l a z (k+1)=M.over (M.segN p l a z k) (l.frags.getD k 0-Fa).toNat FL):=HS1.out.trans (HIn.out ⟨h1,h2⟩)
     have hil:k<l.frags.length:=by have:=HLen.out;omega
     obtain⟨lo,hlo2⟩:∃lo:Nat,l.frags.getD k 0=Fa+lo:=⟨(l.frags.getD k 0-Fa).toNat,by omega⟩
     have HI:Hid (∀W,Below w.heap.size w W→∃b off,xf=some (qa b off)∧W.cell? (qa b (off+k))=some (iv (Fa+lo))∧b<W.heap.size):=fun W hW=>by
      obtain⟨b,off,h1,h2,h3⟩:=IntsAt.cell (HN.out W hW).2 k hil
      rw[hlo2] at h2
      exact⟨b,off,h1,h2,h3⟩
     rw[hlo2] at HO hx2
     have HO':Hid (M.segN p l a z (k+1)=M.over (M.segN p l a z k) lo FL):=by rw[Hid,HO.out];congr 1;omega
     have hlon:lo≤n:=by omega
     obtain⟨bi,oi,rfl,i2,i3⟩:=HI.out Y hbw
     have HI2:Hid (∀W,Below Y.heap.size Y W→W.cell? (qa w.heap.size 0)=some (sv (some (qa bi oi)) l.frags.length yf)∧W.cell? (qa bi (oi+k))=some (iv (Fa+lo))∧bi<W.heap.size∧w.heap.size<W.heap.size):=fun W hW=>⟨cell_later hW l0,cell_later hW i2,Nat.lt_of_lt_of_le i3 hW.size,Nat.lt_of_lt_of_le hly0 hW.size⟩
     have KFl':Hid (∀W,Below Y.heap.size Y W→_):=fun W hW=>KFl.out W (hbw.trans (hW.mono hbw.size))
     have hkfl:(k:Int)<(l.frags.length:Int):=by omega
     have hcl:(enc8 (M.segN p l a z k)).length=n:=by rw[enc8_len];exact HLn.out k
     have HCl:Hid _:=hcl
     have HSp:Hid (splice (enc8 (M.segN p l a z k)) lo (enc8 (FL.take (n-lo)))=enc8 (M.segN p l a z (k+1))):=by
      have:=over_splice (M.segN p l a z k) FL lo
      rw[HLn.out k] at this
      rw[Hid,this,HO'.out]
     have HRg1:Hid ((∀x∈FL,0≤x∧x<256)→∀x∈M.segN p l a z (k+1),0≤x∧x<256):=fun h=>by rw[HO'.out];exact over_mem HRg.out h
     have HCs:Hid ((enc8 (FL.take (n-lo))).length=Nat.min FL.length (n-lo)):=by rw[Hid,enc8_len,List.length_take];exact Nat.min_comm _ _
     have HFs:Hid (∀W av cv,BytesAt W (sv av FL.length cv) FL→0<(enc8 (FL.take (n-lo))).length→∃ad,av=some ad∧∀j v,(enc8 (FL.take (n-lo)))[j]?=some v→W.cell? (ad.add j)=some v):=fun W av cv hb h0=>by
      have hlt:0<FL.length:=by rw[enc8_len,List.length_take] at h0;omega
      obtain⟨b,off,rfl,_,_⟩:=hb.cell 0 hlt
      refine⟨_,rfl,fun j v hv=>?_⟩
      have hj:j<FL.length:=by
       have:=(List.getElem?_eq_some_iff.1 hv).1
       rw[enc8_len,List.length_take] at this
       omega
      obtain⟨b',off',e,hc,_⟩:=hb.cell j hj
      cases e
      have e:(qa b off).add j=⟨b,off+j,none⟩:=by cases j<;>simp[Addr.add]
      rw[e,hc]
      unfold enc8 at hv
      rw[List.getElem?_map,List.getElem?_take] at hv
      split at hv
      ·rw[getElem?_getD FL 0 j hj] at hv;exact hv
      ·cases hv
     have HOc:Hid (∀v∈enc8 (FL.take (n-lo)),v.oneCell'=true):=fun v hv=>by
      obtain⟨x,_,rfl⟩:=List.mem_map.1 hv
      rfl
     clear HIn HOut HS1 HO HO' KFl HI HAt' hx1 hx2 hlo2 HRk' HAt HSS y0 y1 x3
     generalize enc8 (FL.take (n-lo))=CS at *
     have HRV:Hid (∀W,Below Y.heap.size Y W→W.heap[X0.heap.size]?=some (.cells (enc8 (M.segN p l a z k)).toArray 5 (0,0))∧Below X0.heap.size X0 W):=fun W hW=>⟨(hW.block _ (Nat.lt_of_lt_of_le hG (Nat.le_of_lt hlY))).trans HRY.out,HBY.out.trans (hW.mono (Nat.le_trans (Nat.le_of_lt hG) (Nat.le_of_lt hlY)))⟩
     have hfit:lo+CS.length≤n:=by have h:=HCs.out;have:=Nat.min_le_right FL.length (n-lo);have h3:CS.length≤n-lo:=(by rw[h];exact this);omega
     have HFit:Hid (lo+CS.length≤(enc8 (M.segN p l a z k)).length):=by rw[Hid,HCl.out];exact hfit
     have hCS0:n-lo=0→CS.length=0:=fun h=>by have:=HCs.out;rw[h] at this;simpa using this
     have HCS0:Hid _:=hCS0
     clear HCl hcl hCS0 hfit HRY HBY
     go_upto_region 7 with fail
     have hlo0:(0:Int)≤(lo:Int):=by omega
     have hlo1:(lo:Int)≤(n:Int):=by omega
     have hsub:Fa+(lo:Int)-Fa=(lo:Int):=by omega
     have hwr:IntKind.i64.wrap (lo:Int)=(lo:Int):=by rw[IntKind.wrap_i64];omega
     by_cases hln:lo=n
     ·subst hln
      have h00:CS.length=0:=HCS0.out (by omega)
      have H00:Hid _:=h00
      clear h00
      go_region_law (first|(refine step_call3 (by rfl) 119 (.tmp 54) (.tmp 55) (.tmp 56) 87 3 103 (by rfl) _ _ _ (by rfl) (by rfl) (by rfl) eg (KFl'.out _ (Below.refl _ _).drew) ?_;rintro e V ⟨hbV,av,cv,rfl,hBV⟩;refine⟨_,rfl,?_⟩;have hYV:=((Below.refl Y.heap.size Y).drew).trans hbV;obtain⟨v0,v2,v3,v4⟩:=HI2.out V hYV)|(refine step_copy_splice (by rfl) (.tmp 53) (.tmp 57) 54 54 (by rfl) 5 Tryz.underlying54 (by kernel_rfl) _ _ _ _ _ _ (by rfl) (by rfl) X0.heap.size lo (enc8 (M.segN p l a z k)) 5 (HRV.out V hYV).1 CS (by rw[H00.out];simp) (fun h0=>absurd H00.out (by omega)) HFit.out HOc.out X0.heap.size X0 (HRV.out V hYV).2 (Nat.le_refl _) ?_;intro w4 hg4 hb4))
      all_goals
       have HF1:Hid (w4.heap[X0.heap.size]?=some (.cells (enc8 (M.segN p l a z (k+1))).toArray 5 (0,0))):=by rw[←HSp.out];exact hg4
       have HF2:Hid _:=HRg1.out hBV.2
       have HF3:Hid _:=hb4
       clear hg4 hb4
       go_wp2
       go_roundw
       case rel=>exact⟨k+1,by omega,by go_num,HF1,HF2,HF3⟩
       case measure=>simp[intOf];omega
     ·have hln':¬n=lo:=by omega
      have hln2:lo<n:=by omega
      go_region_law (first|(refine step_call3 (by rfl) 119 (.tmp 54) (.tmp 55) (.tmp 56) 87 3 103 (by rfl) _ _ _ (by rfl) (by rfl) (by rfl) eg (KFl'.out _ (Below.refl _ _).drew) ?_;rintro e V ⟨hbV,av,cv,rfl,hBV⟩;refine⟨_,rfl,?_⟩;have hYV:=((Below.refl Y.heap.size Y).drew).trans hbV;obtain⟨v0,v2,v3,v4⟩:=HI2.out V hYV)|(refine step_copy_splice (by rfl) (.tmp 53) (.tmp 57) 54 54 (by rfl) 5 Tryz.underlying54 (by kernel_rfl) _ _ _ _ _ _ (by rfl) (by rfl) X0.heap.size lo (enc8 (M.segN p l a z k)) 5 (HRV.out V hYV).1 CS HCs.out (fun h0=>⟨rfl,HFs.out V av cv hBV h0⟩) HFit.out HOc.out X0.heap.size X0 (HRV.out V hYV).2 (Nat.le_refl _) ?_;intro w4 hg4 hb4))
      all_goals
       have HF1:Hid (w4.heap[X0.heap.size]?=some (.cells (enc8 (M.segN p l a z (k+1))).toArray 5 (0,0))):=by rw[←HSp.out];exact hg4
       have HF2:Hid _:=HRg1.out hBV.2
       have HF3:Hid _:=hb4
       clear hg4 hb4
       go_wp2
       go_roundw
       case rel=>exact⟨k+1,by omega,by go_num,HF1,HF2,HF3⟩
       case measure=>simp[intOf];omega
    ·have HO:Hid (M.segN p l a z (k+1)=M.segN p l a z k):=HS1.out.trans (HOut.out (fun h=>h2 h.2))
     rw[←HO.out] at HRY HRg
     clear HIn HOut HS1 HO KFl y0 y1 x3
     go_wp2
     go_roundw
     case rel=>exact⟨k+1,by omega,by go_num,HRY,HRg,HBY⟩
     case measure=>simp[intOf];omega
   ·have HO:Hid (M.segN p l a z (k+1)=M.segN p l a z k):=HS1.out.trans (HOut.out (fun h=>h1 h.1))
    rw[←HO.out] at HRY HRg
    clear HIn HOut HS1 HO KFl y0 y1 x3
    go_wp2
    go_roundw
    case rel=>exact⟨k+1,by omega,by go_num,HRY,HRg,HBY⟩
    case measure=>simp[intOf];omega
  ·have hkl:k=p.frags.length:=by omega
   have HL2:Hid (M.segN p l a z k=SB):=by rw[Hid,hkl,HSE.out]
   have hln:=HLn.out k
   rw[HL2.out] at HR HRg hln
   obtain⟨_,_,hbw⟩:=HQ.out _ HB.out
   clear HL2
   have HBr:Hid (BBlk wr (sv (some (qa X0.heap.size 0)) n n) SB):=by rw[←hln];exact⟨_,rfl,HR.out,HRg.out,by omega⟩
   clear hln HR HRg
   subst hkl
   have HBw:Hid _:=hbw
   clear hbw
   go_wp2
   go_ret
   exact⟨HBw.out,_,rfl,HBr.out⟩
end Go.Proofs.YtpkfmfhodbjckaaGreatDoor
