/-
  The contract of the reference's Dropped. The contract of the reference's GroupsOf. The contract of the reference's Joined, of two whole parts. The contract of the reference's JoinedAll: a row of whole parts is joined as the plain model joins it.
-/
import Derived.Test.YtpkfmfhodbjckaaGreatDoorRefGn
import Derived.Maps.AppendAt
set_option linter.unusedVariables false
set_option maxHeartbeats 8000000
set_option maxRecDepth 100000
namespace Go.Proofs.YtpkfmfhodbjckaaGreatDoor
open Go Go.RowKit
theorem run_store_fn{P:Program}{w:World}{a:Addr}{m:Mode}(f:Fn)(x y:Array Value):(store a (.func f x y) m).run P w=stored P w a (.func f x y) m:=run_store P w a _ m rfl
theorem field_frags{w:World}(x y:Option Addr)(n c m d:Nat):(Instr.field 43 (.agg #[sv x n c,sv y m d]) 0).run Tryz.prog w=.ok (sv x n c) w:=by kernel_rfl
attribute [local go_sem] run_store_fn field_frags
def dsF (l:List ByteArray) (fs:List M.Frg) (k:Nat):List M.Frg:=(M.stays l (fs.take k)).map (M.movedFrg (M.count l 0 fs))
theorem dsF_take(l:List ByteArray)(fs:List M.Frg)(k:Nat)(h:k<fs.length):dsF l fs (k+1)=dsF l fs k++bif M.gone l (fs.getD k frg0) then [] else [M.movedFrg (M.count l 0 fs) (fs.getD k frg0)]:=by
 unfold dsF M.stays
 rw[List.take_succ_eq_append_getElem h,List.filter_append,List.map_append,List.getD_eq_getElem?_getD,List.getElem?_eq_getElem h]
 simp only[Option.getD_some,List.filter_cons,List.filter_nil]
 cases M.gone l fs[k]<;>rfl
theorem num_toN(l:List ByteArray)(fs:List M.Frg)(n:Nat)(h:n<fs.length):M.num (M.count l 0 fs) n=toN l fs n∧(M.gone l (fs.getD n frg0)=true→toN l fs n=-1)∧(M.gone l (fs.getD n frg0)=false→0≤toN l fs n):=by
 have hget:fs[((n:Nat):Int).toNat]?=some (fs.getD n frg0):=by simpa using getElem?_getD fs frg0 n h
 have e:M.num (M.count l 0 fs) n=toN l fs n:=by unfold toN;rw[if_neg (by omega)]
 have g:=M.num_get l fs 0 n (by omega) _ hget
 rw[e] at g
 refine⟨e,fun hg=>?_,fun hg=>?_⟩
 ·rw[g,hg];rfl
 ·rw[g,hg,cond_false];omega
theorem row_cells6{w:World}{B:Nat}{v:Value}{es:List Ent}(h:w.ownsRow B 87 6 v es.length (es.flatMap entCells))(k:Nat)(hk:k<es.length) :
  ∃g cap,v=sv (some (qa g 0)) es.length cap∧∀i,i<6→w.cell? (qa g (0+k*6+i))=some ((entCells (es.getD k ent0)).getD i undef):=by
 have hs:=row_slice (k:=6) ent0 entCells (fun _=>rfl) es h
 rcases h.2 with ⟨h1,h2⟩|⟨g,cap,cur,h1,_⟩
 ·omega
 ·rw[h1] at hs
  obtain⟨b,off,he,hc⟩:=hs.at k hk
  cases he
  exact⟨g,cap,h1,hc⟩
theorem row_cells5{w:World}{B n:Nat}{v:Value}{rs:List M.Rel}(h:w.ownsRow B 89 5 v n (rs.flatMap encRel))(hn:n=rs.length)(k:Nat)(hk:k<rs.length) :
  ∃g cap,v=sv (some (qa g 0)) n cap∧(∀i,i<5→w.cell? (qa g (0+k*5+i))=some ((encRel (rs.getD k rel0)).getD i undef))∧(∀i,w.frozen? (qa g i)=false)∧∃cs,w.heap[g]?=some (.cells cs 89 (0,0)):=by
 subst hn
 have hs:=row_slice (k:=5) rel0 encRel (fun _=>rfl) rs h
 rcases h.2 with ⟨h1,h2⟩|⟨g,cap,cur,h1,_,h3,_⟩
 ·omega
 ·rw[h1] at hs
  obtain⟨b,off,he,hc⟩:=hs.at k hk
  cases he
  exact⟨g,cap,h1,hc,fun i=>frozenB h3 i,cur,h3⟩
theorem dropped_any(p:M.Prt)(l:List ByteArray)(a1 a2 a3:Option Addr)(c1 c2 c3:Nat)(w:World)(hf:FragsAt w (sv a1 p.frags.length c1) p.frags)(hd:DefsAt w (sv a2 p.defs.length c2) p.defs)(hl:StrsAt w (sv a3 l.length c3) l)(hok:M.Ok p) :
  Calls Tryz.prog 67 #[.agg #[sv a1 p.frags.length c1,sv a2 p.defs.length c2],sv a3 l.length c3] w fun e w' =>
   Below w.heap.size w w'∧∃es vF vD,e=.returned (.agg #[vF,vD])∧PR w' w.heap.size es (M.drop p l).defs vF vD∧es.map (·.f)=(M.drop p l).frags∧es.Pairwise Apart:=by
 obtain⟨i2,hi2,hx0,hx1,hx2⟩:=info_parts (P:=Tryz.prog) (e:=87) (z:=.agg #[iv 0,iv 0,.string ⟨#[]⟩,sv none 0 0,iv 0,sv none 0 0]) (size:=6) (bytes:=88) (by kernel_rfl)
 obtain⟨i3,hi3,hu0,hu1,hu2⟩:=info_parts (P:=Tryz.prog) (e:=72) (z:=.agg #[.string ⟨#[]⟩,iv 0,iv 0,iv 0,iv 0,iv 0]) (size:=6) (bytes:=56) (by kernel_rfl)
 have h60:=hok.nf
 have hd60:=hok.nd
 go_enter Tryz.func67,Tryz.ntmps67
 go_upto_region 4 with fail
 have HY:Hid (∃Y,Y=(((((w.alloc (.cells #[sv a1 p.frags.length c1,sv a2 p.defs.length c2] 43)).alloc (.cells #[sv a3 l.length c3] 39)).alloc (.cells #[sv none 0 0,sv none 0 0] 43)).alloc (.cells #[.func (.func 98) #[] #[qv w.heap.size 0,qv (w.heap.size+1) 0]] 121)).alloc (.cells #[sv none 0 0,sv none 0 0] 43)) ∧
   DVars w Y #[sv a1 p.frags.length c1,sv a2 p.defs.length c2] (sv a3 l.length c3) (sv none 0 0) (sv none 0 0)):=by
  refine⟨_,rfl,?_⟩
  have e4:=heap_alloc_new ((((w.alloc (.cells #[sv a1 p.frags.length c1,sv a2 p.defs.length c2] 43)).alloc (.cells #[sv a3 l.length c3] 39)).alloc (.cells #[sv none 0 0,sv none 0 0] 43)).alloc (.cells #[.func (.func 98) #[] #[qv w.heap.size 0,qv (w.heap.size+1) 0]] 121)) (.cells #[sv none 0 0,sv none 0 0] 43)
  have e3:=heap_alloc_new (((w.alloc (.cells #[sv a1 p.frags.length c1,sv a2 p.defs.length c2] 43)).alloc (.cells #[sv a3 l.length c3] 39)).alloc (.cells #[sv none 0 0,sv none 0 0] 43)) (.cells #[.func (.func 98) #[] #[qv w.heap.size 0,qv (w.heap.size+1) 0]] 121)
  have e2:=heap_alloc_new ((w.alloc (.cells #[sv a1 p.frags.length c1,sv a2 p.defs.length c2] 43)).alloc (.cells #[sv a3 l.length c3] 39)) (.cells #[sv none 0 0,sv none 0 0] 43)
  simp only[World.size_alloc] at e4 e3 e2
  refine⟨(heap_alloc_old _ _ (by simp;try omega)).trans ((heap_alloc_old _ _ (by simp;try omega)).trans ((heap_alloc_old _ _ (by simp;try omega)).trans (heap_alloc2_old _ _ _))),(heap_alloc_old _ _ (by simp;try omega)).trans ((heap_alloc_old _ _ (by simp;try omega)).trans ((heap_alloc_old _ _ (by simp;try omega)).trans (heap_alloc2_new _ _ _))),(heap_alloc_old _ _ (by simp;try omega)).trans ((heap_alloc_old _ _ (by simp;try omega)).trans e2),(heap_alloc_old _ _ (by simp;try omega)).trans e3,e4,?_⟩
  exact((((bra _ _).alloc (by simp) _).alloc (by simp;omega) _).alloc (by simp;omega) _).alloc (by simp;omega) _
 obtain⟨Y,hY,hV⟩:=HY.out
 rw[←hY]
 clear hY HY
 have HV:Hid (DVars w Y #[sv a1 p.frags.length c1,sv a2 p.defs.length c2] (sv a3 l.length c3) (sv none 0 0) (sv none 0 0)):=hV
 have cp0:Y.cell? (qa w.heap.size 0)=some (sv a1 p.frags.length c1):=cellB hV.b0 0
 have cp1:Y.cell? (qa w.heap.size 1)=some (sv a2 p.defs.length c2):=cellB hV.b0 1
 have KO:Hid (Calls Tryz.prog 66 #[.agg #[sv a1 p.frags.length c1,sv a2 p.defs.length c2]] Y _):=ownPart_any p a1 a2 c1 c2 Y (hf.later hV.below) (hd.later hV.below) (room_ok hok)
 have KG:Hid (∀(j:Nat) W,j<p.frags.length→Below w.heap.size w W→W.cell? (qa w.heap.size 0)=some (sv a1 p.frags.length c1)→W.cell? (qa (w.heap.size+1) 0)=some (sv a3 l.length c3)→Calls Tryz.prog 98 #[iv j,qv w.heap.size 0,qv (w.heap.size+1) 0] W fun e w'=>e=.returned (.bool (M.gone l (p.frags.getD j frg0)))∧Below W.heap.size W w'):=fun j W hj hW h1 h2 =>
  gone_any p.frags l j a1 a3 c1 c3 _ _ W (hf.later hW) (hl.later hW) h1 h2 hj
 have KT:Hid (∀(i:Int) W,-1≤i→i<p.frags.length→DVars w W #[sv a1 p.frags.length c1,sv a2 p.defs.length c2] (sv a3 l.length c3) (sv none 0 0) (sv none 0 0)∨(∃vF vD,DVars w W #[sv a1 p.frags.length c1,sv a2 p.defs.length c2] (sv a3 l.length c3) vF vD)→Calls Tryz.prog 99 #[iv i,qv (w.heap.size+3) 0] W fun e w'=>e=.returned (iv (toN l p.frags i))∧Below W.heap.size W w'):=fun i W h1 h2 h3=>by
  obtain⟨vF,vD,h3⟩:∃vF vD,DVars w W #[sv a1 p.frags.length c1,sv a2 p.defs.length c2] (sv a3 l.length c3) vF vD:=by
   rcases h3 with h3|h3
   ·exact⟨_,_,h3⟩
   ·exact h3
  exact to_any p.frags l i a1 a3 c1 c3 _ _ _ W (hf.later h3.below) (hl.later h3.below) (cellB h3.b0 0) (cellB h3.b1 0) (cellB h3.b3 0) h1 h2 h60
 have HFit:Hid (∀f∈p.frags,∀r∈f.rels,M.bare r.name=true→-1≤r.frag∧r.frag<p.frags.length):=fun f hf' r hr hb=>hok.fits f hf' r hr hb
 have HSt:Hid (∀d∈p.defs,(d.kind==3)=false→0≤d.frag∧d.frag<p.frags.length):=fun d hd' hk=>by
  obtain⟨f,h1,h2,_⟩:=hok.stands d hd' hk
  have:=(List.getElem?_eq_some_iff.1 h2).1
  omega
 have HLen:Hid (∀f∈p.frags,f.rels.length≤8):=fun f hf'=>(len_ok f (hok.shape f hf')).2
 have HDef:Hid (DefsAt w (sv a2 p.defs.length c2) p.defs):=hd
 have HCom:Hid (∀d∈p.defs,(d.kind==3)=true→d.frag=0):=fun d hd' hk=>by
  have h:=hok.plain d hd'
  have hk':d.kind=3:=by simpa using hk
  unfold M.plainDfn at h
  split at h
  ·cases h
  split at h
  ·omega
  ·cases hf0:(d.frag==0)
   ·rw[hf0] at h;simp at h
   ·simpa using hf0
 clear hf hd hl hok hV
 go_upto_region 5 with (go_at_call 66;refine KO.out.mono ?_;rintro e W0 ⟨hb0,es0,vS,vD0,rfl,hP0,hes0,hap0⟩;obtain⟨xS,yS,rfl⟩:=own_len hP0.rowF;obtain⟨xT,yT,rfl⟩:=own_len hP0.rowD)
 have HF0:Hid (es0.map (·.f)=p.frags):=hes0
 have hn0:es0.length=p.frags.length:=by rw[←hes0,List.length_map]
 have HD0:Hid (DFr w W0 #[sv a1 p.frags.length c1,sv a2 p.defs.length c2] (sv a3 l.length c3) W0.heap.size (sv xS es0.length yS) es0 [] es0 (sv none 0 0)):=by
  have hYs:=HV.out.below.size
  have hP:=hP0.base hYs
  exact⟨HV.out.later hb0,PR.nil _ _,World.ownsRow_nil _ _ _ _,hP.rowF,fun g hg=>(hP.rowF.lt g hg).2,fun e he=>⟨hP.bytes e he,hP.rels e he,hP.small e he⟩,hap0,Nat.le_trans hYs hb0.size,Nat.le_refl _⟩
 clear hb0 hP0 hes0 hap0 cp0 cp1 KO HV
 generalize W0.heap.size=N at *
 have HN0:Hid (es0.length=p.frags.length):=hn0
 have hle60:es0.length≤60:=by omega
 clear hn0
 go_loopw [20] (fun s20 wr=>∃(k:Nat) (es:List Ent) (vF:Value),k≤es0.length∧s20=iv k∧Hid (es.map (·.f)=dsF l p.frags k)∧es.length≤k∧Hid (DFr w wr #[sv a1 p.frags.length c1,sv a2 p.defs.length c2] (sv a3 l.length c3) N (sv xS es0.length yS) es0 es (es0.drop k) vF)) (fun s20 _=>es0.length-(intOf s20).toNat)
 case atStart=>exact⟨0,[],_,Nat.zero_le _,rfl,rfl,Nat.le_refl _,HD0.out⟩
 case round =>
  obtain⟨k,es,vF,hk,rfl,HE,hek,HD⟩:=hrel
  clear HD0
  by_cases hlt:k<es0.length
  ·have hkp:k<p.frags.length:=by rw[←HN0.out];exact hlt
   have hdrop:=drop_getD es0 ent0 k hlt
   have hEf:(es0.getD k ent0).f=p.frags.getD k frg0:=by
    rw[←HF0.out,List.getD_eq_getElem?_getD,List.getD_eq_getElem?_getD,List.getElem?_map,List.getElem?_eq_getElem hlt];rfl
   have HD1:Hid (DFr w wr #[sv a1 p.frags.length c1,sv a2 p.defs.length c2] (sv a3 l.length c3) N (sv xS es0.length yS) es0 es (es0.getD k ent0::es0.drop (k+1)) vF):=by rw[Hid,←hdrop];exact HD.out
   obtain⟨g0,y0,hgv,hcl⟩:=row_cells6 HD.out.src k hlt
   cases hgv
   have HE1:=dsF_take l p.frags k hkp
   rw[←HE.out,←hEf] at HE1
   have HFt:Hid (∀r∈(es0.getD k ent0).f.rels,M.bare r.name=true→-1≤r.frag∧r.frag<p.frags.length):=by rw[Hid,hEf];exact HFit.out _ (getD_mem _ _ _ hkp)
   have h8:(es0.getD k ent0).f.rels.length≤8:=by rw[hEf];exact HLen.out _ (getD_mem _ _ _ hkp)
   have KGk:Hid (∀W,Below w.heap.size w W→W.cell? (qa w.heap.size 0)=some (sv a1 p.frags.length c1)→W.cell? (qa (w.heap.size+1) 0)=some (sv a3 l.length c3)→Calls Tryz.prog 98 #[iv k,qv w.heap.size 0,qv (w.heap.size+1) 0] W fun e w'=>e=.returned (.bool (M.gone l (es0.getD k ent0).f))∧Below W.heap.size W w'):=fun W h1 h2 h3=>by
    rw[hEf];exact KG.out k W hkp h1 h2 h3
   clear hdrop hEf HE HD
   have e0:=hcl 0 (by decide)
   have e1:=hcl 1 (by decide)
   have e2:=hcl 2 (by decide)
   have e3:=hcl 3 (by decide)
   have e4:=hcl 4 (by decide)
   have e5:=hcl 5 (by decide)
   clear hcl
   generalize hrest:es0.drop (k+1)=rest at *
   have HRest:Hid (es0.drop (k+1)=rest):=hrest
   clear hrest
   generalize es0.getD k ent0=en at *
   obtain⟨⟨s,al,g,bs,sz,rs⟩,bv,rv⟩:=en
   simp only[entCells,List.getD_cons_zero,List.getD_cons_succ,Nat.zero_add,Nat.add_zero] at e0 e1 e2 e3 e4 e5
   obtain⟨hby,hrl,_⟩:=HD1.out.come _ (List.mem_cons_self ..)
   obtain⟨xb,yb,rfl⟩:∃x y,bv=sv x bs.length y:=own_len hby
   obtain⟨xr,yr,rfl⟩:∃x y,rv=sv x rs.length y:=own_len hrl
   clear hby hrl
   have hkl:(k:Int)<(es0.length:Int):=by omega
   have hg0:g0<wr.heap.size:=wlt e0
   have hw0:w.heap.size≤wr.heap.size:=HD1.out.vars.below.size
   go_upto_region 7 with fail
   have hbX:Below wr.heap.size wr (wr.alloc (.cells #[iv s,iv al,.string g,sv xb bs.length yb,iv sz,sv xr rs.length yr] 87)):=bra _ _
   have fb:=heap_alloc_new wr (.cells #[iv s,iv al,.string g,sv xb bs.length yb,iv sz,sv xr rs.length yr] 87)
   have HX:Hid _:=HD1.out.later hbX
   clear HD1 e0 e1 e2 e3 e4 e5 hbX
   generalize wr.alloc (.cells #[iv s,iv al,.string g,sv xb bs.length yb,iv sz,sv xr rs.length yr] 87)=X at *
   generalize wr.heap.size=nf at *
   have v0:X.cell? (qa w.heap.size 0)=some (sv a1 p.frags.length c1):=cellB HX.out.vars.b0 0
   have v1:X.cell? (qa (w.heap.size+1) 0)=some (sv a3 l.length c3):=cellB HX.out.vars.b1 0
   have v3:X.cell? (qa (w.heap.size+1+1+1) 0)=some (.func (.func 98) #[] #[qv w.heap.size 0,qv (w.heap.size+1) 0]):=cellB HX.out.vars.b3 0
   have KG1:Hid (Calls Tryz.prog 98 #[iv k,qv w.heap.size 0,qv (w.heap.size+1) 0] X fun e w'=>e=.returned (.bool (M.gone l ⟨s,al,g,bs,sz,rs⟩))∧Below X.heap.size X w'):=KGk.out X HX.out.vars.below v0 v1
   clear KGk
   generalize M.gone l ⟨s,al,g,bs,sz,rs⟩=gn at *
   cases gn
   ·have HE2:Hid (dsF l p.frags (k+1)=es.map (·.f)++[M.movedFrg (M.count l 0 p.frags) ⟨s,al,g,bs,sz,rs⟩]):=HE1
    clear HE1
    go_upto_region 9 with (go_at_call 98;refine KG1.out.mono ?_;rintro e W1 ⟨rfl,hb1⟩;have fb1:=blk hb1 fb;have fc5:W1.cell? (qa nf 5)=some (sv xr rs.length yr):=cellB fb1 5)
    have HX1:Hid (DFr w W1 #[sv a1 p.frags.length c1,sv a2 p.defs.length c2] (sv a3 l.length c3) N (sv (some (qa g0 0)) es0.length yS) es0 es (⟨⟨s,al,g,bs,sz,rs⟩,sv xb bs.length yb,sv xr rs.length yr⟩::rest) vF):=HX.out.later hb1
    clear HX KG1 v0 v1 v3 fb hb1 fc5
    go_loopw [31] (fun s31 wi=>∃(j:Nat),j≤rs.length∧s31=iv j∧Hid (DFr w wi #[sv a1 p.frags.length c1,sv a2 p.defs.length c2] (sv a3 l.length c3) N (sv (some (qa g0 0)) es0.length yS) es0 es (curE l p.frags ⟨⟨s,al,g,bs,sz,rs⟩,sv xb bs.length yb,sv xr rs.length yr⟩ j::rest) vF)∧wi.heap[nf]?=some (.cells #[iv s,iv al,.string g,sv xb bs.length yb,iv sz,sv xr rs.length yr] 87 (0,0))) (fun s31 _=>rs.length-(intOf s31).toNat)
    case atStart=>exact⟨0,Nat.zero_le _,rfl,by rw[cur_zero];exact HX1.out,fb1⟩
    case round =>
     obtain⟨j,hj,rfl,HI,fbi⟩:=hrel
     clear HX1 fb1
     have hnfi:=lt1 fbi
     by_cases hjt:j<rs.length
     ·have hrow:=(HI.out.come _ (List.mem_cons_self ..)).2.1
      have hcl:=cur_len l p.frags ⟨⟨s,al,g,bs,sz,rs⟩,sv xb bs.length yb,sv xr rs.length yr⟩ j hj
      obtain⟨g1,y1,hgv,hcc,hfz,cs1,hcs1⟩:=row_cells5 hrow rfl j (by rw[hcl];exact hjt)
      have hcg:=cur_get l p.frags ⟨⟨s,al,g,bs,sz,rs⟩,sv xb bs.length yb,sv xr rs.length yr⟩ j hjt
      rw[hcg] at hcc
      rw[hcl] at hgv
      cases hgv
      have hFr:=HFt.out _ (getD_mem rs rel0 j hjt)
      have HN:Hid (M.bare (rs.getD j rel0).name=false→curE l p.frags ⟨⟨s,al,g,bs,sz,rs⟩,sv xb bs.length yb,sv (some (qa g1 0)) rs.length yr⟩ (j+1)=curE l p.frags ⟨⟨s,al,g,bs,sz,rs⟩,sv xb bs.length yb,sv (some (qa g1 0)) rs.length yr⟩ j):=cur_named l p.frags ⟨⟨s,al,g,bs,sz,rs⟩,sv xb bs.length yb,sv (some (qa g1 0)) rs.length yr⟩ j hjt
      have HBr:Hid (M.bare (rs.getD j rel0).name=true→setFrag (curE l p.frags ⟨⟨s,al,g,bs,sz,rs⟩,sv xb bs.length yb,sv (some (qa g1 0)) rs.length yr⟩ j) j (toN l p.frags (rs.getD j rel0).frag)=curE l p.frags ⟨⟨s,al,g,bs,sz,rs⟩,sv xb bs.length yb,sv (some (qa g1 0)) rs.length yr⟩ (j+1)):=cur_bare l p.frags ⟨⟨s,al,g,bs,sz,rs⟩,sv xb bs.length yb,sv (some (qa g1 0)) rs.length yr⟩ j hjt
      have r0:=hcc 0 (by decide)
      have r1:=hcc 1 (by decide)
      have r2:=hcc 2 (by decide)
      have r3:=hcc 3 (by decide)
      have r4:=hcc 4 (by decide)
      clear hcc hcg hcl hrow
      generalize rs.getD j rel0=rr at *
      obtain⟨pos,kd,nm,fr,ad⟩:=rr
      simp only[encRel,List.getD_cons_zero,List.getD_cons_succ,Nat.zero_add,Nat.add_zero] at r0 r1 r2 r3 r4 hFr HN HBr
      have hjl:(j:Int)<(rs.length:Int):=by omega
      have hj0:(0:Int)≤(j:Int):=by omega
      have hg1:g1<wr.heap.size:=wlt r0
      have hw1:w.heap.size≤wr.heap.size:=HI.out.vars.below.size
      cases hb:M.bare nm
      ·have hb':nm.toList.isEmpty=false:=hb
       have HN2:Hid _:=HN.out hb
       have HEx:Hid (∀o,DFr w (wr.alloc o) #[sv a1 p.frags.length c1,sv a2 p.defs.length c2] (sv a3 l.length c3) N (sv (some (qa g0 0)) es0.length yS) es0 es (curE l p.frags ⟨⟨s,al,g,bs,sz,rs⟩,sv xb bs.length yb,sv (some (qa g1 0)) rs.length yr⟩ j::rest) vF∧(wr.alloc o).heap[nf]?=some (.cells #[iv s,iv al,.string g,sv xb bs.length yb,iv sz,sv (some (qa g1 0)) rs.length yr] 87 (0,0))):=fun o=>⟨HI.out.later (bra _ o),(heap_alloc_old _ _ hnfi).trans fbi⟩
       clear hb HBr HN fbi hcs1 hfz
       go_wp2
       go_roundw
       case rel=>exact⟨j+1,by omega,by go_num,by rw[HN2.out];exact(HEx.out _).1,(HEx.out _).2⟩
       case measure=>simp[intOf];omega
      ·have hb':nm.toList.isEmpty=true:=hb
       have HB2:Hid _:=HBr.out hb
       have hfr:=hFr hb
       clear hb HBr HN hFr
       go_upto_region 12 with fail
       have hbA:Below wr.heap.size wr (wr.alloc (.cells #[iv pos,iv kd,.string nm,iv fr,iv ad] 89)):=bra _ _
       have nb:=heap_alloc_new wr (.cells #[iv pos,iv kd,.string nm,iv fr,iv ad] 89)
       have HX2:Hid _:=HI.out.later hbA
       have fb2:=(hbA.block _ hnfi).trans fbi
       have gc2:=(hbA.block _ hg1).trans hcs1
       have hrl2:=cell_later hbA r3
       clear r0 r1 r2 r3 r4 fbi HI hcs1 hfz
       have hgn:g1≠wr.heap.size:=by omega
       generalize wr.alloc (.cells #[iv pos,iv kd,.string nm,iv fr,iv ad] 89)=X2 at *
       generalize wr.heap.size=nr at *
       have hgf:g1≠nf:=fun e=>by
        rw[e,fb2] at gc2
        cases gc2
       have hlg:=lt1 gc2
       have hlf:=lt1 fb2
       have hlr:=lt1 nb
       have HS:Hid (∀W,Below X2.heap.size X2 W→(W.cell? (qa nf 5)=some (sv (some (qa g1 0)) rs.length yr)∧W.cell? (qa nr 3)=some (iv fr))):=fun W hW=>⟨cellB ((hW.block _ hlf).trans fb2) 5,cellB ((hW.block _ hlr).trans nb) 3⟩
       have HS3:Hid (∀W v,Below X2.heap.size X2 W→((W.setCell (qa g1 (j*5+3)) v).cell? (qa nf 5)=some (sv (some (qa g1 0)) rs.length yr)∧(W.setCell (qa g1 (j*5+3)) v).cell? (qa nr 3)=some (iv fr))):=fun W v hW=>⟨cellB ((Below.heap_setCell _ _ _ _ (fun e=>hgf e.symm)).trans ((hW.block _ hlf).trans fb2)) 5,cellB ((Below.heap_setCell _ _ _ _ (fun e=>hgn e.symm)).trans ((hW.block _ hlr).trans nb)) 3⟩
       have KT2:Hid (∀W,Below X2.heap.size X2 W→Calls Tryz.prog 99 #[iv fr,qv (w.heap.size+1+1+1) 0] W fun e w'=>e=.returned (iv (toN l p.frags fr))∧Below W.heap.size W w'):=fun W hW=>KT.out fr W hfr.1 hfr.2 (.inr ⟨_,_,(HX2.out.vars.later hW)⟩)
       have HG2:Hid (∀W,Below X2.heap.size X2 W→W.cell? (qa g1 (j*5+3))=some (iv fr)∧W.frozen? (qa g1 (j*5+3))=false∧g1<W.heap.size):=fun W hW=>⟨cell_later hW hrl2,frozenB ((hW.block _ hlg).trans gc2) _,Nat.lt_of_lt_of_le hlg hW.size⟩
       have hA0:Below X2.heap.size X2 X2.drew:=(Below.refl _ _).drew
       generalize toN l p.frags fr=nw at *
       clear hrl2 gc2 nb
       go_region_held3 (fun w'=>w'.cell? (qa nf 5)=some (sv (some (qa g1 0)) rs.length yr)∧w'.cell? (qa nr 3)=some (iv fr)) (first|exact HS.out _ hA0|exact HS.out _ hX3|exact HS3.out _ _ hX3) ((go_at_call 99;refine(KT2.out _ hA0).mono ?_;rintro e w2 ⟨rfl,hb2⟩;have hX3:Below X2.heap.size X2 w2:=hA0.trans (hb2.mono hA0.size);obtain⟨hs1,hs2,hs3⟩:=HG2.out _ hX3))
       have HI3:=(HX2.out.later hX3).setRel (g:=g1) (cap:=yr) (k:=j) (by rw[cur_len l p.frags ⟨⟨s,al,g,bs,sz,rs⟩,sv xb bs.length yb,sv (some (qa g1 0)) rs.length yr⟩ j hj];rfl) (by rw[cur_len l p.frags ⟨⟨s,al,g,bs,sz,rs⟩,sv xb bs.length yb,sv (some (qa g1 0)) rs.length yr⟩ j hj];exact hjt) nw
       have fb3:=(Below.heap_setCell w2 ⟨g1,j*5+3,none⟩ (iv nw) nf (fun e=>hgf e.symm)).trans ((hX3.block _ hlf).trans fb2)
       have HI4:Hid _:=HI3
       have Hfb3:Hid _:=fb3
       clear HI3 fb3
       go_wp2
       go_roundw
       case rel=>exact⟨j+1,by omega,by go_num,by rw[←HB2.out];exact HI4.out,Hfb3.out⟩
       case measure=>simp[intOf];omega
     ·have hjl:j=rs.length:=by omega
      subst hjl
      obtain⟨aV,cV,rfl⟩:=own_len HI.out.hi
      have o0:wr.cell? (qa (w.heap.size+1+1+1+1) 0)=some (sv aV es.length cV):=cellB HI.out.vars.b4 0
      have hl4:=lt1 HI.out.vars.b4
      have q0:=cellC fbi 0 rfl
      have q1:=cellC fbi 1 rfl
      have q2:=cellC fbi 2 rfl
      have q3:=cellC fbi 3 rfl
      have q4:=cellC fbi 4 rfl
      have q5:=cellC fbi 5 rfl
      have hAl:Below wr.heap.size wr (wr.alloc (.cells #[iv s,iv al,.string g,sv xb bs.length yb,iv sz,sv xr rs.length yr] 87)):=bra _ _
      have hA:=HI.out.later hAl
      have hrowA:=hA.hi
      have htop:N≤(wr.alloc (.cells #[iv s,iv al,.string g,sv xb bs.length yb,iv sz,sv xr rs.length yr] 87)).heap.size:=hA.top
      have hnews:∀j u,(#[iv s,iv al,.string g,sv xb bs.length yb,iv sz,sv xr rs.length yr]:Array Value).toList[j]?=some u→(wr.alloc (.cells #[iv s,iv al,.string g,sv xb bs.length yb,iv sz,sv xr rs.length yr] 87)).cell? ((qa wr.heap.size 0).add j)=some u:=World.news_of_block (heap_alloc_new wr _)
      have HEnd:Hid (∀v' w5,(wr.alloc (.cells #[iv s,iv al,.string g,sv xb bs.length yb,iv sz,sv xr rs.length yr] 87)).grownBy w5 (sv aV es.length cV).ownBlock→w5.ownsRow N 87 6 v' (es.length+1) (es.flatMap entCells++(#[iv s,iv al,.string g,sv xb bs.length yb,iv sz,sv xr rs.length yr]:Array Value).toList)→DFr w (w5.setCell (qa (w.heap.size+4) 0) v') #[sv a1 p.frags.length c1,sv a2 p.defs.length c2] (sv a3 l.length c3) N (sv (some (qa g0 0)) es0.length yS) es0 (es++[curE l p.frags ⟨⟨s,al,g,bs,sz,rs⟩,sv xb bs.length yb,sv xr rs.length yr⟩ rs.length]) rest v'):=fun v' w5 hg5 ho5=>hA.add hg5 ho5
      have HQ4:Hid (∀w5,(wr.alloc (.cells #[iv s,iv al,.string g,sv xb bs.length yb,iv sz,sv xr rs.length yr] 87)).grownBy w5 (sv aV es.length cV).ownBlock→w5.heap[w.heap.size+1+1+1+1]?=some (.cells #[sv aV es.length cV,sv none 0 0] 43 (0,0))):=fun w5 hg5=>block_kept hA.hi hg5 hA.vars.b4 (by decide)
      have HF2:Hid ((curE l p.frags ⟨⟨s,al,g,bs,sz,rs⟩,sv xb bs.length yb,sv xr rs.length yr⟩ rs.length).f=M.movedFrg (M.count l 0 p.frags) ⟨s,al,g,bs,sz,rs⟩):=cur_all l p.frags ⟨⟨s,al,g,bs,sz,rs⟩,sv xb bs.length yb,sv xr rs.length yr⟩ (fun r hr hb=>(HFt.out r hr hb).1)
      clear HI hA hAl fbi
      go_wp2_with (at_builtin;refine wpList_append_own _ rfl _ _ 40 rfl N 87 i2 (.agg #[iv 0,iv 0,.string ⟨#[]⟩,sv none 0 0,iv 0,sv none 0 0]) 6 88 Tryz.underlying40 hi2 hx0 hx1 hx2 rfl (by decide) _ _ _ rfl hrowA ⟨wr.heap.size,0,none⟩ 1 1 (#[iv s,iv al,.string g,sv xb bs.length yb,iv sz,sv xr rs.length yr]:Array Value).toList rfl rfl hnews (fun u hu=>by simp at hu;rcases hu with rfl|rfl|rfl|rfl|rfl|rfl<;>rfl) (by unfold maxLen;omega) (by omega) htop ?_;intro v5 w5 ho5 hg5 hn5;obtain⟨a5,c5,rfl⟩:=own_len ho5;have hq5:=HQ4.out w5 hg5;have m0:=cellC hq5 0 rfl;have mz0:w5.frozen? (qa (w.heap.size+1+1+1+1) 0)=false:=frozenB hq5 0)
      have HFin:=HEnd.out _ _ hg5 ho5
      go_roundw
      case rel=>exact⟨k+1,es++[curE l p.frags ⟨⟨s,al,g,bs,sz,rs⟩,sv xb bs.length yb,sv xr rs.length yr⟩ rs.length],_,by omega,by go_num,by rw[Hid,List.map_append,HE2.out];show _++[(curE l p.frags ⟨⟨s,al,g,bs,sz,rs⟩,sv xb bs.length yb,sv xr rs.length yr⟩ rs.length).f]=_;rw[HF2.out],by rw[List.length_append];simp;omega,by rw[HRest.out];exact HFin⟩
      case measure=>simp[intOf];omega
   ·have HE2:Hid (es.map (·.f)=dsF l p.frags (k+1)):=by rw[Hid,HE1];simp
    clear HE1
    go_wp2_with (go_at_call 98;refine KG1.out.mono ?_;rintro e W1 ⟨rfl,hb1⟩)
    go_roundw
    case rel=>exact⟨k+1,es,vF,by omega,by go_num,HE2,by omega,by rw[HRest.out];exact(HX.out.later hb1).skip⟩
    case measure=>simp[intOf];omega
  ·have hkl:k=es0.length:=by omega
   have HFr:Hid (es.map (·.f)=(M.drop p l).frags):=by
    rw[Hid,HE.out,hkl,HN0.out,M.drop_frags]
    unfold dsF
    rw[List.take_length]
   have HAp:Hid (es.Pairwise Apart):=(List.pairwise_append.1 HD.out.ap).1
   have HV0:Hid (DVars w wr #[sv a1 p.frags.length c1,sv a2 p.defs.length c2] (sv a3 l.length c3) vF (sv none 0 0)):=HD.out.vars
   have HP0:Hid (PR wr w.heap.size es [] vF (sv none 0 0)):=HD.out.pr
   have cd1:wr.cell? (qa w.heap.size 1)=some (sv a2 p.defs.length c2):=cellB HD.out.vars.b0 1
   have hl0:=lt1 HD.out.vars.b0
   clear HE HD hkl hek
   subst_vars
   obtain⟨aF,cF,rfl⟩:=own_len HP0.out.rowF
   go_upto_region 17 with fail
   go_loopw [59] (fun s59 wr=>∃(k:Nat) (gs:List M.Dfn) (vD:Value),k≤p.defs.length∧s59=iv k∧Hid (gs=M.movedDefs (M.count l 0 p.frags) (p.defs.take k))∧gs.length≤k∧DVars w wr #[sv a1 p.frags.length c1,sv a2 p.defs.length c2] (sv a3 l.length c3) (sv aF es.length cF) vD∧PR wr w.heap.size es gs (sv aF es.length cF) vD) (fun s59 _=>p.defs.length-(intOf s59).toNat)
   case atStart=>exact⟨0,[],_,Nat.zero_le _,rfl,rfl,Nat.le_refl _,HV0.out,HP0.out⟩
   case round =>
    obtain⟨k,gs,vD,hk,rfl,HM,hgk,hV,hP⟩:=hrel
    clear HV0 HP0 cd1
    obtain⟨aV,cV,rfl⟩:=own_len hP.rowD
    have HVr:Hid (DVars w wr #[sv a1 p.frags.length c1,sv a2 p.defs.length c2] (sv a3 l.length c3) (sv aF es.length cF) (sv aV gs.length cV)):=hV
    have HPr:Hid (PR wr w.heap.size es gs (sv aF es.length cF) (sv aV gs.length cV)):=hP
    clear hV hP
    by_cases hlt:k<p.defs.length
    ·obtain⟨b,off,rfl,e0,e1,e2,e3,e4,e5,hnm⟩:=(HDef.out.later HVr.out.below).cells k hlt
     have hbr:b<wr.heap.size:=wlt e0
     have hkl:(k:Int)<(p.defs.length:Int):=by omega
     have HM1:=defs_take (M.count l 0 p.frags) p.defs k hlt
     rw[←HM.out] at HM1
     have hst:=HSt.out _ (getD_mem p.defs dfn0 k hlt)
     have hcm:=HCom.out _ (getD_mem p.defs dfn0 k hlt)
     clear HM
     generalize p.defs.getD k dfn0=d at *
     obtain⟨nm,kd,fg,pos,sz,al⟩:=d
     simp only at e0 e1 e2 e3 e4 e5 hnm hst hcm
     cases hk3:(kd==3)
     ·have hkn:(kd !=3)=true:=by simpa using hk3
      obtain⟨hf0,hf1⟩:=hst hk3
      obtain⟨n,rfl⟩:∃n:Nat,fg=(n:Int):=⟨fg.toNat,by omega⟩
      have hn:n<p.frags.length:=by omega
      obtain⟨hnum,hgy,hgn⟩:=num_toN l p.frags n hn
      have hmv:M.movedDfn (M.count l 0 p.frags) ⟨nm,kd,n,pos,sz,al⟩=⟨nm,kd,toN l p.frags n,pos,sz,al⟩:=by unfold M.movedDfn;rw[hk3,hnum];rfl
      rw[hmv] at HM1
      simp only at HM1
      clear hmv hst hcm hnum hk3
      go_upto_region 19 with fail
      have hbA:Below wr.heap.size wr (wr.alloc (.cells #[.string nm,iv kd,iv n,iv pos,iv sz,iv al] 72)):=bra _ _
      have nb:=heap_alloc_new wr (.cells #[.string nm,iv kd,iv n,iv pos,iv sz,iv al] 72)
      have HVX:Hid _:=HVr.out.later hbA
      have HPX:Hid _:=HPr.out.later hbA
      have hwd:w.heap.size≤wr.heap.size:=HVr.out.below.size
      have HLt:Hid (∀g,(sv aV gs.length cV).ownBlock=some g→g<wr.heap.size):=fun g hg=>(HPr.out.rowD.lt g hg).2
      clear HVr HPr e0 e1 e2 e3 e4 e5 hbA
      generalize wr.alloc (.cells #[.string nm,iv kd,iv n,iv pos,iv sz,iv al] 72)=X at *
      generalize wr.heap.size=nd at *
      have hld:=lt1 nb
      have n1:=cellC nb 1 rfl
      have n2:=cellC nb 2 rfl
      have v3:X.cell? (qa (w.heap.size+1+1+1) 0)=some (.func (.func 98) #[] #[qv w.heap.size 0,qv (w.heap.size+1) 0]):=cellB HVX.out.b3 0
      have KG1:Hid (Calls Tryz.prog 98 #[iv n,qv w.heap.size 0,qv (w.heap.size+1) 0] X fun e w'=>e=.returned (.bool (M.gone l (p.frags.getD n frg0)))∧Below X.heap.size X w'):=KG.out n X hn HVX.out.below (cellB HVX.out.b0 0) (cellB HVX.out.b1 0)
      have KT1:Hid (∀W,Below X.heap.size X W→Calls Tryz.prog 99 #[iv n,qv (w.heap.size+1+1+1) 0] W fun e w'=>e=.returned (iv (toN l p.frags n))∧Below W.heap.size W w'):=fun W hW=>KT.out n W (by omega) hf1 (.inr ⟨_,_,HVX.out.later hW⟩)
      generalize M.gone l (p.frags.getD n frg0)=gn at *
      generalize toN l p.frags n=nw at *
      cases gn
      ·have hnw:0≤nw:=hgn rfl
       have hb1':(nw==-1)=false:=by rw[beq_eq_false_iff_ne];omega
       rw[hb1'] at HM1
       have HM2:Hid (gs++[⟨nm,kd,nw,pos,sz,al⟩]=M.movedDefs (M.count l 0 p.frags) (p.defs.take (k+1))):=HM1.symm
       clear HM1 hgy hgn hb1' hnw
       go_upto_region 21 with (go_at_call 98;refine KG1.out.mono ?_;rintro e W1 ⟨rfl,hb1⟩)
       have nb1:=(hb1.block _ hld).trans nb
       have z2:=cellC nb1 2 rfl
       clear n1 n2 v3
       go_upto_region 22 with (go_at_call 99;refine(KT1.out _ hb1).mono ?_;rintro e W2 ⟨rfl,hb2⟩;have nb2:=blk hb2 nb1;have y2:=cellC nb2 2 rfl;have yz2:W2.frozen? (qa nd 2)=false:=frozenB nb2 2)
       have hX2:Below X.heap.size X W2:=hb1.trans (hb2.mono hb1.size)
       have HVZ:DVars w (W2.setCell (qa nd 2) (iv nw)) #[sv a1 p.frags.length c1,sv (some (qa b off)) p.defs.length c2] (sv a3 l.length c3) (sv aF es.length cF) (sv aV gs.length cV):=(HVX.out.later hX2).set_def nb2 hwd
       have HPZ:PR (W2.setCell (qa nd 2) (iv nw)) w.heap.size es gs (sv aF es.length cF) (sv aV gs.length cV):=(HPX.out.later hX2).set_def nb2 HLt.out
       have nbZ:(W2.setCell (qa nd 2) (iv nw)).heap[nd]?=some (.cells #[.string nm,iv kd,iv nw,iv pos,iv sz,iv al] 72 (0,0)):=setB' nb2 _
       have HVZ':Hid _:=HVZ
       have HPZ':Hid _:=HPZ
       clear HVZ HPZ nb2 nb1 nb hb1 hb2 hX2 HVX HPX KG1 KT1 y2 yz2 z2
       generalize W2.setCell (qa nd 2) (iv nw)=Z at *
       have hldZ:=lt1 nbZ
       have z0:=cellC nbZ 0 rfl
       have z1:=cellC nbZ 1 rfl
       have z2:=cellC nbZ 2 rfl
       have z3:=cellC nbZ 3 rfl
       have z4:=cellC nbZ 4 rfl
       have z5:=cellC nbZ 5 rfl
       clear nbZ
       have hAl:Below Z.heap.size Z (Z.alloc (.cells #[.string nm,iv kd,iv nw,iv pos,iv sz,iv al] 72)):=bra _ _
       have hrowA:=(HPZ'.out.later hAl).rowD
       have hnews:∀j u,(#[.string nm,iv kd,iv nw,iv pos,iv sz,iv al]:Array Value).toList[j]?=some u→(Z.alloc (.cells #[.string nm,iv kd,iv nw,iv pos,iv sz,iv al] 72)).cell? ((qa Z.heap.size 0).add j)=some u:=World.news_of_block (heap_alloc_new Z _)
       have HEnd:Hid (∀v' w5,(Z.alloc (.cells #[.string nm,iv kd,iv nw,iv pos,iv sz,iv al] 72)).grownBy w5 (sv aV gs.length cV).ownBlock→w5.ownsRow w.heap.size 72 6 v' (gs.length+1) (gs.flatMap encDfn++(#[.string nm,iv kd,iv nw,iv pos,iv sz,iv al]:Array Value).toList)→DVars w (w5.setCell (qa (w.heap.size+4) 1) v') #[sv a1 p.frags.length c1,sv (some (qa b off)) p.defs.length c2] (sv a3 l.length c3) (sv aF es.length cF) v'∧PR (w5.setCell (qa (w.heap.size+4) 1) v') w.heap.size es (gs++[⟨nm,kd,nw,pos,sz,al⟩]) (sv aF es.length cF) v'):=fun v' w5 hg5 ho5=>dd_add (d:=⟨nm,kd,nw,pos,sz,al⟩) (HVZ'.out.later hAl) (HPZ'.out.later hAl) hg5 ho5 hnm
       have HQ4:Hid (∀w5,(Z.alloc (.cells #[.string nm,iv kd,iv nw,iv pos,iv sz,iv al] 72)).grownBy w5 (sv aV gs.length cV).ownBlock→w5.heap[w.heap.size+1+1+1+1]?=some (.cells #[sv aF es.length cF,sv aV gs.length cV] 43 (0,0))):=fun w5 hg5=>block_kept (HPZ'.out.later hAl).rowD hg5 (HVZ'.out.later hAl).b4 (by decide)
       have o1:Z.cell? (qa (w.heap.size+1+1+1+1) 1)=some (sv aV gs.length cV):=cellB HVZ'.out.b4 1
       have hl4:=lt1 HVZ'.out.b4
       have hwW:w.heap.size≤Z.heap.size:=HVZ'.out.below.size
       clear hAl
       go_wp2_with (at_builtin;refine wpList_append_own _ rfl _ _ 41 rfl w.heap.size 72 i3 (.agg #[.string ⟨#[]⟩,iv 0,iv 0,iv 0,iv 0,iv 0]) 6 56 Tryz.underlying41 hi3 hu0 hu1 hu2 rfl (by decide) _ _ _ rfl hrowA ⟨Z.heap.size,0,none⟩ 1 1 (#[.string nm,iv kd,iv nw,iv pos,iv sz,iv al]:Array Value).toList rfl rfl hnews (fun u hu=>by simp at hu;rcases hu with rfl|rfl|rfl|rfl|rfl|rfl<;>rfl) (by unfold maxLen;omega) (by omega) (by simp;omega) ?_;intro v5 w5 ho5 hg5 hn5;obtain⟨a5,c5,rfl⟩:=own_len ho5;have hq5:=HQ4.out w5 hg5;have m1:=cellC hq5 1 rfl;have mz1:w5.frozen? (qa (w.heap.size+1+1+1+1) 1)=false:=frozenB hq5 1)
       have HFin:=HEnd.out _ _ hg5 ho5
       go_roundw
       case rel=>exact⟨k+1,gs++[⟨nm,kd,nw,pos,sz,al⟩],_,by omega,by go_num,HM2,by rw[List.length_append];simp;omega,HFin.1,HFin.2⟩
       case measure=>simp[intOf];omega
      ·have hnw:nw=-1:=hgy rfl
       rw[hnw] at HM1
       have HM2:Hid (gs=M.movedDefs (M.count l 0 p.frags) (p.defs.take (k+1))):=by rw[Hid,HM1];simp
       clear HM1 hgy hgn hnw
       go_wp2_with (go_at_call 98;refine KG1.out.mono ?_;rintro e W1 ⟨rfl,hb1⟩)
       go_roundw
       case rel=>exact⟨k+1,gs,_,by omega,by go_num,HM2,by omega,HVX.out.later hb1,HPX.out.later hb1⟩
       case measure=>simp[intOf];omega
     ·have hkn:(kd !=3)=false:=by simpa using hk3
      have hf0:=hcm hk3
      subst hf0
      have hmv:M.movedDfn (M.count l 0 p.frags) ⟨nm,kd,0,pos,sz,al⟩=⟨nm,kd,0,pos,sz,al⟩:=by unfold M.movedDfn;rw[hk3];rfl
      rw[hmv] at HM1
      have HM2:Hid (gs++[⟨nm,kd,0,pos,sz,al⟩]=M.movedDefs (M.count l 0 p.frags) (p.defs.take (k+1))):=HM1.symm
      clear hmv hst hcm HM1 hk3
      go_upto_region 22 with fail
      have hbA:Below wr.heap.size wr (wr.alloc (.cells #[.string nm,iv kd,iv 0,iv pos,iv sz,iv al] 72)):=bra _ _
      have nbZ:=heap_alloc_new wr (.cells #[.string nm,iv kd,iv 0,iv pos,iv sz,iv al] 72)
      have HVZ':Hid _:=HVr.out.later hbA
      have HPZ':Hid _:=HPr.out.later hbA
      clear HVr HPr e0 e1 e2 e3 e4 e5 hbA
      generalize wr.alloc (.cells #[.string nm,iv kd,iv 0,iv pos,iv sz,iv al] 72)=Z at *
      generalize wr.heap.size=nd at *
      have hldZ:=lt1 nbZ
      have z0:=cellC nbZ 0 rfl
      have z1:=cellC nbZ 1 rfl
      have z2:=cellC nbZ 2 rfl
      have z3:=cellC nbZ 3 rfl
      have z4:=cellC nbZ 4 rfl
      have z5:=cellC nbZ 5 rfl
      clear nbZ
      have hAl:Below Z.heap.size Z (Z.alloc (.cells #[.string nm,iv kd,iv 0,iv pos,iv sz,iv al] 72)):=bra _ _
      have hrowA:=(HPZ'.out.later hAl).rowD
      have hnews:∀j u,(#[.string nm,iv kd,iv 0,iv pos,iv sz,iv al]:Array Value).toList[j]?=some u→(Z.alloc (.cells #[.string nm,iv kd,iv 0,iv pos,iv sz,iv al] 72)).cell? ((qa Z.heap.size 0).add j)=some u:=World.news_of_block (heap_alloc_new Z _)
      have HEnd:Hid (∀v' w5,(Z.alloc (.cells #[.string nm,iv kd,iv 0,iv pos,iv sz,iv al] 72)).grownBy w5 (sv aV gs.length cV).ownBlock→w5.ownsRow w.heap.size 72 6 v' (gs.length+1) (gs.flatMap encDfn++(#[.string nm,iv kd,iv 0,iv pos,iv sz,iv al]:Array Value).toList)→DVars w (w5.setCell (qa (w.heap.size+4) 1) v') #[sv a1 p.frags.length c1,sv (some (qa b off)) p.defs.length c2] (sv a3 l.length c3) (sv aF es.length cF) v'∧PR (w5.setCell (qa (w.heap.size+4) 1) v') w.heap.size es (gs++[⟨nm,kd,0,pos,sz,al⟩]) (sv aF es.length cF) v'):=fun v' w5 hg5 ho5=>dd_add (d:=⟨nm,kd,0,pos,sz,al⟩) (HVZ'.out.later hAl) (HPZ'.out.later hAl) hg5 ho5 hnm
      have HQ4:Hid (∀w5,(Z.alloc (.cells #[.string nm,iv kd,iv 0,iv pos,iv sz,iv al] 72)).grownBy w5 (sv aV gs.length cV).ownBlock→w5.heap[w.heap.size+1+1+1+1]?=some (.cells #[sv aF es.length cF,sv aV gs.length cV] 43 (0,0))):=fun w5 hg5=>block_kept (HPZ'.out.later hAl).rowD hg5 (HVZ'.out.later hAl).b4 (by decide)
      have o1:Z.cell? (qa (w.heap.size+1+1+1+1) 1)=some (sv aV gs.length cV):=cellB HVZ'.out.b4 1
      have hl4:=lt1 HVZ'.out.b4
      have hwW:w.heap.size≤Z.heap.size:=HVZ'.out.below.size
      clear hAl
      go_wp2_with (at_builtin;refine wpList_append_own _ rfl _ _ 41 rfl w.heap.size 72 i3 (.agg #[.string ⟨#[]⟩,iv 0,iv 0,iv 0,iv 0,iv 0]) 6 56 Tryz.underlying41 hi3 hu0 hu1 hu2 rfl (by decide) _ _ _ rfl hrowA ⟨Z.heap.size,0,none⟩ 1 1 (#[.string nm,iv kd,iv 0,iv pos,iv sz,iv al]:Array Value).toList rfl rfl hnews (fun u hu=>by simp at hu;rcases hu with rfl|rfl|rfl|rfl|rfl|rfl<;>rfl) (by unfold maxLen;omega) (by omega) (by simp;omega) ?_;intro v5 w5 ho5 hg5 hn5;obtain⟨a5,c5,rfl⟩:=own_len ho5;have hq5:=HQ4.out w5 hg5;have m1:=cellC hq5 1 rfl;have mz1:w5.frozen? (qa (w.heap.size+1+1+1+1) 1)=false:=frozenB hq5 1)
      have HFin:=HEnd.out _ _ hg5 ho5
      go_roundw
      case rel=>exact⟨k+1,gs++[⟨nm,kd,0,pos,sz,al⟩],_,by omega,by go_num,HM2,by rw[List.length_append];simp;omega,HFin.1,HFin.2⟩
      case measure=>simp[intOf];omega
    ·have hkl:k=p.defs.length:=by omega
     have HG:Hid (gs=(M.drop p l).defs):=by rw[Hid,HM.out,hkl,List.take_length];rfl
     clear HM
     subst hkl
     have o0:wr.cell? (qa (w.heap.size+1+1+1+1) 0)=some (sv aF es.length cF):=cellB HVr.out.b4 0
     have o1:wr.cell? (qa (w.heap.size+1+1+1+1) 1)=some (sv aV gs.length cV):=cellB HVr.out.b4 1
     have hl2:=lt1 HVr.out.b2
     have d0:wr.cell? (qa (w.heap.size+1+1) 0)=some (sv none 0 0):=cellB HVr.out.b2 0
     have d1:wr.cell? (qa (w.heap.size+1+1) 1)=some (sv none 0 0):=cellB HVr.out.b2 1
     have y0:wr.frozen? (qa (w.heap.size+1+1) 0)=false:=frozenB HVr.out.b2 0
     have y1:wr.frozen? (qa (w.heap.size+1+1) 1)=false:=frozenB HVr.out.b2 1
     have u0:(wr.setCell (qa (w.heap.size+1+1) 0) (sv aF es.length cF)).heap[w.heap.size+1+1]?=some (.cells #[sv aF es.length cF,sv none 0 0] 43 (0,0)):=setB' HVr.out.b2 _
     have HPe:Hid (PR ((wr.setCell (qa (w.heap.size+1+1) 0) (sv aF es.length cF)).setCell (qa (w.heap.size+1+1) 1) (sv aV gs.length cV)) w.heap.size es gs (sv aF es.length cF) (sv aV gs.length cV)):=(HPr.out.set HVr.out.b2).set u0
     have HBe:Hid (Below w.heap.size w ((wr.setCell (qa (w.heap.size+1+1) 0) (sv aF es.length cF)).setCell (qa (w.heap.size+1+1) 1) (sv aV gs.length cV))):=(HVr.out.below.setCell (by show w.heap.size≤w.heap.size+1+1;omega) _).setCell (by show w.heap.size≤w.heap.size+1+1;omega) _
     clear u0 HVr HPr
     go_wp2
     refine bodyPost_ret (v:=.agg #[sv aF es.length cF,sv aV gs.length cV]) (by simp[results,Tryz.results67,go_sem,d0,d1]) rfl ?_
     exact⟨HBe.out,es,_,_,rfl,by rw[←HG.out];exact HPe.out,HFr.out,HAp.out⟩
end Go.Proofs.YtpkfmfhodbjckaaGreatDoor
namespace Go.Proofs.YtpkfmfhodbjckaaGreatDoor
open Go Go.RowKit
theorem step_append_row{P:Program}{w:World}{ops:Array Oper}{o:Oper}{a:Act}{K:Act→World→Prop}{Q:Exit→Act→World→Prop}{E:Prop}(hgd:o.guard=none)(s x:Operand)(t:TypeId)
  (ho:o.op=.call { callee:=.builtin .append,args:=#[s,x],argTypes:=#[t,t] })
  (base:Nat) (e:TypeId) (i:TypeInfo) (z:Value) (size bytes:Nat) (ht:P.underlying t=some (.slice e)) (hi:P.info? e=some i) (hz:i.zero=some z)
  (hsize:i.size=size) (hby:i.bytes=bytes) (hzs:z.cells.size=size) (hsz:0<size)
  (v:Value) (n:Nat) (xs:List Value) (hs:a.eval s=v) (hown:w.ownsRow base e size v n xs)
  (u:Value) (m:Nat) (news:List Value) (hx:a.eval x=u) (hsrc:Src w u m news) (hl:news.length=m*size) (h1:∀u∈news,u.oneCell'=true)
  (h63:n+m≤maxLen) (hbytes:(n+m)*bytes≤140737488355328) (hbase:base≤w.heap.size)
  (h:∀v' w',w'.ownsRow base e size v' (n+m) (xs++news)→w.grownBy w' v.ownBlock→K (a.put o.dst v') w') :
  if Region.wanted o (yielded ops a.tmps)=true then Oper.wp P o a w K Q else E:=by
 have hw:Region.wanted o (yielded ops a.tmps)=true:=by simp[Region.wanted,hgd]
 rw[if_pos hw]
 exact wp_append_src w s x t ho base e i z size bytes ht hi hz hsize hby hzs hsz v n xs hs hown u m news hx hsrc hl h1 h63 hbytes hbase h
theorem has_bare(l:List ByteArray)(g:ByteArray):M.has (str0::l) g=(M.bare g || M.has l g):=by
 unfold M.has M.bare
 rw[List.any_cons]
 congr 1
 have e:str0.toList=[]:=by decide +kernel
 rw[e]
 cases g.toList<;>rfl
theorem strsR_one(l:List ByteArray):∀u∈l.map Value.string,u.oneCell'=true:=fun u hu=>by
 obtain⟨b,_,rfl⟩:=List.mem_map.1 hu
 rfl
theorem rgroups_any(fs:List M.Frg)(a1 a2:Option Addr)(c1 c2 n2:Nat)(w:World)(hf:FragsAt w (sv a1 fs.length c1) fs)(h60:fs.length≤60) :
  Calls Tryz.prog 68 #[.agg #[sv a1 fs.length c1,sv a2 n2 c2]] w fun e w'=>Below w.heap.size w w'∧∃x y,e=.returned (sv x (M.groups fs).length y)∧StrsAt w' (sv x (M.groups fs).length y) (M.groups fs):=by
 obtain⟨i0,hi,hz0,hz1,hz2⟩:=info_parts (P:=Tryz.prog) (e:=9) (z:=.string ⟨#[]⟩) (size:=1) (bytes:=16) (by kernel_rfl)
 have HA:Hid (Below w.heap.size w (w.alloc (.cells #[sv a1 fs.length c1,sv a2 n2 c2] 43))):=bra _ _
 go_enter Tryz.func68,Tryz.ntmps68
 go_wp2_with fail
 go_loopw [3,9] (fun s3 s9 wr=>∃(k:Nat) (l:List ByteArray),k≤fs.length∧s9=iv k∧Hid (l=(fs.take k).foldl M.addGroup [])∧l.length≤k∧Hid (∀s∈l,s.size≤maxLen)∧wr.ownsRow w.heap.size 9 1 s3 l.length (l.map Value.string)∧Hid (Below w.heap.size w wr)) (fun _ s9 _=>fs.length-(intOf s9).toNat)
 case atStart=>exact⟨0,[],Nat.zero_le _,rfl,rfl,Nat.le_refl _,(fun s hs=>by cases hs),World.ownsRow_nil _ _ _ _,HA.out⟩
 case round =>
  obtain⟨k,l,hk,rfl,HL,hlk,HS,hown,HB⟩:=hrel
  have hw0:w.heap.size≤wr.heap.size:=HB.out.size
  by_cases hlt:k<fs.length
  ·obtain⟨b,off,ab,cb,ar,cr,rfl,e0,e1,e2,e3,e4,e5,hBy,hRl,hg,hbl⟩:=(hf.later HB.out).cells k hlt
   have HL1:Hid (M.addGroup l (fs.getD k frg0)=(fs.take (k+1)).foldl M.addGroup []):=by
    rw[Hid,List.take_succ_eq_append_getElem hlt,List.foldl_append,←HL.out]
    simp only[List.foldl_cons,List.foldl_nil]
    rw[List.getD_eq_getElem?_getD,List.getElem?_eq_getElem hlt];rfl
   clear hBy hRl hbl HL HA
   obtain⟨ad,cc,rfl⟩:∃x y,u3=sv x l.length y:=by
    rcases hown.2 with ⟨h1,h2⟩|⟨g,cap,cur,h1,_⟩
    ·exact⟨none,0,by rw[h1,h2]⟩
    ·exact⟨_,_,h1⟩
   unfold M.addGroup at HL1
   generalize fs.getD k frg0=f at *
   obtain⟨s,al,g,bs,sz,rs⟩:=f
   simp only at e0 e1 e2 e3 e4 e5 hg HL1
   rw[←has_bare] at HL1
   have hbr:b<wr.heap.size:=wlt e0
   have hkl:(k:Int)<(fs.length:Int):=by omega
   generalize bs.length=n1 at *
   generalize rs.length=m1 at *
   go_upto_region 5 with fail
   have hbX:Below wr.heap.size wr (wr.alloc (.cells #[iv s,iv al,.string g,sv ab n1 cb,iv sz,sv ar m1 cr] 87)):=bra _ _
   have xf:=heap_alloc_new wr (.cells #[iv s,iv al,.string g,sv ab n1 cb,iv sz,sv ar m1 cr] 87)
   have hownX:=hown.alloc (.cells #[iv s,iv al,.string g,sv ab n1 cb,iv sz,sv ar m1 cr] 87)
   have HBX:Hid (Below w.heap.size w (wr.alloc (.cells #[iv s,iv al,.string g,sv ab n1 cb,iv sz,sv ar m1 cr] 87))):=HB.out.alloc hw0 _
   clear hown HB e0 e1 e2 e3 e4 e5 hbX
   generalize wr.alloc (.cells #[iv s,iv al,.string g,sv ab n1 cb,iv sz,sv ar m1 cr] 87)=X at *
   generalize wr.heap.size=nf at *
   have hlf:=lt1 xf
   have hwX:w.heap.size≤X.heap.size:=HBX.out.size
   have HSX:Hid (∀W,Below X.heap.size X W→W.cell? (qa nf 2)=some (.string g)):=fun W hW=>cellB ((hW.block _ hlf).trans xf) 2
   have hA0:Below X.heap.size X X.drew:=(Below.refl _ _).drew
   have hA1:Below X.heap.size X (X.drew.alloc (.cells #[.string ⟨#[]⟩] 9)):=hA0.alloc (Nat.le_refl _) _
   have ho1:(X.drew.alloc (.cells #[.string ⟨#[]⟩] 9)).ownsRow X.heap.size 9 1 (sv (some (qa X.heap.size 0)) 1 1) 1 [.string ⟨#[]⟩]:=⟨rfl,.inr ⟨_,_,_,rfl,Nat.le_refl _,heap_alloc_new X.drew _,Nat.le_refl _,by unfold maxLen;decide,rfl,rfl⟩⟩
   have hsrc:=row_src (hownX.kept (grown_of_below hA1 none) own_self)
   have HSl:Hid (∀x∈str0::l,x.size≤maxLen):=fun x hx=>by
    rcases List.mem_cons.1 hx with rfl|hx
    ·unfold maxLen;decide
    ·exact HS.out x hx
   have KC:Hid (∀W x y,StrsAt W (sv x (str0::l).length y) (str0::l)→Calls Tryz.prog 91 #[sv x (1+l.length) y,.string g] W fun e w'=>e=.returned (.bool (M.has (str0::l) g))∧w'=W):=fun W x y h=>by
    have:=containsS_any (str0::l) g x y W h
    rwa [List.length_cons,Nat.add_comm l.length 1] at this
   generalize M.has (str0::l) g=R at *
   go_cut [19] (fun s19 wx=>s19=.bool (!R)∧Below X.heap.size X wx)
   case first =>
    go_region_held3 (fun w'=>w'.cell? (qa nf 2)=some (.string g)) (first|exact HSX.out _ hA0|exact HSX.out _ hA1|exact HSX.out _ hX3) (first|(refine step_append_row (by rfl) _ _ _ (by rfl) X.heap.size 9 i0 (.string ⟨#[]⟩) 1 16 Tryz.underlying39 hi hz0 hz1 hz2 rfl (by decide) (sv (some (qa X.heap.size 0)) 1 1) 1 [.string ⟨#[]⟩] (by rfl) ho1 (sv ad l.length cc) l.length (l.map Value.string) (by rfl) hsrc (by simp) (strsR_one l) (by unfold maxLen;omega) (by omega) (by simp) ?_;intro v3 w3 ho3 hg3;obtain⟨x3,y3,rfl⟩:=own_len ho3;have hX3:Below X.heap.size X w3:=grown_fresh hA1 hg3 (Nat.le_refl _))|(go_at_call 91;refine(KC.out _ _ _ (row_strs (l:=str0::l) (by rw[List.length_cons,Nat.add_comm l.length 1];exact ho3) HSl.out)).mono ?_;rintro e w4 ⟨rfl,rfl⟩))
    all_goals
     go_wp2_with fail
     go_meet
     exact⟨rfl,hX3⟩
   case rest =>
    obtain⟨rfl,hXc⟩:=hcut
    have hownC:=hownX.kept (grown_of_below hXc none) own_self
    have HBC:Hid (Below w.heap.size w wc):=HBX.out.trans (hXc.mono HBX.out.size)
    have hwc:w.heap.size≤wc.heap.size:=HBC.out.size
    have kg:wc.cell? (qa nf 2)=some (.string g):=HSX.out _ hXc
    have hlc:nf<wc.heap.size:=wlt kg
    clear hXc hownX HBX HSX hA0 hA1 ho1 hsrc KC HSl xf
    cases R
    ·have HL2:Hid (l++[g]=(fs.take (k+1)).foldl M.addGroup []):=HL1.out
     clear HL1
     have hnews:∀j u,(#[.string g]:Array Value).toList[j]?=some u→(wc.alloc (.cells #[.string g] 9)).cell? ((qa wc.heap.size 0).add j)=some u:=World.news_of_block (heap_alloc_new wc _)
     have hrowA:=hownC.alloc (.cells #[.string g] 9)
     have HE:Hid (∀v' w3,(wc.alloc (.cells #[.string g] 9)).grownBy w3 (sv ad l.length cc).ownBlock→w3.ownsRow w.heap.size 9 1 v' (l.length+1) (l.map Value.string++(#[.string g]:Array Value).toList)→w3.ownsRow w.heap.size 9 1 v' (l++[g]).length ((l++[g]).map Value.string)∧Below w.heap.size w w3):=fun v' w3 hg3 ho3=>⟨by rw[List.length_append,List.map_append];exact ho3,(HBC.out.alloc hwc _).grown hg3 (by simp;omega) (fun k hk=>(hownC.lt k hk).1)⟩
     have HS2:Hid (∀x∈l++[g],x.size≤maxLen):=fun x hx=>by
      rcases List.mem_append.1 hx with h|h
      ·exact HS.out x h
      ·rw[List.mem_singleton.1 h];exact hg
     clear HBC hownC
     go_wp2_with (at_builtin;refine wpList_append_own _ rfl _ _ 39 rfl w.heap.size 9 i0 (.string ⟨#[]⟩) 1 16 Tryz.underlying39 hi hz0 hz1 hz2 rfl (by decide) _ _ _ rfl hrowA ⟨wc.heap.size,0,none⟩ 1 1 (#[.string g]:Array Value).toList rfl rfl hnews (fun u hu=>by simp at hu;subst hu;rfl) (by unfold maxLen;omega) (by omega) (by simp;omega) ?_;intro v' w3 hown' hgrow3 hnil3)
     have HE':=HE.out _ _ hgrow3 hown'
     go_roundw
     case rel=>exact⟨k+1,l++[g],by omega,by go_num,HL2,by simp;omega,HS2,HE'.1,HE'.2⟩
     case measure=>simp[intOf];omega
    ·have HL2:Hid (l=(fs.take (k+1)).foldl M.addGroup []):=HL1.out
     clear HL1
     go_wp2
     go_roundw
     case rel=>exact⟨k+1,l,by omega,by go_num,HL2,by omega,HS,hownC,HBC⟩
     case measure=>simp[intOf];omega
  ·have hkl:k=fs.length:=by omega
   have HL2:Hid (l=M.groups fs):=by rw[Hid,HL.out,hkl,List.take_length];rfl
   have HSt:Hid (StrsAt wr u3 l):=row_strs hown HS.out
   clear HL HS
   subst hkl
   obtain⟨ad,cc,he,_⟩:=HSt.out.1.form
   subst he
   go_wp2
   go_ret
   exact⟨HB.out,ad,cc,by rw[←HL2.out];rfl,by rw[←HL2.out];exact HSt.out⟩
theorem row_cellsD{w:World}{B:Nat}{v:Value}{ds:List M.Dfn}(h:w.ownsRow B 72 6 v ds.length (ds.flatMap encDfn))(k:Nat)(hk:k<ds.length) :
  ∃g cap,v=sv (some (qa g 0)) ds.length cap∧∀i,i<6→w.cell? (qa g (0+k*6+i))=some ((encDfn (ds.getD k dfn0)).getD i undef):=by
 have hs:=row_slice (k:=6) dfn0 encDfn (fun _=>rfl) ds h
 rcases h.2 with ⟨h1,h2⟩|⟨g,cap,cur,h1,_⟩
 ·omega
 ·rw[h1] at hs
  obtain⟨b,off,he,hc⟩:=hs.at k hk
  cases he
  exact⟨g,cap,h1,hc⟩
theorem joined_any(a b:M.Prt)(a1 a2 b1 b2:Option Addr)(c1 c2 d1 d2:Nat)(w:World)(hf:FragsAt w (sv a1 a.frags.length c1) a.frags)(hd:DefsAt w (sv a2 a.defs.length c2) a.defs)
  (hf':FragsAt w (sv b1 b.frags.length d1) b.frags) (hd':DefsAt w (sv b2 b.defs.length d2) b.defs) (hoa:M.Ok a) (hob:M.Ok b) :
  Calls Tryz.prog 29 #[.agg #[sv a1 a.frags.length c1,sv a2 a.defs.length c2],.agg #[sv b1 b.frags.length d1,sv b2 b.defs.length d2]] w fun e w' =>
   Below w.heap.size w w'∧∃es vF vD,e=.returned (.tuple #[.agg #[vF,vD],iv (M.join a b).2])∧PR w' w.heap.size es (M.join a b).1.defs vF vD∧es.map (·.f)=(M.join a b).1.frags:=by
 obtain⟨i2,hi2,hx0,hx1,hx2⟩:=info_parts (P:=Tryz.prog) (e:=87) (z:=.agg #[iv 0,iv 0,.string ⟨#[]⟩,sv none 0 0,iv 0,sv none 0 0]) (size:=6) (bytes:=88) (by kernel_rfl)
 obtain⟨i3,hi3,hu0,hu1,hu2⟩:=info_parts (P:=Tryz.prog) (e:=72) (z:=.agg #[.string ⟨#[]⟩,iv 0,iv 0,iv 0,iv 0,iv 0]) (size:=6) (bytes:=56) (by kernel_rfl)
 have hna:=hoa.nf
 have hda:=hoa.nd
 have HOb:Hid (M.Ok (M.drop b (M.groups a.frags))):=M.ok_drop hob _
 have hnc:=HOb.out.nf
 have hdc:=HOb.out.nd
 have HJn:Hid (M.join a b=bif M.full (M.plus a (M.shift a.frags.length (M.drop b (M.groups a.frags)))) then (M.nil,10) else (M.plus a (M.shift a.frags.length (M.drop b (M.groups a.frags))),0)):=by
  rw[Hid];unfold M.join
  rw[if_pos ((M.ok_iff a).2 hoa),if_pos ((M.ok_iff b).2 hob),M.both_shift a b hoa hob]
 go_enter Tryz.func29,Tryz.ntmps29
 go_upto_region 1 with fail
 have HY:Hid (∃Y,Y=(((w.alloc (.cells #[sv a1 a.frags.length c1,sv a2 a.defs.length c2] 43)).alloc (.cells #[sv b1 b.frags.length d1,sv b2 b.defs.length d2] 43)).alloc (.cells #[sv none 0 0,sv none 0 0] 43)) ∧
   JV w Y #[sv a1 a.frags.length c1,sv a2 a.defs.length c2] #[sv b1 b.frags.length d1,sv b2 b.defs.length d2]):=by
  refine⟨_,rfl,?_⟩
  have e2:(((w.alloc (.cells #[sv a1 a.frags.length c1,sv a2 a.defs.length c2] 43)).alloc (.cells #[sv b1 b.frags.length d1,sv b2 b.defs.length d2] 43)).alloc (.cells #[sv none 0 0,sv none 0 0] 43)).heap[w.heap.size+2]?=some (.cells #[sv none 0 0,sv none 0 0] 43 (0,0)):=by
   have:=heap_alloc_new ((w.alloc (.cells #[sv a1 a.frags.length c1,sv a2 a.defs.length c2] 43)).alloc (.cells #[sv b1 b.frags.length d1,sv b2 b.defs.length d2] 43)) (.cells #[sv none 0 0,sv none 0 0] 43)
   simpa using this
  exact⟨(heap_alloc_old _ _ (by simp;omega)).trans (heap_alloc2_old _ _ _),(heap_alloc_old _ _ (by simp)).trans (heap_alloc2_new _ _ _),e2,((bra _ _).alloc (by simp) _).alloc (by simp;omega) _⟩
 obtain⟨Y,hY,hJ⟩:=HY.out
 rw[←hY]
 clear hY HY
 have KO:Hid (Calls Tryz.prog 66 #[.agg #[sv a1 a.frags.length c1,sv a2 a.defs.length c2]] Y _):=ownPart_any a a1 a2 c1 c2 Y (hf.later hJ.below) (hd.later hJ.below) (room_ok hoa)
 have HJ:Hid (JV w Y #[sv a1 a.frags.length c1,sv a2 a.defs.length c2] #[sv b1 b.frags.length d1,sv b2 b.defs.length d2]):=hJ
 have cp0:Y.cell? (qa w.heap.size 0)=some (sv a1 a.frags.length c1):=cellB hJ.q0 0
 have cp1:Y.cell? (qa w.heap.size 1)=some (sv a2 a.defs.length c2):=cellB hJ.q0 1
 have HF:Hid (FragsAt w (sv a1 a.frags.length c1) a.frags):=hf
 have HF':Hid (FragsAt w (sv b1 b.frags.length d1) b.frags):=hf'
 have HD':Hid (DefsAt w (sv b2 b.defs.length d2) b.defs):=hd'
 have HB:Hid (M.Ok b):=hob
 clear hJ hf hd hf' hd' hoa hob
 go_upto_region 2 with (go_at_call 66;refine KO.out.mono ?_;rintro e W0 ⟨hb0,eA,vF,vD,rfl,hP0,heA,hap0⟩;obtain⟨xF,yF,rfl⟩:=own_len hP0.rowF;obtain⟨xD,yD,rfl⟩:=own_len hP0.rowD)
 have HEA:Hid (eA.map (·.f)=a.frags):=heA
 have hnA:eA.length=a.frags.length:=by rw[←heA,List.length_map]
 have HX:Hid (∃X,X=W0.alloc (.cells #[sv xF eA.length yF,sv xD a.defs.length yD] 43)∧JV w X #[sv a1 a.frags.length c1,sv a2 a.defs.length c2] #[sv b1 b.frags.length d1,sv b2 b.defs.length d2]∧J0 w X W0.heap.size eA a.defs (sv xF eA.length yF) (sv xD a.defs.length yD)):=by
  have hYs:=HJ.out.below.size
  have hA:Below W0.heap.size W0 (W0.alloc (.cells #[sv xF eA.length yF,sv xD a.defs.length yD] 43)):=bra _ _
  have hJ1:=(HJ.out.later hb0).later hA
  have hl2:=(Array.getElem?_eq_some_iff.1 (HJ.out.later hb0).q2).1
  exact⟨_,rfl,hJ1,hJ1.q2,heap_alloc_new _ _,hJ1.below,hl2,(hP0.base hYs).later hA,hap0⟩
 obtain⟨X,hXe,hJX,hJ0⟩:=HX.out
 rw[←hXe]
 clear hXe HX hb0 hP0 heA hap0 cp0 cp1 KO HJ
 generalize W0.heap.size=q6 at *
 have HJ:Hid (JV w X #[sv a1 a.frags.length c1,sv a2 a.defs.length c2] #[sv b1 b.frags.length d1,sv b2 b.defs.length d2]):=hJX
 have HJ0:Hid (J0 w X q6 eA a.defs (sv xF eA.length yF) (sv xD a.defs.length yD)):=hJ0
 have cp0:X.cell? (qa w.heap.size 0)=some (sv a1 a.frags.length c1):=cellB hJX.q0 0
 clear hJX hJ0
 go_upto_region 3 with fail
 have HS:Hid (∀W,Below X.heap.size X W→(W.cell? (qa w.heap.size 0)=some (sv a1 a.frags.length c1)∧W.cell? (qa w.heap.size 1)=some (sv a2 a.defs.length c2)∧W.cell? (qa (w.heap.size+1) 0)=some (sv b1 b.frags.length d1)∧W.cell? (qa (w.heap.size+1) 1)=some (sv b2 b.defs.length d2))):=fun W hW=>by
  have y:=HJ.out.later hW
  exact⟨cellB y.q0 0,cellB y.q0 1,cellB y.q1 0,cellB y.q1 1⟩
 have KG:Hid (∀W,Below X.heap.size X W→Calls Tryz.prog 68 #[.agg #[sv a1 a.frags.length c1,sv a2 a.defs.length c2]] W fun e w'=>Below W.heap.size W w'∧∃x y,e=.returned (sv x (M.groups a.frags).length y)∧StrsAt w' (sv x (M.groups a.frags).length y) (M.groups a.frags)):=fun W hW=>rgroups_any a.frags a1 a2 c1 c2 a.defs.length W (HF.out.later (HJ.out.later hW).below) hna
 have KD:Hid (∀x y W,StrsAt W (sv x (M.groups a.frags).length y) (M.groups a.frags)→Below X.heap.size X W→Calls Tryz.prog 67 #[.agg #[sv b1 b.frags.length d1,sv b2 b.defs.length d2],sv x (M.groups a.frags).length y] W fun e w' =>
   Below W.heap.size W w'∧∃es vF vD,e=.returned (.agg #[vF,vD])∧PR w' W.heap.size es (M.drop b (M.groups a.frags)).defs vF vD∧es.map (·.f)=(M.drop b (M.groups a.frags)).frags∧es.Pairwise Apart):=fun x y W hs hW=>dropped_any b (M.groups a.frags) b1 b2 x d1 d2 y W (HF'.out.later (HJ.out.later hW).below) (HD'.out.later (HJ.out.later hW).below) hs HB.out
 have hA0:Below X.heap.size X X.drew:=(Below.refl _ _).drew
 have hA1:Below X.heap.size X (X.drew.alloc (.cells #[sv none 0 0,sv none 0 0] 43)):=hA0.alloc (Nat.le_refl _) _
 have HnA:Hid (eA.length=a.frags.length):=hnA
 clear cp0 HF HF' HD' HB hnA
 generalize M.groups a.frags=gr at *
 generalize M.drop b gr=db at *
 generalize gr.length=ng at *
 go_cut [8] (fun s8 wx=>∃q8 eC cF cD,s8=qv q8 0∧Hid (JFr w wx q6 q8 eC eA eC a.defs db.defs (sv xF eA.length yF) (sv xD a.defs.length yD) cF cD)∧Hid (eC.map (·.f)=db.frags))
 case first =>
  go_region_held3 (fun w'=>w'.cell? (qa w.heap.size 0)=some (sv a1 a.frags.length c1)∧w'.cell? (qa w.heap.size 1)=some (sv a2 a.defs.length c2)∧w'.cell? (qa (w.heap.size+1) 0)=some (sv b1 b.frags.length d1)∧w'.cell? (qa (w.heap.size+1) 1)=some (sv b2 b.defs.length d2)) (first|exact HS.out _ hA0|exact HS.out _ hA1|exact HS.out _ hX2|exact HS.out _ hX1|exact HS.out _ (hX1.alloc hX1.size _)|exact HS.out _ (hX2.alloc hX2.size _)|exact HS.out _ (Below.setCell (Below.setCell hX2 (by first|exact Nat.le_refl _|exact hX1.size) _) (by first|exact Nat.le_refl _|exact hX1.size) _)) (first|(go_at_call 68;refine(KG.out _ (by first|exact hA0|exact hA1)).mono ?_;rintro e w1 ⟨hb1,x,y,rfl,hSt⟩;have hX1:Below X.heap.size X w1:=(by first|exact hA0.trans (hb1.mono hA0.size)|exact hA1.trans (hb1.mono hA1.size));try (have hq1:w1.heap[X.heap.size]?=some (.cells #[sv none 0 0,sv none 0 0] 43 (0,0)):=(hb1.block _ (by simp)).trans (heap_alloc_new X.drew _)))|(go_at_call 67;refine(KD.out _ _ _ (by first|exact hSt|exact hSt.later (bra _ _)) (by first|exact hX1|exact hX1.alloc hX1.size _)).mono ?_;rintro e w2 ⟨hb2,eC,cF,cD,rfl,hP2,hes,hap⟩;have hX2:Below X.heap.size X w2:=(by first|exact hX1.trans (hb2.mono hX1.size)|exact(hX1.alloc hX1.size _).trans (hb2.mono (hX1.alloc hX1.size _).size));obtain⟨aV,nV,cV,rfl⟩:=own_form hP2.rowF;obtain⟨aW,nW,cW,rfl⟩:=own_form hP2.rowD;first|(have hcc:Below w1.heap.size w1 w2:=hb2;first|(have hq2:w2.heap[X.heap.size]?=some (.cells #[sv none 0 0,sv none 0 0] 43 (0,0)):=blk hb2 hq1;have k0:=cellC hq2 0 rfl;have k1:=cellC hq2 1 rfl;have f0:=frozenB hq2 0;have f1:=frozenB hq2 1)|skip)|(have hq2:w2.heap[w1.heap.size]?=some (.cells #[sv none 0 0,sv none 0 0] 43 (0,0)):=(hb2.block _ (by simp)).trans (heap_alloc_new w1 _);have k0:=cellC hq2 0 rfl;have k1:=cellC hq2 1 rfl;have f0:=frozenB hq2 0;have f1:=frozenB hq2 1)))
  all_goals
   have hz1:=hX1.size
   have hz2:=hX2.size
   go_wp2_with fail
   go_meet
   first
    | exact⟨_,eC,_,_,rfl,j_new HJ0.out hX2 hP2 (by first|exact hz1|(simp;omega)) hap,hes⟩
    | exact⟨_,eC,_,_,rfl,j_set HJ0.out hX2 hq2 (by first|exact Nat.le_refl _|exact hz1) hP2 (by first|exact hz1|(simp;omega)) hap,hes⟩
 case rest =>
  obtain⟨q8,eC,cF,cD,rfl,HJF,HEC⟩:=hcut
  have HFitC:Hid (∀f∈db.frags,∀r∈f.rels,M.bare r.name=true→-1≤r.frag∧r.frag<db.frags.length):=fun f hf' r hr hb=>HOb.out.fits f hf' r hr hb
  have HLenC:Hid (∀f∈db.frags,f.rels.length≤8):=fun f hf'=>(len_ok f (HOb.out.shape f hf')).2
  have HStC:Hid (∀d∈db.defs,(d.kind==3)=false→0≤d.frag∧d.frag<db.frags.length):=fun d hd' hk=>by
   obtain⟨f,h1,h2,_⟩:=HOb.out.stands d hd' hk
   have:=(List.getElem?_eq_some_iff.1 h2).1
   omega
  have HNc:Hid (eC.length=db.frags.length):=by rw[Hid,←HEC.out,List.length_map]
  have hle60:eC.length≤60:=by rw[HNc.out];exact hnc
  have hleA:eA.length≤60:=by rw[HnA.out];exact hna
  clear HS KG KD hA0 hA1 HJ HJ0 HOb
  obtain⟨xC,yC,rfl⟩:=own_len HJF.out.src
  obtain⟨xE,yE,rfl⟩:=own_len HJF.out.srcD
  have k80:wc.cell? (qa q8 0)=some (sv xC eC.length yC):=cellB HJF.out.vars.b8 0
  have HJ1:Hid (JFr w wc q6 q8 eC eA (eC.drop 0) a.defs db.defs (sv xF eA.length yF) (sv xD a.defs.length yD) (sv xC eC.length yC) (sv xE db.defs.length yE)):=HJF.out
  clear HJF
  generalize hn:(a.frags.length:Int)=n at *
  have Hn:Hid ((a.frags.length:Int)=n):=hn
  have hn60:0≤n∧n≤60:=by omega
  clear hn
  go_upto_region 5 with fail
  clear k80
  go_loopw [27] (fun s27 wr=>∃(k:Nat) (es:List Ent) (vF:Value),k≤eC.length∧s27=iv k∧Hid (es.map (·.f)=a.frags++(eC.take k).map (fun e=>M.shiftFrg n e.f))∧es.length≤60+k∧Hid (JFr w wr q6 q8 eC es (eC.drop k) a.defs db.defs vF (sv xD a.defs.length yD) (sv xC eC.length yC) (sv xE db.defs.length yE))) (fun s27 _=>eC.length-(intOf s27).toNat)
  case atStart=>exact⟨0,eA,_,Nat.zero_le _,rfl,by rw[Hid,HEA.out];simp,by omega,HJ1.out⟩
  case round =>
   obtain⟨k,es,vF,hk,rfl,HE,hek,HD⟩:=hrel
   clear HJ1
   by_cases hlt:k<eC.length
   ·have hdrop:=drop_getD eC ent0 k hlt
    have hmem:(eC.getD k ent0).f∈db.frags:=by
     rw[←HEC.out];exact List.mem_map.2 ⟨_,getD_mem _ _ _ hlt,rfl⟩
    have HD1:Hid (JFr w wr q6 q8 eC es (eC.getD k ent0::eC.drop (k+1)) a.defs db.defs vF (sv xD a.defs.length yD) (sv xC eC.length yC) (sv xE db.defs.length yE)):=by rw[Hid,←hdrop];exact HD.out
    obtain⟨g0,y0,hgv,hcl⟩:=row_cells6 HD.out.src k hlt
    cases hgv
    have HE1:Hid (a.frags++(eC.take (k+1)).map (fun e=>M.shiftFrg n e.f)=es.map (·.f)++[M.shiftFrg n (eC.getD k ent0).f]):=by
     rw[Hid,map_take_succ _ ent0 _ _ hlt,HE.out,List.append_assoc]
    have HFt:Hid (∀r∈(eC.getD k ent0).f.rels,M.bare r.name=true→-1≤r.frag∧r.frag<db.frags.length):=HFitC.out _ hmem
    have h8:(eC.getD k ent0).f.rels.length≤8:=HLenC.out _ hmem
    clear hdrop HE HD hmem
    have e0:=hcl 0 (by decide)
    have e1:=hcl 1 (by decide)
    have e2:=hcl 2 (by decide)
    have e3:=hcl 3 (by decide)
    have e4:=hcl 4 (by decide)
    have e5:=hcl 5 (by decide)
    clear hcl
    generalize hrest:eC.drop (k+1)=rest at *
    have HRest:Hid (eC.drop (k+1)=rest):=hrest
    clear hrest
    generalize eC.getD k ent0=en at *
    obtain⟨⟨s,al,g,bs,sz,rs⟩,bv,rv⟩:=en
    simp only[entCells,List.getD_cons_zero,List.getD_cons_succ,Nat.zero_add,Nat.add_zero] at e0 e1 e2 e3 e4 e5
    obtain⟨hby,hrl,_⟩:=HD1.out.come _ (List.mem_cons_self ..)
    obtain⟨xb,yb,rfl⟩:∃x y,bv=sv x bs.length y:=own_len hby
    obtain⟨xr,yr,rfl⟩:∃x y,rv=sv x rs.length y:=own_len hrl
    clear hby hrl
    have hkl:(k:Int)<(eC.length:Int):=by omega
    have hg0:g0<wr.heap.size:=wlt e0
    have hw0:w.heap.size≤wr.heap.size:=HD1.out.vars.below.size
    go_upto_region 7 with fail
    have hbX:Below wr.heap.size wr (wr.alloc (.cells #[iv s,iv al,.string g,sv xb bs.length yb,iv sz,sv xr rs.length yr] 87)):=bra _ _
    have fb:=heap_alloc_new wr (.cells #[iv s,iv al,.string g,sv xb bs.length yb,iv sz,sv xr rs.length yr] 87)
    have HX:Hid _:=HD1.out.later hbX
    clear HD1 e0 e1 e2 e3 e4 e5 hbX
    generalize wr.alloc (.cells #[iv s,iv al,.string g,sv xb bs.length yb,iv sz,sv xr rs.length yr] 87)=X1 at *
    generalize wr.heap.size=nf at *
    have fc5:=cellC fb 5 rfl
    go_upto_region 8 with fail
    clear fc5
    go_loopw [34] (fun s34 wi=>∃(j:Nat),j≤rs.length∧s34=iv j∧Hid (JFr w wi q6 q8 eC es (shE n ⟨⟨s,al,g,bs,sz,rs⟩,sv xb bs.length yb,sv xr rs.length yr⟩ j::rest) a.defs db.defs vF (sv xD a.defs.length yD) (sv (some (qa g0 0)) eC.length yC) (sv xE db.defs.length yE))∧wi.heap[nf]?=some (.cells #[iv s,iv al,.string g,sv xb bs.length yb,iv sz,sv xr rs.length yr] 87 (0,0))) (fun s34 _=>rs.length-(intOf s34).toNat)
    case atStart=>exact⟨0,Nat.zero_le _,rfl,by rw[sh_zero];exact HX.out,fb⟩
    case round =>
     obtain⟨j,hj,rfl,HI,fbi⟩:=hrel
     clear HX fb
     have hnfi:=lt1 fbi
     by_cases hjt:j<rs.length
     ·have hrow:=(HI.out.come _ (List.mem_cons_self ..)).2.1
      have hcl:=sh_len n ⟨⟨s,al,g,bs,sz,rs⟩,sv xb bs.length yb,sv xr rs.length yr⟩ j hj
      obtain⟨g1,y1,hgv,hcc,hfz,cs1,hcs1⟩:=row_cells5 hrow rfl j (by rw[hcl];exact hjt)
      have hcg:=sh_get n ⟨⟨s,al,g,bs,sz,rs⟩,sv xb bs.length yb,sv xr rs.length yr⟩ j hjt
      rw[hcg] at hcc
      rw[hcl] at hgv
      cases hgv
      have hFr:=HFt.out _ (getD_mem rs rel0 j hjt)
      have HN:Hid ((M.bare (rs.getD j rel0).name&&!((rs.getD j rel0).frag==-1))=false→shE n ⟨⟨s,al,g,bs,sz,rs⟩,sv xb bs.length yb,sv (some (qa g1 0)) rs.length yr⟩ (j+1)=shE n ⟨⟨s,al,g,bs,sz,rs⟩,sv xb bs.length yb,sv (some (qa g1 0)) rs.length yr⟩ j):=sh_same n ⟨⟨s,al,g,bs,sz,rs⟩,sv xb bs.length yb,sv (some (qa g1 0)) rs.length yr⟩ j hjt
      have HBr:Hid ((M.bare (rs.getD j rel0).name&&!((rs.getD j rel0).frag==-1))=true→setFrag (shE n ⟨⟨s,al,g,bs,sz,rs⟩,sv xb bs.length yb,sv (some (qa g1 0)) rs.length yr⟩ j) j ((rs.getD j rel0).frag+n)=shE n ⟨⟨s,al,g,bs,sz,rs⟩,sv xb bs.length yb,sv (some (qa g1 0)) rs.length yr⟩ (j+1)):=sh_set n ⟨⟨s,al,g,bs,sz,rs⟩,sv xb bs.length yb,sv (some (qa g1 0)) rs.length yr⟩ j hjt
      have r0:=hcc 0 (by decide)
      have r1:=hcc 1 (by decide)
      have r2:=hcc 2 (by decide)
      have r3:=hcc 3 (by decide)
      have r4:=hcc 4 (by decide)
      clear hcc hcg hcl hrow
      generalize rs.getD j rel0=rr at *
      obtain⟨pos,kd,nm,fr,ad⟩:=rr
      simp only[encRel,List.getD_cons_zero,List.getD_cons_succ,Nat.zero_add,Nat.add_zero] at r0 r1 r2 r3 r4 hFr HN HBr
      have hjl:(j:Int)<(rs.length:Int):=by omega
      have hj0:(0:Int)≤(j:Int):=by omega
      have hg1:g1<wr.heap.size:=wlt r0
      have hw1:w.heap.size≤wr.heap.size:=HI.out.vars.below.size
      have HEx:Hid (∀o,JFr w (wr.alloc o) q6 q8 eC es (shE n ⟨⟨s,al,g,bs,sz,rs⟩,sv xb bs.length yb,sv (some (qa g1 0)) rs.length yr⟩ j::rest) a.defs db.defs vF (sv xD a.defs.length yD) (sv (some (qa g0 0)) eC.length yC) (sv xE db.defs.length yE)∧(wr.alloc o).heap[nf]?=some (.cells #[iv s,iv al,.string g,sv xb bs.length yb,iv sz,sv (some (qa g1 0)) rs.length yr] 87 (0,0))):=fun o=>⟨HI.out.later (bra _ o),(heap_alloc_old _ _ hnfi).trans fbi⟩
      cases hb:M.bare nm
      ·have hb':nm.toList.isEmpty=false:=hb
       have HN2:Hid _:=HN.out (by rw[hb];rfl)
       clear hb HBr HN fbi hcs1 hfz hFr
       go_wp2
       go_roundw
       case rel=>exact⟨j+1,by omega,by go_num,by rw[HN2.out];exact(HEx.out _).1,(HEx.out _).2⟩
       case measure=>simp[intOf];omega
      ·have hb':nm.toList.isEmpty=true:=hb
       cases hfr:(fr==-1)
       ·have hfn:(fr !=-1)=true:=by simp[bne,hfr]
        have hfr':=hFr hb
        have hfne:fr≠-1:=by simpa using hfr
        have HB2:Hid _:=HBr.out (by rw[hb,hfr];rfl)
        clear hb HBr HN hFr hfr
        go_upto_region 11 with fail
        have hbA:Below wr.heap.size wr (wr.alloc (.cells #[iv pos,iv kd,.string nm,iv fr,iv ad] 89)):=bra _ _
        have nb:=heap_alloc_new wr (.cells #[iv pos,iv kd,.string nm,iv fr,iv ad] 89)
        have HX2:Hid _:=HI.out.later hbA
        have fb2:=(hbA.block _ hnfi).trans fbi
        have gc2:=(hbA.block _ hg1).trans hcs1
        have hrl2:=cell_later hbA r3
        clear r0 r1 r2 r3 r4 fbi HI hcs1 hfz HEx
        have hgn:g1≠wr.heap.size:=by omega
        generalize wr.alloc (.cells #[iv pos,iv kd,.string nm,iv fr,iv ad] 89)=X2 at *
        generalize wr.heap.size=nr at *
        have hgf:g1≠nf:=fun e=>by
         rw[e,fb2] at gc2
         cases gc2
        have hlg:=lt1 gc2
        have z5:=cellC fb2 5 rfl
        have z3:=cellC nb 3 rfl
        have hfz2:X2.frozen? (qa g1 (j*5+3))=false:=frozenB gc2 _
        have hwr:IntKind.wrap .i64 (fr+n)=fr+n:=by unfold IntKind.wrap;simp[IntKind.signed,IntKind.bits];omega
        have HI3:=HX2.out.setRel (g:=g1) (cap:=yr) (k:=j) (by rw[sh_len n ⟨⟨s,al,g,bs,sz,rs⟩,sv xb bs.length yb,sv (some (qa g1 0)) rs.length yr⟩ j hj];rfl) (by rw[sh_len n ⟨⟨s,al,g,bs,sz,rs⟩,sv xb bs.length yb,sv (some (qa g1 0)) rs.length yr⟩ j hj];exact hjt) (fr+n)
        have HI4:Hid _:=HI3
        have Hfb3:Hid _:=(Below.heap_setCell X2 ⟨g1,j*5+3,none⟩ (iv (fr+n)) nf (fun e=>hgf e.symm)).trans fb2
        clear HI3 gc2 nb HX2 fb2
        go_wp2
        go_roundw
        case rel=>exact⟨j+1,by omega,by go_num,by rw[←HB2.out];exact HI4.out,Hfb3.out⟩
        case measure=>simp[intOf];omega
       ·have hfn:(fr !=-1)=false:=by simp[bne,hfr]
        have HN2:Hid _:=HN.out (by rw[hb,hfr];rfl)
        clear hb HBr HN fbi hcs1 hfz hFr hfr
        go_wp2
        go_roundw
        case rel=>exact⟨j+1,by omega,by go_num,by rw[HN2.out];exact(HEx.out _).1,(HEx.out _).2⟩
        case measure=>simp[intOf];omega
     ·have hjl:j=rs.length:=by omega
      subst hjl
      obtain⟨aV,cV,rfl⟩:=own_len HI.out.pr.rowF
      have o0:wr.cell? (qa q6 0)=some (sv aV es.length cV):=cellB HI.out.vars.b6 0
      have hl6:=lt1 HI.out.vars.b6
      have q0:=cellC fbi 0 rfl
      have q1:=cellC fbi 1 rfl
      have q2:=cellC fbi 2 rfl
      have q3:=cellC fbi 3 rfl
      have q4:=cellC fbi 4 rfl
      have q5:=cellC fbi 5 rfl
      have hAl:Below wr.heap.size wr (wr.alloc (.cells #[iv s,iv al,.string g,sv xb bs.length yb,iv sz,sv xr rs.length yr] 87)):=bra _ _
      have hA:=HI.out.later hAl
      have hrowA:=hA.pr.rowF
      have htop:w.heap.size≤(wr.alloc (.cells #[iv s,iv al,.string g,sv xb bs.length yb,iv sz,sv xr rs.length yr] 87)).heap.size:=hA.vars.below.size
      have hnews:∀j u,(#[iv s,iv al,.string g,sv xb bs.length yb,iv sz,sv xr rs.length yr]:Array Value).toList[j]?=some u→(wr.alloc (.cells #[iv s,iv al,.string g,sv xb bs.length yb,iv sz,sv xr rs.length yr] 87)).cell? ((qa wr.heap.size 0).add j)=some u:=World.news_of_block (heap_alloc_new wr _)
      have HEnd:Hid (∀v' w5,(wr.alloc (.cells #[iv s,iv al,.string g,sv xb bs.length yb,iv sz,sv xr rs.length yr] 87)).grownBy w5 (sv aV es.length cV).ownBlock→w5.ownsRow w.heap.size 87 6 v' (es.length+1) (es.flatMap entCells++(#[iv s,iv al,.string g,sv xb bs.length yb,iv sz,sv xr rs.length yr]:Array Value).toList)→(v'.ownBlock=(sv aV es.length cV).ownBlock∨v'.ownBlock=some (wr.alloc (.cells #[iv s,iv al,.string g,sv xb bs.length yb,iv sz,sv xr rs.length yr] 87)).heap.size)→JFr w (w5.setCell (qa q6 0) v') q6 q8 eC (es++[shE n ⟨⟨s,al,g,bs,sz,rs⟩,sv xb bs.length yb,sv xr rs.length yr⟩ rs.length]) rest a.defs db.defs v' (sv xD a.defs.length yD) (sv (some (qa g0 0)) eC.length yC) (sv xE db.defs.length yE)):=fun v' w5 hg5 ho5 hat=>hA.add hg5 ho5 hat
      have HQ4:Hid (∀w5,(wr.alloc (.cells #[iv s,iv al,.string g,sv xb bs.length yb,iv sz,sv xr rs.length yr] 87)).grownBy w5 (sv aV es.length cV).ownBlock→w5.heap[q6]?=some (.cells #[sv aV es.length cV,sv xD a.defs.length yD] 43 (0,0))):=fun w5 hg5=>block_kept hA.pr.rowF hg5 hA.vars.b6 (by decide)
      have HF2:Hid ((shE n ⟨⟨s,al,g,bs,sz,rs⟩,sv xb bs.length yb,sv xr rs.length yr⟩ rs.length).f=M.shiftFrg n ⟨s,al,g,bs,sz,rs⟩):=sh_all n ⟨⟨s,al,g,bs,sz,rs⟩,sv xb bs.length yb,sv xr rs.length yr⟩
      clear HI hA hAl fbi
      go_wp2_with (at_builtin;refine wpList_append_own_at _ rfl _ _ 40 rfl w.heap.size 87 i2 (.agg #[iv 0,iv 0,.string ⟨#[]⟩,sv none 0 0,iv 0,sv none 0 0]) 6 88 Tryz.underlying40 hi2 hx0 hx1 hx2 rfl (by decide) _ _ _ rfl hrowA ⟨wr.heap.size,0,none⟩ 1 1 (#[iv s,iv al,.string g,sv xb bs.length yb,iv sz,sv xr rs.length yr]:Array Value).toList rfl rfl hnews (fun u hu=>by simp at hu;rcases hu with rfl|rfl|rfl|rfl|rfl|rfl<;>rfl) (by unfold maxLen;omega) (by omega) htop ?_;intro v5 w5 ho5 hg5 hn5 hat5;obtain⟨a5,c5,rfl⟩:=own_len ho5;have hq5:=HQ4.out w5 hg5;have HAt5:Hid _:=hat5;clear hat5;have m0:=cellC hq5 0 rfl;have mz0:w5.frozen? (qa q6 0)=false:=frozenB hq5 0)
      have HFin:=HEnd.out _ _ hg5 ho5 HAt5.out
      go_roundw
      case rel=>exact⟨k+1,es++[shE n ⟨⟨s,al,g,bs,sz,rs⟩,sv xb bs.length yb,sv xr rs.length yr⟩ rs.length],_,by omega,by go_num,by rw[Hid,List.map_append,HE1.out];show _++[(shE n ⟨⟨s,al,g,bs,sz,rs⟩,sv xb bs.length yb,sv xr rs.length yr⟩ rs.length).f]=_;rw[HF2.out],by rw[List.length_append];simp;omega,by rw[HRest.out];exact HFin⟩
      case measure=>simp[intOf];omega
   ·have hkl:k=eC.length:=by omega
    have HFr:Hid (es.map (·.f)=(M.plus a (M.shift n db)).frags):=by
     rw[Hid,HE.out,hkl,List.take_length]
     show _=a.frags++db.frags.map (M.shiftFrg n)
     rw[←HEC.out,List.map_map];rfl
    have HV0:Hid (JFr w wr q6 q8 eC es [] a.defs db.defs vF (sv xD a.defs.length yD) (sv xC eC.length yC) (sv xE db.defs.length yE)):=by
     have h:=HD.out
     rw[hkl,List.drop_length] at h
     exact h
    have hel:es.length≤120:=by omega
    have k81:wr.cell? (qa q8 1)=some (sv xE db.defs.length yE):=cellB HV0.out.vars.b8 1
    clear HE HD hek
    subst hkl
    obtain⟨aF,cF,rfl⟩:=own_len HV0.out.pr.rowF
    go_upto_region 16 with fail
    clear k81
    go_loopw [67] (fun s67 wr=>∃(k:Nat) (gs:List M.Dfn) (vD:Value),k≤db.defs.length∧s67=iv k∧Hid (gs=a.defs++(db.defs.take k).map (M.shiftDfn n))∧gs.length≤60+k∧Hid (JFr w wr q6 q8 eC es [] gs db.defs (sv aF es.length cF) vD (sv xC eC.length yC) (sv xE db.defs.length yE))) (fun s67 _=>db.defs.length-(intOf s67).toNat)
    case atStart=>exact⟨0,a.defs,_,Nat.zero_le _,rfl,by simp[Hid],by omega,HV0.out⟩
    case round =>
     obtain⟨k,gs,vD,hk,rfl,HM,hgk,HP⟩:=hrel
     clear HV0
     obtain⟨aV,cV,rfl⟩:=own_len HP.out.pr.rowD
     by_cases hlt:k<db.defs.length
     ·obtain⟨g0,y0,hgv,hcl⟩:=row_cellsD HP.out.srcD k hlt
      cases hgv
      have HM1:Hid (a.defs++(db.defs.take (k+1)).map (M.shiftDfn n)=gs++[M.shiftDfn n (db.defs.getD k dfn0)]):=by
       rw[Hid,map_take_succ _ dfn0 _ _ hlt,HM.out,List.append_assoc]
      have hst:=HStC.out _ (getD_mem db.defs dfn0 k hlt)
      have hnm:=HP.out.smallC _ (getD_mem db.defs dfn0 k hlt)
      have e0:=hcl 0 (by decide)
      have e1:=hcl 1 (by decide)
      have e2:=hcl 2 (by decide)
      have e3:=hcl 3 (by decide)
      have e4:=hcl 4 (by decide)
      have e5:=hcl 5 (by decide)
      clear hcl HM
      generalize db.defs.getD k dfn0=d at *
      obtain⟨nm,kd,fg,pos,sz,al⟩:=d
      simp only[encDfn,List.getD_cons_zero,List.getD_cons_succ,Nat.zero_add,Nat.add_zero] at e0 e1 e2 e3 e4 e5 hnm hst
      have hkl:(k:Int)<(db.defs.length:Int):=by omega
      have hbr:g0<wr.heap.size:=wlt e0
      have hwd:w.heap.size≤wr.heap.size:=HP.out.vars.below.size
      have hbA:Below wr.heap.size wr (wr.alloc (.cells #[.string nm,iv kd,iv fg,iv pos,iv sz,iv al] 72)):=bra _ _
      have nb:=heap_alloc_new wr (.cells #[.string nm,iv kd,iv fg,iv pos,iv sz,iv al] 72)
      have HX:Hid _:=HP.out.later hbA
      have HL1:Hid (∀g,(sv aV gs.length cV).ownBlock=some g→g<wr.heap.size):=fun g hg=>(HP.out.pr.rowD.lt g hg).2
      have HL2:Hid (∀g,(sv (some (qa g0 0)) db.defs.length yE).ownBlock=some g→g<wr.heap.size):=fun g hg=>(HP.out.srcD.lt g hg).2
      have HNb:Hid _:=nb
      clear HP hbA nb
      cases hk3:(kd==3)
      ·have hkn:(kd !=3)=true:=by simp[bne,hk3]
       obtain⟨hf0,hf1⟩:=hst hk3
       have hmv:M.shiftDfn n ⟨nm,kd,fg,pos,sz,al⟩=⟨nm,kd,fg+n,pos,sz,al⟩:=by unfold M.shiftDfn;rw[hk3];rfl
       rw[hmv] at HM1
       have hwr:IntKind.wrap .i64 (fg+n)=fg+n:=by unfold IntKind.wrap;simp[IntKind.signed,IntKind.bits];omega
       clear hmv hst hk3
       go_upto_region 19 with fail
       clear e0 e1 e2 e3 e4 e5
       have HNb':Hid (∃Z,Z=wr.alloc (.cells #[.string nm,iv kd,iv fg,iv pos,iv sz,iv al] 72)):=⟨_,rfl⟩
       generalize wr.alloc (.cells #[.string nm,iv kd,iv fg,iv pos,iv sz,iv al] 72)=X2 at *
       clear HNb'
       generalize wr.heap.size=nd at *
       have y2:X2.cell? (qa nd 2)=some (iv fg):=cellB HNb.out 2
       have yz2:X2.frozen? (qa nd 2)=false:=frozenB HNb.out 2
       go_upto_region 20 with fail
       have HZ:Hid (JFr w (X2.setCell (qa nd 2) (iv (fg+n))) q6 q8 eC es [] gs db.defs (sv aF es.length cF) (sv aV gs.length cV) (sv xC eC.length yC) (sv (some (qa g0 0)) db.defs.length yE)):=HX.out.set_def HNb.out hwd HL1.out HL2.out
       have nbZ:(X2.setCell (qa nd 2) (iv (fg+n))).heap[nd]?=some (.cells #[.string nm,iv kd,iv (fg+n),iv pos,iv sz,iv al] 72 (0,0)):=setB' HNb.out _
       clear HX HNb y2 yz2
       generalize X2.setCell (qa nd 2) (iv (fg+n))=Z at *
       generalize fg+n=fx at *
       have hldZ:=lt1 nbZ
       have z0:=cellC nbZ 0 rfl
       have z1:=cellC nbZ 1 rfl
       have z2:=cellC nbZ 2 rfl
       have z3:=cellC nbZ 3 rfl
       have z4:=cellC nbZ 4 rfl
       have z5:=cellC nbZ 5 rfl
       clear nbZ
       have hAl:Below Z.heap.size Z (Z.alloc (.cells #[.string nm,iv kd,iv fx,iv pos,iv sz,iv al] 72)):=bra _ _
       have hrowA:=(HZ.out.later hAl).pr.rowD
       have hnews:∀j u,(#[.string nm,iv kd,iv fx,iv pos,iv sz,iv al]:Array Value).toList[j]?=some u→(Z.alloc (.cells #[.string nm,iv kd,iv fx,iv pos,iv sz,iv al] 72)).cell? ((qa Z.heap.size 0).add j)=some u:=World.news_of_block (heap_alloc_new Z _)
       have HEnd:Hid (∀v' w5,(Z.alloc (.cells #[.string nm,iv kd,iv fx,iv pos,iv sz,iv al] 72)).grownBy w5 (sv aV gs.length cV).ownBlock→w5.ownsRow w.heap.size 72 6 v' (gs.length+1) (gs.flatMap encDfn++(#[.string nm,iv kd,iv fx,iv pos,iv sz,iv al]:Array Value).toList)→(v'.ownBlock=(sv aV gs.length cV).ownBlock∨v'.ownBlock=some (Z.alloc (.cells #[.string nm,iv kd,iv fx,iv pos,iv sz,iv al] 72)).heap.size)→JFr w (w5.setCell (qa q6 1) v') q6 q8 eC es [] (gs++[⟨nm,kd,fx,pos,sz,al⟩]) db.defs (sv aF es.length cF) v' (sv xC eC.length yC) (sv (some (qa g0 0)) db.defs.length yE)):=fun v' w5 hg5 ho5 hat=>(HZ.out.later hAl).addD (d:=⟨nm,kd,fx,pos,sz,al⟩) hg5 ho5 hat hnm
       have HQ4:Hid (∀w5,(Z.alloc (.cells #[.string nm,iv kd,iv fx,iv pos,iv sz,iv al] 72)).grownBy w5 (sv aV gs.length cV).ownBlock→w5.heap[q6]?=some (.cells #[sv aF es.length cF,sv aV gs.length cV] 43 (0,0))):=fun w5 hg5=>block_kept (HZ.out.later hAl).pr.rowD hg5 (HZ.out.later hAl).vars.b6 (by decide)
       have o1:Z.cell? (qa q6 1)=some (sv aV gs.length cV):=cellB HZ.out.vars.b6 1
       have hl6:=lt1 HZ.out.vars.b6
       have hwW:w.heap.size≤Z.heap.size:=HZ.out.vars.below.size
       clear hAl HZ
       go_wp2_with (at_builtin;refine wpList_append_own_at _ rfl _ _ 41 rfl w.heap.size 72 i3 (.agg #[.string ⟨#[]⟩,iv 0,iv 0,iv 0,iv 0,iv 0]) 6 56 Tryz.underlying41 hi3 hu0 hu1 hu2 rfl (by decide) _ _ _ rfl hrowA ⟨Z.heap.size,0,none⟩ 1 1 (#[.string nm,iv kd,iv fx,iv pos,iv sz,iv al]:Array Value).toList rfl rfl hnews (fun u hu=>by simp at hu;rcases hu with rfl|rfl|rfl|rfl|rfl|rfl<;>rfl) (by unfold maxLen;omega) (by omega) (by simp;omega) ?_;intro v5 w5 ho5 hg5 hn5 hat5;obtain⟨a5,c5,rfl⟩:=own_len ho5;have hq5:=HQ4.out w5 hg5;have HAt5:Hid _:=hat5;clear hat5;have m1:=cellC hq5 1 rfl;have mz1:w5.frozen? (qa q6 1)=false:=frozenB hq5 1)
       have HFin:Hid _:=HEnd.out _ _ hg5 ho5 HAt5.out
       go_roundw
       case rel=>exact⟨k+1,gs++[⟨nm,kd,fx,pos,sz,al⟩],_,by omega,by go_num,by rw[Hid,HM1.out],by rw[List.length_append];simp;omega,HFin⟩
       case measure=>simp[intOf];omega
      ·have hkn:(kd !=3)=false:=by simp[bne,hk3]
       have hmv:M.shiftDfn n ⟨nm,kd,fg,pos,sz,al⟩=⟨nm,kd,fg,pos,sz,al⟩:=by unfold M.shiftDfn;rw[hk3];rfl
       rw[hmv] at HM1
       clear hmv hst hk3
       go_upto_region 20 with fail
       clear e0 e1 e2 e3 e4 e5
       have nbZ:=HNb.out
       clear HNb
       have HZ:Hid (JFr w (wr.alloc (.cells #[.string nm,iv kd,iv fg,iv pos,iv sz,iv al] 72)) q6 q8 eC es [] gs db.defs (sv aF es.length cF) (sv aV gs.length cV) (sv xC eC.length yC) (sv (some (qa g0 0)) db.defs.length yE)):=HX.out
       clear HX
       generalize wr.alloc (.cells #[.string nm,iv kd,iv fg,iv pos,iv sz,iv al] 72)=Z at *
       generalize wr.heap.size=nd at *
       generalize hfx:fg=fx at *
       clear hfx
       have hldZ:=lt1 nbZ
       have z0:=cellC nbZ 0 rfl
       have z1:=cellC nbZ 1 rfl
       have z2:=cellC nbZ 2 rfl
       have z3:=cellC nbZ 3 rfl
       have z4:=cellC nbZ 4 rfl
       have z5:=cellC nbZ 5 rfl
       clear nbZ
       have hAl:Below Z.heap.size Z (Z.alloc (.cells #[.string nm,iv kd,iv fx,iv pos,iv sz,iv al] 72)):=bra _ _
       have hrowA:=(HZ.out.later hAl).pr.rowD
       have hnews:∀j u,(#[.string nm,iv kd,iv fx,iv pos,iv sz,iv al]:Array Value).toList[j]?=some u→(Z.alloc (.cells #[.string nm,iv kd,iv fx,iv pos,iv sz,iv al] 72)).cell? ((qa Z.heap.size 0).add j)=some u:=World.news_of_block (heap_alloc_new Z _)
       have HEnd:Hid (∀v' w5,(Z.alloc (.cells #[.string nm,iv kd,iv fx,iv pos,iv sz,iv al] 72)).grownBy w5 (sv aV gs.length cV).ownBlock→w5.ownsRow w.heap.size 72 6 v' (gs.length+1) (gs.flatMap encDfn++(#[.string nm,iv kd,iv fx,iv pos,iv sz,iv al]:Array Value).toList)→(v'.ownBlock=(sv aV gs.length cV).ownBlock∨v'.ownBlock=some (Z.alloc (.cells #[.string nm,iv kd,iv fx,iv pos,iv sz,iv al] 72)).heap.size)→JFr w (w5.setCell (qa q6 1) v') q6 q8 eC es [] (gs++[⟨nm,kd,fx,pos,sz,al⟩]) db.defs (sv aF es.length cF) v' (sv xC eC.length yC) (sv (some (qa g0 0)) db.defs.length yE)):=fun v' w5 hg5 ho5 hat=>(HZ.out.later hAl).addD (d:=⟨nm,kd,fx,pos,sz,al⟩) hg5 ho5 hat hnm
       have HQ4:Hid (∀w5,(Z.alloc (.cells #[.string nm,iv kd,iv fx,iv pos,iv sz,iv al] 72)).grownBy w5 (sv aV gs.length cV).ownBlock→w5.heap[q6]?=some (.cells #[sv aF es.length cF,sv aV gs.length cV] 43 (0,0))):=fun w5 hg5=>block_kept (HZ.out.later hAl).pr.rowD hg5 (HZ.out.later hAl).vars.b6 (by decide)
       have o1:Z.cell? (qa q6 1)=some (sv aV gs.length cV):=cellB HZ.out.vars.b6 1
       have hl6:=lt1 HZ.out.vars.b6
       have hwW:w.heap.size≤Z.heap.size:=HZ.out.vars.below.size
       clear hAl HZ
       go_wp2_with (at_builtin;refine wpList_append_own_at _ rfl _ _ 41 rfl w.heap.size 72 i3 (.agg #[.string ⟨#[]⟩,iv 0,iv 0,iv 0,iv 0,iv 0]) 6 56 Tryz.underlying41 hi3 hu0 hu1 hu2 rfl (by decide) _ _ _ rfl hrowA ⟨Z.heap.size,0,none⟩ 1 1 (#[.string nm,iv kd,iv fx,iv pos,iv sz,iv al]:Array Value).toList rfl rfl hnews (fun u hu=>by simp at hu;rcases hu with rfl|rfl|rfl|rfl|rfl|rfl<;>rfl) (by unfold maxLen;omega) (by omega) (by simp;omega) ?_;intro v5 w5 ho5 hg5 hn5 hat5;obtain⟨a5,c5,rfl⟩:=own_len ho5;have hq5:=HQ4.out w5 hg5;have HAt5:Hid _:=hat5;clear hat5;have m1:=cellC hq5 1 rfl;have mz1:w5.frozen? (qa q6 1)=false:=frozenB hq5 1)
       have HFin:Hid _:=HEnd.out _ _ hg5 ho5 HAt5.out
       go_roundw
       case rel=>exact⟨k+1,gs++[⟨nm,kd,fx,pos,sz,al⟩],_,by omega,by go_num,by rw[Hid,HM1.out],by rw[List.length_append];simp;omega,HFin⟩
       case measure=>simp[intOf];omega
     ·have hkl:k=db.defs.length:=by omega
      subst hkl
      have HDf:Hid (gs=(M.plus a (M.shift n db)).defs):=by
       rw[Hid,HM.out,List.take_length];rfl
      have k60:wr.cell? (qa q6 0)=some (sv aF es.length cF):=cellB HP.out.vars.b6 0
      have k61:wr.cell? (qa q6 1)=some (sv aV gs.length cV):=cellB HP.out.vars.b6 1
      have hb2:=HP.out.vars.b2
      have r0:=cellC hb2 0 rfl
      have r1:=cellC hb2 1 rfl
      have rz0:=frozenB hb2 0
      have rz1:=frozenB hb2 1
      have hl2:=lt1 hb2
      have hlo6:=HP.out.vars.lo6
      have HBl:Hid (∀u v,Below w.heap.size w ((wr.setCell (qa (w.heap.size+1+1) 0) u).setCell (qa (w.heap.size+1+1) 1) v)):=fun u v=>(HP.out.vars.below.setCell (by show w.heap.size≤w.heap.size+1+1;omega) _).setCell (by show w.heap.size≤w.heap.size+1+1;omega) _
      have HPr:Hid (∀u v,PR ((wr.setCell (qa (w.heap.size+1+1) 0) u).setCell (qa (w.heap.size+1+1) 1) v) w.heap.size es gs (sv aF es.length cF) (sv aV gs.length cV)):=fun u v=>(HP.out.pr.set hb2).set (setB' hb2 u)
      have HFl:Hid (M.full (M.plus a (M.shift n db))=(decide (60<es.length) || decide (60<gs.length))):=by
       rw[Hid];unfold M.full
       rw[←HFr.out,←HDf.out,List.length_map]
      have HJn2:Hid (M.join a b=bif (decide (60<es.length) || decide (60<gs.length)) then (M.nil,10) else (M.plus a (M.shift n db),0)):=by rw[Hid,←HFl.out];exact HJn.out
      clear HP hb2 HFl HJn HM
      by_cases hc:60<es.length
      ·have h1:decide (60<(es.length:Int))=true:=by simp;omega
       have HJ3:Hid (M.join a b=(M.nil,10)):=by rw[Hid,HJn2.out];simp[hc]
       clear HJn2 hc
       go_wp2
       refine bodyPost_ret (v:=.tuple #[.agg #[sv none 0 0,sv none 0 0],iv 10]) (by simp[results,Tryz.results29,go_sem,r0,r1]) rfl ?_
       exact⟨HBl.out _ _,[],_,_,by rw[HJ3.out],by rw[HJ3.out];exact PR.nil _ _,by rw[HJ3.out];rfl⟩
      ·have h1:decide (60<(es.length:Int))=false:=by simp;omega
       by_cases hc2:60<gs.length
       ·have h2:decide (60<(gs.length:Int))=true:=by simp;omega
        have HJ3:Hid (M.join a b=(M.nil,10)):=by rw[Hid,HJn2.out];simp[hc2]
        clear HJn2 hc hc2
        go_wp2
        refine bodyPost_ret (v:=.tuple #[.agg #[sv none 0 0,sv none 0 0],iv 10]) (by simp[results,Tryz.results29,go_sem,r0,r1]) rfl ?_
        exact⟨HBl.out _ _,[],_,_,by rw[HJ3.out],by rw[HJ3.out];exact PR.nil _ _,by rw[HJ3.out];rfl⟩
       ·have h2:decide (60<(gs.length:Int))=false:=by simp;omega
        have HJ3:Hid (M.join a b=(M.plus a (M.shift n db),0)):=by rw[Hid,HJn2.out];simp[hc,hc2]
        clear HJn2 hc hc2
        go_wp2
        refine bodyPost_ret (v:=.tuple #[.agg #[sv aF es.length cF,sv aV gs.length cV],iv 0]) (by simp[results,Tryz.results29,go_sem,r0,r1]) rfl ?_
        exact⟨HBl.out _ _,es,_,_,by rw[HJ3.out],by rw[HJ3.out,←HDf.out];exact HPr.out _ _,by rw[HJ3.out];exact HFr.out⟩
end Go.Proofs.YtpkfmfhodbjckaaGreatDoor
namespace Go.Proofs.YtpkfmfhodbjckaaGreatDoor
open Go.RowKit
theorem joinedAll_any(ps:List M.Prt)(a:Option Addr)(c:Nat)(w:World)(h:PartsAt w (sv a ps.length c) ps)(h96:ps.length≤96)(hoks:∀p∈ps,M.Ok p) :
  Calls Tryz.prog 11 #[sv a ps.length c] w fun e w' =>
   Below w.heap.size w w'∧∃es vF vD,e=.returned (.tuple #[.agg #[vF,vD],iv (M.allFrom M.nil ps).2])∧PR w' w.heap.size es (M.allFrom M.nil ps).1.defs vF vD∧es.map (·.f)=(M.allFrom M.nil ps).1.frags:=by
 have HOs:Hid (∀p∈ps,M.Ok p):=hoks
 clear hoks
 go_enter Tryz.func11,Tryz.ntmps11
 go_wp2_with fail
 go_loopw [11] (fun s15 wr=>∃(k:Nat) (p:M.Prt) (es:List Ent) (vF vD:Value),k≤ps.length∧s15=iv k∧wr.heap[w.heap.size]?=some (.cells #[sv none 0 0,sv none 0 0] 43 (0,0))∧wr.heap[w.heap.size+1]?=some (.cells #[vF,vD] 43 (0,0))∧PR wr (w.heap.size+2) es p.defs vF vD∧Hid (es.map (·.f)=p.frags)∧Hid (M.allFrom M.nil ps=M.allFrom p (ps.drop k))∧Hid (Below w.heap.size w wr)∧Hid (M.Ok p)) (fun s15 _=>ps.length-(intOf s15).toNat)
 case atStart=>exact⟨0,M.nil,[],_,_,Nat.zero_le _,rfl,heap_alloc2_old _ _ _,heap_alloc2_new _ _ _,PR.nil _ _,rfl,rfl,(bra _ _).alloc (by simp) _,M.ok_nil⟩
 case round =>
  obtain⟨k,p,es,vF,vD,hk,rfl,q0,q1,hPR,HEs,HR,HB,HOp⟩:=hrel
  have hF:FragsAt wr vF p.frags:=by rw[←HEs.out];exact hPR.fragsAt
  have hD:=hPR.defsAt
  obtain⟨x1,y1,rfl⟩:=hF.form
  obtain⟨x2,y2,rfl⟩:=hD.form
  have hl0:=lt1 q0
  have hl1:=lt1 q1
  have hw0:w.heap.size≤wr.heap.size:=by omega
  have c10:=cellC q1 0 rfl
  have c11:=cellC q1 1 rfl
  by_cases hlt:k<ps.length
  ·obtain⟨cell,hs,hc⟩:=h.later HB.out
   obtain⟨b,off,rfl,hce⟩:=hs.at k hlt
   obtain⟨hF',hD'⟩:=hc k hlt
   have e0:=hce 0 (by decide)
   have e1:=hce 1 (by decide)
   rw[Nat.add_zero] at e0
   obtain⟨x3,y3,hx3⟩:=hF'.form
   obtain⟨x4,y4,hx4⟩:=hD'.form
   rw[hx3] at e0 hF'
   rw[hx4] at e1 hD'
   have hbr:b<wr.heap.size:=wlt e0
   have hkl:(k:Int)<(ps.length:Int):=by omega
   have HR1:=HR.out
   rw[drop_getD ps M.nil k hlt] at HR1
   clear HR hs hc hce hx3 hx4 h
   have HOq:Hid (M.Ok (ps.getD k M.nil)):=HOs.out _ (by rw[List.getD_eq_getElem?_getD,List.getElem?_eq_getElem hlt];exact List.getElem_mem hlt)
   generalize ps.getD k M.nil=q at *
   have HA:Hid (Below wr.heap.size wr (wr.alloc (.cells #[sv x3 q.frags.length y3,sv x4 q.defs.length y4] 43))):=bra _ _
   have KJ:Hid (∀W,Below wr.heap.size wr W→Calls Tryz.prog 29 #[.agg #[sv x1 p.frags.length y1,sv x2 p.defs.length y2],.agg #[sv x3 q.frags.length y3,sv x4 q.defs.length y4]] W fun e w' =>
     Below W.heap.size W w'∧∃es vF vD,e=.returned (.tuple #[.agg #[vF,vD],iv (M.join p q).2])∧PR w' W.heap.size es (M.join p q).1.defs vF vD∧es.map (·.f)=(M.join p q).1.frags):=fun W hW=>joined_any p q _ _ _ _ _ _ _ _ W (hF.later hW) (hD.later hW) (hF'.later hW) (hD'.later hW) HOp.out HOq.out
   clear hF hD hF' hD' hPR HEs
   simp only[M.allFrom] at HR1
   have HOj:Hid ((M.join p q).2=0→M.Ok (M.join p q).1):=fun hz=>(M.join_ok hz).2.2.2.2
   generalize M.join p q=jn at *
   obtain⟨jp,je⟩:=jn
   simp only at KJ HR1 HOj
   go_upto_region 6 with (go_at_call 29;refine(KJ.out _ HA.out).mono ?_;rintro e x4 ⟨hx4,es5,vF5,vD5,rfl,hP4,hes5⟩;obtain⟨z1,z2,rfl⟩:=own_len hP4.rowF;obtain⟨z3,z4,rfl⟩:=own_len hP4.rowD)
   have hA6:=bra x4 (.cells #[sv z1 es5.length z2,sv z3 jp.defs.length z4] 43)
   have hq7:=heap_alloc_new x4 (.cells #[sv z1 es5.length z2,sv z3 jp.defs.length z4] 43)
   have hP5:=hP4.later hA6
   have hx5:=hx4.trans (hA6.mono hx4.size)
   clear hP4 hx4 hA6
   generalize x4.heap.size=b7 at *
   generalize x4.alloc (.cells #[sv z1 es5.length z2,sv z3 jp.defs.length z4] 43)=x5 at *
   have g70:=cellC hq7 0 rfl
   have g71:=cellC hq7 1 rfl
   have g7l:=lt1 hq7
   clear hq7
   have HX5:Hid (Below wr.heap.size wr x5):=HA.out.trans (hx5.mono HA.out.size)
   have y0:=(HX5.out.block _ hl0).trans q0
   have y1':=(HX5.out.block _ hl1).trans q1
   have hx5s:=lt1 y1'
   have hx50:w.heap.size<x5.heap.size:=by omega
   clear q0 q1 c10 c11 hx5 KJ HA e0 e1
   have HB5:Hid (Below w.heap.size w x5):=HB.out.trans (HX5.out.mono hw0)
   clear HX5 HB
   have f10:=frozenB y1' 0
   have f11:=frozenB y1' 1
   have d10:=cellC y1' 0 rfl
   have d11:=cellC y1' 1 rfl
   have f00:=frozenB y0 0
   have f01:=frozenB y0 1
   have d00:=cellC y0 0 rfl
   have d01:=cellC y0 1 rfl
   by_cases hje:je=0
   ·subst hje
    have HOj':Hid (M.Ok jp):=HOj.out rfl
    clear HOj
    rw[if_pos rfl] at HR1
    have HR2:Hid (M.allFrom M.nil ps=M.allFrom jp (ps.drop (k+1))):=HR1
    clear HR1
    have a0:Above wr.heap.size.succ x5 (x5.setCell (qa (w.heap.size+1) 0) (sv z1 es5.length z2)):=above_set _ _ _ _ _ (by omega)
    have a1:Above wr.heap.size.succ (x5.setCell (qa (w.heap.size+1) 0) (sv z1 es5.length z2)) ((x5.setCell (qa (w.heap.size+1) 0) (sv z1 es5.length z2)).setCell (qa (w.heap.size+1) 1) (sv z3 jp.defs.length z4)):=above_set _ _ _ _ _ (by omega)
    have hP6:=((show PR x5 wr.heap.size.succ es5 jp.defs _ _ by simpa using hP5).above a0).above a1
    have u0:(x5.setCell (qa (w.heap.size+1) 0) (sv z1 es5.length z2)).heap[w.heap.size+1]?=some (.cells #[sv z1 es5.length z2,sv x2 p.defs.length y2] 43 (0,0)):=setB' y1' _
    have u1:((x5.setCell (qa (w.heap.size+1) 0) (sv z1 es5.length z2)).setCell (qa (w.heap.size+1) 1) (sv z3 jp.defs.length z4)).heap[w.heap.size+1]?=some (.cells #[sv z1 es5.length z2,sv z3 jp.defs.length z4] 43 (0,0)):=setB' u0 _
    have u2:((x5.setCell (qa (w.heap.size+1) 0) (sv z1 es5.length z2)).setCell (qa (w.heap.size+1) 1) (sv z3 jp.defs.length z4)).heap[w.heap.size]?=some (.cells #[sv none 0 0,sv none 0 0] 43 (0,0)):=(Below.heap_setCell _ _ _ _ (by show w.heap.size≠w.heap.size+1;omega)).trans ((Below.heap_setCell _ _ _ _ (by show w.heap.size≠w.heap.size+1;omega)).trans y0)
    have HB6:Below w.heap.size w ((x5.setCell (qa (w.heap.size+1) 0) (sv z1 es5.length z2)).setCell (qa (w.heap.size+1) 1) (sv z3 jp.defs.length z4)):=(HB5.out.setCell (by show w.heap.size≤w.heap.size+1;omega) _).setCell (by show w.heap.size≤w.heap.size+1;omega) _
    have HEnd:Hid (((x5.setCell (qa (w.heap.size+1) 0) (sv z1 es5.length z2)).setCell (qa (w.heap.size+1) 1) (sv z3 jp.defs.length z4)).heap[w.heap.size]?=some (.cells #[sv none 0 0,sv none 0 0] 43 (0,0))∧((x5.setCell (qa (w.heap.size+1) 0) (sv z1 es5.length z2)).setCell (qa (w.heap.size+1) 1) (sv z3 jp.defs.length z4)).heap[w.heap.size+1]?=some (.cells #[sv z1 es5.length z2,sv z3 jp.defs.length z4] 43 (0,0))∧PR ((x5.setCell (qa (w.heap.size+1) 0) (sv z1 es5.length z2)).setCell (qa (w.heap.size+1) 1) (sv z3 jp.defs.length z4)) (w.heap.size+2) es5 jp.defs (sv z1 es5.length z2) (sv z3 jp.defs.length z4)∧Below w.heap.size w ((x5.setCell (qa (w.heap.size+1) 0) (sv z1 es5.length z2)).setCell (qa (w.heap.size+1) 1) (sv z3 jp.defs.length z4))):=⟨u2,u1,hP6.base (by omega),HB6⟩
    clear a0 a1 hP6 u0 u1 u2 HB6 hP5
    go_wp2_with fail
    go_roundw
    case rel=>exact⟨k+1,jp,es5,_,_,by omega,by go_num,HEnd.out.1,HEnd.out.2.1,HEnd.out.2.2.1,hes5,HR2,HEnd.out.2.2.2,HOj'⟩
    case measure=>simp[intOf];omega
   ·rw[if_neg hje] at HR1
    have HR2:Hid (M.allFrom M.nil ps=(M.nil,je)):=HR1
    have hne:(je !=0)=true:=by simpa using hje
    clear HR1 hje
    have HB6:Hid (Below w.heap.size w ((x5.setCell (qa w.heap.size 0) (sv none 0 0)).setCell (qa w.heap.size 1) (sv none 0 0))):=(HB5.out.setCell (Nat.le_refl _) _).setCell (Nat.le_refl _) _
    go_wp2
    refine bodyPost_ret (v:=.tuple #[.agg #[sv none 0 0,sv none 0 0],iv je]) (by simp[results,Tryz.results11,go_sem,d00,d01]) rfl ?_
    exact⟨HB6.out,[],_,_,by rw[HR2.out],by rw[HR2.out];exact PR.nil _ _,by rw[HR2.out];rfl⟩
  ·have hkl:k=ps.length:=by omega
   have HR2:Hid (M.allFrom M.nil ps=(p,0)):=by rw[Hid,HR.out,List.drop_eq_nil_of_le (by omega)];rfl
   clear HR h
   subst hkl
   have d00:=cellC q0 0 rfl
   have d01:=cellC q0 1 rfl
   have f00:=frozenB q0 0
   have f01:=frozenB q0 1
   have u0:(wr.setCell (qa w.heap.size 0) (sv x1 p.frags.length y1)).heap[w.heap.size]?=some (.cells #[sv x1 p.frags.length y1,sv none 0 0] 43 (0,0)):=setB' q0 _
   have HP:Hid (PR ((wr.setCell (qa w.heap.size 0) (sv x1 p.frags.length y1)).setCell (qa w.heap.size 1) (sv x2 p.defs.length y2)) w.heap.size es p.defs (sv x1 p.frags.length y1) (sv x2 p.defs.length y2)):=((hPR.base (by omega)).set q0).set u0
   have HBe:Hid (Below w.heap.size w ((wr.setCell (qa w.heap.size 0) (sv x1 p.frags.length y1)).setCell (qa w.heap.size 1) (sv x2 p.defs.length y2))):=(HB.out.setCell (Nat.le_refl _) _).setCell (Nat.le_refl _) _
   clear u0 hF hD hPR
   go_wp2
   refine bodyPost_ret (v:=.tuple #[.agg #[sv x1 p.frags.length y1,sv x2 p.defs.length y2],iv 0]) (by simp[results,Tryz.results11,go_sem,d00,d01]) rfl ?_
   exact⟨HBe.out,es,_,_,by rw[HR2.out],by rw[HR2.out];exact HP.out,by rw[HR2.out];exact HEs.out⟩
end Go.Proofs.YtpkfmfhodbjckaaGreatDoor
