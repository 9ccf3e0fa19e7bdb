/-
  The contract of part.moved. The contract of part.Join. The contracts of part.Groups and part.All. Variables that hold parts. Variables that hold parts; Join as a walk meets it. Parts of one's own in a row of one's own.
-/
import Derived.Test.YtpkfmfhodbjckaaGreatDoorTopA
import Derived.Deep.RegionHeld3
set_option linter.unusedVariables false
set_option maxHeartbeats 8000000
set_option maxRecDepth 100000
namespace Go.Proofs.YtpkfmfhodbjckaaGreatDoor
open Go.RowKit
structure Movable (fs:List M.Frg) (ds:List M.Dfn):Prop where
 nf:fs.length≤60
 nd:ds.length≤60
 bytes:∀f∈fs,f.bytes.length≤64
 nrels:∀f∈fs,f.rels.length≤8
 rels:∀f∈fs,∀r∈f.rels,M.bare r.name=true→-1≤r.frag∧r.frag<60
 defs:∀d∈ds,(d.kind==3)=false→0≤d.frag∧d.frag<60
structure MPart (w wr:World) (fs:List M.Frg) (ds:List M.Dfn) (C:Array Value) (aF aD:Option Addr) (cF cD:Nat) (es:List Ent) (gs:List M.Dfn) (vF vD:Value):Prop where
 q0:wr.heap[w.heap.size]?=some (.cells #[sv aF fs.length cF,sv aD ds.length cD] 43 (0,0))
 q1:wr.heap[w.heap.size+1]?=some (.cells C 110 (0,0))
 q2:wr.heap[w.heap.size+2]?=some (.cells #[sv none 0 0,sv none 0 0] 43 (0,0))
 q3:wr.heap[w.heap.size+3]?=some (.cells #[vF,vD] 43 (0,0))
 pr:PR wr w.heap.size es gs vF vD
 below:Below w.heap.size w wr
theorem mpart_later{w wr X:World}{fs:List M.Frg}{ds:List M.Dfn}{C:Array Value}{aF aD:Option Addr}{cF cD:Nat}{es:List Ent}{gs:List M.Dfn}{vF vD:Value}(h:MPart w wr fs ds C aF aD cF cD es gs vF vD)(hb:Below wr.heap.size wr X):MPart w X fs ds C aF aD cF cD es gs vF vD :=
 ⟨(hb.block _ (lt1 h.q0)).trans h.q0,(hb.block _ (lt1 h.q1)).trans h.q1,(hb.block _ (lt1 h.q2)).trans h.q2,(hb.block _ (lt1 h.q3)).trans h.q3,h.pr.later hb,h.below.trans (hb.mono h.below.size)⟩
theorem mpart_addF{w X w5:World}{fs:List M.Frg}{ds:List M.Dfn}{C:Array Value}{aF aD:Option Addr}{cF cD:Nat}{es:List Ent}{gs:List M.Dfn}{vF vD v':Value}{e:Ent}(h:MPart w X fs ds C aF aD cF cD es gs vF vD)
  (hg:X.grownBy w5 vF.ownBlock) (hrow:w5.ownsRow w.heap.size 87 6 v' (es.length+1) (es.flatMap entCells++entCells e))
  (hby:X.ownsRow w.heap.size 5 1 e.bv e.f.bytes.length (e.f.bytes.map (Value.int .u8))) (hrl:X.ownsRow w.heap.size 89 5 e.rv e.f.rels.length (e.f.rels.flatMap encRel))
  (hsm:(∀b∈e.f.bytes,0≤b∧b<256)∧e.f.group.size≤maxLen∧∀r∈e.f.rels,r.name.size≤maxLen∧(Lit.int .i64 r.kind).wf=true) :
  MPart w (w5.setCell (qa (w.heap.size+3) 0) v') fs ds C aF aD cF cD (es++[e]) gs v' vD:=by
 have z0:=block_kept h.pr.rowF hg h.q0 (by decide)
 have z1:=block_kept h.pr.rowF hg h.q1 (by decide)
 have z2:=block_kept h.pr.rowF hg h.q2 (by decide)
 have z3:=block_kept h.pr.rowF hg h.q3 (by decide)
 have hp:PR w5 w.heap.size (es++[e]) gs v' vD:=h.pr.growF hg (by simpa using hrow) (fun x hx=>by rw[List.mem_singleton.1 hx];exact hby) (fun x hx=>by rw[List.mem_singleton.1 hx];exact hrl) (fun x hx=>by rw[List.mem_singleton.1 hx];exact hsm)
 refine⟨(Below.heap_setCell _ _ _ _ (by show w.heap.size≠w.heap.size+3;omega)).trans z0,(Below.heap_setCell _ _ _ _ (by show w.heap.size+1≠w.heap.size+3;omega)).trans z1,(Below.heap_setCell _ _ _ _ (by show w.heap.size+2≠w.heap.size+3;omega)).trans z2,setB' z3 v',hp.set z3,?_⟩
 exact(h.below.grown hg h.below.size (fun k hk=>(h.pr.rowF.lt k hk).1)).setCell (by show w.heap.size≤w.heap.size+3;omega) _
theorem mpart_addD{w X w5:World}{fs:List M.Frg}{ds:List M.Dfn}{C:Array Value}{aF aD:Option Addr}{cF cD:Nat}{es:List Ent}{gs:List M.Dfn}{vF vD v':Value}{d:M.Dfn}(h:MPart w X fs ds C aF aD cF cD es gs vF vD)
  (hg:X.grownBy w5 vD.ownBlock) (hrow:w5.ownsRow w.heap.size 72 6 v' (gs.length+1) (gs.flatMap encDfn++encDfn d)) (hsm:d.name.size≤maxLen) :
  MPart w (w5.setCell (qa (w.heap.size+3) 1) v') fs ds C aF aD cF cD es (gs++[d]) vF v':=by
 have z0:=block_kept h.pr.rowD hg h.q0 (by decide)
 have z1:=block_kept h.pr.rowD hg h.q1 (by decide)
 have z2:=block_kept h.pr.rowD hg h.q2 (by decide)
 have z3:=block_kept h.pr.rowD hg h.q3 (by decide)
 have hp:PR w5 w.heap.size es (gs++[d]) vF v':=h.pr.growD hg (by simpa using hrow) (fun x hx=>by rw[List.mem_singleton.1 hx];exact hsm)
 refine⟨(Below.heap_setCell _ _ _ _ (by show w.heap.size≠w.heap.size+3;omega)).trans z0,(Below.heap_setCell _ _ _ _ (by show w.heap.size+1≠w.heap.size+3;omega)).trans z1,(Below.heap_setCell _ _ _ _ (by show w.heap.size+2≠w.heap.size+3;omega)).trans z2,setB' z3 v',hp.set z3,?_⟩
 exact(h.below.grown hg h.below.size (fun k hk=>(h.pr.rowD.lt k hk).1)).setCell (by show w.heap.size≤w.heap.size+3;omega) _
theorem defs_take(ns:List Int)(ds:List M.Dfn)(k:Nat)(hk:k<ds.length) :
  M.movedDefs ns (ds.take (k+1))=M.movedDefs ns (ds.take k)++(bif (M.movedDfn ns (ds.getD k dfn0)).frag==-1 then [] else [M.movedDfn ns (ds.getD k dfn0)]):=by
 unfold M.movedDefs
 rw[List.take_succ_eq_append_getElem hk,List.map_append,List.filter_append]
 congr 1
 rw[List.getD_eq_getElem?_getD,List.getElem?_eq_getElem hk]
 simp only[Option.getD_some,List.map_cons,List.map_nil,List.filter_cons,List.filter_nil]
 cases ((M.movedDfn ns ds[k]).frag==-1)<;>rfl
theorem frags_take(ns:List Int)(fs:List M.Frg)(k:Nat)(hk:k<fs.length)(hn:k<ns.length) :
  (((fs.zip ns).take (k+1)).filter fun x=>!(x.2==-1)).map (fun x=>M.movedFrg ns x.1)=(((fs.zip ns).take k).filter fun x=>!(x.2==-1)).map (fun x=>M.movedFrg ns x.1)++(bif ns.getD k 0==-1 then [] else [M.movedFrg ns (fs.getD k frg0)]):=by
 have hz:k<(fs.zip ns).length:=by rw[List.length_zip];omega
 rw[List.take_succ_eq_append_getElem hz,List.filter_append,List.map_append]
 congr 1
 rw[List.getElem_zip,List.getD_eq_getElem?_getD,List.getElem?_eq_getElem hn,List.getD_eq_getElem?_getD,List.getElem?_eq_getElem hk]
 simp only[Option.getD_some,List.filter_cons,List.filter_nil]
 cases (ns[k]==-1)<;>rfl
theorem load_row60{P:Program}(w:World)(g:Nat)(c:Array Value)(n:Nat)(hn:c.size=n)(t:TypeId)(h:w.heap[g]?=some (.cells c t (0,0))) :
  (loadCellsFrom ⟨g,0,none⟩ 0 n #[]).run P w=.ok c w:=by
 have:=run_loadCells_list (P:=P) w ⟨g,0,none⟩ c.toList (fun j v hv=>by
  have hadd:(qa g 0).add j=⟨g,j,none⟩:=by unfold Addr.add;split<;>simp_all
  rw[hadd,cellB h]
  simpa using hv)
 rw[Array.length_toList,hn] at this
 simpa [loadCells] using this
theorem moved_any(fs:List M.Frg)(ds:List M.Dfn)(ns:List Int)(C:Array Value)(aF aD:Option Addr)(cF cD:Nat)(w:World)(hC:Nums C ns)(hns:ns.length=fs.length)
  (hf:FragsAt w (sv aF fs.length cF) fs) (hd:DefsAt w (sv aD ds.length cD) ds) (hm:Movable fs ds) :
  Calls Tryz.prog 51 #[.agg #[sv aF fs.length cF,sv aD ds.length cD],.agg C] w fun e w' =>
   Below w.heap.size w w'∧∃es vF vD,e=.returned (.agg #[vF,vD])∧PR w' w.heap.size es (M.movedDefs ns ds) vF vD∧es.map (·.f)=M.movedFrags ns fs:=by
 obtain⟨i0,hi0,hz0,hz1,hz2⟩:=info_parts (P:=Tryz.prog) (e:=87) (z:=.agg #[iv 0,iv 0,.string ⟨#[]⟩,sv none 0 0,iv 0,sv none 0 0]) (size:=6) (bytes:=88) (by kernel_rfl)
 obtain⟨i1,hi1,hy0,hy1,hy2⟩:=info_parts (P:=Tryz.prog) (e:=72) (z:=.agg #[.string ⟨#[]⟩,iv 0,iv 0,iv 0,iv 0,iv 0]) (size:=6) (bytes:=56) (by kernel_rfl)
 go_enter Tryz.func51,Tryz.ntmps51
 go_wp2_with fail
 have HY:Hid (MPart w ((((w.alloc (.cells #[sv aF fs.length cF,sv aD ds.length cD] 43)).alloc (.cells C 110)).alloc (.cells #[sv none 0 0,sv none 0 0] 43)).alloc (.cells #[sv none 0 0,sv none 0 0] 43)) fs ds C aF aD cF cD [] [] (sv none 0 0) (sv none 0 0)):=by
  have e3:((((w.alloc (.cells #[sv aF fs.length cF,sv aD ds.length cD] 43)).alloc (.cells C 110)).alloc (.cells #[sv none 0 0,sv none 0 0] 43)).alloc (.cells #[sv none 0 0,sv none 0 0] 43)).heap[w.heap.size+3]?=some (.cells #[sv none 0 0,sv none 0 0] 43 (0,0)):=by
   have:=heap_alloc_new (((w.alloc (.cells #[sv aF fs.length cF,sv aD ds.length cD] 43)).alloc (.cells C 110)).alloc (.cells #[sv none 0 0,sv none 0 0] 43)) (.cells #[sv none 0 0,sv none 0 0] 43)
   simpa using this
  have e2:(((w.alloc (.cells #[sv aF fs.length cF,sv aD ds.length cD] 43)).alloc (.cells C 110)).alloc (.cells #[sv none 0 0,sv none 0 0] 43)).heap[w.heap.size+2]?=some (.cells #[sv none 0 0,sv none 0 0] 43 (0,0)):=by
   have:=heap_alloc_new ((w.alloc (.cells #[sv aF fs.length cF,sv aD ds.length cD] 43)).alloc (.cells C 110)) (.cells #[sv none 0 0,sv none 0 0] 43)
   simpa using this
  refine⟨(heap_alloc_old _ _ (by simp;omega)).trans ((heap_alloc_old _ _ (by simp;omega)).trans (heap_alloc2_old _ _ _)),(heap_alloc_old _ _ (by simp)).trans ((heap_alloc_old _ _ (by simp)).trans (heap_alloc2_new _ _ _)),(heap_alloc_old _ _ (by simp)).trans e2,e3,PR.nil _ _,?_⟩
  exact(((bra _ _).alloc (by simp) _).alloc (by simp;omega) _).alloc (by simp;omega) _
 go_loopw [13] (fun s13 wr=>∃(k:Nat) (es:List Ent) (vF:Value),k≤fs.length∧s13=iv k∧Hid (es.map (·.f)=(((fs.zip ns).take k).filter fun x=>!(x.2==-1)).map (fun x=>M.movedFrg ns x.1))∧es.length≤k∧MPart w wr fs ds C aF aD cF cD es [] vF (sv none 0 0)) (fun s13 _=>fs.length-(intOf s13).toNat)
 case atStart=>exact⟨0,[],_,Nat.zero_le _,rfl,rfl,Nat.le_refl _,HY.out⟩
 case round =>
  obtain⟨k,es,vF,hk,rfl,HE,hek,hM⟩:=hrel
  obtain⟨q0,q1,q2,q3,hPR,hB⟩:=hM
  have HB:Hid (Below w.heap.size w wr):=hB
  clear hB HY
  have hl0:=lt1 q0
  have hl1:=lt1 q1
  have hl2:=lt1 q2
  have hl3:=lt1 q3
  by_cases hlt:k<fs.length
  ·obtain⟨b,off,ab,cb,ar,cr,rfl,e0,e1,e2,e3,e4,e5,hBy,hRl,hg,hbl⟩:=(hf.later HB.out).cells k hlt
   have hbr:b<wr.heap.size:=wlt e0
   have hkn:k<ns.length:=by omega
   have HE1:=frags_take ns fs k hlt hkn
   rw[←HE.out] at HE1
   have hmem:=getD_mem fs frg0 k hlt
   have h64:=hm.bytes _ hmem
   have h8:=hm.nrels _ hmem
   have hfit:=hm.rels _ hmem
   have h60:=hm.nf
   have hk60:(k:Int)<60:=by omega
   have hk0:(0:Int)≤(k:Int):=by omega
   have hkl:(k:Int)<(fs.length:Int):=by omega
   have hck:wr.cell? (qa (w.heap.size+1) k)=some (iv (ns.getD k 0)):=(cellB q1 k).trans (hC.at' k (by omega))
   clear HE hf hd hm
   generalize ns.getD k 0=nk at *
   generalize fs.getD k frg0=f at *
   obtain⟨s,al,g,bs,sz,rs⟩:=f
   simp only at e0 e1 e2 e3 e4 e5 hBy hRl hg h64 h8 hfit
   cases hgo:(nk==-1)
   ·rw[hgo] at HE1
    have hne:(nk !=-1)=true:=by simpa using hgo
    go_upto_region 6 with fail
    have x0:=(heap_alloc_old wr (.cells #[iv s,iv al,.string g,sv ab bs.length cb,iv sz,sv ar rs.length cr] 87) hl0).trans q0
    have x1:=(heap_alloc_old wr (.cells #[iv s,iv al,.string g,sv ab bs.length cb,iv sz,sv ar rs.length cr] 87) hl1).trans q1
    have x2:=(heap_alloc_old wr (.cells #[iv s,iv al,.string g,sv ab bs.length cb,iv sz,sv ar rs.length cr] 87) hl2).trans q2
    have x3:=(heap_alloc_old wr (.cells #[iv s,iv al,.string g,sv ab bs.length cb,iv sz,sv ar rs.length cr] 87) hl3).trans q3
    have x7:=heap_alloc_new wr (.cells #[iv s,iv al,.string g,sv ab bs.length cb,iv sz,sv ar rs.length cr] 87)
    have hPX:=hPR.later (bra wr (.cells #[iv s,iv al,.string g,sv ab bs.length cb,iv sz,sv ar rs.length cr] 87))
    have HBX:Hid (Below w.heap.size w (wr.alloc (.cells #[iv s,iv al,.string g,sv ab bs.length cb,iv sz,sv ar rs.length cr] 87))):=HB.out.alloc (by omega) _
    have hByX:=hBy.later (bra wr (.cells #[iv s,iv al,.string g,sv ab bs.length cb,iv sz,sv ar rs.length cr] 87))
    have hRlX:=hRl.later (bra wr (.cells #[iv s,iv al,.string g,sv ab bs.length cb,iv sz,sv ar rs.length cr] 87))
    clear q0 q1 q2 q3 hPR HB hBy hRl e0 e1 e2 e3 e4 e5 hck
    have hsmall:(∀b∈bs,0≤b∧b<256)∧g.size≤maxLen∧∀r∈rs.map (M.movedRel ns),r.name.size≤maxLen∧(Lit.int .i64 r.kind).wf=true:=by
     refine⟨hByX.2,hg,fun r hr=>?_⟩
     obtain⟨q,hq,rfl⟩:=List.mem_map.1 hr
     have:=hRlX.2 q hq
     unfold M.movedRel
     cases M.bare q.name&&!(q.frag==-1)<;>exact this
    generalize wr.alloc (.cells #[iv s,iv al,.string g,sv ab bs.length cb,iv sz,sv ar rs.length cr] 87)=X at *
    have HX:Hid (MPart w X fs ds C (some (qa b off)) aD cF cD es [] vF (sv none 0 0)):=⟨x0,x1,x2,x3,hPX,HBX.out⟩
    have hwX:w.heap.size≤X.heap.size:=HBX.out.size
    obtain⟨aV,nV,cV,rfl⟩:=own_form hPX.rowF
    have hnV:nV=es.length:=by rcases hPX.rowF.2 with ⟨h1,h2⟩|⟨_,_,_,h1,_⟩<;>cases h1<;>first|rfl|exact h2.symm
    subst hnV
    have HS:Hid (∀W,Below X.heap.size X W→(W.cell? (qa wr.heap.size 0)=some (iv s)∧W.cell? (qa wr.heap.size 1)=some (iv al)∧W.cell? (qa wr.heap.size 2)=some (.string g)∧W.cell? (qa wr.heap.size 3)=some (sv ab bs.length cb)∧W.cell? (qa wr.heap.size 4)=some (iv sz)∧W.cell? (qa wr.heap.size 5)=some (sv ar rs.length cr)∧W.rangeAt (w.heap.size+1) 0 C.toList)):=fun W hW=>by
     have y7:=(hW.block _ (lt1 x7)).trans x7
     have y1:=(hW.block _ (lt1 x1)).trans x1
     exact⟨cellB y7 0,cellB y7 1,cellB y7 2,cellB y7 3,cellB y7 4,cellB y7 5,fun j v hv=>by rw[Nat.zero_add,cellB y1 j];simpa using hv⟩
    have K:Hid (∀W,Below X.heap.size X W→Calls Tryz.prog 90 #[.agg #[iv s,iv al,.string g,sv ab bs.length cb,iv sz,sv ar rs.length cr],.agg C] W fun e w' =>
      Below W.heap.size W w'∧∃bv rv,e=.returned (.agg #[iv s,iv al,.string g,bv,iv sz,rv])∧w'.ownsRow W.heap.size 5 1 bv bs.length (bs.map (Value.int .u8)) ∧
       w'.ownsRow W.heap.size 89 5 rv rs.length ((rs.map (M.movedRel ns)).flatMap encRel)):=fun W hW=>movedFrag_any ⟨s,al,g,bs,sz,rs⟩ ns C ab ar cb cr W hC (hByX.later hW) (hRlX.later hW) h64 h8 hfit
    have hc30:=cellC x3 0 rfl
    have hX3:=lt1 x3
    obtain⟨n60,h60'⟩:∃n,n=60:=⟨60,rfl⟩
    have hld:(loadCellsFrom ⟨w.heap.size+1,0,none⟩ 0 n60 #[]).run Tryz.prog X.drew=.ok C X.drew:=load_row60 X.drew _ C n60 (by rw[h60'];exact hC.size) 110 x1
    have hag:∀w,(isAgg 110).run Tryz.prog w=.ok true w:=Tryz.isAgg110
    have hso:∀w,(sizeOf 110).run Tryz.prog w=.ok n60 w:=by rw[h60'];exact Tryz.sizeOf110
    generalize (110:TypeId)=t48 at hag hso ⊢
    clear h60'
    have y7:=x7
    have k0:=cellC x7 0 rfl
    have k1:=cellC x7 1 rfl
    have k2:=cellC x7 2 rfl
    have k3:=cellC x7 3 rfl
    have k4:=cellC x7 4 rfl
    have k5:=cellC x7 5 rfl
    have HF:Hid (∀w1 o w5,Below X.heap.size X w1→(w1.alloc o).grownBy w5 (sv aV es.length cV).ownBlock→w5.heap[w.heap.size+3]?=some (.cells #[sv aV es.length cV,sv none 0 0] 43 (0,0))):=fun w1 o w5 h1 hg=>by
     have z3:=(h1.block _ hX3).trans x3
     exact block_kept ((hPX.later h1).rowF.alloc o) hg ((heap_alloc_old w1 o (lt1 z3)).trans z3) (by decide)
    go_region_law (first|(go_simp;go_at_call 90;refine(K.out X.drew (Below.refl _ _).drew).mono ?_;rintro e w1 ⟨hb1,bv,rv,rfl,hby1,hrl1⟩;obtain⟨av,nv,cv,rfl⟩:=own_form hby1;obtain⟨at',nt,ct,rfl⟩:=own_form hrl1;have hX1:=(Below.refl X.heap.size X).drew.trans hb1;have hc31:w1.cell? (qa (w.heap.size+3) 0)=some (sv aV es.length cV):=(cellB ((hX1.block _ hX3).trans x3) 0);have hown1:=fun o=>(hPX.later hX1).rowF.alloc o;have hnews1:∀j u,(#[iv s,iv al,.string g,sv av nv cv,iv sz,sv at' nt ct]:Array Value).toList[j]?=some u→(w1.alloc (.cells #[iv s,iv al,.string g,sv av nv cv,iv sz,sv at' nt ct] 87)).cell? ((qa w1.heap.size 0).add j)=some u:=World.news_of_block (heap_alloc_new w1 _);have hw13:=(Array.getElem?_eq_some_iff.1 ((hX1.block _ hX3).trans x3)).1)|(refine step_append_lies _ (by rfl) _ _ _ (by rfl) w.heap.size 87 i0 (.agg #[iv 0,iv 0,.string ⟨#[]⟩,sv none 0 0,iv 0,sv none 0 0]) 6 88 Tryz.underlying40 hi0 hz0 hz1 hz2 rfl (by decide) (sv aV es.length cV) es.length (es.flatMap entCells) (by rfl) (hown1 _) ⟨w1.heap.size,0,none⟩ 1 1 #[iv s,iv al,.string g,sv av nv cv,iv sz,sv at' nt ct].toList (by rfl) (by rfl) hnews1 (fun u hu=>by simp at hu;rcases hu with rfl|rfl|rfl|rfl|rfl|rfl<;>rfl) (by omega) (by unfold maxLen;omega) (by omega) (by simp;omega) (w1.heap.size+1) (by simp) ?_;intro gN capN w5 hown5 hgrow5 hat5 hlt5;have hn5:=HF.out _ _ _ hX1 hgrow5;have hfz5:=frozenB hn5 0;have hcb5:w5.cell? (qa (w.heap.size+3) 0)=some (sv aV es.length cV):=cellB hn5 0))
    all_goals
     have HM5:Hid (MPart w (w5.setCell (qa (w.heap.size+3) 0) (sv (some (qa gN 0)) (es.length+1) capN)) fs ds C (some (qa b off)) aD cF cD (es++[⟨M.movedFrg ns ⟨s,al,g,bs,sz,rs⟩,sv av nv cv,sv at' nt ct⟩]) [] (sv (some (qa gN 0)) (es.length+1) capN) (sv none 0 0)) :=
      mpart_addF (mpart_later HX.out (hX1.alloc hX1.size _)) hgrow5 hown5 (row_base (hby1.alloc _) hwX) (row_base (by simpa [M.movedFrg] using hrl1.alloc _) hwX) hsmall
     clear hcb5 hfz5 hn5 hown5 hgrow5 hat5 hlt5 hby1 hrl1 hown1 hnews1 hc31
     go_wp2_with fail
     go_roundw
     case rel=>exact⟨k+1,_,_,by omega,by go_num,by rw[Hid,HE1];simp,by simp;omega,HM5.out⟩
     case measure=>simp[intOf];omega
   ·rw[hgo,cond_true,List.append_nil] at HE1
    have hne:(nk !=-1)=false:=by simpa using hgo
    have HE2:Hid (es.map (·.f)=_):=HE1.symm
    have HM5:Hid (MPart w (wr.alloc (.cells #[iv s,iv al,.string g,sv ab bs.length cb,iv sz,sv ar rs.length cr] 87)) fs ds C (some (qa b off)) aD cF cD es [] vF (sv none 0 0)):=mpart_later ⟨q0,q1,q2,q3,hPR,HB.out⟩ (bra _ _)
    clear HE1
    go_wp2_with fail
    go_roundw
    case rel=>exact⟨k+1,es,_,by omega,by go_num,HE2,by omega,HM5.out⟩
    case measure=>simp[intOf];omega
  ·have hkl:k=fs.length:=by omega
   have HE2:Hid (es.map (·.f)=M.movedFrags ns fs):=by
    rw[Hid,HE.out,hkl,List.take_of_length_le (by rw[List.length_zip];omega)];rfl
   have HM0:Hid (MPart w wr fs ds C aF aD cF cD es [] vF (sv none 0 0)):=⟨q0,q1,q2,q3,hPR,HB.out⟩
   have c1:=cellC q0 1 rfl
   have hdl:ds.length≤maxLen:=by obtain⟨_,_,_,h⟩:=hd.1.form;exact h
   unfold maxLen at hdl
   obtain⟨aV,nV,cV,rfl⟩:=own_form hPR.rowF
   clear HE q0 q1 q2 q3 hPR HB hl0 hl1 hl2 hl3 hek hf
   subst hkl
   go_wp2_with fail
   go_loopw [34] (fun s34 wr=>∃(j:Nat) (gs:List M.Dfn) (vD:Value),j≤ds.length∧s34=iv j∧Hid (gs=M.movedDefs ns (ds.take j))∧gs.length≤j∧MPart w wr fs ds C aF aD cF cD es gs (sv aV nV cV) vD) (fun s34 _=>ds.length-(intOf s34).toNat)
   case atStart=>exact⟨0,[],_,Nat.zero_le _,rfl,rfl,Nat.le_refl _,HM0.out⟩
   case round =>
    obtain⟨j,gs,vD,hj,rfl,HG,hgj,hM⟩:=hrel
    have HM:Hid (MPart w wr fs ds C aF aD cF cD es gs (sv aV nV cV) vD):=hM
    obtain⟨q0,q1,q2,q3,hPR,hB⟩:=hM
    have HB:Hid (Below w.heap.size w wr):=hB
    clear hB HM0
    have hl0:=lt1 q0
    have hl1:=lt1 q1
    have hl3:=lt1 q3
    obtain⟨aW,nW,cW,rfl⟩:=own_form hPR.rowD
    have hnW:nW=gs.length:=by rcases hPR.rowD.2 with ⟨h1,h2⟩|⟨_,_,_,h1,_⟩<;>cases h1<;>first|rfl|exact h2.symm
    subst hnW
    by_cases hlt:j<ds.length
    ·obtain⟨b,off,rfl,e0,e1,e2,e3,e4,e5,hnm⟩:=(hd.later HB.out).cells j hlt
     have hbr:b<wr.heap.size:=wlt e0
     have HG1:=defs_take ns ds j hlt
     rw[←HG.out] at HG1
     have hmem:=getD_mem ds dfn0 j hlt
     have hdf:=hm.defs _ hmem
     have h60:=hm.nd
     have hjl:(j:Int)<(ds.length:Int):=by omega
     clear HG hd hm
     generalize ds.getD j dfn0=d at *
     obtain⟨nm,kd,fr,ps,sz,al⟩:=d
     simp only at e0 e1 e2 e3 e4 e5 hnm hdf
     cases hk3:(kd==3)
     ·have hmd:M.movedDfn ns ⟨nm,kd,fr,ps,sz,al⟩=⟨nm,kd,M.num ns fr,ps,sz,al⟩:=by unfold M.movedDfn;dsimp only;rw[hk3];rfl
      rw[hmd] at HG1
      obtain⟨hf0,hf60⟩:=hdf hk3
      obtain⟨i,rfl⟩:∃i:Nat,fr=(i:Int):=⟨fr.toNat,by omega⟩
      have hnum:M.num ns i=ns.getD i 0:=by unfold M.num;simp
      rw[hnum] at HG1
      have hci:wr.cell? (qa (w.heap.size+1) i)=some (iv (ns.getD i 0)):=(cellB q1 i).trans (hC.at' i (by omega))
      have hkn:(kd !=3)=true:=by simpa using hk3
      clear hnum hmd hdf
      generalize ns.getD i 0=nw at *
      cases hg1:(nw==-1)
      ·have HG2:Hid (gs++[⟨nm,kd,nw,ps,sz,al⟩]=M.movedDefs ns (ds.take (j+1))):=by rw[Hid,HG1];simp only[hg1];rfl
       have hgn:(nw !=-1)=true:=by simpa using hg1
       clear HG1
       go_upto_region 14 with fail
       have HX:Hid (MPart w (wr.alloc (.cells #[.string nm,iv kd,iv nw,iv ps,iv sz,iv al] 72)) fs ds C aF _ cF cD es gs (sv aV nV cV) (sv aW gs.length cW)):=mpart_later HM.out (bra _ _)
       have x7:=heap_alloc_new wr (.cells #[.string nm,iv kd,iv nw,iv ps,iv sz,iv al] 72)
       have hXs:wr.heap.size<(wr.alloc (.cells #[.string nm,iv kd,iv nw,iv ps,iv sz,iv al] 72)).heap.size:=by simp
       clear q0 q1 q2 q3 hPR HB HM e0 e1 e2 e3 e4 e5
       generalize wr.alloc (.cells #[.string nm,iv kd,iv nw,iv ps,iv sz,iv al] 72)=X at *
       have x3:=HX.out.q3
       have hownX:=HX.out.pr.rowD
       have k0:=cellC x7 0 rfl
       have k1:=cellC x7 1 rfl
       have k2:=cellC x7 2 rfl
       have k3:=cellC x7 3 rfl
       have k4:=cellC x7 4 rfl
       have k5:=cellC x7 5 rfl
       have c31:=cellC x3 1 rfl
       have hX3:w.heap.size+3<X.heap.size:=by omega
       have hnews:∀j u,(#[.string nm,iv kd,iv nw,iv ps,iv sz,iv al]:Array Value).toList[j]?=some u→(X.alloc (.cells #[.string nm,iv kd,iv nw,iv ps,iv sz,iv al] 72)).cell? ((qa X.heap.size 0).add j)=some u:=World.news_of_block (heap_alloc_new X _)
       have HF:Hid (∀w5,(X.alloc (.cells #[.string nm,iv kd,iv nw,iv ps,iv sz,iv al] 72)).grownBy w5 (sv aW gs.length cW).ownBlock→w5.heap[w.heap.size+3]?=some (.cells #[sv aV nV cV,sv aW gs.length cW] 43 (0,0))):=fun w5 hg=>block_kept (hownX.alloc _) hg ((heap_alloc_old X _ hX3).trans x3) (by decide)
       clear x3 x7
       go_wp2_with (at_builtin;refine wpList_append_lies _ rfl _ _ 41 rfl w.heap.size 72 i1 (.agg #[.string ⟨#[]⟩,iv 0,iv 0,iv 0,iv 0,iv 0]) 6 56 Tryz.underlying41 hi1 hy0 hy1 hy2 rfl (by decide) (sv aW gs.length cW) gs.length (gs.flatMap encDfn) rfl (hownX.alloc _) ⟨X.heap.size,0,none⟩ 1 1 #[.string nm,iv kd,iv nw,iv ps,iv sz,iv al].toList rfl rfl hnews (fun u hu=>by simp at hu;rcases hu with rfl|rfl|rfl|rfl|rfl|rfl<;>rfl) (by omega) (by unfold maxLen;omega) (by omega) (by simp;omega) (X.heap.size+1) (by simp) ?_;intro gN capN w5 hown5 hgrow5 hat5 hlt5;have hn5:=HF.out _ hgrow5;have hfz5:=frozenB hn5 1;have hcb5:w5.cell? (qa (w.heap.size+3) 1)=some (sv aW gs.length cW):=cellB hn5 1)
       go_roundw
       case rel=>exact⟨j+1,gs++[⟨nm,kd,nw,ps,sz,al⟩],_,by omega,by go_num,HG2,by simp;omega,mpart_addD (d:=⟨nm,kd,nw,ps,sz,al⟩) (mpart_later HX.out (bra _ _)) hgrow5 hown5 hnm⟩
       case measure=>simp[intOf];omega
      ·have HG2:Hid (gs=M.movedDefs ns (ds.take (j+1))):=by rw[Hid,HG1];simp only[hg1];simp
       have hgn:(nw !=-1)=false:=by simpa using hg1
       clear HG1
       have HX:Hid (MPart w (wr.alloc (.cells #[.string nm,iv kd,iv nw,iv ps,iv sz,iv al] 72)) fs ds C aF _ cF cD es gs (sv aV nV cV) (sv aW gs.length cW)):=mpart_later HM.out (bra _ _)
       go_wp2_with fail
       go_roundw
       case rel=>exact⟨j+1,gs,_,by omega,by go_num,HG2,by omega,HX.out⟩
       case measure=>simp[intOf];omega
     ·have hmd:M.movedDfn ns ⟨nm,kd,fr,ps,sz,al⟩=⟨nm,kd,fr,ps,sz,al⟩:=by unfold M.movedDfn;dsimp only;rw[hk3];rfl
      rw[hmd] at HG1
      have hkn:(kd !=3)=false:=by simpa using hk3
      clear hmd hdf
      cases hg1:(fr==-1)
      ·have HG2:Hid (gs++[⟨nm,kd,fr,ps,sz,al⟩]=M.movedDefs ns (ds.take (j+1))):=by rw[Hid,HG1];simp only[hg1];rfl
       have hgn:(fr !=-1)=true:=by simpa using hg1
       clear HG1
       go_upto_region 14 with fail
       have HX:Hid (MPart w (wr.alloc (.cells #[.string nm,iv kd,iv fr,iv ps,iv sz,iv al] 72)) fs ds C aF _ cF cD es gs (sv aV nV cV) (sv aW gs.length cW)):=mpart_later HM.out (bra _ _)
       have x7:=heap_alloc_new wr (.cells #[.string nm,iv kd,iv fr,iv ps,iv sz,iv al] 72)
       have hXs:wr.heap.size<(wr.alloc (.cells #[.string nm,iv kd,iv fr,iv ps,iv sz,iv al] 72)).heap.size:=by simp
       clear q0 q1 q2 q3 hPR HB HM e0 e1 e2 e3 e4 e5
       generalize wr.alloc (.cells #[.string nm,iv kd,iv fr,iv ps,iv sz,iv al] 72)=X at *
       have x3:=HX.out.q3
       have hownX:=HX.out.pr.rowD
       have k0:=cellC x7 0 rfl
       have k1:=cellC x7 1 rfl
       have k2:=cellC x7 2 rfl
       have k3:=cellC x7 3 rfl
       have k4:=cellC x7 4 rfl
       have k5:=cellC x7 5 rfl
       have c31:=cellC x3 1 rfl
       have hX3:w.heap.size+3<X.heap.size:=by omega
       have hnews:∀j u,(#[.string nm,iv kd,iv fr,iv ps,iv sz,iv al]:Array Value).toList[j]?=some u→(X.alloc (.cells #[.string nm,iv kd,iv fr,iv ps,iv sz,iv al] 72)).cell? ((qa X.heap.size 0).add j)=some u:=World.news_of_block (heap_alloc_new X _)
       have HF:Hid (∀w5,(X.alloc (.cells #[.string nm,iv kd,iv fr,iv ps,iv sz,iv al] 72)).grownBy w5 (sv aW gs.length cW).ownBlock→w5.heap[w.heap.size+3]?=some (.cells #[sv aV nV cV,sv aW gs.length cW] 43 (0,0))):=fun w5 hg=>block_kept (hownX.alloc _) hg ((heap_alloc_old X _ hX3).trans x3) (by decide)
       clear x3 x7
       go_wp2_with (at_builtin;refine wpList_append_lies _ rfl _ _ 41 rfl w.heap.size 72 i1 (.agg #[.string ⟨#[]⟩,iv 0,iv 0,iv 0,iv 0,iv 0]) 6 56 Tryz.underlying41 hi1 hy0 hy1 hy2 rfl (by decide) (sv aW gs.length cW) gs.length (gs.flatMap encDfn) rfl (hownX.alloc _) ⟨X.heap.size,0,none⟩ 1 1 #[.string nm,iv kd,iv fr,iv ps,iv sz,iv al].toList rfl rfl hnews (fun u hu=>by simp at hu;rcases hu with rfl|rfl|rfl|rfl|rfl|rfl<;>rfl) (by omega) (by unfold maxLen;omega) (by omega) (by simp;omega) (X.heap.size+1) (by simp) ?_;intro gN capN w5 hown5 hgrow5 hat5 hlt5;have hn5:=HF.out _ hgrow5;have hfz5:=frozenB hn5 1;have hcb5:w5.cell? (qa (w.heap.size+3) 1)=some (sv aW gs.length cW):=cellB hn5 1)
       go_roundw
       case rel=>exact⟨j+1,gs++[⟨nm,kd,fr,ps,sz,al⟩],_,by omega,by go_num,HG2,by simp;omega,mpart_addD (d:=⟨nm,kd,fr,ps,sz,al⟩) (mpart_later HX.out (bra _ _)) hgrow5 hown5 hnm⟩
       case measure=>simp[intOf];omega
      ·have HG2:Hid (gs=M.movedDefs ns (ds.take (j+1))):=by rw[Hid,HG1];simp only[hg1];simp
       have hgn:(fr !=-1)=false:=by simpa using hg1
       clear HG1
       have HX:Hid (MPart w (wr.alloc (.cells #[.string nm,iv kd,iv fr,iv ps,iv sz,iv al] 72)) fs ds C aF _ cF cD es gs (sv aV nV cV) (sv aW gs.length cW)):=mpart_later HM.out (bra _ _)
       go_wp2_with fail
       go_roundw
       case rel=>exact⟨j+1,gs,_,by omega,by go_num,HG2,by omega,HX.out⟩
       case measure=>simp[intOf];omega
    ·have hjl:j=ds.length:=by omega
     have HG2:Hid (gs=M.movedDefs ns ds):=by rw[Hid,HG.out,hjl,List.take_length]
     have c30:=cellC q3 0 rfl
     have c31:=cellC q3 1 rfl
     have c20:=cellC q2 0 rfl
     have c21:=cellC q2 1 rfl
     have f20:=frozenB q2 0
     have f21:=frozenB q2 1
     have z0:(wr.setCell (qa (w.heap.size+1+1) 0) (sv aV nV cV)).heap[w.heap.size+1+1]?=some (.cells #[sv aV nV cV,sv none 0 0] 43 (0,0)):=setB' q2 _
     have z1:((wr.setCell (qa (w.heap.size+1+1) 0) (sv aV nV cV)).setCell (qa (w.heap.size+1+1) 1) (sv aW gs.length cW)).heap[w.heap.size+1+1]?=some (.cells #[sv aV nV cV,sv aW gs.length cW] 43 (0,0)):=setB' z0 _
     have HZ:Hid (((wr.setCell (qa (w.heap.size+1+1) 0) (sv aV nV cV)).setCell (qa (w.heap.size+1+1) 1) (sv aW gs.length cW)).heap[w.heap.size+1+1]?=some (.cells #[sv aV nV cV,sv aW gs.length cW] 43 (0,0))):=z1
     have HP:Hid (PR ((wr.setCell (qa (w.heap.size+1+1) 0) (sv aV nV cV)).setCell (qa (w.heap.size+1+1) 1) (sv aW gs.length cW)) w.heap.size es gs (sv aV nV cV) (sv aW gs.length cW)):=(hPR.set q2).set z0
     have HBz:Hid (Below w.heap.size w ((wr.setCell (qa (w.heap.size+1+1) 0) (sv aV nV cV)).setCell (qa (w.heap.size+1+1) 1) (sv aW gs.length cW))):=(HB.out.setCell (by show w.heap.size≤w.heap.size+1+1;omega) _).setCell (by show w.heap.size≤w.heap.size+1+1;omega) _
     clear z0 z1 HG hd hm
     subst hjl
     go_wp2
     refine bodyPost_ret (v:=.agg #[sv aV nV cV,sv aW gs.length cW]) (results_cell_row Tryz.results51 _ _ (w.heap.size+1+1) 43 _ (0,0) _ rfl HZ.out Tryz.underlying43 rfl (by kernel_rfl)) rfl ?_
     exact⟨HBz.out,es,_,_,rfl,by rw[←HG2.out];exact HP.out,HE2.out⟩
theorem movable{p:M.Prt}(h:M.Ok p):Movable p.frags p.defs:=by
 have hn:=h.nf
 refine⟨h.nf,h.nd,fun f hf=>(len_ok f (h.shape f hf)).1,fun f hf=>(len_ok f (h.shape f hf)).2,fun f hf r hr hb=>?_,fun d hd hk=>?_⟩
 ·have:=h.fits f hf r hr hb
  omega
 ·obtain⟨f,h1,h2,_⟩:=h.stands d hd hk
  have:=(List.getElem?_eq_some_iff.1 h2).1
  omega
structure JV (w wr:World) (va vb:Array Value):Prop where
 q0:wr.heap[w.heap.size]?=some (.cells va 43 (0,0))
 q1:wr.heap[w.heap.size+1]?=some (.cells vb 43 (0,0))
 q2:wr.heap[w.heap.size+2]?=some (.cells #[sv none 0 0,sv none 0 0] 43 (0,0))
 below:Below w.heap.size w wr
theorem JV.later{w wr X:World}{va vb:Array Value}(h:JV w wr va vb)(hb:Below wr.heap.size wr X):JV w X va vb :=
 ⟨(hb.block _ (lt1 h.q0)).trans h.q0,(hb.block _ (lt1 h.q1)).trans h.q1,(hb.block _ (lt1 h.q2)).trans h.q2,h.below.trans (hb.mono h.below.size)⟩
theorem JV.set{w wr:World}{va vb:Array Value}{b i:Nat}{u:Value}(h:JV w wr va vb)(hb:w.heap.size+2<b):JV w (wr.setCell (qa b i) u) va vb :=
 ⟨(Below.heap_setCell _ _ _ _ (by show w.heap.size≠b;omega)).trans h.q0,(Below.heap_setCell _ _ _ _ (by show w.heap.size+1≠b;omega)).trans h.q1,(Below.heap_setCell _ _ _ _ (by show w.heap.size+2≠b;omega)).trans h.q2,h.below.setCell (by show w.heap.size≤b;omega) _⟩
structure Holds (w wx:World) (va vb:Array Value) (b9:Nat) (es:List Ent) (ds:List M.Dfn) (vF vD:Value):Prop where
 blk:wx.heap[b9]?=some (.cells #[vF,vD] 43 (0,0))
 pr:PR wx w.heap.size es ds vF vD
 jv:JV w wx va vb
 lt:w.heap.size+2<b9
theorem Holds.later{w wx X:World}{va vb:Array Value}{b9:Nat}{es:List Ent}{ds:List M.Dfn}{vF vD:Value}(h:Holds w wx va vb b9 es ds vF vD)(hb:Below wx.heap.size wx X):Holds w X va vb b9 es ds vF vD :=
 ⟨(hb.block _ (lt1 h.blk)).trans h.blk,h.pr.later hb,h.jv.later hb,h.lt⟩
theorem Holds.set{w wx:World}{va vb:Array Value}{b9 b i:Nat}{es:List Ent}{ds:List M.Dfn}{vF vD u:Value}{cs:Array Value}(h:Holds w wx va vb b9 es ds vF vD)(hq:wx.heap[b]?=some (.cells cs 43 (0,0)))(hb:b9<b):Holds w (wx.setCell (qa b i) u) va vb b9 es ds vF vD :=
 ⟨(Below.heap_setCell _ _ _ _ (by show b9≠b;omega)).trans h.blk,h.pr.set hq,h.jv.set (by have:=h.lt;omega),h.lt⟩
theorem holds_set{w w2:World}{va vb:Array Value}{b9 B:Nat}{es:List Ent}{ds:List M.Dfn}{vF vD x y:Value}(hJ:JV w w2 va vb)(hq:w2.heap[b9]?=some (.cells #[x,y] 43 (0,0)))(hP:PR w2 B es ds vF vD)(hB:w.heap.size≤B)(hlt:w.heap.size+2<b9) :
  Holds w ((w2.setCell (qa b9 0) vF).setCell (qa b9 1) vD) va vb b9 es ds vF vD:=by
 have h1:(w2.setCell (qa b9 0) vF).heap[b9]?=some (.cells #[vF,y] 43 (0,0)):=setB' hq vF
 exact⟨setB' h1 vD,(((hP.base hB).set hq).set h1),(hJ.set hlt).set hlt,hlt⟩
theorem holds_new{w w2:World}{va vb:Array Value}{B:Nat}{es:List Ent}{ds:List M.Dfn}{vF vD:Value}(hJ:JV w w2 va vb)(hP:PR w2 B es ds vF vD)(hB:w.heap.size≤B) :
  Holds w (w2.alloc (.cells #[vF,vD] 43)) va vb w2.heap.size es ds vF vD:=by
 have hb:Below w2.heap.size w2 (w2.alloc (.cells #[vF,vD] 43)):=bra _ _
 exact⟨heap_alloc_new _ _,(hP.base hB).later hb,hJ.later hb,(lt1 hJ.q2)⟩
theorem movedFrags_le(ns:List Int)(fs:List M.Frg):(M.movedFrags ns fs).length≤fs.length:=by
 unfold M.movedFrags
 rw[List.length_map]
 refine Nat.le_trans (List.length_filter_le _ _) ?_
 rw[List.length_zip];omega
theorem movedDefs_le(ns:List Int)(ds:List M.Dfn):(M.movedDefs ns ds).length≤ds.length:=by
 unfold M.movedDefs
 refine Nat.le_trans (List.length_filter_le _ _) ?_
 rw[List.length_map];exact Nat.le_refl _
theorem PR.one{w:World}{B:Nat}{es:List Ent}{ds:List M.Dfn}{vF vD:Value}(h:PR w B es ds vF vD):∀u∈es.flatMap entCells,u.oneCell'=true:=by
 intro u hu
 obtain⟨e,he,hu⟩:=List.mem_flatMap.1 hu
 obtain⟨x1,x2,hx⟩:=own_len (h.bytes e he)
 obtain⟨y1,y2,hy⟩:=own_len (h.rels e he)
 unfold entCells at hu
 rw[hx,hy] at hu
 simp only[List.mem_cons,List.not_mem_nil,or_false] at hu
 rcases hu with rfl|rfl|rfl|rfl|rfl|rfl<;>rfl
theorem defs_one(ds:List M.Dfn):∀u∈ds.flatMap encDfn,u.oneCell'=true:=by
 intro u hu
 obtain⟨d,_,hu⟩:=List.mem_flatMap.1 hu
 unfold encDfn at hu
 simp only[List.mem_cons,List.not_mem_nil,or_false] at hu
 rcases hu with rfl|rfl|rfl|rfl|rfl|rfl<;>rfl
theorem JV.grown{w wr w3:World}{va vb:Array Value}{e:TypeId}{k n:Nat}{v:Value}{xs:List Value}(h:JV w wr va vb)(hr:wr.ownsRow w.heap.size e k v n xs)(he:e≠43)(hg:wr.grownBy w3 v.ownBlock):JV w w3 va vb :=
 ⟨block_kept hr hg h.q0 he,block_kept hr hg h.q1 he,block_kept hr hg h.q2 he,h.below.grown hg h.below.size (fun k hk=>(hr.lt k hk).1)⟩
theorem holds_addF{w wc w3:World}{va vb:Array Value}{b9 b10:Nat}{es es':List Ent}{gs gs':List M.Dfn}{vF vD vF' vD' v':Value}(h:Holds w wc va vb b9 es gs vF vD)(h':Holds w wc va vb b10 es' gs' vF' vD')(hbb:b9<b10)
  (hg:wc.grownBy w3 vF.ownBlock) (ho:w3.ownsRow w.heap.size 87 6 v' (es.length+es'.length) (es.flatMap entCells++es'.flatMap entCells)) :
  Holds w (w3.setCell (qa b9 0) v') va vb b9 (es++es') gs v' vD∧(w3.setCell (qa b9 0) v').heap[b10]?=some (.cells #[vF',vD'] 43 (0,0))∧(w3.setCell (qa b9 0) v').ownsRow w.heap.size 72 6 vD' gs'.length (gs'.flatMap encDfn):=by
 have hn:=block_kept h.pr.rowF hg h.blk (by decide)
 have hn':=block_kept h.pr.rowF hg h'.blk (by decide)
 have hD:=h'.pr.rowD.kept hg (own_apart h'.pr.rowD h.pr.rowF (by decide))
 refine⟨⟨setB' hn v',(h.pr.growF hg ho h'.pr.bytes h'.pr.rels h'.pr.small).set hn,(h.jv.grown h.pr.rowF (by decide) hg).set h.lt,h.lt⟩,?_,row_setc hD hn (by decide)⟩
 exact(Below.heap_setCell _ _ _ _ (by show b10≠b9;omega)).trans hn'
theorem holds_addD{w wc w3:World}{va vb:Array Value}{b9:Nat}{es:List Ent}{gs gs':List M.Dfn}{vF vD v':Value}(h:Holds w wc va vb b9 es gs vF vD)
  (hg:wc.grownBy w3 vD.ownBlock) (ho:w3.ownsRow w.heap.size 72 6 v' (gs.length+gs'.length) (gs.flatMap encDfn++gs'.flatMap encDfn)) (hs:∀d∈gs',d.name.size≤maxLen) :
  Holds w (w3.setCell (qa b9 1) v') va vb b9 es (gs++gs') vF v':=by
 have hn:=block_kept h.pr.rowD hg h.blk (by decide)
 exact⟨setB' hn v',(h.pr.growD hg ho hs).set hn,(h.jv.grown h.pr.rowD (by decide) hg).set h.lt,h.lt⟩
theorem flat_len6{α:Type}(f:α→List Value)(hf:∀x,(f x).length=6):∀l:List α,(l.flatMap f).length=l.length*6
 | []=>rfl
 | x::l=>by rw[List.flatMap_cons,List.length_append,hf,flat_len6 f hf l,List.length_cons];omega
theorem two0(a b c d:Value)(w:World):(Instr.index 107 (.agg #[a,b,c,d]) (iv ((0:Nat):Int))).run Tryz.prog w=.ok (.agg #[a,b]) w:=by kernel_rfl
theorem two1(a b c d:Value)(w:World):(Instr.index 107 (.agg #[a,b,c,d]) (iv ((1:Nat):Int))).run Tryz.prog w=.ok (.agg #[c,d]) w:=by kernel_rfl
theorem twl0(a b c d:Value)(w:World):(Instr.index 107 (.agg #[a,b,c,d]) (iv 0)).run Tryz.prog w=.ok (.agg #[a,b]) w:=by kernel_rfl
theorem twl1(a b c d:Value)(w:World):(Instr.index 107 (.agg #[a,b,c,d]) (iv 1)).run Tryz.prog w=.ok (.agg #[c,d]) w:=by kernel_rfl
attribute [local go_sem high] two0 two1 twl0 twl1
theorem strsAt_nil(w:World):StrsAt w (sv none 0 0) []:=⟨⟨none,0,rfl,Nat.zero_le _,.inl rfl⟩,fun d hd=>by cases hd⟩
theorem join_any(a b:M.Prt)(a1 a2 b1 b2:Option Addr)(c1 c2 d1 d2:Nat)(w:World)(hf:FragsAt w (sv a1 a.frags.length c1) a.frags)(hd:DefsAt w (sv a2 a.defs.length c2) a.defs)
  (hf':FragsAt w (sv b1 b.frags.length d1) b.frags) (hd':DefsAt w (sv b2 b.defs.length d2) b.defs) :
  Calls Tryz.prog 22 #[.agg #[sv a1 a.frags.length c1,sv a2 a.defs.length c2],.agg #[sv b1 b.frags.length d1,sv b2 b.defs.length d2]] w fun e w' =>
   Below w.heap.size w w'∧∃es vF vD,e=.returned (.tuple #[.agg #[vF,vD],iv (M.join a b).2])∧PR w' w.heap.size es (M.join a b).1.defs vF vD∧es.map (·.f)=(M.join a b).1.frags:=by
 go_enter Tryz.func22,Tryz.ntmps22
 go_wp2_with fail
 have HY:Hid (JV w (((w.alloc (.cells #[sv a1 a.frags.length c1,sv a2 a.defs.length c2] 43)).alloc (.cells #[sv b1 b.frags.length d1,sv b2 b.defs.length d2] 43)).alloc (.cells #[sv none 0 0,sv none 0 0] 43)) #[sv a1 a.frags.length c1,sv a2 a.defs.length c2] #[sv b1 b.frags.length d1,sv b2 b.defs.length d2]):=by
  have e2:(((w.alloc (.cells #[sv a1 a.frags.length c1,sv a2 a.defs.length c2] 43)).alloc (.cells #[sv b1 b.frags.length d1,sv b2 b.defs.length d2] 43)).alloc (.cells #[sv none 0 0,sv none 0 0] 43)).heap[w.heap.size+2]?=some (.cells #[sv none 0 0,sv none 0 0] 43 (0,0)):=by
   have:=heap_alloc_new ((w.alloc (.cells #[sv a1 a.frags.length c1,sv a2 a.defs.length c2] 43)).alloc (.cells #[sv b1 b.frags.length d1,sv b2 b.defs.length d2] 43)) (.cells #[sv none 0 0,sv none 0 0] 43)
   simpa using this
  exact⟨(heap_alloc_old _ _ (by simp;omega)).trans (heap_alloc2_old _ _ _),(heap_alloc_old _ _ (by simp)).trans (heap_alloc2_new _ _ _),e2,((bra _ _).alloc (by simp) _).alloc (by simp;omega) _⟩
 go_loopw [14] (fun s14 wr=>∃(k:Nat),k≤2∧s14=iv k∧JV w wr #[sv a1 a.frags.length c1,sv a2 a.defs.length c2] #[sv b1 b.frags.length d1,sv b2 b.defs.length d2]∧Hid (1≤k→M.checkPart a=0)∧Hid (2≤k→M.checkPart b=0)) (fun s14 _=>2-(intOf s14).toNat)
 case atStart=>exact⟨0,by omega,rfl,HY.out,fun h=>absurd h (by omega),fun h=>absurd h (by omega)⟩
 case round =>
  obtain⟨k,hk,rfl,hJ,H1,H2⟩:=hrel
  clear HY
  rcases(by omega:k=0∨k=1∨k=2) with rfl|rfl|rfl
  ·clear hk H1 H2
   have KC:Hid (∀W,Below wr.heap.size wr W→Calls Tryz.prog 46 #[.agg #[sv a1 a.frags.length c1,sv a2 a.defs.length c2]] W fun e w'=>e=.returned (iv (M.checkPart a))∧Below W.heap.size W w'):=fun W hW=>check_any a.frags a.defs _ _ _ _ W ((hf.later hJ.below).later hW) ((hd.later hJ.below).later hW)
   have HJ:Hid (JV w wr #[sv a1 a.frags.length c1,sv a2 a.defs.length c2] #[sv b1 b.frags.length d1,sv b2 b.defs.length d2]):=hJ
   have q2:=hJ.q2
   have hl2:=lt1 q2
   have HA:Hid (Below wr.heap.size wr (wr.alloc (.cells #[sv a1 a.frags.length c1,sv a2 a.defs.length c2] 43))):=bra _ _
   by_cases hck:M.checkPart a=0
   ·have HC:Hid (M.checkPart a=0):=hck
    rw[hck] at KC
    clear hck hJ
    go_wp2_with (go_at_call 46;refine(KC.out _ HA.out).mono ?_;rintro e x1 ⟨rfl,hx1⟩)
    go_roundw
    case rel=>exact⟨1,by omega,rfl,HJ.out.later (HA.out.trans (hx1.mono HA.out.size)),fun _=>HC.out,fun h=>absurd h (by omega)⟩
    case measure=>simp[intOf]
   ·have HC:Hid (M.join a b=(M.nil,M.checkPart a)):=by
     rw[Hid];unfold M.join;rw[if_neg hck]
    have hne:(M.checkPart a !=0)=true:=by simpa using hck
    clear hck hJ
    generalize M.checkPart a=er at *
    go_wp2_with (go_at_call 46;refine(KC.out _ HA.out).mono ?_;rintro e x1 ⟨rfl,hx1⟩;refine Hid.out ?_)
    have HX1:Hid (JV w x1 #[sv a1 a.frags.length c1,sv a2 a.defs.length c2] #[sv b1 b.frags.length d1,sv b2 b.defs.length d2]):=HJ.out.later (HA.out.trans (hx1.mono HA.out.size))
    have y2:=HX1.out.q2
    have c20:=cellC y2 0 rfl
    have c21:=cellC y2 1 rfl
    have f20:=frozenB y2 0
    have f21:=frozenB y2 1
    have HB1:Hid (Below w.heap.size w ((x1.setCell (qa (w.heap.size+1+1) 0) (sv none 0 0)).setCell (qa (w.heap.size+1+1) 1) (sv none 0 0))):=(HX1.out.below.setCell (by show w.heap.size≤w.heap.size+1+1;omega) _).setCell (by show w.heap.size≤w.heap.size+1+1;omega) _
    clear y2 q2
    refine Lib.hid ?_
    go_wp2
    refine bodyPost_ret (v:=.tuple #[.agg #[sv none 0 0,sv none 0 0],iv er]) (by simp[results,Tryz.results22,go_sem,c20,c21]) rfl ?_
    exact⟨HB1.out,[],_,_,by rw[HC.out],by rw[HC.out];exact PR.nil _ _,by rw[HC.out];rfl⟩
  ·clear hk H2
   have KC:Hid (∀W,Below wr.heap.size wr W→Calls Tryz.prog 46 #[.agg #[sv b1 b.frags.length d1,sv b2 b.defs.length d2]] W fun e w'=>e=.returned (iv (M.checkPart b))∧Below W.heap.size W w'):=fun W hW=>check_any b.frags b.defs _ _ _ _ W ((hf'.later hJ.below).later hW) ((hd'.later hJ.below).later hW)
   have HJ:Hid (JV w wr #[sv a1 a.frags.length c1,sv a2 a.defs.length c2] #[sv b1 b.frags.length d1,sv b2 b.defs.length d2]):=hJ
   have q2:=hJ.q2
   have hl2:=lt1 q2
   have HA:Hid (Below wr.heap.size wr (wr.alloc (.cells #[sv b1 b.frags.length d1,sv b2 b.defs.length d2] 43))):=bra _ _
   by_cases hck:M.checkPart b=0
   ·have HC:Hid (M.checkPart b=0):=hck
    rw[hck] at KC
    clear hck hJ
    go_wp2_with (go_at_call 46;refine(KC.out _ HA.out).mono ?_;rintro e x1 ⟨rfl,hx1⟩)
    go_roundw
    case rel=>exact⟨2,by omega,rfl,HJ.out.later (HA.out.trans (hx1.mono HA.out.size)),fun _=>H1.out (by omega),fun _=>HC.out⟩
    case measure=>simp[intOf]
   ·have HC:Hid (M.join a b=(M.nil,M.checkPart b)):=by
     rw[Hid];unfold M.join;rw[if_pos (H1.out (by omega)),if_neg hck]
    have hne:(M.checkPart b !=0)=true:=by simpa using hck
    clear hck hJ
    generalize M.checkPart b=er at *
    go_wp2_with (go_at_call 46;refine(KC.out _ HA.out).mono ?_;rintro e x1 ⟨rfl,hx1⟩;refine Hid.out ?_)
    have HX1:Hid (JV w x1 #[sv a1 a.frags.length c1,sv a2 a.defs.length c2] #[sv b1 b.frags.length d1,sv b2 b.defs.length d2]):=HJ.out.later (HA.out.trans (hx1.mono HA.out.size))
    have y2:=HX1.out.q2
    have c20:=cellC y2 0 rfl
    have c21:=cellC y2 1 rfl
    have f20:=frozenB y2 0
    have f21:=frozenB y2 1
    have HB1:Hid (Below w.heap.size w ((x1.setCell (qa (w.heap.size+1+1) 0) (sv none 0 0)).setCell (qa (w.heap.size+1+1) 1) (sv none 0 0))):=(HX1.out.below.setCell (by show w.heap.size≤w.heap.size+1+1;omega) _).setCell (by show w.heap.size≤w.heap.size+1+1;omega) _
    clear y2 q2
    refine Lib.hid ?_
    go_wp2
    refine bodyPost_ret (v:=.tuple #[.agg #[sv none 0 0,sv none 0 0],iv er]) (by simp[results,Tryz.results22,go_sem,c20,c21]) rfl ?_
    exact⟨HB1.out,[],_,_,by rw[HC.out],by rw[HC.out];exact PR.nil _ _,by rw[HC.out];rfl⟩
  ·have HOa:Hid (M.Ok a):=(M.ok_iff a).1 (H1.out (by omega))
   have HOb:Hid (M.Ok b):=(M.ok_iff b).1 (H2.out (by omega))
   clear H1 H2 hk
   go_upto_region 8 with fail
   have HJ:Hid (JV w wr #[sv a1 a.frags.length c1,sv a2 a.defs.length c2] #[sv b1 b.frags.length d1,sv b2 b.defs.length d2]):=hJ
   have hfX:=hf.later hJ.below
   have hdX:=hd.later hJ.below
   have hfY:=hf'.later hJ.below
   have hdY:=hd'.later hJ.below
   have hna:=HOa.out.nf
   have hma:=movable HOa.out
   have hnb:=HOb.out.nf
   have hmb:=movable HOb.out
   clear hf hd hf' hd'
   have HS:Hid (∀W,Below wr.heap.size wr W→(W.cell? (qa w.heap.size 0)=some (sv a1 a.frags.length c1)∧W.cell? (qa w.heap.size 1)=some (sv a2 a.defs.length c2))):=fun W hW=>by
    have y:=(HJ.out.later hW).q0
    exact⟨cellB y 0,cellB y 1⟩
   have KC:Hid (∀W,Below wr.heap.size wr W→Calls Tryz.prog 52 #[sv a1 a.frags.length c1,sv none 0 0,iv 0] W fun e w'=>Below W.heap.size W w'∧∃C,e=.returned (.agg C)∧Nums C (M.count [] 0 a.frags)):=fun W hW=>count_any a.frags [] 0 a1 none c1 0 W (hfX.later hW) (strsAt_nil W) hna ⟨by omega,by omega⟩
   have KM:Hid (∀C W,Nums C (M.count [] 0 a.frags)→Below wr.heap.size wr W→Calls Tryz.prog 51 #[.agg #[sv a1 a.frags.length c1,sv a2 a.defs.length c2],.agg C] W fun e w' =>
     Below W.heap.size W w'∧∃es vF vD,e=.returned (.agg #[vF,vD])∧PR w' W.heap.size es (M.movedDefs (M.count [] 0 a.frags) a.defs) vF vD∧es.map (·.f)=M.movedFrags (M.count [] 0 a.frags) a.frags):=fun C W hC hW=>moved_any a.frags a.defs _ C a1 a2 c1 c2 W hC (M.count_length _ _ _) (hfX.later hW) (hdX.later hW) hma
   have hA0:Below wr.heap.size wr wr.drew:=(Below.refl _ _).drew
   have hA1:Below wr.heap.size wr (wr.drew.alloc (.cells #[sv none 0 0,sv none 0 0] 43)):=hA0.alloc (Nat.le_refl _) _
   clear hJ
   go_cut [9] (fun s9 wx=>∃b9 es vF vD,s9=qv b9 0∧Holds w wx #[sv a1 a.frags.length c1,sv a2 a.defs.length c2] #[sv b1 b.frags.length d1,sv b2 b.defs.length d2] b9 es (M.movedDefs (M.count [] 0 a.frags) a.defs) vF vD∧Hid (es.map (·.f)=M.movedFrags (M.count [] 0 a.frags) a.frags)∧Below wr.heap.size wr wx)
   case first =>
    go_region_held3 (fun w'=>w'.cell? (qa w.heap.size 0)=some (sv a1 a.frags.length c1)∧w'.cell? (qa w.heap.size 1)=some (sv a2 a.defs.length c2)) (first|exact HS.out _ hA0|exact HS.out _ hA1|exact HS.out _ hX2|exact HS.out _ hX1|exact HS.out _ (hX1.alloc hX1.size _)|exact HS.out _ (hX2.alloc hX2.size _)|exact HS.out _ (Below.setCell (Below.setCell hX2 (by first|exact Nat.le_refl _|exact hX1.size) _) (by first|exact Nat.le_refl _|exact hX1.size) _)) (first|(go_at_call 52;refine(KC.out _ (by first|exact hA0|exact hA1)).mono ?_;rintro e w1 ⟨hb1,C,rfl,hC1⟩;have hX1:Below wr.heap.size wr w1:=(by first|exact hA0.trans (hb1.mono hA0.size)|exact hA1.trans (hb1.mono hA1.size));try (have hq1:w1.heap[wr.heap.size]?=some (.cells #[sv none 0 0,sv none 0 0] 43 (0,0)):=(hb1.block _ (by simp)).trans (heap_alloc_new wr.drew _)))|(go_at_call 51;refine(KM.out _ _ hC1 (by first|exact hX1|exact hX1.alloc hX1.size _)).mono ?_;rintro e w2 ⟨hb2,es,vF,vD,rfl,hP2,hes⟩;have hX2:Below wr.heap.size wr w2:=(by first|exact hX1.trans (hb2.mono hX1.size)|exact(hX1.alloc hX1.size _).trans (hb2.mono (hX1.alloc hX1.size _).size));obtain⟨aV,nV,cV,rfl⟩:=own_form hP2.rowF;obtain⟨aW,nW,cW,rfl⟩:=own_form hP2.rowD;first|(have hcc:Below w1.heap.size w1 w2:=hb2;first|(have hq2:w2.heap[wr.heap.size]?=some (.cells #[sv none 0 0,sv none 0 0] 43 (0,0)):=(hb2.block _ (lt1 hq1)).trans hq1;have k0:=cellC hq2 0 rfl;have k1:=cellC hq2 1 rfl;have f0:=frozenB hq2 0;have f1:=frozenB hq2 1)|skip)|(have hq2:w2.heap[w1.heap.size]?=some (.cells #[sv none 0 0,sv none 0 0] 43 (0,0)):=(hb2.block _ (by simp)).trans (heap_alloc_new w1 _);have k0:=cellC hq2 0 rfl;have k1:=cellC hq2 1 rfl;have f0:=frozenB hq2 0;have f1:=frozenB hq2 1)))
    all_goals
     have hz0:=lt1 HJ.out.q2
     have hz1:=hX1.size
     have hz2:=hX2.size
     go_wp2_with fail
     go_meet
     first
      | exact⟨_,es,_,_,rfl,holds_new (HJ.out.later hX2) hP2 (by omega),hes,hX2.alloc hX2.size _⟩
      | exact⟨_,es,_,_,rfl,holds_set (HJ.out.later hX2) hq2 hP2 (by omega) (by omega),hes,Below.setCell (Below.setCell hX2 (by first|exact Nat.le_refl _|exact hX1.size) _) (by first|exact Nat.le_refl _|exact hX1.size) _⟩
      | exact⟨_,es,_,_,rfl,holds_set (HJ.out.later hX2) hq2 hP2 (by simp;omega) (by omega),hes,Below.setCell (Below.setCell hX2 (by first|exact Nat.le_refl _|exact hX1.size) _) (by first|exact Nat.le_refl _|exact hX1.size) _⟩
   case rest =>
    obtain⟨b9,es,vF,vD,rfl,hH,HE,hbx⟩:=hcut
    have HH:Hid (Holds w wc #[sv a1 a.frags.length c1,sv a2 a.defs.length c2] #[sv b1 b.frags.length d1,sv b2 b.defs.length d2] b9 es (M.movedDefs (M.count [] 0 a.frags) a.defs) vF vD):=hH
    have hfX:=hfX.later hbx
    have hfY:=hfY.later hbx
    have hdY:=hdY.later hbx
    have hb9:=lt1 hH.blk
    clear hH HS KC KM hA0 hA1 HJ hma hdX hbx
    have hwc:w.heap.size≤wc.heap.size:=HH.out.jv.below.size
    have HS:Hid (∀W,Below wc.heap.size wc W→(W.cell? (qa w.heap.size 0)=some (sv a1 a.frags.length c1)∧W.cell? (qa (w.heap.size+1) 0)=some (sv b1 b.frags.length d1)∧W.cell? (qa (w.heap.size+1) 1)=some (sv b2 b.defs.length d2))):=fun W hW=>by
     have y:=(HH.out.jv.later hW)
     exact⟨cellB y.q0 0,cellB y.q1 0,cellB y.q1 1⟩
    have KG:Hid (∀W,Below wc.heap.size wc W→Calls Tryz.prog 53 #[sv a1 a.frags.length c1] W fun e w'=>Below W.heap.size W w'∧∃ga gc,e=.returned (sv ga (M.groups a.frags).length gc)∧StrsAt w' (sv ga (M.groups a.frags).length gc) (M.groups a.frags)):=fun W hW=>by
     refine(groups_any a.frags a1 c1 W (hfX.later hW) hna).mono ?_
     rintro e w' ⟨hb,v,rfl,_,hs⟩
     obtain⟨x,y,rfl,_⟩:=hs.1.form
     exact⟨hb,x,y,rfl,hs⟩
    have KC:Hid (∀ga gc W,StrsAt W (sv ga (M.groups a.frags).length gc) (M.groups a.frags)→Below wc.heap.size wc W→Calls Tryz.prog 52 #[sv b1 b.frags.length d1,sv ga (M.groups a.frags).length gc,iv a.frags.length] W fun e w'=>Below W.heap.size W w'∧∃C,e=.returned (.agg C)∧Nums C (M.count (M.groups a.frags) a.frags.length b.frags)):=fun ga gc W hs hW=>count_any b.frags (M.groups a.frags) a.frags.length b1 ga d1 gc W (hfY.later hW) hs hnb ⟨by omega,by omega⟩
    have KM:Hid (∀C W,Nums C (M.count (M.groups a.frags) a.frags.length b.frags)→Below wc.heap.size wc W→Calls Tryz.prog 51 #[.agg #[sv b1 b.frags.length d1,sv b2 b.defs.length d2],.agg C] W fun e w' =>
      Below W.heap.size W w'∧∃es vF vD,e=.returned (.agg #[vF,vD])∧PR w' W.heap.size es (M.movedDefs (M.count (M.groups a.frags) a.frags.length b.frags) b.defs) vF vD∧es.map (·.f)=M.movedFrags (M.count (M.groups a.frags) a.frags.length b.frags) b.frags):=fun C W hC hW=>moved_any b.frags b.defs _ C b1 b2 d1 d2 W hC (M.count_length _ _ _) (hfY.later hW) (hdY.later hW) hmb
    have hA0:Below wc.heap.size wc wc.drew:=(Below.refl _ _).drew
    have hA1:Below wc.heap.size wc (wc.drew.alloc (.cells #[sv none 0 0,sv none 0 0] 43)):=hA0.alloc (Nat.le_refl _) _
    go_upto_region 9 with fail
    go_cut [10] (fun s10 wx=>∃b10 es' vF' vD',s10=qv b10 0∧Holds w wx #[sv a1 a.frags.length c1,sv a2 a.defs.length c2] #[sv b1 b.frags.length d1,sv b2 b.defs.length d2] b10 es' (M.movedDefs (M.count (M.groups a.frags) a.frags.length b.frags) b.defs) vF' vD'∧Hid (es'.map (·.f)=M.movedFrags (M.count (M.groups a.frags) a.frags.length b.frags) b.frags)∧Holds w wx #[sv a1 a.frags.length c1,sv a2 a.defs.length c2] #[sv b1 b.frags.length d1,sv b2 b.defs.length d2] b9 es (M.movedDefs (M.count [] 0 a.frags) a.defs) vF vD∧b9<b10)
    case first =>
     go_region_held3 (fun w'=>w'.cell? (qa w.heap.size 0)=some (sv a1 a.frags.length c1)∧w'.cell? (qa (w.heap.size+1) 0)=some (sv b1 b.frags.length d1)∧w'.cell? (qa (w.heap.size+1) 1)=some (sv b2 b.defs.length d2)) (first|exact HS.out _ hA0|exact HS.out _ hA1|exact HS.out _ hX3|exact HS.out _ hX2|exact HS.out _ hX1|exact HS.out _ (hX1.alloc hX1.size _)|exact HS.out _ (hX2.alloc hX2.size _)|exact HS.out _ (hX3.alloc hX3.size _)|exact HS.out _ (Below.setCell (Below.setCell hX3 (by first|exact Nat.le_refl _|exact hX1.size|exact hX2.size) _) (by first|exact Nat.le_refl _|exact hX1.size|exact hX2.size) _)) (first|(go_at_call 53;refine(KG.out _ (by first|exact hA0|exact hA1)).mono ?_;rintro e w1 ⟨hb1,ga,gc,rfl,hSt⟩;have hX1:Below wc.heap.size wc w1:=(by first|exact hA0.trans (hb1.mono hA0.size)|exact hA1.trans (hb1.mono hA1.size));first|(have hcc1:Below wc.drew.heap.size wc.drew w1:=hb1)|(have hqA:w1.heap[wc.heap.size]?=some (.cells #[sv none 0 0,sv none 0 0] 43 (0,0)):=(hb1.block _ (by simp)).trans (heap_alloc_new wc.drew _)))|(go_at_call 52;refine(KC.out _ _ _ (by first|exact hSt|exact hSt.later (bra _ _)) (by first|exact hX1|exact hX1.alloc hX1.size _)).mono ?_;rintro e w2 ⟨hb2,C,rfl,hC1⟩;have hX2:Below wc.heap.size wc w2:=(by first|exact hX1.trans (hb2.mono hX1.size)|exact(hX1.alloc hX1.size _).trans (hb2.mono (hX1.alloc hX1.size _).size));first|(have hcc2:Below w1.heap.size w1 w2:=hb2;first|(have hqA2:w2.heap[wc.heap.size]?=some (.cells #[sv none 0 0,sv none 0 0] 43 (0,0)):=(hb2.block _ (lt1 hqA)).trans hqA)|skip)|(have hqB:w2.heap[w1.heap.size]?=some (.cells #[sv none 0 0,sv none 0 0] 43 (0,0)):=(hb2.block _ (by simp)).trans (heap_alloc_new w1 _)))|(go_at_call 51;refine(KM.out _ _ hC1 (by first|exact hX2|exact hX2.alloc hX2.size _)).mono ?_;rintro e w3 ⟨hb3,es',vF',vD',rfl,hP3,hes⟩;have hX3:Below wc.heap.size wc w3:=(by first|exact hX2.trans (hb3.mono hX2.size)|exact(hX2.alloc hX2.size _).trans (hb3.mono (hX2.alloc hX2.size _).size));obtain⟨aV,nV,cV,rfl⟩:=own_form hP3.rowF;obtain⟨aW,nW,cW,rfl⟩:=own_form hP3.rowD;first|(have hcc3:Below w2.heap.size w2 w3:=hb3;first|(have hq:w3.heap[wc.heap.size]?=some (.cells #[sv none 0 0,sv none 0 0] 43 (0,0)):=(hb3.block _ (lt1 hqA2)).trans hqA2;have k0:=cellC hq 0 rfl;have k1:=cellC hq 1 rfl;have f0:=frozenB hq 0;have f1:=frozenB hq 1)|(have hq:w3.heap[w1.heap.size]?=some (.cells #[sv none 0 0,sv none 0 0] 43 (0,0)):=(hb3.block _ (lt1 hqB)).trans hqB;have k0:=cellC hq 0 rfl;have k1:=cellC hq 1 rfl;have f0:=frozenB hq 0;have f1:=frozenB hq 1)|skip)|(have hq:w3.heap[w2.heap.size]?=some (.cells #[sv none 0 0,sv none 0 0] 43 (0,0)):=(hb3.block _ (by simp)).trans (heap_alloc_new w2 _);have k0:=cellC hq 0 rfl;have k1:=cellC hq 1 rfl;have f0:=frozenB hq 0;have f1:=frozenB hq 1)))
     all_goals
      have hz1:=hX1.size
      have hz2:=hX2.size
      have hz3:=hX3.size
      go_wp2_with fail
      go_meet
      first
       | exact⟨_,es',_,_,rfl,holds_new (HH.out.jv.later hX3) hP3 (by omega),hes,HH.out.later (hX3.alloc hX3.size _),by omega⟩
       | exact⟨_,es',_,_,rfl,holds_set (HH.out.jv.later hX3) hq hP3 (by omega) (by have:=HH.out.lt;omega),hes,((HH.out.later hX3).set hq (by omega)).set (setB' hq _) (by omega),by omega⟩
       | exact⟨_,es',_,_,rfl,holds_set (HH.out.jv.later hX3) hq hP3 (by simp;omega) (by have:=HH.out.lt;omega),hes,((HH.out.later hX3).set hq (by omega)).set (setB' hq _) (by omega),by omega⟩
    case rest =>
     obtain⟨b10,es',vF',vD',rfl,hH',HE',hH,hbb⟩:=hcut
     have HB:Hid (M.both a b=⟨(es++es').map (·.f),M.movedDefs (M.count [] 0 a.frags) a.defs++M.movedDefs (M.count (M.groups a.frags) a.frags.length b.frags) b.defs⟩):=by
      show (⟨_,_⟩:M.Prt)=_
      rw[List.map_append,HE.out,HE'.out];rfl
     have HJn:Hid (M.join a b=bif M.full (M.both a b) then (M.nil,10) else (M.both a b,0)):=by
      rw[Hid];unfold M.join
      rw[if_pos ((M.ok_iff a).2 HOa.out),if_pos ((M.ok_iff b).2 HOb.out)]
     have hne1:es.length≤60:=by
      have h1:(es.map (·.f)).length=es.length:=List.length_map ..
      rw[←h1,HE.out]
      exact Nat.le_trans (movedFrags_le _ _) hna
     have hne2:es'.length≤60:=by
      have h1:(es'.map (·.f)).length=es'.length:=List.length_map ..
      rw[←h1,HE'.out]
      exact Nat.le_trans (movedFrags_le _ _) hnb
     have hnd1:(M.movedDefs (M.count [] 0 a.frags) a.defs).length≤60:=Nat.le_trans (movedDefs_le _ _) HOa.out.nd
     have hnd2:(M.movedDefs (M.count (M.groups a.frags) a.frags.length b.frags) b.defs).length≤60:=Nat.le_trans (movedDefs_le _ _) HOb.out.nd
     clear HE HE' HOa HOb HS KG KC KM hA0 hA1 HH hfX hfY hdY hmb hna hnb hb9 hwc
     generalize M.movedDefs (M.count [] 0 a.frags) a.defs=gs at *
     generalize M.movedDefs (M.count (M.groups a.frags) a.frags.length b.frags) b.defs=gs' at *
     generalize M.both a b=bo at *
     subst HB
     obtain⟨i0,hi0,hz0,hz1,hz2⟩:=info_parts (P:=Tryz.prog) (e:=87) (z:=.agg #[iv 0,iv 0,.string ⟨#[]⟩,sv none 0 0,iv 0,sv none 0 0]) (size:=6) (bytes:=88) (by kernel_rfl)
     obtain⟨i1,hi1,hy0,hy1,hy2⟩:=info_parts (P:=Tryz.prog) (e:=72) (z:=.agg #[.string ⟨#[]⟩,iv 0,iv 0,iv 0,iv 0,iv 0]) (size:=6) (bytes:=56) (by kernel_rfl)
     have HY:Hid (Holds w wc #[sv a1 a.frags.length c1,sv a2 a.defs.length c2] #[sv b1 b.frags.length d1,sv b2 b.defs.length d2] b9 es gs vF vD):=hH
     have HY':Hid (Holds w wc #[sv a1 a.frags.length c1,sv a2 a.defs.length c2] #[sv b1 b.frags.length d1,sv b2 b.defs.length d2] b10 es' gs' vF' vD'):=hH'
     have hb10:=lt1 hH'.blk
     have hwY:w.heap.size≤wc.heap.size:=hH.jv.below.size
     obtain⟨x1,y1,rfl⟩:=own_len hH.pr.rowF
     obtain⟨x2,y2,rfl⟩:=own_len hH.pr.rowD
     obtain⟨x3,y3,rfl⟩:=own_len hH'.pr.rowF
     obtain⟨x4,y4,rfl⟩:=own_len hH'.pr.rowD
     have k90:wc.cell? (qa b9 0)=some (sv x1 es.length y1):=cellB hH.blk 0
     have k100:wc.cell? (qa b10 0)=some (sv x3 es'.length y3):=cellB hH'.blk 0
     have hown1:=hH.pr.rowF
     have hsrc1:=row_src hH'.pr.rowF
     have hone1:=hH'.pr.one
     clear hH hH'
     go_upto_region 11 with (at_builtin;refine wpList_append_src _ rfl _ _ 40 rfl w.heap.size 87 i0 (.agg #[iv 0,iv 0,.string ⟨#[]⟩,sv none 0 0,iv 0,sv none 0 0]) 6 88 Tryz.underlying40 hi0 hz0 hz1 hz2 rfl (by decide) (sv x1 es.length y1) es.length (es.flatMap entCells) rfl hown1 (sv x3 es'.length y3) es'.length (es'.flatMap entCells) rfl hsrc1 (flat_len6 _ (fun _=>rfl) _) hone1 (by unfold maxLen;omega) (by omega) (by omega) ?_;intro v' w3 hown3 hgrow3;have hn3:=block_kept HY.out.pr.rowF hgrow3 HY.out.blk (by decide);have k3:=cellC hn3 0 rfl;have f3:=frozenB hn3 0;obtain⟨x5,y5,rfl⟩:=own_len hown3)
     obtain⟨hH3,hb3,hD3⟩:=holds_addF HY.out HY'.out hbb hgrow3 hown3
     have HSm:Hid (∀d∈gs',d.name.size≤maxLen):=HY'.out.pr.smallD
     clear HY HY' hown1 hsrc1 hone1 hown3 hgrow3 hn3 k3 f3 k90 k100
     generalize w3.setCell (qa b9 0) (sv x5 (es.length+es'.length) y5)=Y2 at *
     have HY:Hid (Holds w Y2 #[sv a1 a.frags.length c1,sv a2 a.defs.length c2] #[sv b1 b.frags.length d1,sv b2 b.defs.length d2] b9 (es++es') gs (sv x5 (es.length+es'.length) y5) (sv x2 gs.length y2)):=hH3
     have k91:Y2.cell? (qa b9 1)=some (sv x2 gs.length y2):=cellB hH3.blk 1
     have k101:=cellC hb3 1 rfl
     have hown1:=hH3.pr.rowD
     have hsrc1:=row_src hD3
     have hwY2:w.heap.size≤Y2.heap.size:=hH3.jv.below.size
     have hb9':=lt1 hH3.blk
     have hb10':=lt1 hb3
     clear hH3 hb3 hD3
     go_upto_region 12 with (at_builtin;refine wpList_append_src _ rfl _ _ 41 rfl w.heap.size 72 i1 (.agg #[.string ⟨#[]⟩,iv 0,iv 0,iv 0,iv 0,iv 0]) 6 56 Tryz.underlying41 hi1 hy0 hy1 hy2 rfl (by decide) (sv x2 gs.length y2) gs.length (gs.flatMap encDfn) rfl hown1 (sv x4 gs'.length y4) gs'.length (gs'.flatMap encDfn) rfl hsrc1 (flat_len6 _ (fun _=>rfl) _) (defs_one gs') (by unfold maxLen;omega) (by omega) (by omega) ?_;intro v' w4 hown4 hgrow4;have hn4:=block_kept HY.out.pr.rowD hgrow4 HY.out.blk (by decide);have k4:=cellC hn4 1 rfl;have f4:=frozenB hn4 1;obtain⟨x6,y6,rfl⟩:=own_len hown4)
     have hH4:=holds_addD HY.out hgrow4 hown4 HSm.out
     clear HY hown1 hsrc1 hown4 hgrow4 hn4 k4 f4 k91 k101 hb9' hb10'
     generalize w4.setCell (qa b9 1) (sv x6 (gs.length+gs'.length) y6)=Y3 at *
     have HY:Hid (Holds w Y3 #[sv a1 a.frags.length c1,sv a2 a.defs.length c2] #[sv b1 b.frags.length d1,sv b2 b.defs.length d2] b9 (es++es') (gs++gs') (sv x5 (es.length+es'.length) y5) (sv x6 (gs.length+gs'.length) y6)):=hH4
     have k90:Y3.cell? (qa b9 0)=some (sv x5 (es.length+es'.length) y5):=cellB hH4.blk 0
     have k91:Y3.cell? (qa b9 1)=some (sv x6 (gs.length+gs'.length) y6):=cellB hH4.blk 1
     have hb9':=lt1 hH4.blk
     have hlt9:=hH4.lt
     clear hH4
     by_cases hn:60<es.length+es'.length
     ·have hd1:decide (60<(es.length:Int)+(es'.length:Int))=true:=by simp;omega
      have hfull:M.full ⟨(es++es').map (·.f),gs++gs'⟩=true:=by simp[M.full];omega
      have HJ2:Hid (M.join a b=(M.nil,10)):=by rw[Hid,HJn.out,hfull];rfl
      have y2:=HY.out.jv.q2
      have c20:=cellC y2 0 rfl
      have c21:=cellC y2 1 rfl
      have f20:=frozenB y2 0
      have f21:=frozenB y2 1
      have HB1:Hid (Below w.heap.size w ((Y3.setCell (qa (w.heap.size+1+1) 0) (sv none 0 0)).setCell (qa (w.heap.size+1+1) 1) (sv none 0 0))):=(HY.out.jv.below.setCell (by show w.heap.size≤w.heap.size+1+1;omega) _).setCell (by show w.heap.size≤w.heap.size+1+1;omega) _
      clear y2 HJn
      go_wp2
      refine bodyPost_ret (v:=.tuple #[.agg #[sv none 0 0,sv none 0 0],iv 10]) (by simp[results,Tryz.results22,go_sem,c20,c21]) rfl ?_
      exact⟨HB1.out,[],_,_,by rw[HJ2.out],by rw[HJ2.out];exact PR.nil _ _,by rw[HJ2.out];rfl⟩
     ·have hd1:decide (60<(es.length:Int)+(es'.length:Int))=false:=by simp;omega
      by_cases hm:60<gs.length+gs'.length
      ·have hd2:decide (60<(gs.length:Int)+(gs'.length:Int))=true:=by simp;omega
       have hfull:M.full ⟨(es++es').map (·.f),gs++gs'⟩=true:=by simp[M.full];omega
       have HJ2:Hid (M.join a b=(M.nil,10)):=by rw[Hid,HJn.out,hfull];rfl
       have y2:=HY.out.jv.q2
       have c20:=cellC y2 0 rfl
       have c21:=cellC y2 1 rfl
       have f20:=frozenB y2 0
       have f21:=frozenB y2 1
       have HB1:Hid (Below w.heap.size w ((Y3.setCell (qa (w.heap.size+1+1) 0) (sv none 0 0)).setCell (qa (w.heap.size+1+1) 1) (sv none 0 0))):=(HY.out.jv.below.setCell (by show w.heap.size≤w.heap.size+1+1;omega) _).setCell (by show w.heap.size≤w.heap.size+1+1;omega) _
       clear y2 HJn
       go_wp2
       refine bodyPost_ret (v:=.tuple #[.agg #[sv none 0 0,sv none 0 0],iv 10]) (by simp[results,Tryz.results22,go_sem,c20,c21]) rfl ?_
       exact⟨HB1.out,[],_,_,by rw[HJ2.out],by rw[HJ2.out];exact PR.nil _ _,by rw[HJ2.out];rfl⟩
      ·have hd2:decide (60<(gs.length:Int)+(gs'.length:Int))=false:=by simp;omega
       have hfull:M.full ⟨(es++es').map (·.f),gs++gs'⟩=false:=by simp[M.full];omega
       have HJ2:Hid (M.join a b=(⟨(es++es').map (·.f),gs++gs'⟩,0)):=by rw[Hid,HJn.out,hfull];rfl
       have q2:=HY.out.jv.q2
       have c20:=cellC q2 0 rfl
       have c21:=cellC q2 1 rfl
       have f20:=frozenB q2 0
       have f21:=frozenB q2 1
       have z0:(Y3.setCell (qa (w.heap.size+1+1) 0) (sv x5 (es.length+es'.length) y5)).heap[w.heap.size+1+1]?=some (.cells #[sv x5 (es.length+es'.length) y5,sv none 0 0] 43 (0,0)):=setB' q2 _
       have HP:Hid (PR ((Y3.setCell (qa (w.heap.size+1+1) 0) (sv x5 (es.length+es'.length) y5)).setCell (qa (w.heap.size+1+1) 1) (sv x6 (gs.length+gs'.length) y6)) w.heap.size (es++es') (gs++gs') (sv x5 (es.length+es'.length) y5) (sv x6 (gs.length+gs'.length) y6)):=(HY.out.pr.set q2).set z0
       have HB1:Hid (Below w.heap.size w ((Y3.setCell (qa (w.heap.size+1+1) 0) (sv x5 (es.length+es'.length) y5)).setCell (qa (w.heap.size+1+1) 1) (sv x6 (gs.length+gs'.length) y6))):=(HY.out.jv.below.setCell (by show w.heap.size≤w.heap.size+1+1;omega) _).setCell (by show w.heap.size≤w.heap.size+1+1;omega) _
       clear q2 z0 HJn
       go_wp2
       refine bodyPost_ret (v:=.tuple #[.agg #[sv x5 (es.length+es'.length) y5,sv x6 (gs.length+gs'.length) y6],iv 0]) (by simp[results,Tryz.results22,go_sem,c20,c21]) rfl ?_
       exact⟨HB1.out,es++es',_,_,by rw[HJ2.out],by rw[HJ2.out];exact HP.out,by rw[HJ2.out]⟩
def Above (B:Nat) (w X:World):Prop:=∀k,B≤k→k<w.heap.size→X.heap[k]?=w.heap[k]?
theorem row_above{w X:World}{B k n:Nat}{e:TypeId}{v:Value}{xs:List Value}(h:w.ownsRow B e k v n xs)(ha:Above B w X):X.ownsRow B e k v n xs:=by
 refine⟨h.1,?_⟩
 rcases h.2 with h1|⟨g,cap,cur,h1,hb,h2,h3⟩
 ·exact .inl h1
 ·exact .inr ⟨g,cap,cur,h1,hb,(ha g hb (lt1 h2)).trans h2,h3⟩
theorem PR.above{w X:World}{B:Nat}{es:List Ent}{ds:List M.Dfn}{vF vD:Value}(h:PR w B es ds vF vD)(ha:Above B w X):PR X B es ds vF vD :=
 ⟨row_above h.rowF ha,row_above h.rowD ha,fun e he=>row_above (h.bytes e he) ha,h.small,h.smallD,fun e he=>row_above (h.rels e he) ha⟩
theorem above_set(w:World)(B b i:Nat)(u:Value)(hb:b<B):Above B w (w.setCell (qa b i) u):=fun k hk _=>Below.heap_setCell _ _ _ _ (by show k≠b;omega)
end Go.Proofs.YtpkfmfhodbjckaaGreatDoor
namespace Go.Proofs.YtpkfmfhodbjckaaGreatDoor
open Go.RowKit
theorem FragsAt.form{w:World}{v:Value}{fs:List M.Frg}(h:FragsAt w v fs):∃a c,v=sv a fs.length c:=by
 obtain⟨cell,hs,_⟩:=h
 obtain⟨a,c,e,_⟩:=hs.form
 exact⟨a,c,e⟩
theorem DefsAt.form{w:World}{v:Value}{ds:List M.Dfn}(h:DefsAt w v ds):∃a c,v=sv a ds.length c:=by
 obtain⟨a,c,e,_⟩:=h.1.form
 exact⟨a,c,e⟩
def PartsAt (w:World) (v:Value) (ps:List M.Prt):Prop :=
 ∃cell,SlAt w v 2 ps.length cell∧∀j,j<ps.length→FragsAt w (cell j 0) (ps.getD j M.nil).frags∧DefsAt w (cell j 1) (ps.getD j M.nil).defs
theorem PartsAt.later{w w':World}{v:Value}{ps:List M.Prt}(h:PartsAt w v ps)(hb:Below w.heap.size w w'):PartsAt w' v ps :=
 let ⟨cell,h1,h2⟩:=h
 ⟨cell,h1.later hb,fun j hj=>⟨(h2 j hj).1.later hb,(h2 j hj).2.later hb⟩⟩
theorem all_any(ps:List M.Prt)(a:Option Addr)(c:Nat)(w:World)(h:PartsAt w (sv a ps.length c) ps)(h96:ps.length≤96) :
  Calls Tryz.prog 16 #[sv a ps.length c] w fun e w' =>
   Below w.heap.size w w'∧∃es vF vD,e=.returned (.tuple #[.agg #[vF,vD],iv (M.allFrom M.nil ps).2])∧PR w' w.heap.size es (M.allFrom M.nil ps).1.defs vF vD∧es.map (·.f)=(M.allFrom M.nil ps).1.frags:=by
 have hd0:decide (96<(ps.length:Int))=false:=by simp;omega
 go_enter Tryz.func16,Tryz.ntmps16
 go_wp2_with fail
 go_loopw [15] (fun s15 wr=>∃(k:Nat) (p:M.Prt) (es:List Ent) (vF vD:Value),k≤ps.length∧s15=iv k∧wr.heap[w.heap.size]?=some (.cells #[sv none 0 0,sv none 0 0] 43 (0,0))∧wr.heap[w.heap.size+1]?=some (.cells #[vF,vD] 43 (0,0))∧PR wr (w.heap.size+2) es p.defs vF vD∧Hid (es.map (·.f)=p.frags)∧Hid (M.allFrom M.nil ps=M.allFrom p (ps.drop k))∧Hid (Below w.heap.size w wr)) (fun s15 _=>ps.length-(intOf s15).toNat)
 case atStart=>exact⟨0,M.nil,[],_,_,Nat.zero_le _,rfl,heap_alloc2_old _ _ _,heap_alloc2_new _ _ _,PR.nil _ _,rfl,rfl,(bra _ _).alloc (by simp) _⟩
 case round =>
  obtain⟨k,p,es,vF,vD,hk,rfl,q0,q1,hPR,HEs,HR,HB⟩:=hrel
  have hF:FragsAt wr vF p.frags:=by rw[←HEs.out];exact hPR.fragsAt
  have hD:=hPR.defsAt
  obtain⟨x1,y1,rfl⟩:=hF.form
  obtain⟨x2,y2,rfl⟩:=hD.form
  have hl0:=lt1 q0
  have hl1:=lt1 q1
  have hw0:w.heap.size≤wr.heap.size:=by omega
  have c10:=cellC q1 0 rfl
  have c11:=cellC q1 1 rfl
  by_cases hlt:k<ps.length
  ·obtain⟨cell,hs,hc⟩:=h.later HB.out
   obtain⟨b,off,rfl,hce⟩:=hs.at k hlt
   obtain⟨hF',hD'⟩:=hc k hlt
   have e0:=hce 0 (by decide)
   have e1:=hce 1 (by decide)
   rw[Nat.add_zero] at e0
   obtain⟨x3,y3,hx3⟩:=hF'.form
   obtain⟨x4,y4,hx4⟩:=hD'.form
   rw[hx3] at e0 hF'
   rw[hx4] at e1 hD'
   have hbr:b<wr.heap.size:=wlt e0
   have hkl:(k:Int)<(ps.length:Int):=by omega
   have HR1:=HR.out
   rw[drop_getD ps M.nil k hlt] at HR1
   clear HR hs hc hce hx3 hx4 h
   generalize ps.getD k M.nil=q at *
   have HA:Hid (Below wr.heap.size wr (wr.alloc (.cells #[sv x3 q.frags.length y3,sv x4 q.defs.length y4] 43))):=bra _ _
   have KJ:Hid (∀W,Below wr.heap.size wr W→Calls Tryz.prog 22 #[.agg #[sv x1 p.frags.length y1,sv x2 p.defs.length y2],.agg #[sv x3 q.frags.length y3,sv x4 q.defs.length y4]] W fun e w' =>
     Below W.heap.size W w'∧∃es vF vD,e=.returned (.tuple #[.agg #[vF,vD],iv (M.join p q).2])∧PR w' W.heap.size es (M.join p q).1.defs vF vD∧es.map (·.f)=(M.join p q).1.frags):=fun W hW=>join_any p q _ _ _ _ _ _ _ _ W (hF.later hW) (hD.later hW) (hF'.later hW) (hD'.later hW)
   clear hF hD hF' hD' hPR HEs
   simp only[M.allFrom] at HR1
   generalize M.join p q=jn at *
   obtain⟨jp,je⟩:=jn
   simp only at KJ HR1
   go_wp2_with (go_at_call 22;refine(KJ.out _ HA.out).mono ?_;rintro e x5 ⟨hx5,es5,vF5,vD5,rfl,hP5,hes5⟩;obtain⟨z1,z2,rfl⟩:=own_len hP5.rowF;obtain⟨z3,z4,rfl⟩:=own_len hP5.rowD;refine Hid.out ?_)
   have HX5:Hid (Below wr.heap.size wr x5):=HA.out.trans (hx5.mono HA.out.size)
   have y0:=(HX5.out.block _ hl0).trans q0
   have y1':=(HX5.out.block _ hl1).trans q1
   have hx5s:=lt1 y1'
   have hx50:w.heap.size<x5.heap.size:=by omega
   clear q0 q1 c10 c11 hx5 KJ HA e0 e1
   have HB5:Hid (Below w.heap.size w x5):=HB.out.trans (HX5.out.mono hw0)
   clear HX5 HB
   have f10:=frozenB y1' 0
   have f11:=frozenB y1' 1
   have d10:=cellC y1' 0 rfl
   have d11:=cellC y1' 1 rfl
   have f00:=frozenB y0 0
   have f01:=frozenB y0 1
   have d00:=cellC y0 0 rfl
   have d01:=cellC y0 1 rfl
   refine Lib.hid ?_
   by_cases hje:je=0
   ·subst hje
    rw[if_pos rfl] at HR1
    have HR2:Hid (M.allFrom M.nil ps=M.allFrom jp (ps.drop (k+1))):=HR1
    clear HR1
    have a0:Above wr.heap.size.succ x5 (x5.setCell (qa (w.heap.size+1) 0) (sv z1 es5.length z2)):=above_set _ _ _ _ _ (by omega)
    have a1:Above wr.heap.size.succ (x5.setCell (qa (w.heap.size+1) 0) (sv z1 es5.length z2)) ((x5.setCell (qa (w.heap.size+1) 0) (sv z1 es5.length z2)).setCell (qa (w.heap.size+1) 1) (sv z3 jp.defs.length z4)):=above_set _ _ _ _ _ (by omega)
    have hP6:=((show PR x5 wr.heap.size.succ es5 jp.defs _ _ by simpa using hP5).above a0).above a1
    have u0:(x5.setCell (qa (w.heap.size+1) 0) (sv z1 es5.length z2)).heap[w.heap.size+1]?=some (.cells #[sv z1 es5.length z2,sv x2 p.defs.length y2] 43 (0,0)):=setB' y1' _
    have u1:((x5.setCell (qa (w.heap.size+1) 0) (sv z1 es5.length z2)).setCell (qa (w.heap.size+1) 1) (sv z3 jp.defs.length z4)).heap[w.heap.size+1]?=some (.cells #[sv z1 es5.length z2,sv z3 jp.defs.length z4] 43 (0,0)):=setB' u0 _
    have u2:((x5.setCell (qa (w.heap.size+1) 0) (sv z1 es5.length z2)).setCell (qa (w.heap.size+1) 1) (sv z3 jp.defs.length z4)).heap[w.heap.size]?=some (.cells #[sv none 0 0,sv none 0 0] 43 (0,0)):=(Below.heap_setCell _ _ _ _ (by show w.heap.size≠w.heap.size+1;omega)).trans ((Below.heap_setCell _ _ _ _ (by show w.heap.size≠w.heap.size+1;omega)).trans y0)
    have HB6:Below w.heap.size w ((x5.setCell (qa (w.heap.size+1) 0) (sv z1 es5.length z2)).setCell (qa (w.heap.size+1) 1) (sv z3 jp.defs.length z4)):=(HB5.out.setCell (by show w.heap.size≤w.heap.size+1;omega) _).setCell (by show w.heap.size≤w.heap.size+1;omega) _
    have HEnd:Hid (∀o,(((x5.setCell (qa (w.heap.size+1) 0) (sv z1 es5.length z2)).setCell (qa (w.heap.size+1) 1) (sv z3 jp.defs.length z4)).alloc o).heap[w.heap.size]?=some (.cells #[sv none 0 0,sv none 0 0] 43 (0,0))∧(((x5.setCell (qa (w.heap.size+1) 0) (sv z1 es5.length z2)).setCell (qa (w.heap.size+1) 1) (sv z3 jp.defs.length z4)).alloc o).heap[w.heap.size+1]?=some (.cells #[sv z1 es5.length z2,sv z3 jp.defs.length z4] 43 (0,0))∧PR (((x5.setCell (qa (w.heap.size+1) 0) (sv z1 es5.length z2)).setCell (qa (w.heap.size+1) 1) (sv z3 jp.defs.length z4)).alloc o) (w.heap.size+2) es5 jp.defs (sv z1 es5.length z2) (sv z3 jp.defs.length z4)∧Below w.heap.size w (((x5.setCell (qa (w.heap.size+1) 0) (sv z1 es5.length z2)).setCell (qa (w.heap.size+1) 1) (sv z3 jp.defs.length z4)).alloc o)):=fun o=>by
     have hb:=(Below.refl ((x5.setCell (qa (w.heap.size+1) 0) (sv z1 es5.length z2)).setCell (qa (w.heap.size+1) 1) (sv z3 jp.defs.length z4)).heap.size _).alloc (Nat.le_refl _) o
     exact⟨(hb.block _ (lt1 u2)).trans u2,(hb.block _ (lt1 u1)).trans u1,(hP6.base (by simp;omega)).later hb,HB6.trans (hb.mono HB6.size)⟩
    clear a0 a1 hP6 u0 u1 u2 HB6 hP5
    go_wp2_with fail
    go_roundw
    case rel=>exact⟨k+1,jp,es5,_,_,by omega,by go_num,(HEnd.out _).1,(HEnd.out _).2.1,(HEnd.out _).2.2.1,hes5,HR2,(HEnd.out _).2.2.2⟩
    case measure=>simp[intOf];omega
   ·rw[if_neg hje] at HR1
    have HR2:Hid (M.allFrom M.nil ps=(M.nil,je)):=HR1
    have hne:(je !=0)=true:=by simpa using hje
    clear HR1 hje
    have HB6:Hid (∀o,Below w.heap.size w (((x5.setCell (qa w.heap.size 0) (sv none 0 0)).setCell (qa w.heap.size 1) (sv none 0 0)).alloc o)):=fun o=>((HB5.out.setCell (Nat.le_refl _) _).setCell (Nat.le_refl _) _).alloc (by simpa using HB5.out.size) _
    go_wp2
    refine bodyPost_ret (v:=.tuple #[.agg #[sv none 0 0,sv none 0 0],iv je]) (by simp[results,Tryz.results16,go_sem,d00,d01,hx50]) rfl ?_
    exact⟨HB6.out _,[],_,_,by rw[HR2.out],by rw[HR2.out];exact PR.nil _ _,by rw[HR2.out];rfl⟩
  ·have hkl:k=ps.length:=by omega
   have HR2:Hid (M.allFrom M.nil ps=(p,0)):=by rw[Hid,HR.out,List.drop_eq_nil_of_le (by omega)];rfl
   clear HR h
   subst hkl
   have d00:=cellC q0 0 rfl
   have d01:=cellC q0 1 rfl
   have f00:=frozenB q0 0
   have f01:=frozenB q0 1
   have u0:(wr.setCell (qa w.heap.size 0) (sv x1 p.frags.length y1)).heap[w.heap.size]?=some (.cells #[sv x1 p.frags.length y1,sv none 0 0] 43 (0,0)):=setB' q0 _
   have HP:Hid (PR ((wr.setCell (qa w.heap.size 0) (sv x1 p.frags.length y1)).setCell (qa w.heap.size 1) (sv x2 p.defs.length y2)) w.heap.size es p.defs (sv x1 p.frags.length y1) (sv x2 p.defs.length y2)):=((hPR.base (by omega)).set q0).set u0
   have HBe:Hid (Below w.heap.size w ((wr.setCell (qa w.heap.size 0) (sv x1 p.frags.length y1)).setCell (qa w.heap.size 1) (sv x2 p.defs.length y2))):=(HB.out.setCell (Nat.le_refl _) _).setCell (Nat.le_refl _) _
   clear u0 hF hD hPR
   go_wp2
   refine bodyPost_ret (v:=.tuple #[.agg #[sv x1 p.frags.length y1,sv x2 p.defs.length y2],iv 0]) (by simp[results,Tryz.results16,go_sem,d00,d01]) rfl ?_
   exact⟨HBe.out,es,_,_,by rw[HR2.out],by rw[HR2.out];exact HP.out,by rw[HR2.out];exact HEs.out⟩
structure Var (w:World) (b:Nat) (x1 x2:Option Addr) (y1 y2:Nat) (p:M.Prt):Prop where
 blk:w.heap[b]?=some (.cells #[sv x1 p.frags.length y1,sv x2 p.defs.length y2] 43 (0,0))
 fr:FragsAt w (sv x1 p.frags.length y1) p.frags
 df:DefsAt w (sv x2 p.defs.length y2) p.defs
theorem Var.later{w w':World}{b:Nat}{x1 x2:Option Addr}{y1 y2:Nat}{p:M.Prt}(h:Var w b x1 x2 y1 y2 p)(hb:Below w.heap.size w w'):Var w' b x1 x2 y1 y2 p :=
 ⟨(hb.block _ (lt1 h.blk)).trans h.blk,h.fr.later hb,h.df.later hb⟩
theorem Var.c0{w:World}{b:Nat}{x1 x2:Option Addr}{y1 y2:Nat}{p:M.Prt}(h:Var w b x1 x2 y1 y2 p):w.cell? (qa b 0)=some (sv x1 p.frags.length y1):=cellB h.blk 0
theorem Var.c1{w:World}{b:Nat}{x1 x2:Option Addr}{y1 y2:Nat}{p:M.Prt}(h:Var w b x1 x2 y1 y2 p):w.cell? (qa b 1)=some (sv x2 p.defs.length y2):=cellB h.blk 1
theorem Var.lt{w:World}{b:Nat}{x1 x2:Option Addr}{y1 y2:Nat}{p:M.Prt}(h:Var w b x1 x2 y1 y2 p):b<w.heap.size:=lt1 h.blk
theorem var_new{w:World}{x1 x2:Option Addr}{y1 y2:Nat}{p:M.Prt}(hf:FragsAt w (sv x1 p.frags.length y1) p.frags)(hd:DefsAt w (sv x2 p.defs.length y2) p.defs) :
  Var (w.alloc (.cells #[sv x1 p.frags.length y1,sv x2 p.defs.length y2] 43)) w.heap.size x1 x2 y1 y2 p :=
 ⟨heap_alloc_new _ _,hf.later (bra _ _),hd.later (bra _ _)⟩
theorem join_v{a b:M.Prt}{a1 a2 b1 b2:Option Addr}{c1 c2 d1 d2:Nat}{w:World}(hf:FragsAt w (sv a1 a.frags.length c1) a.frags)(hd:DefsAt w (sv a2 a.defs.length c2) a.defs)
  (hf':FragsAt w (sv b1 b.frags.length d1) b.frags) (hd':DefsAt w (sv b2 b.defs.length d2) b.defs) (p:M.Prt) (er:Int) (hj:M.join a b=(p,er)) :
  Calls Tryz.prog 22 #[.agg #[sv a1 a.frags.length c1,sv a2 a.defs.length c2],.agg #[sv b1 b.frags.length d1,sv b2 b.defs.length d2]] w fun e w' =>
   Below w.heap.size w w'∧∃x1 y1 x2 y2,e=.returned (.tuple #[.agg #[sv x1 p.frags.length y1,sv x2 p.defs.length y2],iv er])∧FragsAt w' (sv x1 p.frags.length y1) p.frags∧DefsAt w' (sv x2 p.defs.length y2) p.defs:=by
 refine(join_any a b a1 a2 b1 b2 c1 c2 d1 d2 w hf hd hf' hd').mono ?_
 rintro e w' ⟨hb,es,vF,vD,rfl,hP,hes⟩
 rw[hj] at hP hes ⊢
 have hF:=hP.fragsAt
 rw[hes] at hF
 obtain⟨x1,y1,rfl⟩:=hF.form
 obtain⟨x2,y2,rfl⟩:=hP.defsAt.form
 exact⟨hb,x1,y1,x2,y2,rfl,hF,hP.defsAt⟩
end Go.Proofs.YtpkfmfhodbjckaaGreatDoor
namespace Go.Proofs.YtpkfmfhodbjckaaGreatDoor
open Go Go.RowKit
structure PEnt where
 p:M.Prt
 vF:Value
 vD:Value
def pentCells (e:PEnt):List Value:=[e.vF,e.vD]
def POwn (W:World) (B:Nat) (e:PEnt):Prop:=∃ents,PR W B ents e.p.defs e.vF e.vD∧ents.map (·.f)=e.p.frags
theorem PR.keptR{w w':World}{B B' n:Nat}{es:List Ent}{ds:List M.Dfn}{vF vD v:Value}{xs:List Value}(h:PR w B es ds vF vD)(hr:w.ownsRow B' 43 2 v n xs)(hg:w.grownBy w' v.ownBlock):PR w' B es ds vF vD :=
 ⟨h.rowF.kept hg (own_apart h.rowF hr (by decide)),h.rowD.kept hg (own_apart h.rowD hr (by decide)),fun e he=>(h.bytes e he).kept hg (own_apart (h.bytes e he) hr (by decide)),h.small,h.smallD,fun e he=>(h.rels e he).kept hg (own_apart (h.rels e he) hr (by decide))⟩
end Go.Proofs.YtpkfmfhodbjckaaGreatDoor
