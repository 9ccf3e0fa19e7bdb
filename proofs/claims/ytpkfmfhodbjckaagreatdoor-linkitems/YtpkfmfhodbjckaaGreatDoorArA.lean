/-
  What Choose has in memory; the contract of Choose's first function: a part is taken. The contract of archive.search. The contracts of archive.Check, checkItem, checkFirst. The contract of archive.Choose. Parts and items in rows: what a reader of them finds. Rows of items that grow. The reference's CheckItems.
-/
import Derived.Test.YtpkfmfhodbjckaaGreatDoorArMemX
import Derived.Test.YtpkfmfhodbjckaaGreatDoorRefX
import Derived.Deep.LoopGhost
import Derived.Deep.DeepCutAuto
set_option linter.unusedVariables false
set_option maxHeartbeats 8000000
set_option maxRecDepth 100000
namespace Go.Proofs.YtpkfmfhodbjckaaGreatDoor
open Go Go.RowKit
theorem step_call1{P:Program}{w:World}{ops:Array Oper}{o:Oper}{a:Act}{K:Act→World→Prop}{Q:Exit→Act→World→Prop}{E:Prop}(hgd:o.guard=none)(f:FuncId)(x:Operand)(t:TypeId)
  (ho:o.op=.call { callee:=.value (.func f),args:=#[x],argTypes:=#[t] }) (v:Value) (hx:a.eval x=v) (he:∀args w,(callFunc f args).run P w=.ok (.enter f args) w) {post:Ending→World→Prop} (hc:Calls P f #[v] w post)
  (h:∀e w',post e w'→∃u,e=.returned u∧K (a.put o.dst u) w'):if Region.wanted o (yielded ops a.tmps)=true then Oper.wp P o a w K Q else E:=by
 have hw:Region.wanted o (yielded ops a.tmps)=true:=by simp[Region.wanted,hgd]
 rw[if_pos hw]
 have hrun:(execOp a.eval o).run P w=.ok (.enter f #[v]) w:=by
  simp only[execOp,ho,resolve,invoke,Sem.run_bind,List.map_toArray,List.map_cons,List.map_nil,hx]
  simp[Act.eval,he,go_sem]
 unfold Oper.wp
 rw[hrun,Oper.upon_enter]
 refine hc.mono fun e w' hp=>?_
 obtain⟨u,rfl,hk⟩:=h e w' hp
 exact hk
theorem step_append_srcA{P:Program}{w:World}{ops:Array Oper}{o:Oper}{a:Act}{K:Act→World→Prop}{Q:Exit→Act→World→Prop}{E:Prop}(hgd:o.guard=none)(s x:Operand)(t:TypeId)
  (ho:o.op=.call { callee:=.builtin .append,args:=#[s,x],argTypes:=#[t,t] })
  (base:Nat) (e:TypeId) (i:TypeInfo) (z:Value) (size bytes:Nat) (ht:P.underlying t=some (.slice e)) (hi:P.info? e=some i) (hz:i.zero=some z)
  (hsize:i.size=size) (hby:i.bytes=bytes) (hzs:z.cells.size=size) (hsz:0<size)
  (v:Value) (n:Nat) (xs:List Value) (hs:a.eval s=v) (hown:w.ownsRow base e size v n xs)
  (u:Value) (m:Nat) (news:List Value) (hx:a.eval x=u) (hsrc:Src w u m news) (hl:news.length=m*size) (h1:∀u∈news,u.oneCell'=true)
  (h63:n+m≤maxLen) (hbytes:(n+m)*bytes≤140737488355328) (hbase:base≤w.heap.size)
  (h:∀v' w',w'.ownsRow base e size v' (n+m) (xs++news)→w.grownBy w' v.ownBlock→K (a.put o.dst v') w'):if Region.wanted o (yielded ops a.tmps)=true then Oper.wp P o a w K Q else E:=by
 have hw:Region.wanted o (yielded ops a.tmps)=true:=by simp[Region.wanted,hgd]
 rw[if_pos hw]
 exact wp_append_src w s x t ho base e i z size bytes ht hi hz hsize hby hzs hsz v n xs hs hown u m news hx hsrc hl h1 h63 hbytes hbase h
theorem PR.keptM{w w':World}{B b N:Nat}{es:List Ent}{ds:List M.Dfn}{vF vD:Value}{st:M.St}(h:PR w B es ds vF vD)(hs:StAt w b N st)(hg:w.grownBy w' (some b)):PR w' B es ds vF vD :=
 ⟨h.rowF.kept hg (row_st h.rowF hs),h.rowD.kept hg (row_st h.rowD hs),fun e he=>(h.bytes e he).kept hg (row_st (h.bytes e he) hs),h.small,h.smallD,fun e he=>(h.rels e he).kept hg (row_st (h.rels e he) hs)⟩
theorem PR.setS{w:World}{B b i:Nat}{es:List Ent}{ds:List M.Dfn}{vF vD u:Value}{cs:Array Value}(h:PR w B es ds vF vD)(hb:w.heap[b]?=some (.cells cs 35 (0,0))):PR (w.setCell (qa b i) u) B es ds vF vD :=
 ⟨row_setc h.rowF hb (by decide),row_setc h.rowD hb (by decide),fun e he=>row_setc (h.bytes e he) hb (by decide),h.small,h.smallD,fun e he=>row_setc (h.rels e he) hb (by decide)⟩
structure Ch (w0 W:World) (n8 n9 b N:Nat) (st:M.St) (es:List PEnt) (vO:Value):Prop where
 below:Below w0.heap.size w0 W
 q8:W.heap[n8]?=some (.cells #[vO] 35 (0,0))
 q9:W.heap[n9]?=some (.cells #[.map (some b)] 96 (0,0))
 g8:w0.heap.size≤n8
 gb:w0.heap.size≤b
 st:StAt W b N st
 row:W.ownsRow w0.heap.size 43 2 vO es.length (es.flatMap pentCells)
 parts:∀e∈es,POwn W w0.heap.size e
theorem Ch.later{w0 W X:World}{n8 n9 b N:Nat}{st:M.St}{es:List PEnt}{vO:Value}(h:Ch w0 W n8 n9 b N st es vO)(hb:Below W.heap.size W X):Ch w0 X n8 n9 b N st es vO :=
 ⟨h.below.trans (hb.mono h.below.size),blk hb h.q8,blk hb h.q9,h.g8,h.gb,h.st.later hb,
  h.row.kept (grown_of_below hb none) own_self,fun e he=>let ⟨en,h1,h2⟩:=h.parts e he;⟨en,h1.later hb,h2⟩⟩
theorem Ch.mapped{w0 W X:World}{n8 n9 b N N':Nat}{st st':M.St}{es:List PEnt}{vO:Value}(h:Ch w0 W n8 n9 b N st es vO)(hg:W.grownBy X (some b))(hs:StAt X b N' st'):Ch w0 X n8 n9 b N' st' es vO :=
 ⟨h.below.grown hg h.below.size (fun k hk=>by cases hk;exact h.gb),block_st h.st hg h.q8,block_st h.st hg h.q9,h.g8,h.gb,hs,
  h.row.kept hg (row_st h.row h.st),fun e he=>let ⟨en,h1,h2⟩:=h.parts e he;⟨en,h1.keptM h.st hg,h2⟩⟩
theorem Ch.push{w0 W w5:World}{n8 n9 b N:Nat}{st:M.St}{es:List PEnt}{vO v':Value}{e:PEnt}(h:Ch w0 W n8 n9 b N st es vO)(he:POwn W w0.heap.size e)(hg:W.grownBy w5 vO.ownBlock)
  (hrow:w5.ownsRow w0.heap.size 43 2 v' (es.length+1) (es.flatMap pentCells++pentCells e)):Ch w0 (w5.setCell (qa n8 0) v') n8 n9 b N st (es++[e]) v':=by
 have z8:=block_kept h.row hg h.q8 (by decide)
 have z9:=block_kept h.row hg h.q9 (by decide)
 have hne:n9≠n8:=fun e=>by
  have:=h.q9
  rw[e,h.q8] at this
  cases this
 have hst:StAt w5 b N st:=h.st.kept hg (fun e=>by
  rcases row_st h.row h.st with h1|h1
  ·rw[h1] at e;cases e
  ·exact h1 e)
 have hst2:StAt (w5.setCell (qa n8 0) v') b N st:=hst.kept (grown_set w5 n8 0 v') (fun e=>by
  cases e
  obtain⟨_,_,_,⟨es',clock,hm,_⟩,_⟩:=hst
  rw[hm] at z8
  cases z8)
 refine⟨(h.below.grown hg h.below.size (fun k hk=>(h.row.lt k hk).1)).setCell h.g8 _,setB' z8 v',(Below.heap_setCell _ _ _ _ hne).trans z9,h.g8,h.gb,hst2,?_,fun x hx=>?_⟩
 ·rw[List.length_append,List.flatMap_append]
  have:=row_setc hrow z8 (i:=0) (u:=v') (by decide)
  simpa [List.flatMap_cons] using this
 ·have hx':POwn W w0.heap.size x:=by
   rcases List.mem_append.1 hx with hx|hx
   ·exact h.parts x hx
   ·rw[List.mem_singleton.1 hx];exact he
  obtain⟨en,h1,h2⟩:=hx'
  exact⟨en,(h1.keptR h.row hg).setS z8,h2⟩
def Ag (w w':World):Prop:=∀(k:Nat) (cs:Array Value) (t:TypeId),w.heap[k]?=some (Obj.cells cs t (0,0))→t≠43→t≠35→w'.heap[k]?=some (Obj.cells cs t (0,0))
theorem Ag.refl(w:World):Ag w w:=fun _ _ _ h _ _=>h
theorem Ag.trans{w w' w'':World}(h:Ag w w')(h':Ag w' w''):Ag w w'':=fun k cs t hk h1 h2=>h' k cs t (h k cs t hk h1 h2) h1 h2
theorem Ag.below{w w':World}(h:Below w.heap.size w w'):Ag w w':=fun k cs t hk _ _=>(h.block k (lt1 hk)).trans hk
theorem Ag.map{w w':World}{b N:Nat}{st:M.St}(hs:StAt w b N st)(hg:w.grownBy w' (some b)):Ag w w':=fun k cs t hk _ _=>block_st hs hg hk
theorem own_one{w:World}{B k n:Nat}{e:TypeId}{v:Value}{xs:List Value}(h:w.ownsRow B e k v n xs):v.oneCell'=true:=by
 obtain⟨a,c,rfl⟩:=own_len h
 rfl
theorem room_of{p:M.Prt}(h:M.Ok p):Room p:=room_ok h
theorem takeFn_any(p:M.Prt)(a1 a2:Option Addr)(c1 c2 n8 n9 b N:Nat)(st:M.St)(es:List PEnt)(vO:Value)(w0 w:World)(hfd:∀W,Below w0.heap.size w0 W→FragsAt W (sv a1 p.frags.length c1) p.frags∧DefsAt W (sv a2 p.defs.length c2) p.defs)(hck:M.checkPart p=0)
  (hC:Ch w0 w n8 n9 b N st es vO) (hN:N+540≤1000000000) (hes:es.length≤1000) :
  Calls Tryz.prog 41 #[.agg #[sv a1 p.frags.length c1,sv a2 p.defs.length c2],qv n8 0,qv n9 0] w fun e w'=>e=.returned (.tuple #[])∧∃vF vD vO',Ch w0 w' n8 n9 b (N+540) (M.enter st p) (es++[⟨p,vF,vD⟩]) vO'∧Ag w w':=by
 obtain⟨i0,hi0,hz0,hz1,hz2⟩:=info_parts (P:=Tryz.prog) (e:=43) (z:=.agg #[sv none 0 0,sv none 0 0]) (size:=2) (bytes:=48) (by kernel_rfl)
 have eg:∀args w,(callFunc 42 args).run Tryz.prog w=.ok (.enter 42 args) w:=enters_of Tryz.func42 (by kernel_rfl) rfl
 have hok:=(M.ok_iff p).1 hck
 obtain⟨aO,cO,rfl⟩:=own_len hC.row
 have hA:Below w.heap.size w (w.alloc (.cells #[sv a1 p.frags.length c1,sv a2 p.defs.length c2] 43)):=bra _ _
 have HX:=hC.later hA
 have HLt:Hid (∀k,(sv aO es.length cO).ownBlock=some k→k<w.heap.size):=fun k hk=>(hC.row.lt k hk).2
 have HFd:Hid (∀W,Below w0.heap.size w0 W→FragsAt W (sv a1 p.frags.length c1) p.frags∧DefsAt W (sv a2 p.defs.length c2) p.defs):=hfd
 have hwb:=hC.below
 obtain⟨hf,hd⟩:=hfd w hwb
 have hq:=heap_alloc_new w (.cells #[sv a1 p.frags.length c1,sv a2 p.defs.length c2] 43)
 have KC:Hid (∀W,Below (w.alloc (.cells #[sv a1 p.frags.length c1,sv a2 p.defs.length c2] 43)).heap.size (w.alloc (.cells #[sv a1 p.frags.length c1,sv a2 p.defs.length c2] 43)) W→Calls Tryz.prog 42 #[.agg #[sv a1 p.frags.length c1,sv a2 p.defs.length c2]] W fun e w'=>Below W.heap.size W w'∧∃en vF vD,e=.returned (.agg #[vF,vD])∧PR w' W.heap.size en p.defs vF vD∧en.map (·.f)=p.frags∧en.Pairwise Apart):=fun W hW=>copied_any p a1 a2 c1 c2 W ((hf.later hA).later hW) ((hd.later hA).later hW) (room_of hok)
 clear hf hd hC hok hfd hwb
 go_enter Tryz.func41,Tryz.ntmps41
 go_upto_region 1 with fail
 generalize w.alloc (.cells #[sv a1 p.frags.length c1,sv a2 p.defs.length c2] 43)=X at *
 have hlX:=lt1 hq
 have q0:=cellC hq 0 rfl
 have q1:=cellC hq 1 rfl
 have o8:X.cell? (qa n8 0)=some (sv aO es.length cO):=cellB HX.q8 0
 have hl8:=lt1 HX.q8
 have HXh:Hid (Ch w0 X n8 n9 b N st es (sv aO es.length cO)):=HX
 clear HX
 go_cut [] (fun wx=>∃vF vD vO',Ch w0 wx n8 n9 b N st (es++[⟨p,vF,vD⟩]) vO'∧wx.heap[w.heap.size]?=some (.cells #[sv a1 p.frags.length c1,sv a2 p.defs.length c2] 43 (0,0))∧Ag X wx)
 case first =>
  have HRow:Hid (∀W,Below X.heap.size X W→W.ownsRow w0.heap.size 43 2 (sv aO es.length cO) es.length (es.flatMap pentCells)∧w0.heap.size≤W.heap.size):=fun W hW=>⟨(HXh.out.later hW).row,(HXh.out.later hW).below.size⟩
  have H8:Hid (∀W w5,Below X.heap.size X W→W.grownBy w5 (sv aO es.length cO).ownBlock→w5.heap[n8]?=some (.cells #[sv aO es.length cO] 35 (0,0))):=fun W w5 hW hg=>block_kept (HXh.out.later hW).row hg (HXh.out.later hW).q8 (by decide)
  have HAg:Hid (∀W w5 u,Below X.heap.size X W→W.grownBy w5 (sv aO es.length cO).ownBlock→Ag X (w5.setCell (qa n8 0) u)):=fun W w5 u hW hg=>by
   intro k cs t hk h1 h2
   have hne:k≠n8:=fun e=>by
    have:=HXh.out.q8
    rw[←e,hk] at this
    cases this
    exact h2 rfl
   rw[Below.heap_setCell _ _ _ _ hne]
   exact block_kept (HXh.out.later hW).row hg ((hW.block k (lt1 hk)).trans hk) (fun e=>h1 e.symm)
  have HQ:Hid (∀W w5 u,Below X.heap.size X W→W.grownBy w5 (sv aO es.length cO).ownBlock→(w5.setCell (qa n8 0) u).heap[w.heap.size]?=some (.cells #[sv a1 p.frags.length c1,sv a2 p.defs.length c2] 43 (0,0))):=fun W w5 u hW hg=>by
   have hne:w.heap.size≠n8:=fun e=>by
    have:=HXh.out.q8
    rw[←e,hq] at this
    simp at this
   rw[Below.heap_setCell _ _ _ _ hne,hg.block w.heap.size (Nat.lt_of_lt_of_le hlX hW.size) (fun e=>Nat.lt_irrefl _ (HLt.out _ e.symm)),hW.block _ hlX]
   exact hq
  go_region_law (first|(refine step_call1 (by rfl) 42 (.tmp 5) 43 (by rfl) _ (by rfl) eg (KC.out _ (Below.refl _ _).drew) ?_;rintro e w3 ⟨hb3,en,vF,vD,rfl,hP,hen,_⟩;refine⟨_,rfl,?_⟩;have hX3:Below X.heap.size X w3:=((Below.refl _ _).drew).trans hb3;have o8':w3.cell? (qa n8 0)=some (sv aO es.length cO):=cell_later hX3 o8;have hl8':n8<w3.heap.size:=Nat.lt_of_lt_of_le hl8 hX3.size;have hA3:=hX3.alloc hX3.size (.cells #[vF,vD] 43);have hsrc:Src (w3.alloc (.cells #[vF,vD] 43)) (sv (some (qa w3.heap.size 0)) 1 1) 1 [vF,vD]:=⟨_,_,rfl,.inr ⟨_,rfl,World.news_of_block (heap_alloc_new w3 (.cells #[vF,vD] 43))⟩⟩)|(refine step_append_srcA (by rfl) (.tmp 4) (.tmp 7) 35 (by rfl) w0.heap.size 43 i0 (.agg #[sv none 0 0,sv none 0 0]) 2 48 Tryz.underlying35 hi0 hz0 hz1 hz2 rfl (by decide) _ _ _ (by rfl) (HRow.out _ hA3).1 _ 1 [vF,vD] (by rfl) hsrc (by rfl) (fun u hu=>by simp at hu;rcases hu with rfl|rfl;exact own_one hP.rowF;exact own_one hP.rowD) (by unfold maxLen;omega) (by omega) (HRow.out _ hA3).2 ?_;intro v5 w5 ho5 hg5;have z8:=H8.out _ _ hA3 hg5;have c8:=cellC z8 0 rfl;have f8:=frozenB z8 0;obtain⟨a5,c5,rfl⟩:=own_len ho5))
  all_goals
   go_wp2_with fail
   go_meet
   have hfin:=(HXh.out.later hA3).push (e:=⟨p,vF,vD⟩) ⟨en,(hP.base (by exact HXh.out.below.size)).later (bra _ _),hen⟩ hg5 ho5
   exact⟨vF,vD,_,hfin,HQ.out _ _ _ hA3 hg5,HAg.out _ _ _ hA3 hg5⟩
 case rest =>
  obtain⟨vF,vD,vO',hC,hqx,hag⟩:=hcut
  have HAg:Hid (Ag w wc):=(Ag.below hA).trans hag
  clear hag
  obtain⟨hf,hd⟩:=HFd.out _ hC.below
  have KE:Hid (Calls Tryz.prog 43 #[.map (some b),.agg #[sv a1 p.frags.length c1,sv a2 p.defs.length c2]] wc fun e w'=>e=.returned (.tuple #[])∧StAt w' b (N+540) (M.enter st p)∧wc.grownBy w' (some b)):=enter_any p a1 a2 c1 c2 b N st wc hf hd hck hC.st hN
  have k0:=cellC hqx 0 rfl
  have k1:=cellC hqx 1 rfl
  have k9:wc.cell? (qa n9 0)=some (.map (some b)):=cellB hC.q9 0
  have HC:Hid (Ch w0 wc n8 n9 b N st (es++[⟨p,vF,vD⟩]) vO'):=hC
  clear hC hqx hf hd HXh KC q0 q1 o8 hl8 hlX hq hA HLt HFd
  go_wp2_with (go_at_call 43;refine KE.out.mono ?_;rintro e w6 ⟨rfl,hS6,hg6⟩)
  refine bodyPost_end (v:=.tuple #[]) (by simp[results,Tryz.results41,go_sem]) rfl ?_
  exact⟨rfl,vF,vD,vO',HC.out.mapped hg6 hS6,HAg.out.trans (Ag.map HC.out.st hg6)⟩
structure SI (w0 W:World) (n6 n8 n9 b N0 e0:Nat) (s:M.Ars) (es:List PEnt) (vO:Value):Prop where
 ch:∃N,N≤N0+540*M.cnt s.tk∧Ch w0 W n8 n9 b N s.st es vO
 out:es.map (·.p)=s.out
 len:es.length≤e0+M.cnt s.tk
 q6:W.heap[n6]?=some (.cells (s.tk.map Value.bool).toArray 137 (0,0))
 tl:s.tk.length=8
theorem SI.later{w0 W X:World}{n6 n8 n9 b N0 e0:Nat}{s:M.Ars}{es:List PEnt}{vO:Value}(h:SI w0 W n6 n8 n9 b N0 e0 s es vO)(hb:Below W.heap.size W X):SI w0 X n6 n8 n9 b N0 e0 s es vO :=
 let ⟨N,h1,h2⟩:=h.ch
 ⟨⟨N,h1,h2.later hb⟩,h.out,h.len,blk hb h.q6,h.tl⟩
theorem part_at{w:World}{a:Option Addr}{c:Nat}{ps:List M.Prt}(h:PartsAt w (sv a ps.length c) ps)(j:Nat)(hj:j<ps.length) :
  ∃b off a1 a2 c1 c2,a=some (qa b off)∧w.cell? (qa b (off+j*2))=some (sv a1 (ps.getD j M.nil).frags.length c1)∧w.cell? (qa b (off+j*2+1))=some (sv a2 (ps.getD j M.nil).defs.length c2)
   ∧ FragsAt w (sv a1 (ps.getD j M.nil).frags.length c1) (ps.getD j M.nil).frags∧DefsAt w (sv a2 (ps.getD j M.nil).defs.length c2) (ps.getD j M.nil).defs:=by
 obtain⟨cell,h1,h2⟩:=h
 obtain⟨b,off,e,hc⟩:=h1.at j hj
 obtain⟨hf,hd⟩:=h2 j hj
 have c0:=hc 0 (by decide)
 have c1:=hc 1 (by decide)
 have hf':=hf
 obtain⟨cf,hs,_⟩:=hf'
 obtain⟨a1,k1,e1,_⟩:=hs.form
 obtain⟨a2,k2,e2,_⟩:=hd.1.form
 rw[e1] at hf c0
 rw[e2] at hd c1
 exact⟨b,off,a1,a2,k1,k2,e,c0,c1,hf,hd⟩
theorem Ch.setB{w0 W:World}{n8 n9 b N g i:Nat}{st:M.St}{es:List PEnt}{vO u:Value}{cs:Array Value}(h:Ch w0 W n8 n9 b N st es vO)(hg:W.heap[g]?=some (.cells cs 137 (0,0)))(hgw:w0.heap.size≤g):Ch w0 (W.setCell (qa g i) u) n8 n9 b N st es vO:=by
 have n8g:n8≠g:=fun e=>by have:=h.q8;rw[e,hg] at this;cases this
 have n9g:n9≠g:=fun e=>by have:=h.q9;rw[e,hg] at this;cases this
 have hst:StAt (W.setCell (qa g i) u) b N st:=h.st.kept (grown_set W g i u) (fun e=>by
  cases e
  obtain⟨_,_,_,⟨es',clock,hm,_⟩,_⟩:=h.st
  rw[hm] at hg
  cases hg)
 refine⟨h.below.setCell hgw _,(Below.heap_setCell _ _ _ _ n8g).trans h.q8,(Below.heap_setCell _ _ _ _ n9g).trans h.q9,h.g8,h.gb,hst,row_setc h.row hg (by decide),fun e he=>?_⟩
 obtain⟨en,h1,h2⟩:=h.parts e he
 exact⟨en,⟨row_setc h1.rowF hg (by decide),row_setc h1.rowD hg (by decide),fun e he=>row_setc (h1.bytes e he) hg (by decide),h1.small,h1.smallD,fun e he=>row_setc (h1.rels e he) hg (by decide)⟩,h2⟩
def SrOut (w0 w w':World) (n8 n9 b N e0:Nat) (s:M.Ars):Prop:=∃es vO',Ch w0 w' n8 n9 b N s.st es vO'∧es.map (·.p)=s.out∧es.length≤e0+8∧Ag w w'
theorem search_any(parts:List M.Prt)(aP:Option Addr)(cP n8 n9 b N0:Nat)(st:M.St)(es0:List PEnt)(vO:Value)(w0 w:World)(hP:PartsAt w0 (sv aP parts.length cP) parts)(h8:parts.length≤8)(hck:∀p∈parts,M.checkPart p=0)
  (hC:Ch w0 w n8 n9 b N0 st es0 vO) (hN:N0+10000≤1000000000) (hes:es0.length≤900) :
  Calls Tryz.prog 44 #[sv aP parts.length cP,.func (.func 41) #[] #[qv n8 0,qv n9 0],.func (.func 45) #[] #[qv n9 0]] w fun e w'=>e=.returned (.tuple #[])∧SrOut w0 w w' n8 n9 b (N0+4320) es0.length (M.search parts st (es0.map (·.p))):=by
 have hA:Below w.heap.size w (w.alloc (.cells #[.bool false,.bool false,.bool false,.bool false,.bool false,.bool false,.bool false,.bool false] 137)):=bra _ _
 have HI0:Hid (SI w0 (w.alloc (.cells #[.bool false,.bool false,.bool false,.bool false,.bool false,.bool false,.bool false,.bool false] 137)) w.heap.size n8 n9 b N0 es0.length ⟨st,es0.map (·.p),M.none8⟩ es0 vO) :=
  ⟨⟨N0,by omega,hC.later hA⟩,rfl,by omega,heap_alloc_new w _,rfl⟩
 have HA0:Hid (Ag w (w.alloc (.cells #[.bool false,.bool false,.bool false,.bool false,.bool false,.bool false,.bool false,.bool false] 137))):=Ag.below hA
 have HR:Hid (M.rounds parts 9 ⟨st,es0.map (·.p),M.none8⟩=M.search parts st (es0.map (·.p))):=rfl
 generalize M.search parts st (es0.map (·.p))=R at *
 have HPa:Hid (PartsAt w0 (sv aP parts.length cP) parts):=hP
 have HCk:Hid (∀p∈parts,M.checkPart p=0):=hck
 have hsz0:w0.heap.size≤w.heap.size:=hC.below.size
 clear hP hck hC hA
 go_enter Tryz.func44,Tryz.ntmps44
 go_wp2_with fail
 generalize w.alloc (.cells #[.bool false,.bool false,.bool false,.bool false,.bool false,.bool false,.bool false,.bool false] 137)=X at *
 generalize hn6:w.heap.size=n6 at *
 go_loopg [7] 10 (fun g s7 wr=>∃(ag:Bool) (s:M.Ars) (es:List PEnt) (v:Value),s7=.bool ag∧Hid (SI w0 wr n6 n8 n9 b N0 es0.length s es v)∧Hid (Ag w wr)∧((ag=true∧∃f,g=f+1∧Hid (M.rounds parts f s=R)∧8<f+M.cnt s.tk)∨(ag=false∧g=0∧Hid (s=R))))
 case atStart=>exact⟨true,_,es0,vO,rfl,HI0,HA0,.inl ⟨rfl,9,rfl,HR,by show 8<9+_;omega⟩⟩
 case round =>
  obtain⟨ag,s,es,v,rfl,HI,HG,hcase⟩:=hrel
  clear HI0 HA0 HR
  cases ag
  ·rcases hcase with ⟨h,_⟩|⟨_,hg0,HsR⟩
   ·cases h
   have hsR:=HsR.out
   subst hsR
   have HF:Hid (∃es' vO',Ch w0 wr n8 n9 b (N0+4320) s.st es' vO'∧es'.map (·.p)=s.out∧es'.length≤es0.length+8):=by
    obtain⟨N,h1,h2⟩:=HI.out.ch
    have hc:=M.cnt_le s.tk
    rw[HI.out.tl] at hc
    refine⟨es,v,⟨h2.below,h2.q8,h2.q9,h2.g8,h2.gb,h2.st.mono (by omega),h2.row,h2.parts⟩,HI.out.out,?_⟩
    have:=HI.out.len
    omega
   clear HI HsR
   go_wp2_with fail
   obtain⟨es',vO',k1,k2,k3⟩:=HF.out
   refine bodyPost_end (v:=.tuple #[]) (by simp[results,Tryz.results44,go_sem]) rfl ?_
   exact⟨rfl,⟨es',vO',k1,k2,k3,HG.out⟩⟩
  ·obtain⟨f,hgf,HRf,hf8⟩:∃f,gk=f+1∧Hid (M.rounds parts f s=R)∧8<f+M.cnt s.tk:=by
    rcases hcase with ⟨_,f,h1,h2,h3⟩|⟨h,_⟩
    ·exact⟨f,h1,h2,h3⟩
    ·cases h
   clear hcase
   have hcn:=M.cnt_le s.tk
   have HTl:Hid (s.tk.length=8):=HI.out.tl
   rw[HI.out.tl] at hcn
   obtain⟨f',hf'⟩:∃f',f=f' + 1:=⟨f-1,by omega⟩
   obtain⟨Wo,hWo⟩:∃Wo,Wo=wr:=⟨_,rfl⟩
   subst hWo
   go_wp2_with fail
   go_loopw [7,13] (fun s7 s13 wr=>∃(i:Nat) (es:List PEnt) (v:Value),i≤parts.length∧s13=iv i∧s7=.bool (M.roundN parts s i).2∧Hid (SI w0 wr n6 n8 n9 b N0 es0.length (M.roundN parts s i).1 es v)∧Hid (Ag w wr)) (fun _ s13 _=>parts.length-(intOf s13).toNat)
   case atStart=>exact⟨0,es,v,Nat.zero_le _,rfl,rfl,HI,HG⟩
   case round =>
    obtain⟨i,es,v,hi,rfl,rfl,HJ,HGj⟩:=hrel
    clear HI HG
    by_cases hlt:i<parts.length
    ·have HSt:Hid (M.roundN parts s (i+1)=M.step parts (M.roundN parts s i) i):=rfl
     generalize M.roundN parts s i=T at *
     obtain⟨t,ag⟩:=T
     simp only at HJ
     obtain⟨N,hNb,hCh⟩:=HJ.out.ch
     obtain⟨bp,off,a1,a2,c1,c2,hae,e0,e1,hf,hd⟩:=part_at HPa.out i hlt
     subst hae
     have hckp:=HCk.out _ (getD_mem parts M.nil i hlt)
     have e0':=cell_later hCh.below e0
     have e1':=cell_later hCh.below e1
     have HFD:Hid (∀W,Below w0.heap.size w0 W→FragsAt W (sv a1 (parts.getD i M.nil).frags.length c1) (parts.getD i M.nil).frags∧DefsAt W (sv a2 (parts.getD i M.nil).defs.length c2) (parts.getD i M.nil).defs):=fun W hW=>⟨hf.later hW,hd.later hW⟩
     have hfl:wr.cell? (qa n6 i)=some (.bool (t.tk.getD i false)):=by
      rw[cellB HJ.out.q6,List.getElem?_toArray,List.getElem?_map,getElem?_getD t.tk false i (by rw[HJ.out.tl];omega)]
      rfl
     have hl6:=lt1 HJ.out.q6
     have hbp:bp<wr.heap.size:=wlt e0'
     have hi8:(i:Int)<8:=by omega
     have hkl:(i:Int)<(parts.length:Int):=by omega
     have HSt2:Hid (M.roundN parts s (i+1)=if t.tk.getD i false=false∧M.partHelps t.st (parts.getD i M.nil)=true then ({ M.take t (parts.getD i M.nil) with tk:=t.tk.set i true },true) else (t,ag)):=HSt.out
     clear HSt hf hd e0 e1
     generalize parts.getD i M.nil=p at *
     have hAl:Below wr.heap.size wr (wr.alloc (.cells #[sv a1 p.frags.length c1,sv a2 p.defs.length c2] 43)):=bra _ _
     have HGl:Hid (Ag w (wr.alloc (.cells #[sv a1 p.frags.length c1,sv a2 p.defs.length c2] 43))):=HGj.out.trans (Ag.below hAl)
     have HJl:Hid (SI w0 (wr.alloc (.cells #[sv a1 p.frags.length c1,sv a2 p.defs.length c2] 43)) n6 n8 n9 b N0 es0.length t es v):=HJ.out.later hAl
     cases hfv:t.tk.getD i false
     ·rw[hfv] at hfl HSt2
      have hq9:(wr.alloc (.cells #[sv a1 p.frags.length c1,sv a2 p.defs.length c2] 43)).cell? (qa n9 0)=some (.map (some b)):=cellB (hCh.later hAl).q9 0
      have KCn:Hid (Calls Tryz.prog 77 #[sv a2 p.defs.length c2,.func (.func 45) #[] #[qv n9 0]] (wr.alloc (.cells #[sv a1 p.frags.length c1,sv a2 p.defs.length c2] 43)) fun e w'=>e=.returned (.bool (M.partHelps t.st p))∧Below (wr.alloc (.cells #[sv a1 p.frags.length c1,sv a2 p.defs.length c2] 43)).heap.size (wr.alloc (.cells #[sv a1 p.frags.length c1,sv a2 p.defs.length c2] 43)) w'):=containsHelps_any p.defs a2 c2 n9 b N t.st _ (HFD.out _ (hCh.later hAl).below).2 ⟨hq9,(hCh.later hAl).st⟩
      clear hq9
      generalize M.partHelps t.st p=hp at *
      cases hp
      ·have HT:Hid (M.roundN parts s (i+1)=(t,ag)):=by rw[Hid,HSt2.out,if_neg (by simp)]
       clear HSt2
       go_wp2_with (go_at_call 77;refine KCn.out.mono ?_;rintro e w3 ⟨rfl,hb3⟩)
       go_roundw
       case rel=>exact⟨i+1,es,v,by omega,by go_num,by rw[HT.out],by rw[HT.out];exact HJl.out.later hb3,HGl.out.trans (Ag.below hb3)⟩
       case measure=>simp[intOf];omega
      ·have HT:Hid (M.roundN parts s (i+1)=({ M.take t p with tk:=t.tk.set i true },true)):=by rw[Hid,HSt2.out,if_pos ⟨rfl,rfl⟩]
       clear HSt2
       have hlen:=HJ.out.len
       have hcc:=M.cnt_le t.tk
       have htl:=HJ.out.tl
       rw[htl] at hcc
       have KT:Hid (∀W,Below (wr.alloc (.cells #[sv a1 p.frags.length c1,sv a2 p.defs.length c2] 43)).heap.size (wr.alloc (.cells #[sv a1 p.frags.length c1,sv a2 p.defs.length c2] 43)) W→Calls Tryz.prog 41 #[.agg #[sv a1 p.frags.length c1,sv a2 p.defs.length c2],qv n8 0,qv n9 0] W fun e w'=>e=.returned (.tuple #[])∧∃vF vD vO',Ch w0 w' n8 n9 b (N+540) (M.enter t.st p) (es++[⟨p,vF,vD⟩]) vO'∧Ag W w'):=fun W hW=>takeFn_any p a1 a2 c1 c2 n8 n9 b N t.st es v w0 W HFD.out hckp ((hCh.later hAl).later hW) (by omega) (by omega)
       go_wp2_with (first|(go_at_call 77;refine KCn.out.mono ?_;rintro e w3 ⟨rfl,hb3⟩;have k0:w3.cell? (qa wr.heap.size 0)=some (sv a1 p.frags.length c1):=cell_later hb3 (cellB (heap_alloc_new wr _) 0);have k1:w3.cell? (qa wr.heap.size 1)=some (sv a2 p.defs.length c2):=cell_later hb3 (cellB (heap_alloc_new wr _) 1))|(go_at_call 41;refine(KT.out _ hb3).mono ?_;rintro e w4 ⟨rfl,vF,vD,vO',hC4,hA4⟩;have z6:=hA4 _ _ _ (HJl.out.later hb3).q6 (by decide) (by decide);have c6:w4.cell? (qa n6 i)=some (.bool false):=(by rw[cellB z6,List.getElem?_toArray,List.getElem?_map,getElem?_getD t.tk false i (by rw[htl];omega),hfv];rfl);have f6:=frozenB z6 i))
       have HFin:Hid (SI w0 (w4.setCell (qa n6 i) (.bool true)) n6 n8 n9 b N0 es0.length { M.take t p with tk:=t.tk.set i true } (es++[⟨p,vF,vD⟩]) vO'):=by
        have hcs:=M.cnt_set t.tk i (by rw[htl];omega) hfv
        refine⟨⟨N+540,?_,hC4.setB z6 (by omega)⟩,?_,?_,?_,?_⟩
        ·show N+540≤N0+540*M.cnt (t.tk.set i true)
         rw[hcs];omega
        ·show _=t.out++[p]
         rw[List.map_append,HJ.out.out];rfl
        ·show _≤es0.length+M.cnt (t.tk.set i true)
         rw[hcs,List.length_append]
         simp
         omega
        ·show _=some (Obj.cells ((t.tk.set i true).map Value.bool).toArray 137 (0,0))
         rw[setB' z6,List.map_set]
         simp
        ·show (t.tk.set i true).length=8
         rw[List.length_set];exact htl
       have HGf:Hid (Ag w (w4.setCell (qa n6 i) (.bool true))):=by
        intro k cs t hk h1 h2
        have hkn:=lt1 hk
        rw[Below.heap_setCell _ _ _ _ (by show k≠n6;omega)]
        exact((HGl.out.trans (Ag.below hb3)).trans hA4) k cs t hk h1 h2
       clear hC4 hA4 z6 c6 f6 hb3 k0 k1
       go_roundw
       case rel=>exact⟨i+1,_,vO',by omega,by go_num,by rw[HT.out],by rw[HT.out];exact HFin.out,HGf⟩
       case measure=>simp[intOf];omega
     ·rw[hfv] at hfl HSt2
      have HT:Hid (M.roundN parts s (i+1)=(t,ag)):=by rw[Hid,HSt2.out,if_neg (by simp)]
      clear HSt2
      go_wp2_with fail
      go_roundw
      case rel=>exact⟨i+1,es,v,by omega,by go_num,by rw[HT.out],by rw[HT.out];exact HJl.out,HGl⟩
      case measure=>simp[intOf];omega
    ·obtain rfl:i=parts.length:=by omega
     have HRd:Hid (M.roundN parts s parts.length=M.round parts s):=rfl
     have HRf':Hid ((if (M.round parts s).2 then M.rounds parts f' (M.round parts s).1 else (M.round parts s).1)=R):=by have:=HRf.out;rw[hf'] at this;exact this
     have HCn:Hid ((M.round parts s).2=true→M.cnt s.tk+1≤M.cnt (M.round parts s).1.tk):=(M.roundN_cnt parts s parts.length (by rw[HTl.out];exact h8)).2
     rw[HRd.out] at HJ ⊢
     clear HRf HRd
     generalize M.round parts s=T at *
     obtain⟨t,ag⟩:=T
     simp only at HJ HRf' HCn
     cases ag
     ·have HRe:Hid (t=R):=HRf'.out
      clear HRf' HCn
      go_wp2_with fail
      go_roundg 0
      case measure=>omega
      case rel=>exact⟨false,t,es,v,rfl,HJ,HGj,.inr ⟨rfl,rfl,HRe⟩⟩
     ·have HRe:Hid (M.rounds parts f' t=R):=HRf'.out
      have hcn':=HCn.out rfl
      clear HRf' HCn
      go_wp2_with fail
      go_roundg (f' + 1)
      case measure=>omega
      case rel=>exact⟨true,t,es,v,rfl,HJ,HGj,.inl ⟨rfl,f',rfl,HRe,by omega⟩⟩
def ItemsAt (w:World) (v:Value) (its:List M.Itm):Prop :=
 ∃cell,SlAt w v 2 its.length cell∧∀j,j<its.length→cell j 0=.bool (its.getD j ⟨false,[]⟩).arch∧∃a c,cell j 1=sv a (its.getD j ⟨false,[]⟩).parts.length c∧PartsAt w (sv a (its.getD j ⟨false,[]⟩).parts.length c) (its.getD j ⟨false,[]⟩).parts
theorem ItemsAt.later{w w':World}{v:Value}{its:List M.Itm}(h:ItemsAt w v its)(hb:Below w.heap.size w w'):ItemsAt w' v its:=by
 obtain⟨cell,h1,h2⟩:=h
 refine⟨cell,h1.later hb,fun j hj=>?_⟩
 obtain⟨e0,a,c,e1,hp⟩:=h2 j hj
 exact⟨e0,a,c,e1,hp.later hb⟩
theorem item_at{w:World}{a:Option Addr}{c:Nat}{its:List M.Itm}(h:ItemsAt w (sv a its.length c) its)(j:Nat)(hj:j<its.length) :
  ∃b off aP cP,a=some (qa b off)∧w.cell? (qa b (off+j*2))=some (.bool (its.getD j ⟨false,[]⟩).arch)∧w.cell? (qa b (off+j*2+1))=some (sv aP (its.getD j ⟨false,[]⟩).parts.length cP)
   ∧ PartsAt w (sv aP (its.getD j ⟨false,[]⟩).parts.length cP) (its.getD j ⟨false,[]⟩).parts:=by
 obtain⟨cell,h1,h2⟩:=h
 obtain⟨b,off,e,hc⟩:=h1.at j hj
 obtain⟨e0,aP,cP,e1,hp⟩:=h2 j hj
 have c0:=hc 0 (by decide)
 have c1:=hc 1 (by decide)
 rw[e0] at c0
 rw[e1] at c1
 exact⟨b,off,aP,cP,e,c0,c1,hp⟩
theorem checkParts_drop(l:List M.Prt)(k:Nat)(h:k<l.length):M.checkParts (l.drop k)=if M.checkPart (l.getD k M.nil)=0 then M.checkParts (l.drop (k+1)) else M.checkPart (l.getD k M.nil):=by
 rw[drop_getD l M.nil k h];rfl
theorem checkItems_drop(l:List M.Itm)(k:Nat)(h:k<l.length):M.checkItems1 (l.drop k)=if M.checkItem (l.getD k ⟨false,[]⟩)=0 then M.checkItems1 (l.drop (k+1)) else M.checkItem (l.getD k ⟨false,[]⟩):=by
 rw[drop_getD l ⟨false,[]⟩ k h];rfl
theorem checkFirst_drop(l:List ByteArray)(k:Nat)(h:k<l.length):M.checkFirst1 (l.drop k)=if M.isName (l.getD k str0) then M.checkFirst1 (l.drop (k+1)) else 1:=by
 rw[drop_getD l str0 k h];rfl
theorem checkItem_any(it:M.Itm)(aP:Option Addr)(cP:Nat)(w:World)(hP:PartsAt w (sv aP it.parts.length cP) it.parts) :
  Calls Tryz.prog 75 #[.agg #[.bool it.arch,sv aP it.parts.length cP]] w fun e w'=>e=.returned (iv (M.checkItem it))∧Below w.heap.size w w':=by
 obtain⟨ar,ps⟩:=it
 simp only at hP ⊢
 have hn:ps.length≤maxLen:=by obtain⟨_,h,_⟩:=hP;obtain⟨_,_,_,h⟩:=h.form;exact h
 unfold maxLen at hn
 have hA:Below w.heap.size w (w.alloc (.cells #[.bool ar,sv aP ps.length cP] 64)):=bra _ _
 have HP:Hid (∀W,Below w.heap.size w W→PartsAt W (sv aP ps.length cP) ps):=fun W hW=>hP.later hW
 have HX:Hid (M.checkItem ⟨ar,ps⟩=if 8<ps.length then 2 else if ar=false∧¬ps.length=1 then 4 else M.checkParts ps):=rfl
 clear hP
 generalize M.checkItem ⟨ar,ps⟩=R at *
 by_cases h8:8<ps.length
 ·obtain rfl:R=2:=by have:=HX.out;rwa [if_pos h8] at this
  have h8':(8:Int)<(ps.length:Int):=by omega
  clear HX HP h8
  go_enter Tryz.func75,Tryz.ntmps75
  go_wp2
  go_ret
  exact⟨rfl,hA⟩
 have h8':decide ((8:Int)<(ps.length:Int))=false:=by simp;omega
 rw[if_neg h8] at HX
 by_cases h1:ar=false∧¬ps.length=1
 ·obtain rfl:R=4:=by have:=HX.out;rwa [if_pos h1] at this
  obtain⟨rfl,h1⟩:=h1
  have h1':((ps.length:Int) !=1)=true:=by simp;omega
  clear HX HP h8
  go_enter Tryz.func75,Tryz.ntmps75
  go_wp2
  go_ret
  exact⟨rfl,hA⟩
 rw[if_neg h1] at HX
 have HX':Hid (R=M.checkParts (ps.drop 0)):=HX
 have hq:=heap_alloc_new w (.cells #[.bool ar,sv aP ps.length cP] 64)
 clear HX
 have h1':ar=false→((ps.length:Int) !=1)=false:=fun h=>by
  by_cases h2:ps.length=1
  ·simp;omega
  ·exact absurd ⟨h,h2⟩ h1
 have HQ:Hid (Below w.heap.size w (w.alloc (.cells #[.bool ar,sv aP ps.length cP] 64))):=hA
 clear h1 hq hA
 cases ar
 all_goals
  (try (have h1'':=h1' rfl))
  clear h1'
  go_enter Tryz.func75,Tryz.ntmps75
  go_wp2_with fail
  go_loopw [22] (fun s22 wr=>∃(k:Nat),k≤ps.length∧s22=iv k∧Hid (R=M.checkParts (ps.drop k))∧Hid (Below w.heap.size w wr)) (fun s22 _=>ps.length-(intOf s22).toNat)
  case atStart=>exact⟨0,Nat.zero_le _,rfl,HX',HQ⟩
  case round =>
   obtain⟨k,hk,rfl,HR,HB⟩:=hrel
   clear HX' HQ
   by_cases hlt:k<ps.length
   ·obtain⟨b,off,a1,a2,c1,c2,rfl,e0,e1,hf,hd⟩:=part_at (HP.out wr HB.out) k hlt
    have hbr:b<wr.heap.size:=wlt e0
    have hkl:(k:Int)<(ps.length:Int):=by omega
    have HN:=checkParts_drop ps k hlt
    have hAl:Below wr.heap.size wr (wr.alloc (.cells #[sv a1 (ps.getD k M.nil).frags.length c1,sv a2 (ps.getD k M.nil).defs.length c2] 43)):=bra _ _
    have KC:Hid (Calls Tryz.prog 46 #[.agg #[sv a1 (ps.getD k M.nil).frags.length c1,sv a2 (ps.getD k M.nil).defs.length c2]] (wr.alloc (.cells #[sv a1 (ps.getD k M.nil).frags.length c1,sv a2 (ps.getD k M.nil).defs.length c2] 43)) fun e w'=>e=.returned (iv (M.checkPart (ps.getD k M.nil)))∧Below (wr.alloc (.cells #[sv a1 (ps.getD k M.nil).frags.length c1,sv a2 (ps.getD k M.nil).defs.length c2] 43)).heap.size (wr.alloc (.cells #[sv a1 (ps.getD k M.nil).frags.length c1,sv a2 (ps.getD k M.nil).defs.length c2] 43)) w'):=check_any _ _ _ _ _ _ _ (hf.later hAl) (hd.later hAl)
    have HR2:Hid (R=if M.checkPart (ps.getD k M.nil)=0 then M.checkParts (ps.drop (k+1)) else M.checkPart (ps.getD k M.nil)):=HR.out.trans HN
    have HBA:Hid (Below w.heap.size w (wr.alloc (.cells #[sv a1 (ps.getD k M.nil).frags.length c1,sv a2 (ps.getD k M.nil).defs.length c2] 43))):=HB.out.trans (hAl.mono HB.out.size)
    clear HR HN hf hd hAl
    generalize M.checkPart (ps.getD k M.nil)=er at *
    generalize ps.getD k M.nil=p at *
    cases he:(er==0)
    ·have he':(er !=0)=true:=by simpa using he
     have HRe:Hid (R=er):=by rw[Hid,HR2.out,if_neg (by simpa using he)]
     clear HR2
     go_wp2_with (go_at_call 46;refine KC.out.mono ?_;rintro e w1 ⟨rfl,hb1⟩)
     go_ret
     exact⟨ret_int HRe.out.symm,HBA.out.trans (hb1.mono HBA.out.size)⟩
    ·have he':(er !=0)=false:=by simpa using he
     have HRe:Hid (R=M.checkParts (ps.drop (k+1))):=by rw[Hid,HR2.out,if_pos (by simpa using he)]
     clear HR2
     go_wp2_with (go_at_call 46;refine KC.out.mono ?_;rintro e w1 ⟨rfl,hb1⟩)
     go_roundw
     case rel=>exact⟨k+1,by omega,by go_num,HRe,HBA.out.trans (hb1.mono HBA.out.size)⟩
     case measure=>simp[intOf];omega
   ·obtain rfl:k=ps.length:=by omega
    have HRe:Hid (R=0):=by rw[Hid,HR.out,List.drop_eq_nil_of_le (Nat.le_refl _)];rfl
    clear HR
    go_wp2
    go_ret
    exact⟨ret_int HRe.out.symm,HB.out⟩
theorem checkItems_any(its:List M.Itm)(a:Option Addr)(c:Nat)(w:World)(h:ItemsAt w (sv a its.length c) its) :
  Calls Tryz.prog 39 #[sv a its.length c] w fun e w'=>e=.returned (iv (M.checkItems its))∧Below w.heap.size w w':=by
 have hn:its.length≤maxLen:=by obtain⟨_,h,_⟩:=h;obtain⟨_,_,_,h⟩:=h.form;exact h
 unfold maxLen at hn
 have HI:Hid (∀W,Below w.heap.size w W→ItemsAt W (sv a its.length c) its):=fun W hW=>h.later hW
 have HX:Hid (M.checkItems its=if 12<its.length then 2 else M.checkItems1 (its.drop 0)):=rfl
 clear h
 generalize M.checkItems its=R at *
 by_cases h12:12<its.length
 ·obtain rfl:R=2:=by have:=HX.out;rwa [if_pos h12] at this
  have h8':(12:Int)<(its.length:Int):=by omega
  clear HX HI h12
  go_enter Tryz.func39,Tryz.ntmps39
  go_wp2
  go_ret
  exact⟨rfl,Below.refl _ _⟩
 have h8':decide ((12:Int)<(its.length:Int))=false:=by simp;omega
 rw[if_neg h12] at HX
 go_enter Tryz.func39,Tryz.ntmps39
 go_wp2_with fail
 go_loopw [11] (fun s11 wr=>∃(k:Nat),k≤its.length∧s11=iv k∧Hid (R=M.checkItems1 (its.drop k))∧Hid (Below w.heap.size w wr)) (fun s11 _=>its.length-(intOf s11).toNat)
 case atStart=>exact⟨0,Nat.zero_le _,rfl,HX,Below.refl _ _⟩
 case round =>
  obtain⟨k,hk,rfl,HR,HB⟩:=hrel
  clear HX
  by_cases hlt:k<its.length
  ·obtain⟨b,off,aP,cP,rfl,e0,e1,hP⟩:=item_at (HI.out wr HB.out) k hlt
   have hbr:b<wr.heap.size:=wlt e0
   have hkl:(k:Int)<(its.length:Int):=by omega
   have HN:=checkItems_drop its k hlt
   have hAl:Below wr.heap.size wr (wr.alloc (.cells #[.bool (its.getD k ⟨false,[]⟩).arch,sv aP (its.getD k ⟨false,[]⟩).parts.length cP] 64)):=bra _ _
   have KC:Hid (Calls Tryz.prog 75 #[.agg #[.bool (its.getD k ⟨false,[]⟩).arch,sv aP (its.getD k ⟨false,[]⟩).parts.length cP]] (wr.alloc (.cells #[.bool (its.getD k ⟨false,[]⟩).arch,sv aP (its.getD k ⟨false,[]⟩).parts.length cP] 64)) fun e w'=>e=.returned (iv (M.checkItem (its.getD k ⟨false,[]⟩)))∧Below (wr.alloc (.cells #[.bool (its.getD k ⟨false,[]⟩).arch,sv aP (its.getD k ⟨false,[]⟩).parts.length cP] 64)).heap.size (wr.alloc (.cells #[.bool (its.getD k ⟨false,[]⟩).arch,sv aP (its.getD k ⟨false,[]⟩).parts.length cP] 64)) w'):=checkItem_any _ _ _ _ (hP.later hAl)
   have HR2:Hid (R=if M.checkItem (its.getD k ⟨false,[]⟩)=0 then M.checkItems1 (its.drop (k+1)) else M.checkItem (its.getD k ⟨false,[]⟩)):=HR.out.trans HN
   have HBA:Hid (Below w.heap.size w (wr.alloc (.cells #[.bool (its.getD k ⟨false,[]⟩).arch,sv aP (its.getD k ⟨false,[]⟩).parts.length cP] 64))):=HB.out.trans (hAl.mono HB.out.size)
   clear HR HN hP hAl
   generalize M.checkItem (its.getD k ⟨false,[]⟩)=er at *
   generalize its.getD k ⟨false,[]⟩=it at *
   obtain⟨ar,ps⟩:=it
   simp only at e0 e1 KC HBA
   cases he:(er==0)
   ·have he':(er !=0)=true:=by simpa using he
    have HRe:Hid (R=er):=by rw[Hid,HR2.out,if_neg (by simpa using he)]
    clear HR2
    go_wp2_with (go_at_call 75;refine KC.out.mono ?_;rintro e w1 ⟨rfl,hb1⟩)
    go_ret
    exact⟨ret_int HRe.out.symm,HBA.out.trans (hb1.mono HBA.out.size)⟩
   ·have he':(er !=0)=false:=by simpa using he
    have HRe:Hid (R=M.checkItems1 (its.drop (k+1))):=by rw[Hid,HR2.out,if_pos (by simpa using he)]
    clear HR2
    go_wp2_with (go_at_call 75;refine KC.out.mono ?_;rintro e w1 ⟨rfl,hb1⟩)
    go_roundw
    case rel=>exact⟨k+1,by omega,by go_num,HRe,HBA.out.trans (hb1.mono HBA.out.size)⟩
    case measure=>simp[intOf];omega
  ·obtain rfl:k=its.length:=by omega
   have HRe:Hid (R=0):=by rw[Hid,HR.out,List.drop_eq_nil_of_le (Nat.le_refl _)];rfl
   clear HR
   go_wp2
   go_ret
   exact⟨ret_int HRe.out.symm,HB.out⟩
theorem checkFirst_any(l:List ByteArray)(a:Option Addr)(c:Nat)(w:World)(h:StrsAt w (sv a l.length c) l) :
  Calls Tryz.prog 40 #[sv a l.length c] w fun e w'=>e=.returned (iv (M.checkFirst l))∧Below w.heap.size w w':=by
 have hn:l.length≤maxLen:=by obtain⟨_,_,_,h⟩:=h.1.form;exact h
 unfold maxLen at hn
 have HI:Hid (∀W,Below w.heap.size w W→StrsAt W (sv a l.length c) l):=fun W hW=>h.later hW
 have HX:Hid (M.checkFirst l=if 12<l.length then 2 else M.checkFirst1 (l.drop 0)):=rfl
 have HSz:Hid (∀s∈l,s.size≤maxLen):=h.2
 clear h
 generalize M.checkFirst l=R at *
 by_cases h12:12<l.length
 ·obtain rfl:R=2:=by have:=HX.out;rwa [if_pos h12] at this
  have h8':(12:Int)<(l.length:Int):=by omega
  clear HX HI h12
  go_enter Tryz.func40,Tryz.ntmps40
  go_wp2
  go_ret
  exact⟨rfl,Below.refl _ _⟩
 have h8':decide ((12:Int)<(l.length:Int))=false:=by simp;omega
 rw[if_neg h12] at HX
 go_enter Tryz.func40,Tryz.ntmps40
 go_wp2_with fail
 go_loopw [10] (fun s10 wr=>∃(k:Nat),k≤l.length∧s10=iv k∧Hid (R=M.checkFirst1 (l.drop k))∧Hid (Below w.heap.size w wr)) (fun s10 _=>l.length-(intOf s10).toNat)
 case atStart=>exact⟨0,Nat.zero_le _,rfl,HX,Below.refl _ _⟩
 case round =>
  obtain⟨k,hk,rfl,HR,HB⟩:=hrel
  clear HX
  by_cases hlt:k<l.length
  ·obtain⟨b,off,rfl,e0,hbr⟩:=(HI.out wr HB.out).cell k hlt
   have hkl:(k:Int)<(l.length:Int):=by omega
   have HN:=checkFirst_drop l k hlt
   have hsn:=HSz.out _ (getD_mem l str0 k hlt)
   have KC:Hid (Calls Tryz.prog 14 #[.string (l.getD k str0)] wr fun e w'=>e=.returned (.bool (M.isName (l.getD k str0)))∧wr=w'):=(name_any _ wr hsn).mono fun e w' ⟨h1,h2⟩=>⟨h1,h2.symm⟩
   have HR2:Hid (R=if M.isName (l.getD k str0) then M.checkFirst1 (l.drop (k+1)) else 1):=HR.out.trans HN
   clear HR HN hsn
   generalize M.isName (l.getD k str0)=nm at *
   generalize l.getD k str0=s at *
   cases nm
   ·obtain rfl:R=1:=HR2.out
    clear HR2
    go_wp2_with (go_at_call 14;refine KC.out.mono ?_;rintro e w1 ⟨rfl,rfl⟩)
    go_ret
    exact⟨rfl,HB.out⟩
   ·have HRe:Hid (R=M.checkFirst1 (l.drop (k+1))):=HR2.out
    clear HR2
    go_wp2_with (go_at_call 14;refine KC.out.mono ?_;rintro e w1 ⟨rfl,rfl⟩)
    go_roundw
    case rel=>exact⟨k+1,by omega,by go_num,HRe,HB⟩
    case measure=>simp[intOf];omega
  ·obtain rfl:k=l.length:=by omega
   have HRe:Hid (R=0):=by rw[Hid,HR.out,List.drop_eq_nil_of_le (Nat.le_refl _)];rfl
   clear HR
   go_wp2
   go_ret
   exact⟨ret_int HRe.out.symm,HB.out⟩
def ChOut (w0 w':World) (v:Value) (ps:List M.Prt):Prop:=Below w0.heap.size w0 w'∧∃es:List PEnt,es.map (·.p)=ps∧w'.ownsRow w0.heap.size 43 2 v es.length (es.flatMap pentCells)∧∀e∈es,POwn w' w0.heap.size e
theorem firstAll_take(l:List ByteArray)(k:Nat)(h:k<l.length):M.firstAll (l.take (k+1))=(M.firstAll (l.take k)).set (l.getD k str0) 1:=by
 unfold M.firstAll
 rw[List.take_succ_eq_append_getElem h,List.foldl_append,List.getD_eq_getElem?_getD,List.getElem?_eq_getElem h]
 rfl
theorem choose_take(l:List M.Itm)(s:M.St × List M.Prt)(k:Nat)(h:k<l.length):(l.take (k+1)).foldl M.chooseStep s=M.chooseStep ((l.take k).foldl M.chooseStep s) (l.getD k ⟨false,[]⟩):=by
 rw[List.take_succ_eq_append_getElem h,List.foldl_append,List.getD_eq_getElem?_getD,List.getElem?_eq_getElem h]
 rfl
theorem parts_ok:∀ {l:List M.Prt},M.checkParts l=0→∀p∈l,M.checkPart p=0
 | [],_,p,hp=>by cases hp
 | q::l,h,p,hp=>by
  unfold M.checkParts at h
  by_cases hq:M.checkPart q=0
  ·rw[if_pos hq] at h
   rcases List.mem_cons.1 hp with rfl|hp
   ·exact hq
   ·exact parts_ok h p hp
  ·rw[if_neg hq] at h
   exact absurd h hq
theorem item_ok{it:M.Itm}(h:M.checkItem it=0):it.parts.length≤8∧(it.arch=false→it.parts.length=1)∧∀p∈it.parts,M.checkPart p=0:=by
 unfold M.checkItem at h
 by_cases h8:8<it.parts.length
 ·rw[if_pos h8] at h;exact absurd h (by decide)
 ·rw[if_neg h8] at h
  by_cases h1:it.arch=false∧¬it.parts.length=1
  ·rw[if_pos h1] at h;exact absurd h (by decide)
  ·rw[if_neg h1] at h
   refine⟨by omega,fun ha=>?_,parts_ok h⟩
   by_cases h2:it.parts.length=1
   ·exact h2
   ·exact absurd ⟨ha,h2⟩ h1
theorem items1_ok:∀ {l:List M.Itm},M.checkItems1 l=0→∀it∈l,M.checkItem it=0
 | [],_,p,hp=>by cases hp
 | q::l,h,p,hp=>by
  unfold M.checkItems1 at h
  by_cases hq:M.checkItem q=0
  ·rw[if_pos hq] at h
   rcases List.mem_cons.1 hp with rfl|hp
   ·exact hq
   ·exact items1_ok h p hp
  ·rw[if_neg hq] at h
   exact absurd h hq
theorem items_ok{l:List M.Itm}(h:M.checkItems l=0):l.length≤12∧∀it∈l,M.checkItem it=0:=by
 unfold M.checkItems at h
 by_cases h1:12<l.length
 ·rw[if_pos h1] at h;exact absurd h (by decide)
 ·rw[if_neg h1] at h
  exact⟨by omega,items1_ok h⟩
theorem first_ok{l:List ByteArray}(h:M.checkFirst l=0):l.length≤12:=by
 unfold M.checkFirst at h
 by_cases h1:12<l.length
 ·rw[if_pos h1] at h;exact absurd h (by decide)
 ·omega
theorem choose_any(its:List M.Itm)(first:List ByteArray)(a a2:Option Addr)(c c2:Nat)(w:World)(h:ItemsAt w (sv a its.length c) its)(hf:StrsAt w (sv a2 first.length c2) first) :
  Calls Tryz.prog 15 #[sv a its.length c,sv a2 first.length c2] w fun e w'=>∃v,e=.returned (.tuple #[v,iv (M.choose its first).2])∧ChOut w w' v (M.choose its first).1:=by
 have hn:its.length≤maxLen:=by obtain⟨_,h,_⟩:=h;obtain⟨_,_,_,h⟩:=h.form;exact h
 have hn2:first.length≤maxLen:=by obtain⟨_,_,_,h⟩:=hf.1.form;exact h
 unfold maxLen at hn hn2
 have KC:Hid (∀W,Below w.heap.size w W→Calls Tryz.prog 39 #[sv a its.length c] W fun e w'=>e=.returned (iv (M.checkItems its))∧Below W.heap.size W w'):=fun W hW=>checkItems_any its a c W (h.later hW)
 have KF:Hid (∀W,Below w.heap.size w W→Calls Tryz.prog 40 #[sv a2 first.length c2] W fun e w'=>e=.returned (iv (M.checkFirst first))∧Below W.heap.size W w'):=fun W hW=>checkFirst_any first a2 c2 W (hf.later hW)
 have HX:Hid (M.choose its first=if M.checkItems its=0 then (if M.checkFirst first=0 then ((its.foldl M.chooseStep (M.firstAll first,[])).2,0) else ([],M.checkFirst first)) else ([],M.checkItems its)):=rfl
 have HOk:Hid (M.checkItems its=0→its.length≤12∧∀it∈its,M.checkItem it=0):=items_ok
 have HFo:Hid (M.checkFirst first=0→first.length≤12):=first_ok
 have HI:Hid (ItemsAt w (sv a its.length c) its):=h
 have HF:Hid (StrsAt w (sv a2 first.length c2) first):=hf
 clear h hf
 generalize M.choose its first=R at *
 generalize M.checkItems its=e1 at *
 generalize M.checkFirst first=e2 at *
 cases h1:(e1==0)
 ·have h1':(e1 !=0)=true:=by simpa using h1
  obtain rfl:R=([],e1):=by have:=HX.out;rwa [if_neg (by simpa using h1)] at this
  clear HX HOk HFo HI HF
  go_enter Tryz.func15,Tryz.ntmps15
  go_wp2_with (go_at_call 39;refine(KC.out _ (Below.refl _ _)).mono ?_;rintro e w1 ⟨rfl,hb1⟩)
  go_ret2
  exact⟨_,rfl,hb1,[],rfl,World.ownsRow_nil _ _ _ _,fun e he=>by cases he⟩
 obtain rfl:e1=0:=by simpa using h1
 clear h1
 cases h2:(e2==0)
 ·have h2':(e2 !=0)=true:=by simpa using h2
  obtain rfl:R=([],e2):=by have:=HX.out;rwa [if_pos rfl,if_neg (by simpa using h2)] at this
  clear HX HOk HFo HI HF
  go_enter Tryz.func15,Tryz.ntmps15
  go_wp2_with (first|(go_at_call 39;refine(KC.out _ (Below.refl _ _)).mono ?_;rintro e w1 ⟨rfl,hb1⟩)|(go_at_call 40;refine(KF.out _ hb1).mono ?_;rintro e w2 ⟨rfl,hb2⟩))
  go_ret2
  exact⟨_,rfl,hb1.trans (hb2.mono hb1.size),[],rfl,World.ownsRow_nil _ _ _ _,fun e he=>by cases he⟩
 obtain rfl:e2=0:=by simpa using h2
 clear h2
 obtain rfl:R=((its.foldl M.chooseStep (M.firstAll first,[])).2,0):=by have:=HX.out;rwa [if_pos rfl,if_pos rfl] at this
 obtain⟨hl12,hits⟩:=HOk.out rfl
 have hf12:=HFo.out rfl
 have HIt:Hid (∀it∈its,M.checkItem it=0):=hits
 have HSz:Hid (∀s∈first,s.size≤maxLen):=HF.out.2
 clear HX HOk HFo hits
 go_enter Tryz.func15,Tryz.ntmps15
 have hmm:=@run_makeMap Tryz.prog
 go_wp2_with (first|(go_at_call 39;refine(KC.out _ (Below.refl _ _)).mono ?_;rintro e w1 ⟨rfl,hb1⟩)|(go_at_call 40;refine(KF.out _ hb1).mono ?_;rintro e w2 ⟨rfl,hb2⟩))
 have HY:Hid (Ch w (((w2.alloc (.cells #[sv none 0 0] 35)).alloc (.map #[] 0)).alloc (.cells #[.map (some (w2.heap.size+1))] 96)) w2.heap.size (w2.heap.size+1+1) (w2.heap.size+1) 0 (M.firstAll (first.take 0)) [] (sv none 0 0)):=by
  have hb:=hb1.trans (hb2.mono hb1.size)
  have hs:=StAt.nil (w2.alloc (.cells #[sv none 0 0] 35))
  have hsz:(w2.alloc (.cells #[sv none 0 0] 35)).heap.size=w2.heap.size+1:=by simp
  have hsz2:((w2.alloc (.cells #[sv none 0 0] 35)).alloc (.map #[] 0)).heap.size=w2.heap.size+1+1:=by simp
  rw[hsz] at hs
  refine⟨((hb.alloc hb.size _).alloc (by have:=hb.size;simp;omega) _).alloc (by have:=hb.size;simp;omega) _,?_,?_,hb.size,by have:=hb.size;omega,hs.later (bra _ _),World.ownsRow_nil _ _ _ _,fun e he=>by cases he⟩
  ·rw[heap_alloc_old _ _ (by rw[hsz2];omega),heap_alloc_old _ _ (by rw[hsz];omega)]
   exact heap_alloc_new _ _
  ·have:=heap_alloc_new ((w2.alloc (.cells #[sv none 0 0] 35)).alloc (.map #[] 0)) (.cells #[.map (some (w2.heap.size+1))] 96)
   rwa [hsz2] at this
 clear hb1 hb2 KC KF hmm
 generalize ((w2.alloc (.cells #[sv none 0 0] 35)).alloc (.map #[] 0)).alloc (.cells #[.map (some (w2.heap.size+1))] 96)=Y at *
 generalize w2.heap.size+1+1=n9 at *
 generalize w2.heap.size+1=bM at *
 generalize w2.heap.size=n8 at *
 go_loopw [28] (fun s28 wr=>∃(k:Nat),k≤first.length∧s28=iv k∧Hid (Ch w wr n8 n9 bM k (M.firstAll (first.take k)) [] (sv none 0 0))) (fun s28 _=>first.length-(intOf s28).toNat)
 case atStart=>exact⟨0,Nat.zero_le _,rfl,HY⟩
 case round =>
  obtain⟨k,hk,rfl,HC⟩:=hrel
  clear HY
  by_cases hlt:k<first.length
  ·obtain⟨b,off,rfl,e0,hbr⟩:=(HF.out.later HC.out.below).cell k hlt
   have hkl:(k:Int)<(first.length:Int):=by omega
   have hsn:=HSz.out _ (getD_mem first str0 k hlt)
   have q9:wr.cell? (qa n9 0)=some (.map (some bM)):=cellB HC.out.q9 0
   obtain⟨w3,hrun,hS3,hg3⟩:=HC.out.st.put (by unfold maxLen;omega) (first.getD k str0) hsn 1 (by decide)
   have HN:Hid (Ch w w3 n8 n9 bM (k+1) (M.firstAll (first.take (k+1))) [] (sv none 0 0)):=by rw[firstAll_take first k hlt];exact HC.out.mapped hg3 hS3
   clear hS3 hg3 HC hsn
   generalize first.getD k str0=s at *
   go_wp2_with fail
   go_roundw
   case rel=>exact⟨k+1,by omega,by go_num,HN⟩
   case measure=>simp[intOf];omega
  ·obtain rfl:k=first.length:=by omega
   rw[List.take_length] at HC
   obtain⟨Z,hZ⟩:∃Z,Z=wr:=⟨_,rfl⟩
   subst hZ
   go_wp2_with fail
   go_loopw [38] (fun s38 wr=>∃(k:Nat) (es:List PEnt) (v:Value),k≤its.length∧s38=iv k∧Hid (∃N,N≤12+5000*k∧Ch w wr n8 n9 bM N ((its.take k).foldl M.chooseStep (M.firstAll first,[])).1 es v)∧Hid (es.map (·.p)=((its.take k).foldl M.chooseStep (M.firstAll first,[])).2)∧es.length≤8*k) (fun s38 _=>its.length-(intOf s38).toNat)
   case atStart=>exact⟨0,[],_,Nat.zero_le _,rfl,⟨_,by omega,HC.out⟩,rfl,by simp⟩
   case round =>
    obtain⟨k,es,v,hk',rfl,HD,HO,hel⟩:=hrel
    clear HC
    by_cases hlt':k<its.length
    ·obtain⟨b,off,aP,cP,rfl,e0,e1,hP⟩:=item_at HI.out k hlt'
     obtain⟨hp8,hp1,hpk⟩:=item_ok (HIt.out _ (getD_mem its ⟨false,[]⟩ k hlt'))
     obtain⟨N,hN,hCh⟩:=HD.out
     have e0':=cell_later hCh.below e0
     have e1':=cell_later hCh.below e1
     have hbr:b<wr.heap.size:=wlt e0'
     have hkl:(k:Int)<(its.length:Int):=by omega
     have HSt:=choose_take its (M.firstAll first,[]) k hlt'
     have HSt':Hid _:=HSt
     clear HSt HD e0 e1
     generalize (its.take k).foldl M.chooseStep (M.firstAll first,[])=S at *
     generalize its.getD k ⟨false,[]⟩=it at *
     obtain⟨ar,ps⟩:=it
     obtain⟨st,out⟩:=S
     simp only at e0' e1' hP hp8 hp1 hpk hCh HO
     have hAl:Below wr.heap.size wr (wr.alloc (.cells #[.bool ar,sv aP ps.length cP] 64)):=bra _ _
     cases ar
     ·have hp0:0<ps.length:=by rw[hp1 rfl];decide
      obtain⟨bp,offp,a1,a2,d1,d2,hae,p0,p1,hpf,hpd⟩:=part_at hP 0 hp0
      subst hae
      have hck0:=hpk _ (getD_mem ps M.nil 0 hp0)
      have HS2:Hid ((its.take (k+1)).foldl M.chooseStep (M.firstAll first,[])=(M.enter st (ps.getD 0 M.nil),out++[ps.getD 0 M.nil])):=HSt'.out
      have p0':=cell_later hAl (cell_later hCh.below p0)
      have p1':=cell_later hAl (cell_later hCh.below p1)
      rw[Nat.zero_mul,Nat.add_zero] at p0' p1'
      have hpl:(0:Int)<(ps.length:Int):=by omega
      have HFd:Hid (∀W,Below w.heap.size w W→FragsAt W (sv a1 (ps.getD 0 M.nil).frags.length d1) (ps.getD 0 M.nil).frags∧DefsAt W (sv a2 (ps.getD 0 M.nil).defs.length d2) (ps.getD 0 M.nil).defs):=fun W hW=>⟨hpf.later hW,hpd.later hW⟩
      clear hpf hpd p0 p1 hP hpk HSt' hp1
      generalize ps.getD 0 M.nil=p at *
      have KT:Hid (Calls Tryz.prog 41 #[.agg #[sv a1 p.frags.length d1,sv a2 p.defs.length d2],qv n8 0,qv n9 0] (wr.alloc (.cells #[.bool false,sv (some (qa bp offp)) ps.length cP] 64)) fun e w'=>e=.returned (.tuple #[])∧∃vF vD vO',Ch w w' n8 n9 bM (N+540) (M.enter st p) (es++[⟨p,vF,vD⟩]) vO'∧Ag (wr.alloc (.cells #[.bool false,sv (some (qa bp offp)) ps.length cP] 64)) w'):=takeFn_any p a1 a2 d1 d2 n8 n9 bM N st es v w _ HFd.out hck0 (hCh.later hAl) (by omega) (by omega)
      clear hCh hAl HFd hck0
      go_wp2_with (go_at_call 41;refine KT.out.mono ?_;rintro e w4 ⟨rfl,vF,vD,vO',hC4,hA4⟩)
      go_roundw
      case rel=>exact⟨k+1,es++[⟨p,vF,vD⟩],vO',by omega,by go_num,by rw[HS2.out];exact⟨N+540,by omega,hC4⟩,by rw[HS2.out,Hid,List.map_append,HO.out];rfl,by rw[List.length_append];simp;omega⟩
      case measure=>simp[intOf];omega
     ·have HS2:Hid ((its.take (k+1)).foldl M.chooseStep (M.firstAll first,[])=((M.search ps st out).st,(M.search ps st out).out)):=HSt'.out
      have KS:Hid (Calls Tryz.prog 44 #[sv aP ps.length cP,.func (.func 41) #[] #[qv n8 0,qv n9 0],.func (.func 45) #[] #[qv n9 0]] (wr.alloc (.cells #[.bool true,sv aP ps.length cP] 64)) fun e w'=>e=.returned (.tuple #[])∧SrOut w (wr.alloc (.cells #[.bool true,sv aP ps.length cP] 64)) w' n8 n9 bM (N+4320) es.length (M.search ps st out)):=by
       have:=search_any ps aP cP n8 n9 bM N st es v w _ hP hp8 hpk (hCh.later hAl) (by omega) (by omega)
       rwa [HO.out] at this
      clear hCh hAl hP hpk HSt' hp1
      go_wp2_with (go_at_call 44;refine KS.out.mono ?_;rintro e w4 ⟨rfl,es4,v4,hC4,hm4,hl4,hA4⟩)
      go_roundw
      case rel=>exact⟨k+1,es4,v4,by omega,by go_num,by rw[HS2.out];exact⟨N+4320,by omega,hC4⟩,by rw[HS2.out];exact hm4,by omega⟩
      case measure=>simp[intOf];omega
    ·obtain rfl:k=its.length:=by omega
     rw[List.take_length] at HD HO
     obtain⟨N,hN,hCh⟩:=HD.out
     have q8:wr.cell? (qa n8 0)=some v:=cellB hCh.q8 0
     have HCh:Hid (Ch w wr n8 n9 bM N (its.foldl M.chooseStep (M.firstAll first,[])).1 es v):=hCh
     clear HD hCh
     obtain⟨aO,cO,rfl⟩:=own_len HCh.out.row
     go_wp2_with fail
     go_ret2
     exact⟨_,rfl,HCh.out.below,es,HO.out,HCh.out.row,HCh.out.parts⟩
def pent0:PEnt:=⟨M.nil,sv none 0 0,sv none 0 0⟩
structure IEnt where
 it:M.Itm
 vP:Value
def ientCells (e:IEnt):List Value:=[.bool e.it.arch,e.vP]
def ient0:IEnt:=⟨⟨false,[]⟩,sv none 0 0⟩
theorem blk_slice{α:Type}{w:World}{B k:Nat}{t:TypeId}{fr:Nat × Nat}(d:α)(f:α→List Value)(hf:∀x,(f x).length=k)(l:List α)(hl:l.length≤maxLen)(c:Nat)(h:w.heap[B]?=some (.cells (l.flatMap f).toArray t fr)) :
  SlAt w (sv (some (qa B 0)) l.length c) k l.length (fun j i=>(f (l.getD j d)).getD i undef):=by
 refine⟨_,_,rfl,hl,.inr ⟨B,0,rfl,fun j i hj hi=>?_⟩⟩
 rw[Nat.zero_add,cellB h,List.getElem?_toArray,flat_get k f hf l j i hi,getElem?_getD l d j hj]
 exact getElem?_getD _ _ _ (by rw[hf];exact hi)
theorem map_getD{α β:Type}(f:α→β)(l:List α)(d:α)(e:β)(j:Nat)(h:j<l.length):(l.map f).getD j e=f (l.getD j d):=by
 rw[List.getD_eq_getElem?_getD,List.getD_eq_getElem?_getD,List.getElem?_map,List.getElem?_eq_getElem h];rfl
theorem parts_of{w:World}{v:Value}{es:List PEnt}(h:SlAt w v 2 es.length (fun j i=>(pentCells (es.getD j pent0)).getD i undef))(hp:∀e∈es,FragsAt w e.vF e.p.frags∧DefsAt w e.vD e.p.defs):PartsAt w v (es.map (·.p)):=by
 refine⟨_,by rw[List.length_map];exact h,fun j hj=>?_⟩
 rw[List.length_map] at hj
 rw[map_getD (·.p) es pent0 M.nil j hj]
 exact hp _ (getD_mem es pent0 j hj)
theorem items_of{w:World}{v:Value}{es:List IEnt}(h:SlAt w v 2 es.length (fun j i=>(ientCells (es.getD j ient0)).getD i undef))(hp:∀e∈es,∃a c,e.vP=sv a e.it.parts.length c∧PartsAt w (sv a e.it.parts.length c) e.it.parts):ItemsAt w v (es.map (·.it)):=by
 refine⟨_,by rw[List.length_map];exact h,fun j hj=>?_⟩
 rw[List.length_map] at hj
 rw[map_getD (·.it) es ient0 ⟨false,[]⟩ j hj]
 obtain⟨a,c,e,hP⟩:=hp _ (getD_mem es ient0 j hj)
 exact⟨rfl,a,c,e,hP⟩
theorem POwn.read{W:World}{B:Nat}{e:PEnt}(h:POwn W B e):FragsAt W e.vF e.p.frags∧DefsAt W e.vD e.p.defs:=by
 obtain⟨en,h1,h2⟩:=h
 refine⟨?_,h1.defsAt⟩
 rw[←h2]
 exact h1.fragsAt
theorem ChOut.parts{w0 w':World}{v:Value}{ps:List M.Prt}(h:ChOut w0 w' v ps):PartsAt w' v ps:=by
 obtain⟨_,es,rfl,hr,hp⟩:=h
 exact parts_of (row_slice pent0 pentCells (fun _=>rfl) es hr) (fun e he=>(hp e he).read)
theorem PartsAt.form{w:World}{v:Value}{ps:List M.Prt}(h:PartsAt w v ps):∃a c,v=sv a ps.length c:=by
 obtain⟨cell,h1,_⟩:=h
 obtain⟨a,c,e,_⟩:=h1.form
 exact⟨a,c,e⟩
def IGood (w0 W:World) (e:IEnt):Prop :=
 (∃a c,e.vP=sv a e.it.parts.length c∧PartsAt w0 (sv a e.it.parts.length c) e.it.parts) ∨
 ∃g p vF vD,e=⟨⟨false,[p]⟩,sv (some (qa g 0)) 1 1⟩∧W.heap[g]?=some (.cells #[vF,vD] 43 (0,0))∧FragsAt w0 vF p.frags∧DefsAt w0 vD p.defs
structure IRow (w0 W:World) (es:List IEnt) (vI:Value):Prop where
 below:Below w0.heap.size w0 W
 row:W.ownsRow w0.heap.size 64 2 vI es.length (es.flatMap ientCells)
 good:∀e∈es,IGood w0 W e
theorem IRow.later{w0 W X:World}{es:List IEnt}{vI:Value}(h:IRow w0 W es vI)(hb:Below W.heap.size W X):IRow w0 X es vI:=by
 refine⟨h.below.trans (hb.mono h.below.size),h.row.kept (grown_of_below hb none) own_self,fun e he=>?_⟩
 rcases h.good e he with h1|⟨g,p,vF,vD,e1,q,hf,hd⟩
 ·exact .inl h1
 ·exact .inr ⟨g,p,vF,vD,e1,blk hb q,hf,hd⟩
theorem IRow.items{w0 W:World}{es:List IEnt}{vI:Value}(h:IRow w0 W es vI):ItemsAt W vI (es.map (·.it)):=by
 refine items_of (row_slice ient0 ientCells (fun _=>rfl) es h.row) (fun e he=>?_)
 rcases h.good e he with ⟨a,c,e1,hp⟩|⟨g,p,vF,vD,rfl,q,hf,hd⟩
 ·exact⟨a,c,e1,hp.later h.below⟩
 ·exact⟨_,_,rfl,parts_of (es:=[⟨p,vF,vD⟩]) (blk_slice pent0 pentCells (fun _=>rfl) [⟨p,vF,vD⟩] (by unfold maxLen;simp) 1 q) (fun x hx=>by
   rw[List.mem_singleton.1 hx];exact⟨hf.later h.below,hd.later h.below⟩)⟩
theorem IRow.push{w0 W w5:World}{es:List IEnt}{vI v':Value}{e:IEnt}(h:IRow w0 W es vI)(he:IGood w0 W e)(hg:W.grownBy w5 vI.ownBlock)
  (hrow:w5.ownsRow w0.heap.size 64 2 v' (es.length+1) (es.flatMap ientCells++ientCells e)):IRow w0 w5 (es++[e]) v':=by
 refine⟨h.below.grown hg h.below.size (fun k hk=>(h.row.lt k hk).1),?_,fun x hx=>?_⟩
 ·rw[List.length_append,List.flatMap_append]
  simpa [List.flatMap_cons] using hrow
 ·have hx':IGood w0 W x:=by
   rcases List.mem_append.1 hx with hx|hx
   ·exact h.good x hx
   ·rw[List.mem_singleton.1 hx];exact he
  rcases hx' with h1|⟨g,p,vF,vD,e1,q,hf,hd⟩
  ·exact .inl h1
  ·exact .inr ⟨g,p,vF,vD,e1,block_kept h.row hg q (by decide),hf,hd⟩
theorem ItemsAt.form{w:World}{v:Value}{its:List M.Itm}(h:ItemsAt w v its):∃a c,v=sv a its.length c:=by
 obtain⟨cell,h1,_⟩:=h
 obtain⟨a,c,e,_⟩:=h1.form
 exact⟨a,c,e⟩
theorem choose_v{W:World}{vI:Value}{its:List M.Itm}{first:List ByteArray}{a3:Option Addr}{c3:Nat}(h:ItemsAt W vI its)(hf:StrsAt W (sv a3 first.length c3) first) :
  Calls Tryz.prog 15 #[vI,sv a3 first.length c3] W fun e w'=>∃v,e=.returned (.tuple #[v,iv (M.choose its first).2])∧ChOut W w' v (M.choose its first).1:=by
 obtain⟨a,c,rfl⟩:=h.form
 exact choose_any its first a a3 c c3 W h hf
theorem rcheckItems_any(its:List M.Itm)(a:Option Addr)(c:Nat)(w:World)(h:ItemsAt w (sv a its.length c) its)
  (KR:∀(p:M.Prt) (a1 a2:Option Addr) (c1 c2:Nat) (W:World),Below w.heap.size w W→FragsAt W (sv a1 p.frags.length c1) p.frags→DefsAt W (sv a2 p.defs.length c2) p.defs→Calls Tryz.prog 24 #[.agg #[sv a1 p.frags.length c1,sv a2 p.defs.length c2]] W fun e w'=>e=.returned (iv (M.checkPart p))∧Below W.heap.size W w') :
  Calls Tryz.prog 9 #[sv a its.length c] w fun e w'=>e=.returned (iv (M.checkItems its))∧Below w.heap.size w w':=by
 have hn:its.length≤maxLen:=by obtain⟨_,h,_⟩:=h;obtain⟨_,_,_,h⟩:=h.form;exact h
 unfold maxLen at hn
 have HI:Hid (∀W,Below w.heap.size w W→ItemsAt W (sv a its.length c) its):=fun W hW=>h.later hW
 have HKR:Hid _:=KR
 have HX:Hid (M.checkItems its=if 12<its.length then 2 else M.checkItems1 (its.drop 0)):=rfl
 clear h KR
 generalize M.checkItems its=R at *
 by_cases h12:12<its.length
 ·obtain rfl:R=2:=by have:=HX.out;rwa [if_pos h12] at this
  have h8':(12:Int)<(its.length:Int):=by omega
  clear HX HI h12 HKR
  go_enter Tryz.func9,Tryz.ntmps9
  go_wp2
  go_ret
  exact⟨rfl,Below.refl _ _⟩
 have h8':decide ((12:Int)<(its.length:Int))=false:=by simp;omega
 rw[if_neg h12] at HX
 go_enter Tryz.func9,Tryz.ntmps9
 go_wp2_with fail
 go_loopw [13] (fun s13 wr=>∃(k:Nat),k≤its.length∧s13=iv k∧Hid (R=M.checkItems1 (its.drop k))∧Hid (Below w.heap.size w wr)) (fun s13 _=>its.length-(intOf s13).toNat)
 case atStart=>exact⟨0,Nat.zero_le _,rfl,HX,Below.refl _ _⟩
 case round =>
  obtain⟨k,hk,rfl,HR,HB⟩:=hrel
  clear HX
  by_cases hlt:k<its.length
  ·obtain⟨b,off,aP,cP,rfl,e0,e1,hP⟩:=item_at (HI.out wr HB.out) k hlt
   have hbr:b<wr.heap.size:=wlt e0
   have hkl:(k:Int)<(its.length:Int):=by omega
   have HN:=checkItems_drop its k hlt
   have hAl:Below wr.heap.size wr (wr.alloc (.cells #[.bool (its.getD k ⟨false,[]⟩).arch,sv aP (its.getD k ⟨false,[]⟩).parts.length cP] 64)):=bra _ _
   have HR2:Hid (R=if M.checkItem (its.getD k ⟨false,[]⟩)=0 then M.checkItems1 (its.drop (k+1)) else M.checkItem (its.getD k ⟨false,[]⟩)):=HR.out.trans HN
   have hqA:=heap_alloc_new wr (.cells #[.bool (its.getD k ⟨false,[]⟩).arch,sv aP (its.getD k ⟨false,[]⟩).parts.length cP] 64)
   have HBA:Hid (Below w.heap.size w (wr.alloc (.cells #[.bool (its.getD k ⟨false,[]⟩).arch,sv aP (its.getD k ⟨false,[]⟩).parts.length cP] 64))):=HB.out.trans (hAl.mono HB.out.size)
   have HPA:Hid (PartsAt (wr.alloc (.cells #[.bool (its.getD k ⟨false,[]⟩).arch,sv aP (its.getD k ⟨false,[]⟩).parts.length cP] 64)) (sv aP (its.getD k ⟨false,[]⟩).parts.length cP) (its.getD k ⟨false,[]⟩).parts):=hP.later hAl
   clear HR HN hP hAl HB
   generalize its.getD k ⟨false,[]⟩=it at *
   obtain⟨ar,ps⟩:=it
   simp only at e0 e1 HBA HPA hqA
   have hn2:ps.length≤maxLen:=by obtain⟨_,h,_⟩:=HPA.out;obtain⟨_,_,_,h⟩:=h.form;exact h
   unfold maxLen at hn2
   have HX2:Hid (M.checkItem ⟨ar,ps⟩=if 8<ps.length then 2 else if ar=false∧¬ps.length=1 then 4 else M.checkParts ps):=rfl
   generalize M.checkItem ⟨ar,ps⟩=er at *
   go_upto_region 6 with fail
   generalize wr.alloc (.cells #[.bool ar,sv aP ps.length cP] 64)=X at *
   have x0:=cellC hqA 0 rfl
   have x1:=cellC hqA 1 rfl
   have lX:=lt1 hqA
   clear hqA e0 e1 hbr
   generalize wr.heap.size=n4 at *
   by_cases h8:8<ps.length
   ·have hP8:(8:Int)<(ps.length:Int):=by omega
    have HRe:Hid (R=2):=by
     have h1:er=2:=by have:=HX2.out;rwa [if_pos h8] at this
     rw[Hid,HR2.out,h1,if_neg (by decide)]
    clear HR2 HX2 HPA h8
    go_wp2_with fail
    go_ret
    exact⟨ret_int HRe.out.symm,HBA.out⟩
   have hP8:decide ((8:Int)<(ps.length:Int))=false:=by simp;omega
   rw[if_neg h8] at HX2
   by_cases h1:ar=false∧¬ps.length=1
   ·obtain⟨rfl,h1'⟩:=h1
    have h1n:((ps.length:Int) !=1)=true:=by rw[bne_iff_ne];omega
    have HRe:Hid (R=4):=by
     have h2:er=4:=by have:=HX2.out;rwa [if_pos ⟨rfl,h1'⟩] at this
     rw[Hid,HR2.out,h2,if_neg (by decide)]
    clear HR2 HX2 HPA h8 h1'
    go_wp2_with fail
    go_ret
    exact⟨ret_int HRe.out.symm,HBA.out⟩
   rw[if_neg h1] at HX2
   have HXp:Hid (er=M.checkParts (ps.drop 0)):=HX2
   clear HX2
   have h1':ar=false→((ps.length:Int) !=1)=false:=fun h=>by
    by_cases h2:ps.length=1
    ·rw[bne_eq_false_iff_eq];omega
    ·exact absurd ⟨h,h2⟩ h1
   cases ar<;>cases hb1:((ps.length:Int) !=1)
   case false.true=>exact absurd (h1' rfl) (by rw[hb1];decide)
   all_goals
    clear h1' h1
    go_wp2_with fail
    go_loopw [33] (fun s33 wr=>∃(j:Nat),j≤ps.length∧s33=iv j∧Hid (er=M.checkParts (ps.drop j))∧Hid (Below X.heap.size X wr)) (fun s33 _=>ps.length-(intOf s33).toNat)
    case atStart=>exact⟨0,Nat.zero_le _,rfl,HXp,Below.refl _ _⟩
    case round =>
     obtain⟨j,hj,rfl,HRj,HBj⟩:=hrel
     clear HXp
     by_cases hltj:j<ps.length
     ·obtain⟨b2,off2,a1,a2,c1,c2,rfl,f0,f1,hf,hd⟩:=part_at (HPA.out.later HBj.out) j hltj
      have hbr2:b2<wr.heap.size:=wlt f0
      have hjl:(j:Int)<(ps.length:Int):=by omega
      have HNj:=checkParts_drop ps j hltj
      have hAl:Below wr.heap.size wr (wr.alloc (.cells #[sv a1 (ps.getD j M.nil).frags.length c1,sv a2 (ps.getD j M.nil).defs.length c2] 43)):=bra _ _
      have hAX:=HBj.out.trans (hAl.mono HBj.out.size)
      have HAX:Hid _:=hAX
      have KC:Hid (Calls Tryz.prog 24 #[.agg #[sv a1 (ps.getD j M.nil).frags.length c1,sv a2 (ps.getD j M.nil).defs.length c2]] (wr.alloc (.cells #[sv a1 (ps.getD j M.nil).frags.length c1,sv a2 (ps.getD j M.nil).defs.length c2] 43)) fun e w'=>e=.returned (iv (M.checkPart (ps.getD j M.nil)))∧Below (wr.alloc (.cells #[sv a1 (ps.getD j M.nil).frags.length c1,sv a2 (ps.getD j M.nil).defs.length c2] 43)).heap.size (wr.alloc (.cells #[sv a1 (ps.getD j M.nil).frags.length c1,sv a2 (ps.getD j M.nil).defs.length c2] 43)) w'):=HKR.out _ _ _ _ _ _ (HBA.out.trans (hAX.mono HBA.out.size)) (hf.later hAl) (hd.later hAl)
      have HRk:Hid (er=if M.checkPart (ps.getD j M.nil)=0 then M.checkParts (ps.drop (j+1)) else M.checkPart (ps.getD j M.nil)):=HRj.out.trans HNj
      clear HRj HNj hf hd hAl hAX
      generalize M.checkPart (ps.getD j M.nil)=ek at *
      generalize ps.getD j M.nil=q at *
      cases he:(ek==0)
      ·have he':(ek !=0)=true:=by simpa using he
       have HRe:Hid (R=ek):=by
        have h1:er=ek:=by rw[HRk.out,if_neg (by simpa using he)]
        rw[Hid,HR2.out,h1,if_neg (by simpa using he)]
       clear HRk HR2
       go_wp2_with (go_at_call 24;refine KC.out.mono ?_;rintro e w1 ⟨rfl,hb1⟩)
       go_ret
       have b1:=HAX.out.trans (hb1.mono HAX.out.size)
       exact⟨ret_int HRe.out.symm,HBA.out.trans (b1.mono HBA.out.size)⟩
      ·have he':(ek !=0)=false:=by simpa using he
       have HRe:Hid (er=M.checkParts (ps.drop (j+1))):=by rw[Hid,HRk.out,if_pos (by simpa using he)]
       clear HRk
       go_wp2_with (go_at_call 24;refine KC.out.mono ?_;rintro e w1 ⟨rfl,hb1⟩)
       go_roundw
       case rel=>exact⟨j+1,by omega,by go_num,HRe,HAX.out.trans (hb1.mono HAX.out.size)⟩
       case measure=>simp[intOf];omega
     ·obtain rfl:j=ps.length:=by omega
      have HRe:Hid (R=M.checkItems1 (its.drop (k+1))):=by
       have h1:er=0:=by rw[HRj.out,List.drop_eq_nil_of_le (Nat.le_refl _)];rfl
       rw[Hid,HR2.out,if_pos h1]
      clear HRj HR2
      go_wp2_with fail
      go_roundw
      case rel=>exact⟨k+1,by omega,by go_num,HRe,HBA.out.trans (HBj.out.mono HBA.out.size)⟩
      case measure=>simp[intOf];omega
  ·obtain rfl:k=its.length:=by omega
   have HRe:Hid (R=0):=by rw[Hid,HR.out,List.drop_eq_nil_of_le (Nat.le_refl _)];rfl
   clear HR
   go_wp2
   go_ret
   exact⟨ret_int HRe.out.symm,HB.out⟩
end Go.Proofs.YtpkfmfhodbjckaaGreatDoor
