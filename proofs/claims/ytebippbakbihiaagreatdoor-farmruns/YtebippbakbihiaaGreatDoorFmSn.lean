/-
  The contracts of what sends a message, and of what asks whether a node is free. One element of a farm's rows is written. The contract of farm.give.
-/
import Derived.Test.YtebippbakbihiaaGreatDoorFmCp
namespace Go.Proofs.YtebippbakbihiaaGreatDoor
open Go Go.RowKit
set_option linter.unusedVariables false
attribute [local go_sem] lat_cell
theorem FmO.push' {B b:Nat} {W:World} {f:M.Farm} {x:Fd} {o:Fo} (h:FmO B W b f x o) (hB:B≤W.heap.size) (k wk n:Int) (e:PEnt) (he:POwn W B e) (v':Value) (w3:World)
  (hg:W.grownBy w3 (sv x.n f.net.length x.nc).ownBlock)
  (hr:w3.ownsRow B 60 5 v' (f.net.length+1) (o.eN.flatMap nentCells ++ (#[iv k,iv wk,iv n,e.vF,e.vD]:Array Value).toList)) :
  ∃ a8 c8,v'=sv a8 (f.net.length+1) c8∧b<w3.heap.size∧w3.cell? (qa b 7)=some (sv x.n f.net.length x.nc)∧w3.frozen? (qa b 7)=false ∧
   FmO B (w3.setCell (qa b 7) (sv a8 (f.net.length+1) c8)) b { f with net:=f.net ++ [⟨k,wk,n,e.p⟩] } { x with n:=a8,nc:=c8 } { o with eN:=o.eN ++ [⟨k,wk,n,e⟩] }∧Below B W (w3.setCell (qa b 7) (sv a8 (f.net.length+1) c8))∧KeepE W (w3.setCell (qa b 7) (sv a8 (f.net.length+1) c8)):=by
 have hg3:=block_keptP h.rowN hg h.blk (by decide)
 obtain⟨a8,c8,rfl⟩:=own_len hr
 have hl1:(f.net ++ [(⟨k,wk,n,e.p⟩:M.Msg)]).length=f.net.length+1:=by simp
 have hke:KeepE W w3:=row_keepE h.rowN hg (by decide)
 have hwr:Wr w3 (w3.setCell (qa b 7) (sv a8 (f.net.length+1) c8)) 29:=⟨b,_,hg3,grown_set _ _ _ _⟩
 refine⟨a8,c8,rfl,(lt1 hg3),cellB hg3 7,frozenB hg3 7,?_,?_,hke.trans (hwr.keepE (by decide))⟩
 ·have:=h.setNet (f.net ++ [⟨k,wk,n,e.p⟩]) (o.eN ++ [⟨k,wk,n,e⟩]) a8 c8 (X:=w3) hg (by rw[hl1,List.flatMap_append];simpa [List.flatMap_cons,nentCells] using hr) (by rw[List.map_append,h.mapN];rfl) (fun e' he'=>by
   rcases List.mem_append.1 he' with he' | he'
   ·exact h.ownN e' he'
   ·rw[List.mem_singleton.1 he'];exact he)
  rw[hl1] at this
  exact this
 ·exact ((Below.refl B W).grown hg hB (fun k hk=>(h.rowN.lt k hk).1)).setCell h.bge _
structure sdC (B b p nz N:Nat) (w:World) (f:M.Farm) (x:Fd) (msg:Array Value) (W:World):Prop where
 hp:W.heap[p]?=some (.cells #[.pointer (some (qa b 0))] 62 (0,0))
 c7:W.cell? (qa b 7)=some (sv x.n f.net.length x.nc)
 hm:W.heap[nz]?=some (.cells msg 60 (0,0))
 base:B≤W.heap.size
 below:Below B w W
 keep:KeepE w W
 above:N≤W.heap.size
 lo:N≤nz
def sdR (B b N:Nat) (w:World) (f:M.Farm) (x:Fd) (o:Fo) (msg:Array Value) (k wk n:Int) (q:M.Prt) (j:Nat) (W:World) (u:Value):Prop :=
 match j with
 | 0=>u=.pointer (some (qa b 0))
 | 1=>u=.pointer (some (qa b 0))
 | 2=>u=.pointer (some (qa b 0))
 | 3=>u=.pointer (some (qa b 7))
 | 4=>u=sv x.n f.net.length x.nc
 | 5=>u=.agg msg
 | 6=>∃ g,u=sv (some (qa g 0)) 1 1∧N≤g∧g<W.heap.size∧∀ j u,msg.toList[j]?=some u→W.cell? ((qa g 0).add j)=some u
 | 7=>∃ a8 c8 x' o',u=sv a8 (f.net.length+1) c8∧b<W.heap.size∧W.frozen? (qa b 7)=false∧FmO B (W.setCell (qa b 7) (sv a8 (f.net.length+1) c8)) b { f with net:=f.net ++ [⟨k,wk,n,q⟩] } x' o'∧Below B w (W.setCell (qa b 7) (sv a8 (f.net.length+1) c8))∧KeepE w (W.setCell (qa b 7) (sv a8 (f.net.length+1) c8))
 | _=>False
theorem sdR_none {B b N:Nat} {w W:World} {f:M.Farm} {x:Fd} {o:Fo} {msg:Array Value} {k wk n:Int} {q:M.Prt} {j:Nat} {u:Value} (h:7<j) (hR:sdR B b N w f x o msg k wk n q j W u):False:=by
 unfold sdR at hR
 split at hR
 all_goals first | omega | exact hR
set_option maxHeartbeats 8000000 in
set_option maxRecDepth 100000 in
theorem send_any {B b p:Nat} {f:M.Farm} {x:Fd} {o:Fo} (w:World) (hO:FmO B w b f x o) (hB:B≤w.heap.size) (hp:w.heap[p]?=some (.cells #[.pointer (some (qa b 0))] 62 (0,0))) (hn:f.net.length≤20) (k wk n:Int) (q:M.Prt) (x1 x2:Option Addr) (y1 y2:Nat)
  (hq:POwn w B ⟨q,sv x1 q.frags.length y1,sv x2 q.defs.length y2⟩) :
  Calls Tryz.prog 80 #[.agg #[iv k,iv wk,iv n,sv x1 q.frags.length y1,sv x2 q.defs.length y2],.pointer (some (qa p 0))] w fun e w'=>e=.returned (.tuple #[])∧Below B w w'∧KeepE w w'∧∃ x' o',FmO B w' b (M.send f ⟨k,wk,n,q⟩) x' o':=by
 obtain⟨i0,hi0,hz0,hz1,hz2⟩:=info_parts (P:=Tryz.prog) (e:=60) (z:=.agg #[iv 0,iv 0,iv 0,sv none 0 0,sv none 0 0]) (size:=5) (bytes:=72) (by kernel_rfl)
 have hA:=(Below.refl w.heap.size w).alloc (Nat.le_refl _) (.cells #[iv k,iv wk,iv n,sv x1 q.frags.length y1,sv x2 q.defs.length y2] 60)
 have HA:Hid (Below w.heap.size w (w.alloc (.cells #[iv k,iv wk,iv n,sv x1 q.frags.length y1,sv x2 q.defs.length y2] 60))):=hA
 have h0:=heap_alloc_new w (.cells #[iv k,iv wk,iv n,sv x1 q.frags.length y1,sv x2 q.defs.length y2] 60)
 have hp1:=(hA.block _ (lt1 hp)).trans hp
 have hO1:=hO.later hA
 have hq1:=hq.later hA
 have hB1:=Nat.le_trans hB hA.size
 obtain⟨R,hR⟩:∃ R,M.send f ⟨k,wk,n,q⟩=R:=⟨_,rfl⟩
 have HR:Hid (M.send f ⟨k,wk,n,q⟩=R):=hR
 rw[hR]
 have HNn:Hid (∀ g,(sv x.n f.net.length x.nc).ownBlock=some g→g<w.heap.size):=fun g hg=>(hO.rowN.lt g hg).2
 clear hO hq hp hA hR
 go_enter Tryz.func80,Tryz.ntmps80
 go_upto_region 1 with fail
 obtain⟨nz,hnz⟩:∃ nz,nz=w.heap.size:=⟨_,rfl⟩
 rw[← hnz] at h0 HNn ⊢
 clear hnz
 generalize w.alloc (.cells #[iv k,iv wk,iv n,sv x1 q.frags.length y1,sv x2 q.defs.length y2] 60)=Z at *
 have c0:=cellC hp1 0 rfl
 have c7:Z.cell? (qa b 7)=some (sv x.n f.net.length x.nc):=cellB hO1.blk 7
 have lp:=lt1 hp1
 have lb:=lt1 hO1.blk
 have m0:=cellC h0 0 rfl
 have m1:=cellC h0 1 rfl
 have m2:=cellC h0 2 rfl
 have m3:=cellC h0 3 rfl
 have m4:=cellC h0 4 rfl
 have lz:=lt1 h0
 by_cases hlt:f.net.length<20
 ·have hlt':(f.net.length:Int)<20:=by omega
  have HR1:Hid (R={ f with net:=f.net ++ [⟨k,wk,n,q⟩] }):=by rw[Hid,← HR.out,M.send,if_pos hlt]
  clear HR
  go_upto_region 2 with fail
  have hNn:=HNn.out
  have HBZ:Below B w Z:=HA.out.mono hB
  have HKZ:KeepE w Z:=keepE_below HA.out
  have hstay:∀ W,sdC B b p nz nz w f x #[iv k,iv wk,iv n,sv x1 q.frags.length y1,sv x2 q.defs.length y2] W→(W.heap[p]?=some (.cells #[.pointer (some (qa b 0))] 62 (0,0)))∧W.cell? (qa b 7)=some (sv x.n f.net.length x.nc)∧W.heap[nz]?=some (.cells #[iv k,iv wk,iv n,sv x1 q.frags.length y1,sv x2 q.defs.length y2] 60 (0,0)):=fun W h=>⟨h.hp,h.c7,h.hm⟩
  have hC0:sdC B b p nz nz w f x #[iv k,iv wk,iv n,sv x1 q.frags.length y1,sv x2 q.defs.length y2] Z.drew:=⟨hp1,c7,h0,hB1,HBZ.drew,HKZ,Nat.le_of_lt lz,Nat.le_refl _⟩
  have hO1':FmO B Z.drew b f x o:=hO1.later (Below.refl _ _).drew
  have hq1':=hq1.later (Below.refl Z.heap.size Z).drew
  clear hO1 hq1 HBZ HKZ c0 c7 m0 m1 m2 m3 m4 lp lb lz hp1 h0
  refine wp_region_rel 8 (fun s W=>sdC B b p nz nz w f x #[iv k,iv wk,iv n,sv x1 q.frags.length y1,sv x2 q.defs.length y2] W∧(s.getD 7 false=false→FmO B W b f x o∧POwn W B ⟨q,sv x1 q.frags.length y1,sv x2 q.defs.length y2⟩)) (fun v=>⟨#[.agg #[iv k,iv wk,iv n,sv x1 q.frags.length y1,sv x2 q.defs.length y2],.pointer (some (qa p 0)),.pointer (some (qa nz 0)),.pointer (some (qa b 0)),.pointer (some (qa b 0)),.pointer (some (qa b 7)),sv x.n f.net.length x.nc,iv f.net.length,.bool true,v 0,v 1,v 2,v 3,v 4,v 5,v 6,v 7,undef,undef],[]⟩) (sdR B b nz w f x o #[iv k,iv wk,iv n,sv x1 q.frags.length y1,sv x2 q.defs.length y2] k wk n q) (fun _ _ _ _=>True) (by kernel_rfl) (by kernel_rfl) ⟨hC0,fun _=>⟨hO1',hq1'⟩⟩ ⟨fun _=>undef,rfl⟩ ?_ ?_
  ·intro j op hj ho
   rcases (by omega:j=0∨j=1∨j=2∨j=3∨j=4∨j=5∨j=6∨j=7) with rfl | rfl | rfl | rfl | rfl | rfl | rfl | rfl
   all_goals cases ho
   all_goals refine relStep_of rfl rfl ?_
   all_goals rintro sd v W ⟨hC,hF⟩ hin hsd hdep hdz
   all_goals obtain⟨hp,hc7,hm⟩:=hstay W hC
   ·have hc:=cellB hp 0
    exact wp_val (.pointer (some (qa b 0))) (by simp[execOp,Act.eval,go_sem,hc]) ⟨_,rfl,⟨hC,fun h=>hF (by rwa [getD_set_ne false (by decide)] at h)⟩,fun _ _ _ _ h=>h,rfl,fun k hk _ hz=>⟨trivial,trivial⟩⟩
   ·have hc:=cellB hp 0
    exact wp_val (.pointer (some (qa b 0))) (by simp[execOp,Act.eval,go_sem,hc]) ⟨_,rfl,⟨hC,fun h=>hF (by rwa [getD_set_ne false (by decide)] at h)⟩,fun _ _ _ _ h=>h,rfl,fun k hk _ hz=>⟨trivial,trivial⟩⟩
   ·have hv:v 1=.pointer (some (qa b 0)):=hdep ⟨1,.data⟩ (by simp) rfl
    exact wp_val (.pointer (some (qa b 0))) (by simp[execOp,Act.eval,go_sem,hv]) ⟨_,rfl,⟨hC,fun h=>hF (by rwa [getD_set_ne false (by decide)] at h)⟩,fun _ _ _ _ h=>h,rfl,fun k hk _ hz=>⟨trivial,trivial⟩⟩
   ·have hv:v 2=.pointer (some (qa b 0)):=hdep ⟨2,.data⟩ (by simp) rfl
    exact wp_val (.pointer (some (qa b 7))) (by simp[execOp,Act.eval,go_sem,hv]) ⟨_,rfl,⟨hC,fun h=>hF (by rwa [getD_set_ne false (by decide)] at h)⟩,fun _ _ _ _ h=>h,rfl,fun k hk _ hz=>⟨trivial,trivial⟩⟩
   ·have hv:v 3=.pointer (some (qa b 7)):=hdep ⟨3,.data⟩ (by simp) rfl
    exact wp_val (sv x.n f.net.length x.nc) (by simp[execOp,Act.eval,go_sem,hv,hc7]) ⟨_,rfl,⟨hC,fun h=>hF (by rwa [getD_set_ne false (by decide)] at h)⟩,fun _ _ _ _ h=>h,rfl,fun k hk _ hz=>⟨trivial,trivial⟩⟩
   ·have e0:=cellC hm 0 rfl
    have e1:=cellC hm 1 rfl
    have e2:=cellC hm 2 rfl
    have e3:=cellC hm 3 rfl
    have e4:=cellC hm 4 rfl
    exact wp_val (.agg #[iv k,iv wk,iv n,sv x1 q.frags.length y1,sv x2 q.defs.length y2]) (by simp[execOp,Act.eval,go_sem,e0,e1,e2,e3,e4]) ⟨_,rfl,⟨hC,fun h=>hF (by rwa [getD_set_ne false (by decide)] at h)⟩,fun _ _ _ _ h=>h,rfl,fun k hk _ hz=>⟨trivial,trivial⟩⟩
   ·have hv:v 5=.agg #[iv k,iv wk,iv n,sv x1 q.frags.length y1,sv x2 q.defs.length y2]:=hdep ⟨5,.data⟩ (by simp) rfl
    have hA:=(Below.refl W.heap.size W).alloc (Nat.le_refl _) (.cells #[iv k,iv wk,iv n,sv x1 q.frags.length y1,sv x2 q.defs.length y2] 60)
    have h7:sd.getD 7 false=false:=by
     cases h:sd.getD 7 false
     ·rfl
     ·have:=hin.closed 7 _ rfl h ⟨6,.data⟩ (by simp) rfl
      rw[getD_both hsd] at this
      cases this
    refine wp_valW (sv (some (qa W.heap.size 0)) 1 1) (W.alloc (.cells #[iv k,iv wk,iv n,sv x1 q.frags.length y1,sv x2 q.defs.length y2] 60)) (by simp[Act.eval,go_sem,hv]) ⟨_,rfl,⟨⟨(hA.block _ (lt1 hp)).trans hp,cell_later hA hc7,(hA.block _ (lt1 hm)).trans hm,Nat.le_trans hC.base hA.size,hC.below.trans (hA.mono hC.base),hC.keep.trans (keepE_below hA),Nat.le_trans hC.above hA.size,Nat.le_refl _⟩,fun _=>⟨(hF h7).1.later hA,(hF h7).2.later hA⟩⟩,?_,⟨W.heap.size,rfl,hC.above,by simp,World.news_of_block (heap_alloc_new W _)⟩,fun k hk _ hz=>⟨trivial,trivial⟩⟩
    intro i u hi hs hR
    rcases (by omega:i=0∨i=1∨i=2∨i=3∨i=4∨i=5∨i=7∨7<i) with rfl | rfl | rfl | rfl | rfl | rfl | rfl | h8
    ·exact hR
    ·exact hR
    ·exact hR
    ·exact hR
    ·exact hR
    ·exact hR
    ·rw[h7] at hs;cases hs
    ·exact (sdR_none h8 hR).elim
   ·have hv4:v 4=sv x.n f.net.length x.nc:=hdep ⟨4,.data⟩ (by simp) rfl
    obtain⟨g,hv6,hNg,hgW,hnews⟩:sdR B b nz w f x o #[iv k,iv wk,iv n,sv x1 q.frags.length y1,sv x2 q.defs.length y2] k wk n q 6 W (v 6):=hdep ⟨6,.data⟩ (by simp) rfl
    obtain⟨hO,hq⟩:=hF (getD_both hsd)
    refine wp_append_own W _ _ 27 rfl B 60 i0 (.agg #[iv 0,iv 0,iv 0,sv none 0 0,sv none 0 0]) 5 72 Tryz.underlying27 hi0 hz0 hz1 hz2 rfl (by decide) _ f.net.length _ hv4 hO.rowN ⟨g,0,none⟩ 1 1 (#[iv k,iv wk,iv n,sv x1 q.frags.length y1,sv x2 q.defs.length y2]:Array Value).toList hv6 rfl hnews (fun u hu=>by simp at hu;rcases hu with rfl | rfl | rfl | rfl | rfl <;> rfl) (by unfold maxLen;omega) (by omega) hC.base ?_
    intro v' w3 hown' hgrow3 _
    obtain⟨a8,c8,rfl,q1,q2,q3,q4,q5,q6⟩:=hO.push' hC.base k wk n ⟨q,sv x1 q.frags.length y1,sv x2 q.defs.length y2⟩ hq v' w3 hgrow3 hown'
    have hne:∀ i,nz≤i→i<W.heap.size→w3.heap[i]?=W.heap[i]?:=fun i h1 h2=>hgrow3.block i h2 (fun e=>by have:=hNn i e.symm;omega)
    refine⟨_,rfl,⟨⟨block_keptP hO.rowN hgrow3 hp (by decide),q2,?_,Nat.le_trans hC.base hgrow3.size,hC.below.grown hgrow3 hC.base (fun k hk=>(hO.rowN.lt k hk).1),hC.keep.trans (row_keepE hO.rowN hgrow3 (by decide)),Nat.le_trans hC.above hgrow3.size,hC.lo⟩,fun h=>?_⟩,?_,⟨a8,c8,_,_,rfl,q1,q3,q4,hC.below.trans q5,hC.keep.trans q6⟩,fun k hk _ hz=>⟨trivial,trivial⟩⟩
    ·exact (hne nz hC.lo (lt1 hm)).trans hm
    ·have hsz:7<sd.size:=by rw[hin.size];decide
     simp[hsz] at h
    ·intro i u hi hs hR
     rcases (by omega:i=0∨i=1∨i=2∨i=3∨i=4∨i=5∨i=6∨7<i) with rfl | rfl | rfl | rfl | rfl | rfl | rfl | h8
     ·exact hR
     ·exact hR
     ·exact hR
     ·exact hR
     ·exact hR
     ·exact hR
     ·obtain⟨g2,hg1,hg2,hg3,hg4⟩:=hR
      refine⟨g2,hg1,hg2,Nat.lt_of_lt_of_le hg3 hgrow3.size,fun j u hu=>?_⟩
      have:=hg4 j u hu
      rw[Addr.add_lit] at this ⊢
      rw[World.cell?_of_block (w:=W) (hne g2 hg2 hg3)]
      exact this
     ·exact (sdR_none h8 hR).elim
  ·rintro sd v W ⟨hC,_⟩ hR hZ
   obtain⟨a8,c8,x',o',h7,q1,q3,q4,q5,q6⟩:sdR B b nz w f x o #[iv k,iv wk,iv n,sv x1 q.frags.length y1,sv x2 q.defs.length y2] k wk n q 7 W (v 7):=hR 7 (by decide)
   have h0:v 0=.pointer (some (qa b 0)):=hR 0 (by decide)
   have c7:=hC.c7
   simp only[List.drop_succ_cons,List.drop_zero]
   rw[h0,h7]
   have Q4:Hid (FmO B (W.setCell (qa b 7) (sv a8 (f.net.length+1) c8)) b { f with net:=f.net ++ [⟨k,wk,n,q⟩] } x' o'):=q4
   have Q5:Hid (Below B w (W.setCell (qa b 7) (sv a8 (f.net.length+1) c8))):=q5
   have Q6:Hid (KeepE w (W.setCell (qa b 7) (sv a8 (f.net.length+1) c8))):=q6
   clear hR hZ hC q4 q5 q6 hO1' hq1' hC0 hstay
   go_wp2_with fail
   refine bodyPost_end (v:=.tuple #[]) (by simp[results,Tryz.results80,go_sem]) rfl ?_
   exact⟨rfl,Q5.out,Q6.out,x',o',by rw[HR1.out];exact Q4.out⟩
 ·have hlt':¬ (f.net.length:Int)<20:=by omega
  have HR1:Hid (R=f):=by rw[Hid,← HR.out,M.send,if_neg hlt]
  clear HR hp1 h0
  go_wp2_with fail
  refine bodyPost_end (v:=.tuple #[]) (by simp[results,Tryz.results80,go_sem]) rfl ?_
  exact⟨rfl,HA.out.mono hB,keepE_below HA.out,x,o,by rw[HR1.out];exact hO1⟩
set_option maxHeartbeats 4000000 in
set_option maxRecDepth 100000 in
theorem free_any {b p:Nat} {f:M.Farm} {x:Fd} (w:World) (hA:GrantsAt w (sv x.g f.grants.length x.gc) f.grants)
  (hblk:w.heap[b]?=some (.cells #[sv x.p f.parts.length x.pc,sv x.l f.plan.length x.lc,iv f.now,sv x.d f.done.length x.dc,sv x.h f.got.length x.hc,sv x.g f.grants.length x.gc,sv x.k f.work.length x.kc,sv x.n f.net.length x.nc] 29 (0,0)))
  (hp:w.heap[p]?=some (.cells #[.pointer (some (qa b 0))] 62 (0,0))) (n:Nat) (hn:n<f.grants.length) :
  Calls Tryz.prog 118 #[iv n,.pointer (some (qa p 0))] w fun e w'=>e=.returned (.bool (M.freeAt f n))∧Below w.heap.size w w':=by
 obtain⟨bg,off,e0,e1,e2⟩:=hA.cells n hn
 have hR:M.freeAt f n=decide ((f.grants.getD n M.grt0).till≤f.now):=rfl
 have c0:=cellC hp 0 rfl
 have c2:=cellC hblk 2 rfl
 have c5:=cellC hblk 5 rfl
 have lp:=lt1 hp
 have lb:=lt1 hblk
 have lg:bg<w.heap.size:=World.block_lt_of_cell? _ _ e1
 have hnI:(n:Int)<(f.grants.length:Int):=by omega
 rw[hR]
 rw[e0] at c5
 generalize (f.grants.getD n M.grt0).till=tt at *
 generalize f.grants.length=ng at *
 generalize f.now=nw at *
 clear hA hblk hp hR e0
 go_enter Tryz.func118,Tryz.ntmps118
 go_upto_region 1 with fail
 refine wp_region_lat (by kernel_rfl) (by kernel_rfl) ?_
 intro hne
 repeat (go_big_quiet_step (fail))
 refine wpQuiet_nil ?_
 intro X hX
 have hX:=lat_out hX
 go_wp2_with fail
 go_ret
 exact⟨rfl,hX⟩
end Go.Proofs.YtebippbakbihiaaGreatDoor
namespace Go.Proofs.YtebippbakbihiaaGreatDoor
open Go Go.RowKit
set_option linter.unusedVariables false
theorem own_blk {w:World} {B k n c:Nat} {a:Option Addr} {e:TypeId} {xs:List Value} (h:w.ownsRow B e k (sv a n c) n xs) (hn:0<n):∃ g,a=some (qa g 0):=by
 rcases h.2 with ⟨h1,h2⟩ | ⟨g,cap,cur,h1,_⟩
 ·omega
 ·cases h1;exact⟨g,rfl⟩
theorem set_one {α:Type} (enc:α→List Value) (h1:∀ x,(enc x).length=1) (y:α):∀ (l:List α) (n:Nat),n<l.length→(l.flatMap enc).set n ((enc y).getD 0 undef)=(l.set n y).flatMap enc
 | [],n,h=>absurd h (by simp)
 | x :: l,0,_=>by
  obtain⟨a,ha⟩:=List.length_eq_one_iff.1 (h1 x)
  obtain⟨b,hb⟩:=List.length_eq_one_iff.1 (h1 y)
  simp[List.flatMap_cons,ha,hb]
 | x :: l,n+1,h=>by
  obtain⟨a,ha⟩:=List.length_eq_one_iff.1 (h1 x)
  have:=set_one enc h1 y l n (by simpa using h)
  simp only[List.flatMap_cons,ha,List.cons_append,List.nil_append,List.set_cons_succ,this]
theorem set_two {α:Type} (enc:α→List Value) (h1:∀ x,∃ a b,enc x=[a,b]) (y:α) (u v:Value) (hy:enc y=[u,v]):∀ (l:List α) (n:Nat),n<l.length→((l.flatMap enc).set (n*2) u).set (n*2+1) v=(l.set n y).flatMap enc
 | [],n,h=>absurd h (by simp)
 | x :: l,0,_=>by
  obtain⟨a,b,ha⟩:=h1 x
  simp[List.flatMap_cons,ha,hy]
 | x :: l,n+1,h=>by
  obtain⟨a,b,ha⟩:=h1 x
  have:=set_two enc h1 y u v hy l n (by simpa using h)
  rw[show (n+1)*2=n*2+1+1 by omega]
  simp[List.flatMap_cons,ha,this]
theorem FmO.setGrant {B b:Nat} {W:World} {f:M.Farm} {x:Fd} {o:Fo} (h:FmO B W b f x o) (g n:Nat) (hg:x.g=some (qa g 0)) (hn:n<f.grants.length) (a t:Int) :
  FmO B ((W.setCell (qa g (n*2)) (iv a)).setCell (qa g (n*2+1)) (iv t)) b { f with grants:=f.grants.set n ⟨a,t⟩ } x o∧Below B W ((W.setCell (qa g (n*2)) (iv a)).setCell (qa g (n*2+1)) (iv t))∧KeepE W ((W.setCell (qa g (n*2)) (iv a)).setCell (qa g (n*2+1)) (iv t)):=by
 have hr:=h.rowG
 rw[hg] at hr
 have hl:=flat_len' 2 encGrt (fun _=>rfl) f.grants
 have h1:=row_set hr (i:=n*2) (u:=iv a) (by rw[hl];omega)
 have h2:=row_set h1 (i:=n*2+1) (u:=iv t) (by rw[List.length_set,hl];omega)
 rw[set_two encGrt (fun x=>⟨_,_,rfl⟩) ⟨a,t⟩ _ _ rfl f.grants n hn] at h2
 obtain⟨cs,hcs,hge⟩:∃ cs,W.heap[g]?=some (.cells cs 64 (0,0))∧B≤g:=by
  rcases hr.2 with ⟨h1,_⟩ | ⟨g',cap,cur,h1,hb,h2,_⟩
  ·cases h1
  ·cases h1;exact⟨cur,h2,hb⟩
 have wr:Wr W ((W.setCell (qa g (n*2)) (iv a)).setCell (qa g (n*2+1)) (iv t)) 64:=⟨g,cs,hcs,grown_trans (grown_set _ _ _ _) (grown_set _ _ _ _)⟩
 exact⟨h.setGrants _ (by simp) wr (by rw[hg];exact h2),((Below.refl _ _).setCell hge _).setCell hge _,wr.keepE (by decide)⟩
theorem FmO.setWork {B b:Nat} {W:World} {f:M.Farm} {x:Fd} {o:Fo} (h:FmO B W b f x o) (g n:Nat) (hg:x.k=some (qa g 0)) (hn:n<f.work.length) (a:Int) :
  FmO B (W.setCell (qa g n) (iv a)) b { f with work:=f.work.set n a } x o∧Below B W (W.setCell (qa g n) (iv a))∧KeepE W (W.setCell (qa g n) (iv a)):=by
 have hr:=h.rowW
 rw[hg] at hr
 have hl:=flat_len' 1 encI (fun _=>rfl) f.work
 have h1:=row_set hr (i:=n) (u:=iv a) (by rw[hl];omega)
 have e:=set_one encI (fun _=>rfl) a f.work n hn
 have e':(f.work.flatMap encI).set n (iv a)=(f.work.set n a).flatMap encI:=e
 rw[e'] at h1
 obtain⟨cs,hcs,hge⟩:∃ cs,W.heap[g]?=some (.cells cs 3 (0,0))∧B≤g:=by
  rcases hr.2 with ⟨h1,_⟩ | ⟨g',cap,cur,h1,hb,h2,_⟩
  ·cases h1
  ·cases h1;exact⟨cur,h2,hb⟩
 have wr:Wr W (W.setCell (qa g n) (iv a)) 3:=⟨g,cs,hcs,grown_set _ _ _ _⟩
 exact⟨h.setWorks _ (by simp) wr (by rw[hg];exact h1),(Below.refl _ _).setCell hge _,wr.keepE (by decide)⟩
theorem FmO.setDone {B b:Nat} {W:World} {f:M.Farm} {x:Fd} {o:Fo} (h:FmO B W b f x o) (g n:Nat) (hg:x.d=some (qa g 0)) (hn:n<f.done.length) (a:Bool) :
  FmO B (W.setCell (qa g n) (.bool a)) b { f with done:=f.done.set n a } x o∧Below B W (W.setCell (qa g n) (.bool a))∧KeepE W (W.setCell (qa g n) (.bool a)):=by
 have hr:=h.rowD
 rw[hg] at hr
 have hl:=flat_len' 1 encB (fun _=>rfl) f.done
 have h1:=row_set hr (i:=n) (u:=.bool a) (by rw[hl];omega)
 have e:=set_one encB (fun _=>rfl) a f.done n hn
 have e':(f.done.flatMap encB).set n (.bool a)=(f.done.set n a).flatMap encB:=e
 rw[e'] at h1
 obtain⟨cs,hcs,hge⟩:∃ cs,W.heap[g]?=some (.cells cs 4 (0,0))∧B≤g:=by
  rcases hr.2 with ⟨h1,_⟩ | ⟨g',cap,cur,h1,hb,h2,_⟩
  ·cases h1
  ·cases h1;exact⟨cur,h2,hb⟩
 have wr:Wr W (W.setCell (qa g n) (.bool a)) 4:=⟨g,cs,hcs,grown_set _ _ _ _⟩
 exact⟨h.setDones _ (by simp) wr (by rw[hg];exact h1),(Below.refl _ _).setCell hge _,wr.keepE (by decide)⟩
theorem FmO.setGot {B b:Nat} {W:World} {f:M.Farm} {x:Fd} {o:Fo} (h:FmO B W b f x o) (g n:Nat) (hg:x.h=some (qa g 0)) (hn:n<f.got.length) (e:PEnt) (he:POwn W B e) :
  ∃ o',FmO B ((W.setCell (qa g (n*2)) e.vF).setCell (qa g (n*2+1)) e.vD) b { f with got:=f.got.set n e.p } x o'∧Below B W ((W.setCell (qa g (n*2)) e.vF).setCell (qa g (n*2+1)) e.vD)∧KeepE W ((W.setCell (qa g (n*2)) e.vF).setCell (qa g (n*2+1)) e.vD):=by
 have hr:=h.rowH
 rw[hg] at hr
 have hle:=map_len h.mapH
 have hl:=flat_len' 2 pentCells (fun _=>rfl) o.eH
 have h1:=row_set hr (i:=n*2) (u:=e.vF) (by rw[hl];omega)
 have h2:=row_set h1 (i:=n*2+1) (u:=e.vD) (by rw[List.length_set,hl];omega)
 rw[set_two pentCells (fun x=>⟨_,_,rfl⟩) e _ _ rfl o.eH n (by omega)] at h2
 obtain⟨cs,hcs,hge⟩:∃ cs,W.heap[g]?=some (.cells cs 39 (0,0))∧B≤g:=by
  rcases hr.2 with ⟨h1,_⟩ | ⟨g',cap,cur,h1,hb,h2,_⟩
  ·cases h1
  ·cases h1;exact⟨cur,h2,hb⟩
 have wr:Wr W ((W.setCell (qa g (n*2)) e.vF).setCell (qa g (n*2+1)) e.vD) 39:=⟨g,cs,hcs,grown_trans (grown_set _ _ _ _) (grown_set _ _ _ _)⟩
 have hgr:W.grownBy ((W.setCell (qa g (n*2)) e.vF).setCell (qa g (n*2+1)) e.vD) (sv x.h f.got.length x.hc).ownBlock:=by rw[hg];exact grown_trans (grown_set _ _ _ _) (grown_set _ _ _ _)
 refine⟨{ o with eH:=o.eH.set n e },h.setGots (f.got.set n e.p) (o.eH.set n e) (by simp) hgr (by rw[hg];exact h2) (by rw[List.map_set,h.mapH]) (fun e' he'=>?_),((Below.refl _ _).setCell hge _).setCell hge _,wr.keepE (by decide)⟩
 rcases List.mem_or_eq_of_mem_set he' with he' | he'
 ·exact h.ownH e' he'
 ·rw[he'];exact he
attribute [local go_sem] lat_cell
set_option maxHeartbeats 2000000 in
set_option maxRecDepth 100000 in
theorem idxFree_any {b p:Nat} {f:M.Farm} {x:Fd} (l:List Int) (a:Option Addr) (c:Nat) (w:World) (h:IntsAt w (sv a l.length c) l) (hl:∀ n∈l,0≤n∧n<f.grants.length) (hA:GrantsAt w (sv x.g f.grants.length x.gc) f.grants)
  (hblk:w.heap[b]?=some (.cells #[sv x.p f.parts.length x.pc,sv x.l f.plan.length x.lc,iv f.now,sv x.d f.done.length x.dc,sv x.h f.got.length x.hc,sv x.g f.grants.length x.gc,sv x.k f.work.length x.kc,sv x.n f.net.length x.nc] 29 (0,0)))
  (hp:w.heap[p]?=some (.cells #[.pointer (some (qa b 0))] 62 (0,0))) :
  Calls Tryz.prog 119 #[sv a l.length c,.func (.func 118) #[] #[.pointer (some (qa p 0))]] w fun e w'=>(∃ z:Int,e=.returned (iv z)∧((z=-1∧l.find? (M.freeAt f)=none)∨∃ i:Nat,z=i∧i<l.length∧l.find? (M.freeAt f)=some (l.getD i 0)))∧Below w.heap.size w w':=by
 have hn:l.length≤maxLen:=by obtain⟨_,_,_,h⟩:=SlAt.form h;exact h
 unfold maxLen at hn
 have HH:Hid (∀ W,Below w.heap.size w W→IntsAt W (sv a l.length c) l):=fun W hW=>h.later hW
 have HF:Hid (∀ W,Below w.heap.size w W→∀ n:Int,n∈l→Calls Tryz.prog 118 #[iv n,.pointer (some (qa p 0))] W fun e w'=>e=.returned (.bool (M.freeAt f n))∧Below W.heap.size W w'):=fun W hW n hn=>by
  obtain⟨h0,h1⟩:=hl n hn
  obtain⟨m,rfl⟩:∃ m:Nat,n=m:=⟨n.toNat,by omega⟩
  exact free_any W (hA.later hW) ((hW.block _ (lt1 hblk)).trans hblk) ((hW.block _ (lt1 hp)).trans hp) m (by omega)
 clear h hl hA hblk hp
 have HA0:Hid ((l.take 0).find? (M.freeAt f)=none):=rfl
 go_enter Tryz.func119,Tryz.ntmps119
 go_wp2_with fail
 go_loopw [8] (fun s8 wr=>∃ (k:Nat),k≤l.length∧s8=iv k∧Hid ((l.take k).find? (M.freeAt f)=none)∧Hid (Below w.heap.size w wr)) (fun s8 _=>l.length - (intOf s8).toNat)
 case atStart=>exact⟨0,Nat.zero_le _,rfl,HA0,Below.refl _ _⟩
 case round =>
  obtain⟨k,hk,rfl,HA,HB⟩:=hrel
  clear HA0
  by_cases hlt:k<l.length
  ·obtain⟨bb,off,rfl,e0,hbb⟩:=(HH.out wr HB.out).cell k hlt
   have hkl:(k:Int)<(l.length:Int):=by omega
   have KC:Hid (Calls Tryz.prog 118 #[iv (l.getD k 0),.pointer (some (qa p 0))] wr fun e w'=>e=.returned (.bool (M.freeAt f (l.getD k 0)))∧Below wr.heap.size wr w'):=HF.out wr HB.out _ (getD_mem l 0 k hlt)
   have hsp:l=l.take k ++ l.getD k 0 :: l.drop (k+1):=by rw[← drop_getD l 0 k hlt,List.take_append_drop]
   have HN:Hid (M.freeAt f (l.getD k 0)=false→(l.take (k+1)).find? (M.freeAt f)=none):=fun h=>by
    rw[List.take_add_one,getElem?_getD l 0 k hlt,List.find?_append,HA.out,Option.toList_some,List.find?_cons,h];rfl
   have HT:Hid (M.freeAt f (l.getD k 0)=true→l.find? (M.freeAt f)=some (l.getD k 0)):=fun h=>by
    have:l.find? (M.freeAt f)=(l.take k ++ l.getD k 0 :: l.drop (k+1)).find? (M.freeAt f):=by rw[← hsp]
    rw[this,List.find?_append,HA.out,List.find?_cons,h];rfl
   clear HA hsp
   cases hfr:M.freeAt f (l.getD k 0)
   ·have HN1:Hid ((l.take (k+1)).find? (M.freeAt f)=none):=HN.out hfr
    rw[hfr] at KC
    clear HT HN hfr
    generalize l.getD k 0=t at *
    go_wp2_with (go_at_call 118;refine KC.out.mono ?_;rintro e w1 ⟨rfl,hb1⟩)
    go_roundw
    case rel=>exact⟨k+1,by omega,by go_num,HN1,HB.out.trans (hb1.mono HB.out.size)⟩
    case measure=>simp[intOf];omega
   ·have HT1:Hid (l.find? (M.freeAt f)=some (l.getD k 0)):=HT.out hfr
    rw[hfr] at KC
    clear HT HN hfr
    obtain⟨t,ht⟩:∃ t,l.getD k 0=t:=⟨_,rfl⟩
    have Ht:Hid (l.getD k 0=t):=ht
    rw[ht] at KC e0
    clear ht
    go_wp2_with (go_at_call 118;refine KC.out.mono ?_;rintro e w1 ⟨rfl,hb1⟩)
    go_ret
    exact⟨⟨k,rfl,.inr ⟨k,rfl,hlt,HT1.out⟩⟩,HB.out.trans (hb1.mono HB.out.size)⟩
  ·obtain rfl:k=l.length:=by omega
   have HAn:Hid (l.find? (M.freeAt f)=none):=by have:=HA.out;rwa [List.take_length] at this
   clear HA
   go_wp2
   go_ret
   exact⟨⟨-1,rfl,.inl ⟨rfl,HAn.out⟩⟩,HB.out⟩
def gvR (N b:Nat) (f:M.Farm) (x:Fd) (j:Nat) (W:World) (u:Value):Prop :=
 match j with
 | 0=>u=.pointer (some (qa b 0))
 | 1=>u=.pointer (some (qa b 0))
 | 2=>u=.pointer (some (qa b 1))
 | 3=>u=sv x.l f.plan.length x.lc
 | 4=>u=.pointer (some (qa b 0))
 | 5=>u=.pointer (some (qa b 0))
 | 6=>u=.pointer (some (qa b 0))
 | 7=>u=sv x.p f.parts.length x.pc
 | 8=>u=iv f.parts.length
 | 9=>u=.pointer (some (qa b 0))
 | 10=>u=.pointer (some (qa b 0))
 | 11=>u=.pointer (some (qa b 3))
 | 12=>u=sv x.d f.done.length x.dc
 | 13=>∃ r,u=.tuple #[r,iv 0]∧W.ownsRow N 3 1 r (M.ready f.plan f.done).length ((M.ready f.plan f.done).map (Value.int .i64))
 | 14=>∃ r,u=.tuple #[r,iv 0]∧W.ownsRow N 3 1 r (M.ready f.plan f.done).length ((M.ready f.plan f.done).map (Value.int .i64))
 | 15=>∃ r,u=r∧W.ownsRow N 3 1 r (M.ready f.plan f.done).length ((M.ready f.plan f.done).map (Value.int .i64))
 | 16=>u=iv 0
 | 17=>∃ r,u=r∧W.ownsRow N 3 1 r (M.ready f.plan f.done).length ((M.ready f.plan f.done).map (Value.int .i64))
 | _=>False
theorem gvR_later {N b:Nat} {f:M.Farm} {x:Fd} {W X:World} (hb:Below W.heap.size W X):∀ j u,gvR N b f x j W u→gvR N b f x j X u:=by
 intro j u h
 have hg:=grown_of_below hb Option.none
 match j,h with
 | 0,h=>exact h
 | 1,h=>exact h
 | 2,h=>exact h
 | 3,h=>exact h
 | 4,h=>exact h
 | 5,h=>exact h
 | 6,h=>exact h
 | 7,h=>exact h
 | 8,h=>exact h
 | 9,h=>exact h
 | 10,h=>exact h
 | 11,h=>exact h
 | 12,h=>exact h
 | 16,h=>exact h
 | 13,h=>obtain⟨r,h1,h2⟩:=h;exact⟨r,h1,h2.kept hg own_self⟩
 | 14,h=>obtain⟨r,h1,h2⟩:=h;exact⟨r,h1,h2.kept hg own_self⟩
 | 15,h=>obtain⟨r,h1,h2⟩:=h;exact⟨r,h1,h2.kept hg own_self⟩
 | 17,h=>obtain⟨r,h1,h2⟩:=h;exact⟨r,h1,h2.kept hg own_self⟩
theorem ready_bound (l:List M.Nd) (d:List Bool):∀ n∈M.ready l d,0≤n∧n<(l.length:Int):=by
 intro n hn
 unfold M.ready M.readyUpto at hn
 obtain⟨k,hk,rfl⟩:=List.mem_map.1 hn
 have:=List.mem_range.1 (List.mem_filter.1 hk).1
 exact⟨Int.natCast_nonneg _,by simp;omega⟩
set_option maxHeartbeats 16000000 in
set_option maxRecDepth 100000 in
theorem give_any {B b p0:Nat} {f:M.Farm} {x:Fd} {o:Fo} (w:World) (hO:FmO B w b f x o) (hB:B≤w.heap.size) (hp0:w.heap[p0]?=some (.cells #[.pointer (some (qa b 0))] 62 (0,0))) (hok:M.FarmOk f) (wk:Int) :
  Calls Tryz.prog 81 #[.pointer (some (qa b 0)),iv wk,.func (.func 80) #[] #[.pointer (some (qa p0 0))]] w fun e w'=>e=.returned (iv (M.give f wk).2)∧Below B w w'∧KeepE w w'∧∃ x' o',FmO B w' b (M.give f wk).1 x' o':=by
 have hA:=(Below.refl w.heap.size w).alloc (Nat.le_refl _) (.cells #[.pointer (some (qa b 0))] 62)
 have HA:Hid (Below w.heap.size w (w.alloc (.cells #[.pointer (some (qa b 0))] 62))):=hA
 have h0:=heap_alloc_new w (.cells #[.pointer (some (qa b 0))] 62)
 have hp1:=(hA.block _ (lt1 hp0)).trans hp0
 have hO1:=hO.later hA
 have hB1:=Nat.le_trans hB hA.size
 obtain⟨Rg,hRg⟩:∃ Rg,M.give f wk=Rg:=⟨_,rfl⟩
 have HRg:Hid (M.give f wk=Rg):=hRg
 rw[hRg]
 clear hO hp0 hA hRg
 obtain⟨hpl,hpp⟩:=farm_small hok
 go_enter Tryz.func81,Tryz.ntmps81
 go_upto_region 1 with fail
 obtain⟨p,hpe⟩:∃ p,p=w.heap.size:=⟨_,rfl⟩
 rw[← hpe] at h0 ⊢
 clear hpe
 generalize w.alloc (.cells #[.pointer (some (qa b 0))] 62)=Z at *
 have hstay:∀ W,Below Z.heap.size Z W→W.heap[p]?=some (.cells #[.pointer (some (qa b 0))] 62 (0,0))∧FmO B W b f x o:=fun W hW=>⟨(hW.block _ (lt1 h0)).trans h0,hO1.later hW⟩
 refine wp_region_rel 18 (fun _ W=>Below Z.heap.size Z W) (fun v=>⟨#[.pointer (some (qa b 0)),iv wk,.func (.func 80) #[] #[.pointer (some (qa p0 0))],.pointer (some (qa p 0)),undef,undef,iv 0,v 17,undef,undef,undef,undef,v 14,v 0,v 1,v 2,v 3,v 4,v 5,v 6,v 7,v 8,v 9,v 10,v 11,v 12,v 13,v 15,v 16,undef,undef,undef,undef,undef,undef,undef,undef,undef,undef,undef,undef,undef,undef,undef,undef,undef,undef,undef,undef,undef,undef,undef,undef,undef,undef,undef,undef],[]⟩) (gvR Z.heap.size b f x) (fun _ _ _ _=>True) (by kernel_rfl) (by kernel_rfl) (Below.refl _ _).drew ⟨fun _=>undef,rfl⟩ ?_ ?_
 ·intro j op hj ho
  rcases (by omega:j=0∨j=1∨j=2∨j=3∨j=4∨j=5∨j=6∨j=7∨j=8∨j=9∨j=10∨j=11∨j=12∨j=13∨j=14∨j=15∨j=16∨j=17) with rfl | rfl | rfl | rfl | rfl | rfl | rfl | rfl | rfl | rfl | rfl | rfl | rfl | rfl | rfl | rfl | rfl | rfl
  all_goals cases ho
  all_goals refine relStep_of rfl rfl ?_
  all_goals rintro sd v W hC hin hsd hdep hdz
  all_goals obtain⟨hp,hO⟩:=hstay W hC
  ·exact wp_val (.pointer (some (qa b 0))) (by simp[execOp,Act.eval,go_sem,cellB hp 0]) ⟨_,rfl,hC,fun _ _ _ _ h=>h,rfl,fun k hk _ hz=>⟨trivial,trivial⟩⟩
  ·have hv:v 0=.pointer (some (qa b 0)):=hdep ⟨0,.data⟩ (by simp) rfl
   exact wp_val (.pointer (some (qa b 0))) (by simp[execOp,Act.eval,go_sem,hv]) ⟨_,rfl,hC,fun _ _ _ _ h=>h,rfl,fun k hk _ hz=>⟨trivial,trivial⟩⟩
  ·have hv:v 1=.pointer (some (qa b 0)):=hdep ⟨1,.data⟩ (by simp) rfl
   exact wp_val (.pointer (some (qa b 1))) (by simp[execOp,Act.eval,go_sem,hv]) ⟨_,rfl,hC,fun _ _ _ _ h=>h,rfl,fun k hk _ hz=>⟨trivial,trivial⟩⟩
  ·have hv:v 2=.pointer (some (qa b 1)):=hdep ⟨2,.data⟩ (by simp) rfl
   have hc:W.cell? (qa b 1)=some (sv x.l f.plan.length x.lc):=cellB hO.blk 1
   exact wp_val (sv x.l f.plan.length x.lc) (by simp[execOp,Act.eval,go_sem,hv,hc]) ⟨_,rfl,hC,fun _ _ _ _ h=>h,rfl,fun k hk _ hz=>⟨trivial,trivial⟩⟩
  ·exact wp_val (.pointer (some (qa b 0))) (by simp[execOp,Act.eval,go_sem,cellB hp 0]) ⟨_,rfl,hC,fun _ _ _ _ h=>h,rfl,fun k hk _ hz=>⟨trivial,trivial⟩⟩
  ·have hv:v 4=.pointer (some (qa b 0)):=hdep ⟨4,.data⟩ (by simp) rfl
   exact wp_val (.pointer (some (qa b 0))) (by simp[execOp,Act.eval,go_sem,hv]) ⟨_,rfl,hC,fun _ _ _ _ h=>h,rfl,fun k hk _ hz=>⟨trivial,trivial⟩⟩
  ·have hv:v 5=.pointer (some (qa b 0)):=hdep ⟨5,.data⟩ (by simp) rfl
   exact wp_val (.pointer (some (qa b 0))) (by simp[execOp,Act.eval,go_sem,hv]) ⟨_,rfl,hC,fun _ _ _ _ h=>h,rfl,fun k hk _ hz=>⟨trivial,trivial⟩⟩
  ·have hv:v 6=.pointer (some (qa b 0)):=hdep ⟨6,.data⟩ (by simp) rfl
   have hc:W.cell? (qa b 0)=some (sv x.p f.parts.length x.pc):=cellB hO.blk 0
   exact wp_val (sv x.p f.parts.length x.pc) (by simp[execOp,Act.eval,go_sem,hv,hc]) ⟨_,rfl,hC,fun _ _ _ _ h=>h,rfl,fun k hk _ hz=>⟨trivial,trivial⟩⟩
  ·have hv:v 7=sv x.p f.parts.length x.pc:=hdep ⟨7,.data⟩ (by simp) rfl
   exact wp_val (iv f.parts.length) (by simp[Act.eval,go_sem,hv]) ⟨_,rfl,hC,fun _ _ _ _ h=>h,rfl,fun k hk _ hz=>⟨trivial,trivial⟩⟩
  ·exact wp_val (.pointer (some (qa b 0))) (by simp[execOp,Act.eval,go_sem,cellB hp 0]) ⟨_,rfl,hC,fun _ _ _ _ h=>h,rfl,fun k hk _ hz=>⟨trivial,trivial⟩⟩
  ·have hv:v 9=.pointer (some (qa b 0)):=hdep ⟨9,.data⟩ (by simp) rfl
   exact wp_val (.pointer (some (qa b 0))) (by simp[execOp,Act.eval,go_sem,hv]) ⟨_,rfl,hC,fun _ _ _ _ h=>h,rfl,fun k hk _ hz=>⟨trivial,trivial⟩⟩
  ·have hv:v 10=.pointer (some (qa b 0)):=hdep ⟨10,.data⟩ (by simp) rfl
   exact wp_val (.pointer (some (qa b 3))) (by simp[execOp,Act.eval,go_sem,hv]) ⟨_,rfl,hC,fun _ _ _ _ h=>h,rfl,fun k hk _ hz=>⟨trivial,trivial⟩⟩
  ·have hv:v 11=.pointer (some (qa b 3)):=hdep ⟨11,.data⟩ (by simp) rfl
   have hc:W.cell? (qa b 3)=some (sv x.d f.done.length x.dc):=cellB hO.blk 3
   exact wp_val (sv x.d f.done.length x.dc) (by simp[execOp,Act.eval,go_sem,hv,hc]) ⟨_,rfl,hC,fun _ _ _ _ h=>h,rfl,fun k hk _ hz=>⟨trivial,trivial⟩⟩
  ·have h3:v 3=sv x.l f.plan.length x.lc:=hdep ⟨3,.data⟩ (by simp) rfl
   have h8:v 8=iv f.parts.length:=hdep ⟨8,.data⟩ (by simp) rfl
   have h12:v 12=sv x.d f.done.length x.dc:=hdep ⟨12,.data⟩ (by simp) rfl
   refine wp_enter 117 #[sv x.l f.plan.length x.lc,iv f.parts.length,sv x.d f.done.length x.dc] (by simp[Act.eval,go_sem,h3,h8,h12]) ?_
   refine (ready_any f.plan f.parts.length f.done _ _ _ _ W hO.at.plan hO.at.done).mono ?_
   rintro e W2 ⟨hb2,r,rfl,hr⟩
   have hE:M.readyE f.plan f.parts.length f.done=0:=by rw[M.readyE,if_pos hok.plan,if_pos hok.done]
   rw[hE,if_pos rfl] at hr
   exact⟨.tuple #[r,iv 0],by rw[hE],_,rfl,hC.trans (hb2.mono hC.size),fun k z _ _=>gvR_later hb2 k z,⟨r,rfl,row_base hr hC.size⟩,fun k hk _ hz=>⟨trivial,trivial⟩⟩
  ·obtain⟨r,h13,hr⟩:gvR Z.heap.size b f x 13 W (v 13):=hdep ⟨13,.data⟩ (by simp) rfl
   exact wp_val (.tuple #[r,iv 0]) (by simp[execOp,Act.eval,go_sem,h13]) ⟨_,rfl,hC,fun _ _ _ _ h=>h,⟨r,rfl,hr⟩,fun k hk _ hz=>⟨trivial,trivial⟩⟩
  ·obtain⟨r,h13,hr⟩:gvR Z.heap.size b f x 14 W (v 14):=hdep ⟨14,.data⟩ (by simp) rfl
   exact wp_val r (by simp[execOp,Act.eval,go_sem,h13]) ⟨_,rfl,hC,fun _ _ _ _ h=>h,⟨r,rfl,hr⟩,fun k hk _ hz=>⟨trivial,trivial⟩⟩
  ·obtain⟨r,h13,hr⟩:gvR Z.heap.size b f x 14 W (v 14):=hdep ⟨14,.data⟩ (by simp) rfl
   exact wp_val (iv 0) (by simp[execOp,Act.eval,go_sem,h13]) ⟨_,rfl,hC,fun _ _ _ _ h=>h,rfl,fun k hk _ hz=>⟨trivial,trivial⟩⟩
  ·obtain⟨r,h13,hr⟩:gvR Z.heap.size b f x 15 W (v 15):=hdep ⟨15,.data⟩ (by simp) rfl
   exact wp_val r (by simp[execOp,Act.eval,go_sem,h13]) ⟨_,rfl,hC,fun _ _ _ _ h=>h,⟨r,rfl,hr⟩,fun k hk _ hz=>⟨trivial,trivial⟩⟩
 ·rintro sd v W hC hR hZ
  obtain⟨r,h17,hr⟩:gvR Z.heap.size b f x 17 W (v 17):=hR 17 (by decide)
  have h16:v 16=iv 0:=hR 16 (by decide)
  obtain⟨hp,hO⟩:=hstay W hC
  obtain⟨ra,rc,rfl⟩:=own_len hr
  have hIn:IntsAt W (sv ra (M.ready f.plan f.done).length rc) (M.ready f.plan f.done):=row_ints hr
  have hLb:∀ n∈M.ready f.plan f.done,0≤n∧n<(f.grants.length:Int):=by rw[hok.grants];exact ready_bound _ _
  have hRg:Rg=match (M.ready f.plan f.done).find? (M.freeAt f) with
   | none=>(f,11)
   | some n=>(M.send { f with grants:=f.grants.set n.toNat ⟨wk,f.now+5⟩ } ⟨1,wk,n,M.nil⟩,0):=HRg.out.symm
  simp only[List.drop_succ_cons,List.drop_zero]
  rw[h17,h16]
  generalize M.ready f.plan f.done=L at *
  have HRg2:Hid (Rg=match L.find? (M.freeAt f) with
   | none=>(f,11)
   | some n=>(M.send { f with grants:=f.grants.set n.toNat ⟨wk,f.now+5⟩ } ⟨1,wk,n,M.nil⟩,0)):=hRg
  have KI:Hid (Calls Tryz.prog 119 #[sv ra L.length rc,.func (.func 118) #[] #[.pointer (some (qa p 0))]] W fun e w'=>(∃ z:Int,e=.returned (iv z)∧((z=-1∧L.find? (M.freeAt f)=none)∨∃ i:Nat,z=i∧i<L.length∧L.find? (M.freeAt f)=some (L.getD i 0)))∧Below W.heap.size W w'):=idxFree_any L ra rc W hIn hLb hO.at.grants hO.blk hp
  have HLb:Hid (∀ n∈L,0≤n∧n<(f.grants.length:Int)):=hLb
  have HIn:Hid (∀ X,Below W.heap.size W X→IntsAt X (sv ra L.length rc) L):=fun X hX=>hIn.later hX
  have HSt:Hid (∀ X,Below W.heap.size W X→(X.heap[p]?=some (.cells #[.pointer (some (qa b 0))] 62 (0,0))∧X.heap[p0]?=some (.cells #[.pointer (some (qa b 0))] 62 (0,0)))∧FmO B X b f x o∧Below B w X∧KeepE w X∧B≤X.heap.size):=fun X hX=>by
   have h1:=hC.trans (hX.mono hC.size)
   exact⟨⟨(hX.block _ (lt1 hp)).trans hp,(h1.block _ (lt1 hp1)).trans hp1⟩,hO.later hX,(HA.out.mono hB).trans (h1.mono hB1),(keepE_below HA.out).trans (keepE_below h1),Nat.le_trans hB1 h1.size⟩
  clear hR hZ h17 h16 hr hIn hLb hRg hC hp hO hstay hO1 h0 hp1 HRg
  go_wp2_with (go_at_call 119;refine KI.out.mono ?_;rintro e X ⟨⟨z,rfl,hz⟩,hbX⟩;refine Hid.out ?_)
  obtain⟨⟨hpX,hp0X⟩,hOX,hBX,hKX,hsX⟩:=HSt.out X hbX
  rcases hz with ⟨rfl,hnone⟩ | ⟨i,rfl,hi,hsome⟩
  ·have HR1:Hid (Rg=(f,11)):=by rw[Hid,HRg2.out,hnone]
   have HOX:Hid (FmO B X b f x o):=hOX
   clear HRg2 hnone KI hOX hpX hp0X
   refine Lib.hid ?_
   go_wp2_with fail
   go_ret
   exact⟨by rw[HR1.out];rfl,hBX,hKX,x,o,by rw[HR1.out];exact HOX.out⟩
  ·obtain⟨bb,off,rfl,e0,hbb⟩:=(HIn.out X hbX).cell i hi
   obtain⟨hn0,hn1⟩:=HLb.out _ (getD_mem L 0 i hi)
   generalize L.getD i 0=t at *
   obtain⟨n,rfl⟩:∃ n:Nat,t=n:=⟨t.toNat,by omega⟩
   have hng:n<f.grants.length:=by omega
   obtain⟨g,hg⟩:=own_blk hOX.rowG (by omega)
   have HR1:Hid (Rg=(M.send { f with grants:=f.grants.set n ⟨wk,f.now+5⟩ } ⟨1,wk,n,M.nil⟩,0)):=by rw[Hid,HRg2.out,hsome];rfl
   obtain⟨hS1,hS2,hS3⟩:=hOX.setGrant g n hg hng wk (f.now+5)
   have hii:(i:Int)<(L.length:Int):=by omega
   have c5:X.cell? (qa b 5)=some (sv (some (qa g 0)) f.grants.length x.gc):=by rw[← hg];exact cellB hOX.blk 5
   have c2:X.cell? (qa b 2)=some (iv f.now):=cellB hOX.blk 2
   have cp:=cellC hpX 0 rfl
   have lb:=lt1 hOX.blk
   have lp:=lt1 hpX
   have hGr:GrantsAt X (sv (some (qa g 0)) f.grants.length x.gc) f.grants:=by rw[← hg];exact hOX.at.grants
   obtain⟨gb,goff,hge,d0,d1⟩:=hGr.cells n hng
   cases hge
   rw[Nat.zero_add] at d0 d1
   have lg:g<X.heap.size:=World.block_lt_of_cell? _ _ d0
   have HrG:Hid (∀ j,X.frozen? (qa g j)=false):=fun j=>by have h:=hOX.rowG;rw[hg] at h;exact h.frozenAt j
   have hnow:=hok.now1
   have hnow0:=hok.now0
   have hnet:=hok.net
   have HOX:Hid (FmO B X b f x o):=hOX
   have Hp0X:Hid (X.heap[p0]?=some (.cells #[.pointer (some (qa b 0))] 62 (0,0))):=hp0X
   clear HRg2 hsome KI hGr hOX hpX hS1 hS2 hS3 hp0X hn0 hn1
   refine Lib.hid ?_
   go_upto_region 7 with fail
   refine wp_region_tail 12 (by kernel_rfl) (by kernel_rfl) ?_
   intro hne
   simp only[List.take_succ_cons,List.take_zero,List.drop_succ_cons,List.drop_zero]
   repeat (go_big_quiet_step (fail))
   refine wpQuiet_nil ?_
   intro Y hY
   have hY:=lat_out hY
   have hOY:=HOX.out.later hY
   obtain⟨hS1,hS2,hS3⟩:=hOY.setGrant g n hg hng wk (f.now+5)
   have p0Y:=(hY.block _ (lt1 Hp0X.out)).trans Hp0X.out
   have d0':=cell_later hY d0
   have d1':=cell_later hY d1
   have fz0:Y.frozen? (qa g (n*2))=false:=(hY.frozen (p:=⟨g,n*2,none⟩) lg).trans (HrG.out _)
   have fz1:Y.frozen? (qa g (n*2+1))=false:=(hY.frozen (p:=⟨g,n*2+1,none⟩) lg).trans (HrG.out _)
   have lgY:g<Y.heap.size:=Nat.lt_of_lt_of_le lg hY.size
   obtain⟨cs,hcs⟩:∃ cs,Y.heap[g]?=some (.cells cs 64 (0,0)):=by
    have h:=hOY.rowG
    rw[hg] at h
    rcases h.2 with ⟨h1,_⟩ | ⟨g',cap,cur,h1,hb,h2,_⟩
    ·cases h1
    ·cases h1;exact⟨cur,h2⟩
   have wrY:Wr Y ((Y.setCell (qa g (n*2)) (iv wk)).setCell (qa g (n*2+1)) (iv (f.now+5))) 64:=⟨g,cs,hcs,grown_trans (grown_set _ _ _ _) (grown_set _ _ _ _)⟩
   have hp0Z:=wrY.block p0Y (by decide)
   have hsY:B≤((Y.setCell (qa g (n*2)) (iv wk)).setCell (qa g (n*2+1)) (iv (f.now+5))).heap.size:=by simp;exact Nat.le_trans hsX hY.size
   have HBY:Hid (Below B w ((Y.setCell (qa g (n*2)) (iv wk)).setCell (qa g (n*2+1)) (iv (f.now+5)))):=(hBX.trans (hY.mono hsX)).trans hS2
   have HKY:Hid (KeepE w ((Y.setCell (qa g (n*2)) (iv wk)).setCell (qa g (n*2+1)) (iv (f.now+5)))):=(hKX.trans (keepE_below hY)).trans hS3
   have KS:Hid (Calls Tryz.prog 80 #[.agg #[iv 1,iv wk,iv n,sv none 0 0,sv none 0 0],.pointer (some (qa p0 0))] ((Y.setCell (qa g (n*2)) (iv wk)).setCell (qa g (n*2+1)) (iv (f.now+5))) fun e w'=>e=.returned (.tuple #[])∧Below B ((Y.setCell (qa g (n*2)) (iv wk)).setCell (qa g (n*2+1)) (iv (f.now+5))) w'∧KeepE ((Y.setCell (qa g (n*2)) (iv wk)).setCell (qa g (n*2+1)) (iv (f.now+5))) w'∧∃ x' o',FmO B w' b (M.send { f with grants:=f.grants.set n ⟨wk,f.now+5⟩ } ⟨1,wk,n,M.nil⟩) x' o'):=send_any _ hS1 hsY hp0Z hnet 1 wk n M.nil none none 0 0 ⟨[],PR.nil _ _,rfl⟩
   clear hOY hS1 hS2 hS3 p0Y wrY hp0Z hcs d0 d1 c5 c2 cp hY
   clear cs
   go_upto_region 8 with fail
   clear d0' d1' fz0 fz1 lgY
   generalize (Y.setCell (qa g (n*2)) (iv wk)).setCell (qa g (n*2+1)) (iv (f.now+5))=Y2 at *
   go_wp2_with (go_at_call 80;refine KS.out.mono ?_;rintro e w5 ⟨rfl,k1,k2,x',o',k3⟩)
   go_ret
   exact⟨by rw[HR1.out];rfl,HBY.out.trans k1,HKY.out.trans k2,x',o',by rw[HR1.out];exact k3⟩
end Go.Proofs.YtebippbakbihiaaGreatDoor
