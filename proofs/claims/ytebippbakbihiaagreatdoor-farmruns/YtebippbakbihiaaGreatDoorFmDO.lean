/-
  The contracts of farm.Do and farm.Outcome. The contract of farm.Outcome.
-/
import Derived.Test.YtebippbakbihiaaGreatDoorFmAH
namespace Go.Proofs.YtebippbakbihiaaGreatDoor
open Go Go.RowKit
set_option linter.unusedVariables false
theorem FmR.at {B:Nat} {W:World} {f:M.Farm} {x:Fd} {o:Fo} (h:FmR B W f x o):FarmAt W f x :=
 ⟨row_parts h.rowP h.mapP h.ownP,row_nodes h.rowL,row_bools h.rowD,row_parts h.rowH h.mapH h.ownH,row_grants h.rowG,row_works h.rowW,row_net h.rowN h.mapN h.ownN⟩
set_option maxHeartbeats 16000000 in
set_option maxRecDepth 100000 in
theorem do_any (f:M.Farm) (x:Fd) (w:World) (hf:FarmAt w f x) (kd wk kk:Int) :
  Calls Tryz.prog 6 #[.agg (qm f x),.agg #[iv kd,iv wk,iv kk]] w fun e w'=>Below w.heap.size w w'∧∃ y,e=.returned (.tuple #[.agg #[sv y.p (M.step f ⟨kd,wk,kk⟩).1.parts.length y.pc,sv y.l (M.step f ⟨kd,wk,kk⟩).1.plan.length y.lc,iv (M.step f ⟨kd,wk,kk⟩).1.now,sv y.d (M.step f ⟨kd,wk,kk⟩).1.done.length y.dc,sv y.h (M.step f ⟨kd,wk,kk⟩).1.got.length y.hc,sv y.g (M.step f ⟨kd,wk,kk⟩).1.grants.length y.gc,sv y.k (M.step f ⟨kd,wk,kk⟩).1.work.length y.kc,sv y.n (M.step f ⟨kd,wk,kk⟩).1.net.length y.nc],iv (M.step f ⟨kd,wk,kk⟩).2])∧FarmAt w' (M.step f ⟨kd,wk,kk⟩).1 y∧((M.step f ⟨kd,wk,kk⟩).2=0→∃ o,FmR w.heap.size w' (M.step f ⟨kd,wk,kk⟩).1 y o):=by
 have hA:Below w.heap.size w (((w.alloc (.cells (qm f x) 29)).alloc (.cells #[iv kd,iv wk,iv kk] 31)).alloc (.cells qz 29)):=(((Below.refl _ _).alloc (Nat.le_refl _) _).alloc (by simp) _).alloc (by simp;omega) _
 have h0:(((w.alloc (.cells (qm f x) 29)).alloc (.cells #[iv kd,iv wk,iv kk] 31)).alloc (.cells qz 29)).heap[w.heap.size]?=some (.cells (qm f x) 29 (0,0)):=(heap_alloc_old _ _ (by simp;omega)).trans ((heap_alloc_old _ _ (by simp)).trans (heap_alloc_new _ _))
 have h1:(((w.alloc (.cells (qm f x) 29)).alloc (.cells #[iv kd,iv wk,iv kk] 31)).alloc (.cells qz 29)).heap[w.heap.size+1]?=some (.cells #[iv kd,iv wk,iv kk] 31 (0,0)):=(heap_alloc_old _ _ (by simp)).trans (by
  have:=heap_alloc_new (w.alloc (.cells (qm f x) 29)) (.cells #[iv kd,iv wk,iv kk] 31)
  simpa using this)
 have h2:(((w.alloc (.cells (qm f x) 29)).alloc (.cells #[iv kd,iv wk,iv kk] 31)).alloc (.cells qz 29)).heap[w.heap.size+1+1]?=some (.cells qz 29 (0,0)):=by
  have:=heap_alloc_new ((w.alloc (.cells (qm f x) 29)).alloc (.cells #[iv kd,iv wk,iv kk] 31)) (.cells qz 29)
  simpa using this
 have HA:Hid (Below w.heap.size w (((w.alloc (.cells (qm f x) 29)).alloc (.cells #[iv kd,iv wk,iv kk] 31)).alloc (.cells qz 29))):=hA
 have HF:Hid (∀ W,Below w.heap.size w W→FarmAt W f x):=fun W hW=>hf.later hW
 have HS:Hid (M.step f ⟨kd,wk,kk⟩=if M.checkFarm f=0 then (if (M.happen f ⟨kd,wk,kk⟩).2=0 then M.happen f ⟨kd,wk,kk⟩ else (M.farm0,(M.happen f ⟨kd,wk,kk⟩).2)) else (M.farm0,M.checkFarm f)):=rfl
 generalize M.step f ⟨kd,wk,kk⟩=R at *
 clear hf hA
 go_enter Tryz.func6,Tryz.ntmps6
 go_upto_region 1 with fail
 obtain⟨b0,hb0⟩:∃ b0,b0=w.heap.size:=⟨_,rfl⟩
 obtain⟨b1,hb1⟩:∃ b1,b1=w.heap.size+1:=⟨_,rfl⟩
 obtain⟨r,hr⟩:∃ r,r=w.heap.size+1+1:=⟨_,rfl⟩
 have Hr:Hid (w.heap.size≤r∧b0≠r∧b1≠r):=⟨by omega,by omega,by omega⟩
 rw[← hr] at h2 ⊢
 rw[← hb1] at h1 ⊢
 rw[← hb0] at h0 ⊢
 clear hb0 hb1 hr
 generalize ((w.alloc (.cells (qm f x) 29)).alloc (.cells #[iv kd,iv wk,iv kk] 31)).alloc (.cells qz 29)=Z at *
 have KC:Hid (Calls Tryz.prog 10 #[.agg (qm f x)] Z fun e w'=>e=.returned (iv (M.checkFarm f))∧Below Z.heap.size Z w'):=farmCheck_any f x Z (HF.out Z HA.out)
 obtain⟨c0,c1,c2,c3,c4,c5,c6,c7⟩:=cell8 h0
 have lb0:=lt1 h0
 have HH0:Hid (Z.heap[b0]?=some (.cells (qm f x) 29 (0,0))∧Z.heap[b1]?=some (.cells #[iv kd,iv wk,iv kk] 31 (0,0))∧Z.heap[r]?=some (.cells qz 29 (0,0))):=⟨h0,h1,h2⟩
 clear h0 h1 h2
 by_cases hck:M.checkFarm f=0
 ·have HS1:Hid (R=if (M.happen f ⟨kd,wk,kk⟩).2=0 then M.happen f ⟨kd,wk,kk⟩ else (M.farm0,(M.happen f ⟨kd,wk,kk⟩).2)):=by rw[Hid,HS.out,if_pos hck]
  have hok:=(M.farm_iff f).1 hck
  rw[hck] at KC
  clear HS hck
  go_upto_region 4 with (go_at_call 10;refine KC.out.mono ?_;rintro e X ⟨rfl,hbX⟩)
  obtain⟨h0,h1,h2⟩:=HH0.out
  have x0:=(hbX.block _ (lt1 h0)).trans h0
  have x1:=(hbX.block _ (lt1 h1)).trans h1
  have x2:=(hbX.block _ (lt1 h2)).trans h2
  have HX:Hid (Below w.heap.size w X):=HA.out.trans (hbX.mono HA.out.size)
  clear c0 c1 c2 c3 c4 c5 c6 c7 KC hbX h0 h1 h2 HH0 lb0
  obtain⟨d0,d1,d2,d3,d4,d5,d6,d7⟩:=cell8 x0
  have lx0:=lt1 x0
  have KF:Hid (Calls Tryz.prog 22 #[.agg (qm f x)] X fun e w'=>Below X.heap.size X w'∧∃ y o,e=.returned (.agg (qm f y))∧FmR X.heap.size w' f y o):=copyFarm_any f x X (HF.out X HX.out) hok
  have HX12:Hid (X.heap[b1]?=some (.cells #[iv kd,iv wk,iv kk] 31 (0,0))∧X.heap[r]?=some (.cells qz 29 (0,0))):=⟨x1,x2⟩
  clear x0 x1 x2
  go_upto_region 5 with (go_at_call 22;refine KF.out.mono ?_;rintro e X2 ⟨hb2,y,o,rfl,hR2⟩)
  obtain⟨bo,hbo⟩:∃ bo,bo=X2.heap.size:=⟨_,rfl⟩
  have hAl:=(Below.refl X2.heap.size X2).alloc (Nat.le_refl _) (.cells (qm f y) 29)
  have hn:=heap_alloc_new X2 (.cells (qm f y) 29)
  have hX3:=hb2.trans (hAl.mono hb2.size)
  have hO3:FmO X.heap.size (X2.alloc (.cells (qm f y) 29)) X2.heap.size f y o:=(hR2.later hAl).own hb2.size hn
  have y1:=(hX3.block _ (lt1 HX12.out.1)).trans HX12.out.1
  have y2:=(hX3.block _ (lt1 HX12.out.2)).trans HX12.out.2
  have HB3:Hid (Below X.heap.size X (X2.alloc (.cells (qm f y) 29))):=hX3
  have hrX:=lt1 HX12.out.2
  rw[← hbo] at hO3 ⊢
  have Hbo:Hid (r≠bo):=by rw[Hid,hbo];have:=hb2.size;omega
  clear hbo hAl hn hR2 d0 d1 d2 d3 d4 d5 d6 d7 lx0 KF hb2
  generalize X2.alloc (.cells (qm f y) 29)=Y at *
  have q0:=cellC y1 0 rfl
  have q1:=cellC y1 1 rfl
  have q2:=cellC y1 2 rfl
  have lb1:=lt1 y1
  have KH:Hid (Calls Tryz.prog 23 #[qv bo 0,.agg #[iv kd,iv wk,iv kk]] Y fun e w'=>e=.returned (iv (M.happen f ⟨kd,wk,kk⟩).2)∧Below X.heap.size Y w'∧KeepE Y w'∧∃ x' o',FmO X.heap.size w' bo (M.happen f ⟨kd,wk,kk⟩).1 x' o'):=happen_any Y hO3 HB3.out.size hok kd wk kk
  clear hO3 y1 hX3
  generalize M.happen f ⟨kd,wk,kk⟩=hp at *
  obtain⟨f',e'⟩:=hp
  simp only at KH HS1
  go_upto_region 6 with (go_at_call 23;refine KH.out.mono ?_;rintro e V ⟨rfl,hbV,_,x',o',hOV⟩)
  have hXV:=HB3.out.trans hbV
  have HwV:Hid (Below w.heap.size w V):=HX.out.trans (hXV.mono HX.out.size)
  have v2:=(hXV.block _ hrX).trans HX12.out.2
  clear q0 q1 q2 lb1 y2 KH hbV hXV HB3
  by_cases he:e'=0
  ·have HS2:Hid (R=(f',e')):=by rw[Hid,HS1.out,if_pos he]
   have hne:(e' !=0)=false:=by simp[he]
   have hrc:=store8 V r (sv none 0 0) (sv none 0 0) (iv 0) (sv none 0 0) (sv none 0 0) (sv none 0 0) (sv none 0 0) (sv none 0 0) (sv x'.p f'.parts.length x'.pc) (sv x'.l f'.plan.length x'.lc) (iv f'.now) (sv x'.d f'.done.length x'.dc) (sv x'.h f'.got.length x'.hc) (sv x'.g f'.grants.length x'.gc) (sv x'.k f'.work.length x'.kc) (sv x'.n f'.net.length x'.nc) 29 v2
   obtain⟨hs1,hs2⟩:=hrc
   have HFA:Hid (FmR w.heap.size (wm V r f' x') f' x' o'):=(hOV.rows.wr ⟨r,_,v2,hs2⟩).base HX.out.size
   have HBV:Hid (Below w.heap.size w (wm V r f' x')):=HwV.out.grown hs2 HwV.out.size (fun k hk=>by cases hk;exact Hr.out.1)
   have k0:V.cell? (qa bo 0)=some (sv x'.p f'.parts.length x'.pc):=cellB hOV.blk 0
   have k1:V.cell? (qa bo 1)=some (sv x'.l f'.plan.length x'.lc):=cellB hOV.blk 1
   have k2:V.cell? (qa bo 2)=some (iv f'.now):=cellB hOV.blk 2
   have k3:V.cell? (qa bo 3)=some (sv x'.d f'.done.length x'.dc):=cellB hOV.blk 3
   have k4:V.cell? (qa bo 4)=some (sv x'.h f'.got.length x'.hc):=cellB hOV.blk 4
   have k5:V.cell? (qa bo 5)=some (sv x'.g f'.grants.length x'.gc):=cellB hOV.blk 5
   have k6:V.cell? (qa bo 6)=some (sv x'.k f'.work.length x'.kc):=cellB hOV.blk 6
   have k7:V.cell? (qa bo 7)=some (sv x'.n f'.net.length x'.nc):=cellB hOV.blk 7
   have lbo:=lt1 hOV.blk
   obtain⟨r0,r1,r2,r3,r4,r5,r6,r7⟩:=cell8 v2
   have rf:=frozenB v2
   have lr:=lt1 v2
   have hbor:=Hbo.out
   subst he
   clear HS1 hOV v2 hs2 hne
   go_wp2_with fail
   obtain⟨e0,e1,e2,e3,e4,e5,e6,e7⟩:=cell8 hs1
   refine bodyPost_ret (v:=.tuple #[.agg (qm f' x'),iv 0]) (by simp[results,Tryz.results6,go_sem,e0,e1,e2,e3,e4,e5,e6,e7]) rfl ?_
   refine⟨HBV.out,x',?_,?_⟩
   ·rw[HS2.out]
   ·rw[HS2.out];exact⟨HFA.out.at,fun _=>⟨o',HFA.out⟩⟩
  ·have HS2:Hid (R=(M.farm0,e')):=by rw[Hid,HS1.out,if_neg he]
   have hne:(e' !=0)=true:=by simpa using he
   obtain⟨hs1,hs2⟩:=store8 V r (sv none 0 0) (sv none 0 0) (iv 0) (sv none 0 0) (sv none 0 0) (sv none 0 0) (sv none 0 0) (sv none 0 0) (sv none 0 0) (sv none 0 0) (iv 0) (sv none 0 0) (sv none 0 0) (sv none 0 0) (sv none 0 0) (sv none 0 0) 29 v2
   have HBV:Hid (Below w.heap.size w (w8 V r (sv none 0 0) (sv none 0 0) (iv 0) (sv none 0 0) (sv none 0 0) (sv none 0 0) (sv none 0 0) (sv none 0 0))):=HwV.out.grown hs2 HwV.out.size (fun k hk=>by cases hk;exact Hr.out.1)
   obtain⟨r0,r1,r2,r3,r4,r5,r6,r7⟩:=cell8 v2
   have rf:=frozenB v2
   have lr:=lt1 v2
   clear HS1 hOV v2 hs2 he
   go_wp2_with fail
   obtain⟨e0,e1,e2,e3,e4,e5,e6,e7⟩:=cell8 hs1
   refine bodyPost_ret (v:=.tuple #[.agg qz,iv e']) (by simp[results,Tryz.results6,go_sem,e0,e1,e2,e3,e4,e5,e6,e7]) rfl ?_
   refine⟨HBV.out,fd0,?_,?_⟩
   ·rw[HS2.out];rfl
   ·rw[HS2.out];exact⟨farm0_at _,fun h=>absurd h (by simpa using hne)⟩
 ·have HS2:Hid (R=(M.farm0,M.checkFarm f)):=by rw[Hid,HS.out,if_neg hck]
  have hne:(M.checkFarm f !=0)=true:=by simpa using hck
  clear HS hck
  generalize M.checkFarm f=e' at *
  go_upto_region 3 with (go_at_call 10;refine KC.out.mono ?_;rintro e V ⟨rfl,hbX⟩)
  have v2:=(hbX.block _ (lt1 HH0.out.2.2)).trans HH0.out.2.2
  have HwV:Hid (Below w.heap.size w V):=HA.out.trans (hbX.mono HA.out.size)
  obtain⟨hs1,hs2⟩:=store8 V r (sv none 0 0) (sv none 0 0) (iv 0) (sv none 0 0) (sv none 0 0) (sv none 0 0) (sv none 0 0) (sv none 0 0) (sv none 0 0) (sv none 0 0) (iv 0) (sv none 0 0) (sv none 0 0) (sv none 0 0) (sv none 0 0) (sv none 0 0) 29 v2
  have HBV:Hid (Below w.heap.size w (w8 V r (sv none 0 0) (sv none 0 0) (iv 0) (sv none 0 0) (sv none 0 0) (sv none 0 0) (sv none 0 0) (sv none 0 0))):=HwV.out.grown hs2 HwV.out.size (fun k hk=>by cases hk;exact Hr.out.1)
  obtain⟨r0,r1,r2,r3,r4,r5,r6,r7⟩:=cell8 v2
  have rf:=frozenB v2
  have lr:=lt1 v2
  clear v2 hs2 c0 c1 c2 c3 c4 c5 c6 c7 KC hbX lb0
  go_wp2_with fail
  obtain⟨e0,e1,e2,e3,e4,e5,e6,e7⟩:=cell8 hs1
  refine bodyPost_ret (v:=.tuple #[.agg qz,iv e']) (by simp[results,Tryz.results6,go_sem,e0,e1,e2,e3,e4,e5,e6,e7]) rfl ?_
  refine⟨HBV.out,fd0,?_,?_⟩
  ·rw[HS2.out];rfl
  ·rw[HS2.out];exact⟨farm0_at _,fun h=>absurd h (by simpa using hne)⟩
theorem nil_at (W:World):FragsAt W (sv none 0 0) M.nil.frags∧DefsAt W (sv none 0 0) M.nil.defs:=⟨(PR.nil W 0).fragsAt,(PR.nil W 0).defsAt⟩
set_option maxHeartbeats 8000000 in
set_option maxRecDepth 100000 in
theorem outcome_any (f:M.Farm) (x:Fd) (w:World) (hf:FarmAt w f x) :
  Calls Tryz.prog 7 #[.agg (qm f x)] w fun e w'=>Below w.heap.size w w'∧∃ x1 y1 x2 y2,e=.returned (.tuple #[.agg #[sv x1 (M.outcome f).frags.length y1,sv x2 (M.outcome f).defs.length y2],iv (M.outcomeE f)])∧FragsAt w' (sv x1 (M.outcome f).frags.length y1) (M.outcome f).frags∧DefsAt w' (sv x2 (M.outcome f).defs.length y2) (M.outcome f).defs:=by
 have hA:Below w.heap.size w ((w.alloc (.cells (qm f x) 29)).alloc (.cells #[sv none 0 0,sv none 0 0] 39)):=((Below.refl _ _).alloc (Nat.le_refl _) _).alloc (by simp) _
 have h0:((w.alloc (.cells (qm f x) 29)).alloc (.cells #[sv none 0 0,sv none 0 0] 39)).heap[w.heap.size]?=some (.cells (qm f x) 29 (0,0)):=(heap_alloc_old _ _ (by simp)).trans (heap_alloc_new _ _)
 have h2:((w.alloc (.cells (qm f x) 29)).alloc (.cells #[sv none 0 0,sv none 0 0] 39)).heap[w.heap.size+1]?=some (.cells #[sv none 0 0,sv none 0 0] 39 (0,0)):=by
  have:=heap_alloc_new (w.alloc (.cells (qm f x) 29)) (.cells #[sv none 0 0,sv none 0 0] 39)
  simpa using this
 have HA:Hid (Below w.heap.size w ((w.alloc (.cells (qm f x) 29)).alloc (.cells #[sv none 0 0,sv none 0 0] 39))):=hA
 have HF:Hid (∀ W,Below w.heap.size w W→FarmAt W f x):=fun W hW=>hf.later hW
 have HE:Hid (M.outcomeE f=M.orE (M.checkFarm f) (if f.done.getD (f.plan.length - 1) false=true then 0 else 11)):=rfl
 have HP:Hid (M.outcome f=if M.outcomeE f=0 then f.got.getD (f.plan.length - 1) M.nil else M.nil):=rfl
 generalize M.outcomeE f=E at *
 generalize M.outcome f=P at *
 clear hf hA
 go_enter Tryz.func7,Tryz.ntmps7
 go_upto_region 1 with fail
 obtain⟨b0,hb0⟩:∃ b0,b0=w.heap.size:=⟨_,rfl⟩
 obtain⟨r,hr⟩:∃ r,r=w.heap.size+1:=⟨_,rfl⟩
 have Hr:Hid (w.heap.size≤r∧b0≠r):=⟨by omega,by omega⟩
 rw[← hr] at h2 ⊢
 rw[← hb0] at h0 ⊢
 clear hb0 hr
 generalize (w.alloc (.cells (qm f x) 29)).alloc (.cells #[sv none 0 0,sv none 0 0] 39)=Z at *
 have KC:Hid (Calls Tryz.prog 10 #[.agg (qm f x)] Z fun e w'=>e=.returned (iv (M.checkFarm f))∧Below Z.heap.size Z w'):=farmCheck_any f x Z (HF.out Z HA.out)
 obtain⟨c0,c1,c2,c3,c4,c5,c6,c7⟩:=cell8 h0
 have lb0:=lt1 h0
 have HH0:Hid (Z.heap[b0]?=some (.cells (qm f x) 29 (0,0))∧Z.heap[r]?=some (.cells #[sv none 0 0,sv none 0 0] 39 (0,0))):=⟨h0,h2⟩
 clear h0 h2
 by_cases hck:M.checkFarm f=0
 ·have hok:=(M.farm_iff f).1 hck
  have HE1:Hid (E=if f.done.getD (f.plan.length - 1) false=true then 0 else 11):=by rw[Hid,HE.out,hck];rfl
  rw[hck] at KC
  clear HE hck
  go_upto_region 4 with (go_at_call 10;refine KC.out.mono ?_;rintro e V ⟨rfl,hbX⟩)
  obtain⟨h0,h2⟩:=HH0.out
  have x0:=(hbX.block _ (lt1 h0)).trans h0
  have v2:=(hbX.block _ (lt1 h2)).trans h2
  have HwV:Hid (Below w.heap.size w V):=HA.out.trans (hbX.mono HA.out.size)
  have hFV:=HF.out V HwV.out
  clear c0 c1 c2 c3 c4 c5 c6 c7 KC hbX h0 h2 HH0 lb0
  have c1:=cellC x0 1 rfl
  have lx0:=lt1 x0
  obtain⟨_,hl23,hl0,_⟩:=check_ok hok.plan
  have hdl:=hok.done
  have hgl:=hok.got
  obtain⟨db,dof,hd0,de,ldb⟩:=hFV.done.cell (f.plan.length - 1) (by omega)
  obtain⟨hb,ho,x1,y1,x2,y2,hh,e0,e1,hFA,hDA⟩:=hFV.got.cells (f.plan.length - 1) (by omega)
  have c3:V.cell? (qa b0 3)=some (sv (some (qa db dof)) f.done.length x.dc):=by rw[← hd0];exact cellB x0 3
  have c4:V.cell? (qa b0 4)=some (sv (some (qa hb ho)) f.got.length x.hc):=by rw[← hh];exact cellB x0 4
  have hqo:=each_ok f.got hok.gots _ (getD_mem f.got M.nil (f.plan.length - 1) (by omega))
  have hgI:((f.plan.length - 1:Nat):Int)<(f.got.length:Int):=by omega
  have hdI:((f.plan.length - 1:Nat):Int)<(f.done.length:Int):=by omega
  have hsub:((f.plan.length:Int) - 1)=((f.plan.length - 1:Nat):Int):=by omega
  have hlen:f.plan.length≤9223372036854775807:=by omega
  generalize f.got.getD (f.plan.length - 1) M.nil=q at *
  generalize f.done.getD (f.plan.length - 1) false=dv at *
  clear hdl hgl hFV
  go_upto_region 5 with fail
  clear hsub
  generalize f.plan.length - 1=ls at *
  cases dv
  ·have HE2:Hid (E=11):=by rw[Hid,HE1.out];rfl
   have HP2:Hid (P=M.nil):=by rw[Hid,HP.out,HE2.out];rfl
   have hz2:((V.setCell (qa r 0) (sv none 0 0)).setCell (qa r 1) (sv none 0 0)).heap[r]?=some (.cells #[sv none 0 0,sv none 0 0] 39 (0,0)):=setB' (setB' v2 _) _
   have HBV:Hid (Below w.heap.size w ((V.setCell (qa r 0) (sv none 0 0)).setCell (qa r 1) (sv none 0 0))):=(HwV.out.setCell Hr.out.1 _).setCell Hr.out.1 _
   have r0:=cellC v2 0 rfl
   have r1:=cellC v2 1 rfl
   have rf:=frozenB v2
   have lr:=lt1 v2
   clear HE1 HP v2 x0 hFA hDA hqo c4 e0 e1 hgI
   go_wp2_with fail
   have t0:=cellC hz2 0 rfl
   have t1:=cellC hz2 1 rfl
   refine bodyPost_ret (v:=.tuple #[.agg #[sv none 0 0,sv none 0 0],iv 11]) (by simp[results,Tryz.results7,go_sem,t0,t1]) rfl ?_
   rw[HE2.out,HP2.out]
   exact⟨HBV.out,none,0,none,0,rfl,(nil_at _).1,(nil_at _).2⟩
  ·have HE2:Hid (E=0):=by rw[Hid,HE1.out];rfl
   have HP2:Hid (P=q):=by rw[Hid,HP.out,HE2.out];rfl
   have KP:Hid (Calls Tryz.prog 24 #[.agg #[sv x1 q.frags.length y1,sv x2 q.defs.length y2]] V fun e w'=>Below V.heap.size V w'∧∃ x1 y1 x2 y2,e=.returned (.agg #[sv x1 q.frags.length y1,sv x2 q.defs.length y2])∧POwn w' V.heap.size ⟨q,sv x1 q.frags.length y1,sv x2 q.defs.length y2⟩):=copyPart_any q _ _ _ _ V hFA hDA hqo
   have lr:=lt1 v2
   have Hv2:Hid (V.heap[r]?=some (.cells #[sv none 0 0,sv none 0 0] 39 (0,0))):=v2
   have lhb:hb<V.heap.size:=World.block_lt_of_cell? _ _ e0
   clear HE1 HP v2 x0 hFA hDA hqo
   go_wp2_with (go_at_call 24;refine KP.out.mono ?_;rintro e U ⟨hbU,z1,u1,z2,u2,rfl,hPU⟩;refine Hid.out ?_)
   have w2:=(hbU.block _ lr).trans Hv2.out
   have HwU:Hid (Below w.heap.size w U):=HwV.out.trans (hbU.mono HwV.out.size)
   have r0:=cellC w2 0 rfl
   have r1:=cellC w2 1 rfl
   have rf:=frozenB w2
   have lru:=lt1 w2
   have wr:Wr U ((U.setCell (qa r 0) (sv z1 q.frags.length u1)).setCell (qa r 1) (sv z2 q.defs.length u2)) 39:=⟨r,_,w2,grown_trans (grown_set _ _ _ _) (grown_set _ _ _ _)⟩
   obtain⟨a1,k1,a2,k2,ea,eb,hFq,hDq⟩:=(wr.pw hPU rfl).at
   simp only at ea eb hFq hDq
   cases ea
   cases eb
   have HFD:Hid (FragsAt ((U.setCell (qa r 0) (sv z1 q.frags.length u1)).setCell (qa r 1) (sv z2 q.defs.length u2)) (sv z1 q.frags.length u1) q.frags∧DefsAt ((U.setCell (qa r 0) (sv z1 q.frags.length u1)).setCell (qa r 1) (sv z2 q.defs.length u2)) (sv z2 q.defs.length u2) q.defs):=⟨hFq,hDq⟩
   have hz2:((U.setCell (qa r 0) (sv z1 q.frags.length u1)).setCell (qa r 1) (sv z2 q.defs.length u2)).heap[r]?=some (.cells #[sv z1 q.frags.length u1,sv z2 q.defs.length u2] 39 (0,0)):=setB' (setB' w2 _) _
   have HBV:Hid (Below w.heap.size w ((U.setCell (qa r 0) (sv z1 q.frags.length u1)).setCell (qa r 1) (sv z2 q.defs.length u2))):=(HwU.out.setCell Hr.out.1 _).setCell Hr.out.1 _
   clear wr hPU hFq hDq w2 c1 c3 c4 e0 e1 de lx0 ldb KP hbU Hv2 lhb lr
   refine Lib.hid ?_
   go_wp2_with fail
   have t0:=cellC hz2 0 rfl
   have t1:=cellC hz2 1 rfl
   refine bodyPost_ret (v:=.tuple #[.agg #[sv z1 q.frags.length u1,sv z2 q.defs.length u2],iv 0]) (by simp[results,Tryz.results7,go_sem,t0,t1]) rfl ?_
   rw[HE2.out,HP2.out]
   exact⟨HBV.out,z1,u1,z2,u2,rfl,HFD.out.1,HFD.out.2⟩
 ·have HE2:Hid (E=M.checkFarm f):=by rw[Hid,HE.out,M.orE,if_neg hck]
  have HP2:Hid (P=M.nil):=by rw[Hid,HP.out,HE2.out,if_neg hck]
  have hne:(M.checkFarm f !=0)=true:=by simpa using hck
  clear HE HP hck
  generalize M.checkFarm f=e' at *
  go_upto_region 3 with (go_at_call 10;refine KC.out.mono ?_;rintro e V ⟨rfl,hbX⟩)
  have v2:=(hbX.block _ (lt1 HH0.out.2)).trans HH0.out.2
  have HwV:Hid (Below w.heap.size w V):=HA.out.trans (hbX.mono HA.out.size)
  have hz2:((V.setCell (qa r 0) (sv none 0 0)).setCell (qa r 1) (sv none 0 0)).heap[r]?=some (.cells #[sv none 0 0,sv none 0 0] 39 (0,0)):=setB' (setB' v2 _) _
  have HBV:Hid (Below w.heap.size w ((V.setCell (qa r 0) (sv none 0 0)).setCell (qa r 1) (sv none 0 0))):=(HwV.out.setCell Hr.out.1 _).setCell Hr.out.1 _
  have r0:=cellC v2 0 rfl
  have r1:=cellC v2 1 rfl
  have rf:=frozenB v2
  have lr:=lt1 v2
  clear v2 c0 c1 c2 c3 c4 c5 c6 c7 KC hbX lb0
  go_wp2_with fail
  have t0:=cellC hz2 0 rfl
  have t1:=cellC hz2 1 rfl
  refine bodyPost_ret (v:=.tuple #[.agg #[sv none 0 0,sv none 0 0],iv e']) (by simp[results,Tryz.results7,go_sem,t0,t1]) rfl ?_
  rw[HE2.out,HP2.out]
  exact⟨HBV.out,none,0,none,0,rfl,(nil_at _).1,(nil_at _).2⟩
end Go.Proofs.YtebippbakbihiaaGreatDoor
