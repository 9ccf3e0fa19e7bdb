/-
  The two closures of the reference's FarmStep: what is told where a happening can't be, and a message that is sent.
-/
import Derived.Test.YtebippbakbihiaaGreatDoorRfO
import Derived.Test.YtebippbakbihiaaGreatDoorFmDO
import Derived.Laws.ResultCell
set_option maxHeartbeats 8000000
set_option maxRecDepth 100000
namespace Go.Proofs.YtebippbakbihiaaGreatDoor
open Go Go.RowKit
set_option linter.unusedVariables false
def Kq (W X:World):Prop:=∀ (g:Nat) (cs:Array Value) (t:TypeId),t≠29→t≠33→W.heap[g]?=some (.cells cs t (0,0))→X.heap[g]?=some (.cells cs t (0,0))
theorem Kq.refl (W:World):Kq W W:=fun _ _ _ _ _ h=>h
theorem Kq.trans {W X Y:World} (h:Kq W X) (h':Kq X Y):Kq W Y:=fun g cs t a b c=>h' g cs t a b (h g cs t a b c)
theorem Kq.of_wr {W X:World} (h:Wr W X 29):Kq W X:=fun _ _ _ a _ c=>h.block c (Ne.symm a)
theorem Kq.of_below {W X:World} (h:Below W.heap.size W X):Kq W X:=fun g cs t _ _ c=>(h.block g (lt1 c)).trans c
theorem Kq.of_said {W X:World} {B n:Nat} {v:Value} {xs:List Value} (hr:W.ownsRow B 33 1 v n xs) (hg:W.grownBy X v.ownBlock):Kq W X:=fun _ _ _ _ b c=>block_keptP hr hg c (Ne.symm b)
theorem Kq.row {W X:World} {B k n:Nat} {e:TypeId} {v:Value} {xs:List Value} (h:Kq W X) (hr:W.ownsRow B e k v n xs) (h1:e≠29) (h2:e≠33):X.ownsRow B e k v n xs:=by
 refine⟨hr.1,?_⟩
 rcases hr.2 with hn | ⟨g,cap,cur,rfl,hb,hgg,rest⟩
 ·exact .inl hn
 ·exact .inr ⟨g,cap,cur,rfl,hb,h g cur e h1 h2 hgg,rest⟩
theorem Kq.pown {W X:World} {B:Nat} {e:PEnt} (h:Kq W X) (hp:POwn W B e):POwn X B e:=by
 obtain⟨en,hP,hm⟩:=hp
 exact⟨en,⟨h.row hP.rowF (by decide) (by decide),h.row hP.rowD (by decide) (by decide),fun e he=>h.row (hP.bytes e he) (by decide) (by decide),hP.small,hP.smallD,fun e he=>h.row (hP.rels e he) (by decide) (by decide)⟩,hm⟩
theorem FmR.kq {B:Nat} {W X:World} {f:M.Farm} {x:Fd} {o:Fo} (h:FmR B W f x o) (k:Kq W X):FmR B X f x o :=
 ⟨k.row h.rowP (by decide) (by decide),h.mapP,k.row h.rowL (by decide) (by decide),k.row h.rowD (by decide) (by decide),k.row h.rowH (by decide) (by decide),h.mapH,k.row h.rowG (by decide) (by decide),k.row h.rowW (by decide) (by decide),k.row h.rowN (by decide) (by decide),h.mapN,
  fun e he=>k.pown (h.ownP e he),fun e he=>k.pown (h.ownH e he),fun e he=>k.pown (h.ownN e he),h.apart⟩
def Firm (W:World) (f:M.Farm) (y:Fd):Prop:=∀ X,Kq W X→FarmAt X f y
theorem Firm.at {W:World} {f:M.Farm} {y:Fd} (h:Firm W f y):FarmAt W f y:=h _ (Kq.refl _)
theorem Firm.kq {W X:World} {f:M.Farm} {y:Fd} (h:Firm W f y) (k:Kq W X):Firm X f y:=fun Y k'=>h Y (k.trans k')
theorem FmR.firm {B:Nat} {W:World} {f:M.Farm} {x:Fd} {o:Fo} (h:FmR B W f x o):Firm W f x:=fun _ k=>(h.kq k).at
theorem farm0_firm (W:World):Firm W M.farm0 fd0:=fun X _=>farm0_at X
def StepTo (w:World) (f:M.Farm) (E:Int) (e:Ending) (w':World):Prop :=
 Below w.heap.size w w'∧∃ y:Fd,e=.returned (.tuple #[.agg (qm f y),iv E])∧Firm w' f y
theorem fail_any (E:Int) (w:World) :
  Calls Tryz.prog 45 #[iv E] w fun e w'=>e=.returned (.tuple #[.agg qz,iv E])∧Below w.heap.size w w':=by
 have h0:=heap_alloc_new w (.cells qz 29)
 have HB0:Hid (Below w.heap.size w (w.alloc (.cells qz 29))):=(Below.refl _ _).alloc (Nat.le_refl _) _
 go_enter Tryz.func45,Tryz.ntmps45
 go_upto_region 1 with fail
 generalize w.alloc (.cells qz 29)=X at *
 obtain⟨nz,hnz⟩:∃ nz,nz=w.heap.size:=⟨_,rfl⟩
 have Hnz:Hid (nz=w.heap.size):=hnz
 rw[← hnz] at h0 ⊢
 clear hnz
 obtain⟨hs1,hs2⟩:=store8 X nz (sv none 0 0) (sv none 0 0) (iv 0) (sv none 0 0) (sv none 0 0) (sv none 0 0) (sv none 0 0) (sv none 0 0) (sv none 0 0) (sv none 0 0) (iv 0) (sv none 0 0) (sv none 0 0) (sv none 0 0) (sv none 0 0) (sv none 0 0) 29 h0
 have HB:Hid (Below w.heap.size w ((((((((X.setCell (qa nz 0) (sv none 0 0)).setCell (qa nz 1) (sv none 0 0)).setCell (qa nz 2) (iv 0)).setCell (qa nz 3) (sv none 0 0)).setCell (qa nz 4) (sv none 0 0)).setCell (qa nz 5) (sv none 0 0)).setCell (qa nz 6) (sv none 0 0)).setCell (qa nz 7) (sv none 0 0))):=HB0.out.grown hs2 HB0.out.size (fun k hk=>by cases hk;rw[Hnz.out];exact Nat.le_refl _)
 obtain⟨r0,r1,r2,r3,r4,r5,r6,r7⟩:=cell8 h0
 have rf:=frozenB h0
 have lz:=lt1 h0
 obtain⟨t0,t1,t2,t3,t4,t5,t6,t7⟩:=cell8 hs1
 clear hs1 hs2 h0
 go_wp2_with fail
 refine bodyPost_ret (v:=.tuple #[.agg qz,iv E]) (by simp[results,Tryz.results45,go_sem,t0,t1,t2,t3,t4,t5,t6,t7]) rfl ?_
 exact⟨rfl,HB.out⟩
def KeepB (b:Nat) (W X:World):Prop:=∀ (g:Nat) (cs:Array Value) (t:TypeId),W.heap[g]?=some (.cells cs t (0,0))→g≠b→t≠60→X.heap[g]?=some (.cells cs t (0,0))
theorem rsend_any {B b:Nat} {f:M.Farm} {x:Fd} {o:Fo} (w:World) (hO:FmO B w b f x o) (hB:B≤w.heap.size) (hn:f.net.length≤20) (k wk n:Int) (q:M.Prt) (x1 x2:Option Addr) (y1 y2:Nat)
  (hq:POwn w B ⟨q,sv x1 q.frags.length y1,sv x2 q.defs.length y2⟩) :
  Calls Tryz.prog 46 #[.agg #[iv k,iv wk,iv n,sv x1 q.frags.length y1,sv x2 q.defs.length y2],qv b 0] w fun e w'=>e=.returned (.tuple #[])∧Below B w w'∧KeepB b w w'∧∃ x' o',FmO B w' b (M.send f ⟨k,wk,n,q⟩) x' o':=by
 obtain⟨i0,hi0,hz0,hz1,hz2⟩:=info_parts (P:=Tryz.prog) (e:=60) (z:=.agg #[iv 0,iv 0,iv 0,sv none 0 0,sv none 0 0]) (size:=5) (bytes:=72) (by kernel_rfl)
 have hA:=(Below.refl w.heap.size w).alloc (Nat.le_refl _) (.cells #[iv k,iv wk,iv n,sv x1 q.frags.length y1,sv x2 q.defs.length y2] 60)
 have HA:Hid (Below w.heap.size w (w.alloc (.cells #[iv k,iv wk,iv n,sv x1 q.frags.length y1,sv x2 q.defs.length y2] 60))):=hA
 have h0:=heap_alloc_new w (.cells #[iv k,iv wk,iv n,sv x1 q.frags.length y1,sv x2 q.defs.length y2] 60)
 have hO1:=hO.later hA
 have hq1:=hq.later hA
 have hB1:=Nat.le_trans hB hA.size
 obtain⟨R,hR⟩:∃ R,M.send f ⟨k,wk,n,q⟩=R:=⟨_,rfl⟩
 have HR:Hid (M.send f ⟨k,wk,n,q⟩=R):=hR
 rw[hR]
 clear hO hq hA hR
 go_enter Tryz.func46,Tryz.ntmps46
 go_upto_region 1 with fail
 obtain⟨nz,hnz⟩:∃ nz,nz=w.heap.size:=⟨_,rfl⟩
 rw[← hnz] at h0 ⊢
 clear hnz
 generalize w.alloc (.cells #[iv k,iv wk,iv n,sv x1 q.frags.length y1,sv x2 q.defs.length y2] 60)=Z at *
 have c7:Z.cell? (qa b 7)=some (sv x.n f.net.length x.nc):=cellB hO1.blk 7
 have lb:=lt1 hO1.blk
 by_cases hlt:f.net.length<20
 ·have hlt':(f.net.length:Int)<20:=by omega
  have HR1:Hid (R={ f with net:=f.net ++ [⟨k,wk,n,q⟩] }):=by rw[Hid,← HR.out,M.send,if_pos hlt]
  clear HR
  have m0:=cellC h0 0 rfl
  have m1:=cellC h0 1 rfl
  have m2:=cellC h0 2 rfl
  have m3:=cellC h0 3 rfl
  have m4:=cellC h0 4 rfl
  have lz:=lt1 h0
  have hb3:=(Below.refl Z.heap.size Z).alloc (Nat.le_refl _) (.cells #[iv k,iv wk,iv n,sv x1 q.frags.length y1,sv x2 q.defs.length y2] 60)
  have hO3:=hO1.later hb3
  have hrow:=hO3.rowN
  have hnews:∀ j u,(#[iv k,iv wk,iv n,sv x1 q.frags.length y1,sv x2 q.defs.length y2]:Array Value).toList[j]?=some u→(Z.alloc (.cells #[iv k,iv wk,iv n,sv x1 q.frags.length y1,sv x2 q.defs.length y2] 60)).cell? ((qa Z.heap.size 0).add j)=some u:=World.news_of_block (heap_alloc_new Z _)
  have HAp:Hid (∀ v' w3,(Z.alloc (.cells #[iv k,iv wk,iv n,sv x1 q.frags.length y1,sv x2 q.defs.length y2] 60)).grownBy w3 (sv x.n f.net.length x.nc).ownBlock→w3.ownsRow B 60 5 v' (f.net.length+1) (o.eN.flatMap nentCells ++ (#[iv k,iv wk,iv n,sv x1 q.frags.length y1,sv x2 q.defs.length y2]:Array Value).toList)→∃ a8 c8 x' o',v'=sv a8 (f.net.length+1) c8∧b<w3.heap.size∧w3.cell? (qa b 7)=some (sv x.n f.net.length x.nc)∧w3.frozen? (qa b 7)=false ∧
    FmO B (w3.setCell (qa b 7) (sv a8 (f.net.length+1) c8)) b R x' o'∧Below B w (w3.setCell (qa b 7) (sv a8 (f.net.length+1) c8))∧KeepB b w (w3.setCell (qa b 7) (sv a8 (f.net.length+1) c8))):=fun v' w3 hgr ho=>by
   obtain⟨a8,c8,rfl,q1,q2,q3,q4,q5,q6⟩:=hO3.push' (Nat.le_trans hB1 hb3.size) k wk n ⟨q,sv x1 q.frags.length y1,sv x2 q.defs.length y2⟩ (hq1.later hb3) v' w3 hgr ho
   refine⟨a8,c8,_,_,rfl,q1,q2,q3,by rw[HR1.out];exact q4,?_,?_⟩
   ·exact ((HA.out.mono hB).trans (hb3.mono hB1)).trans q5
   ·intro g cs t hg hgb ht
    have e1:=(HA.out.block _ (lt1 hg)).trans hg
    have e2:=(hb3.block _ (lt1 e1)).trans e1
    have e3:=block_keptP hO3.rowN hgr e2 (Ne.symm ht)
    exact (Below.heap_setCell _ _ _ _ (by exact hgb)).trans e3
  clear h0 hO1 hq1 hO3 hb3 hB1
  have hbs:B≤Z.heap.size:=Nat.le_trans hB HA.out.size
  go_wp2_with (at_builtin;refine wpList_append_own _ rfl _ _ 27 rfl B 60 i0 (.agg #[iv 0,iv 0,iv 0,sv none 0 0,sv none 0 0]) 5 72 Tryz.underlying27 hi0 hz0 hz1 hz2 rfl (by decide) _ _ _ rfl hrow ⟨Z.heap.size,0,none⟩ 1 1 (#[iv k,iv wk,iv n,sv x1 q.frags.length y1,sv x2 q.defs.length y2]:Array Value).toList rfl rfl hnews (fun u hu=>by simp at hu;rcases hu with rfl | rfl | rfl | rfl | rfl <;> rfl) (by unfold maxLen;omega) (by omega) (by simp;omega) ?_;intro v' w3 hown' hgrow3 hnil3;obtain⟨a8,c8,x',o',rfl,q1,q2,q3,q4,q5,q6⟩:=HAp.out _ _ hgrow3 hown';refine Hid.out ?_)
  have Q4:Hid (FmO B (w3.setCell (qa b 7) (sv a8 (f.net.length+1) c8)) b R x' o'):=q4
  have Q5:Hid (Below B w (w3.setCell (qa b 7) (sv a8 (f.net.length+1) c8))):=q5
  have Q6:Hid (KeepB b w (w3.setCell (qa b 7) (sv a8 (f.net.length+1) c8))):=q6
  clear hown' hgrow3 hnil3 q4 q5 q6 HAp hnews hrow c7 m0 m1 m2 m3 m4
  refine Lib.hid ?_
  go_wp2_with fail
  refine bodyPost_end (v:=.tuple #[]) (by simp[results,Tryz.results46,go_sem]) rfl ?_
  exact⟨rfl,Q5.out,Q6.out,x',o',Q4.out⟩
 ·have hlt':¬ (f.net.length:Int)<20:=by omega
  have HR1:Hid (R=f):=by rw[Hid,← HR.out,M.send,if_neg hlt]
  clear HR h0
  go_wp2_with fail
  refine bodyPost_end (v:=.tuple #[]) (by simp[results,Tryz.results46,go_sem]) rfl ?_
  exact⟨rfl,HA.out.mono hB,fun g cs t hg _ _=>(HA.out.block _ (lt1 hg)).trans hg,x,o,by rw[HR1.out];exact hO1⟩
theorem bl {W X:World} {b:Nat} {o:Obj} (hb:Below W.heap.size W X) (h:W.heap[b]?=some o):X.heap[b]?=some o:=(hb.block _ (lt1 h)).trans h
theorem store8e {W:World} {g:Nat} {c0 c1 c2 c3 c4 c5 c6 c7:Value} {t:TypeId} (h:W.heap[g]?=some (.cells #[c0,c1,c2,c3,c4,c5,c6,c7] t (0,0))) (a0 a1 a2 a3 a4 a5 a6 a7:Value) :
  ∃ X,X=((((((((W.setCell (qa g 0) a0).setCell (qa g 1) a1).setCell (qa g 2) a2).setCell (qa g 3) a3).setCell (qa g 4) a4).setCell (qa g 5) a5).setCell (qa g 6) a6).setCell (qa g 7) a7)∧X.heap[g]?=some (.cells #[a0,a1,a2,a3,a4,a5,a6,a7] t (0,0))∧W.grownBy X (some g):=⟨_,rfl,store8 W g c0 c1 c2 c3 c4 c5 c6 c7 a0 a1 a2 a3 a4 a5 a6 a7 t h⟩
theorem storeF {W:World} {g:Nat} {c0 c1 c2 c3 c4 c5 c6 c7:Value} {t:TypeId} (h:W.heap[g]?=some (.cells #[c0,c1,c2,c3,c4,c5,c6,c7] t (0,0))) (f:M.Farm) (x:Fd) :
  ∃ X,X=((((((((W.setCell ⟨g,0,none⟩ (sv x.p f.parts.length x.pc)).setCell ⟨g,1,none⟩ (sv x.l f.plan.length x.lc)).setCell ⟨g,2,none⟩ (iv f.now)).setCell ⟨g,3,none⟩ (sv x.d f.done.length x.dc)).setCell ⟨g,4,none⟩ (sv x.h f.got.length x.hc)).setCell ⟨g,5,none⟩ (sv x.g f.grants.length x.gc)).setCell ⟨g,6,none⟩ (sv x.k f.work.length x.kc)).setCell ⟨g,7,none⟩ (sv x.n f.net.length x.nc))∧X.heap[g]?=some (.cells (qm f x) t (0,0))∧W.grownBy X (some g):=store8e h _ _ _ _ _ _ _ _
theorem storeZ {W:World} {g:Nat} {c0 c1 c2 c3 c4 c5 c6 c7:Value} {t:TypeId} (h:W.heap[g]?=some (.cells #[c0,c1,c2,c3,c4,c5,c6,c7] t (0,0))) :
  ∃ X,X=((((((((W.setCell ⟨g,0,none⟩ (sv none 0 0)).setCell ⟨g,1,none⟩ (sv none 0 0)).setCell ⟨g,2,none⟩ (iv 0)).setCell ⟨g,3,none⟩ (sv none 0 0)).setCell ⟨g,4,none⟩ (sv none 0 0)).setCell ⟨g,5,none⟩ (sv none 0 0)).setCell ⟨g,6,none⟩ (sv none 0 0)).setCell ⟨g,7,none⟩ (sv none 0 0))∧X.heap[g]?=some (.cells qz t (0,0))∧W.grownBy X (some g):=store8e h _ _ _ _ _ _ _ _
theorem fin_step {w X:World} {a:Act} {f:M.Farm} {y:Fd} {E:Int} {r:Nat} (h4:a.tmps.getD 4 undef=qv r 0) (h5:a.tmps.getD 5 undef=iv E) (hd:a.defers=[])
  (hr:X.heap[r]?=some (.cells (qm f y) 29 (0,0))) (hb:Below w.heap.size w X) (hat:Firm X f y):bodyPost Tryz.prog Tryz.f13 (StepTo w f E) .ret a X:=by
 refine bodyPost_ret (v:=.tuple #[.agg (qm f y),iv E]) ?_ hd ⟨hb,y,rfl,hat⟩
 obtain⟨c0,c1,c2,c3,c4,c5,c6,c7⟩:=cell8 hr
 rw[results_cell_tmp (p:=4) (u:=5) (ty:=29) (by kernel_rfl) a.tmps Tryz.prog X,h4,h5]
 simp[go_sem,c0,c1,c2,c3,c4,c5,c6,c7]
end Go.Proofs.YtebippbakbihiaaGreatDoor
