/-
  The contract of farm.copyFarm. The contract of farm.copyFarm.
-/
import Derived.Test.YtebippbakbihiaaGreatDoorFmCk
import Derived.Test.YtebippbakbihiaaGreatDoorFmKk
import Derived.Test.YtebippbakbihiaaGreatDoorQQ
namespace Go.Proofs.YtebippbakbihiaaGreatDoor
open Go Go.RowKit
set_option linter.unusedVariables false
theorem flat_cell {α:Type} (k:Nat) (f:α→List Value) (hf:∀ x,(f x).length=k) (d:α) (l:List α) (j i:Nat) (hj:j<l.length) (hi:i<k):(l.flatMap f)[j*k+i]?=some ((f (l.getD j d)).getD i undef):=by
 rw[flat_get k f hf l j i hi,getElem?_getD l d j hj]
 simp only[Option.bind_some]
 exact getElem?_getD _ _ _ (by rw[hf];exact hi)
theorem flat_len' {α:Type} (k:Nat) (f:α→List Value) (hf:∀ x,(f x).length=k):∀ l:List α,(l.flatMap f).length=l.length*k
 | []=>by simp
 | x :: l=>by rw[List.flatMap_cons,List.length_append,hf,flat_len' k f hf l,List.length_cons,Nat.add_mul];omega
theorem NodesAt.src {w:World} {u:Value} {l:List M.Nd} (h:NodesAt w u l):Src w u l.length (l.flatMap encNd) :=
 SlAt.src h (by decide) _ (flat_len' 3 encNd (fun _=>rfl) l) fun j i hj hi=>by
  rw[flat_cell 3 encNd (fun _=>rfl) M.nd0 l j i hj hi]
  match i,hi with
  | 0,_=>rfl
  | 1,_=>rfl
  | 2,_=>rfl
theorem BoolsAt.src {w:World} {u:Value} {l:List Bool} (h:BoolsAt w u l):Src w u l.length (l.flatMap encB) :=
 SlAt.src h (by decide) _ (flat_len' 1 encB (fun _=>rfl) l) fun j i hj hi=>by
  rw[flat_cell 1 encB (fun _=>rfl) false l j i hj hi]
  match i,hi with
  | 0,_=>rfl
theorem GrantsAt.src {w:World} {u:Value} {l:List M.Grt} (h:GrantsAt w u l):Src w u l.length (l.flatMap encGrt) :=
 SlAt.src h (by decide) _ (flat_len' 2 encGrt (fun _=>rfl) l) fun j i hj hi=>by
  rw[flat_cell 2 encGrt (fun _=>rfl) M.grt0 l j i hj hi]
  match i,hi with
  | 0,_=>rfl
  | 1,_=>rfl
theorem IntsAt.src' {w:World} {u:Value} {l:List Int} (h:IntsAt w u l):Src w u l.length (l.flatMap encI) :=
 SlAt.src h (by decide) _ (flat_len' 1 encI (fun _=>rfl) l) fun j i hj hi=>by
  rw[flat_cell 1 encI (fun _=>rfl) 0 l j i hj hi]
  match i,hi with
  | 0,_=>rfl
def cfR (B b:Nat) (fparts:List M.Prt) (fplan:List M.Nd) (fnow:Int) (fdone:List Bool) (fgot:List M.Prt) (fgrants:List M.Grt) (fwork:List Int) (xp:Option Addr) (xpc:Nat) (xl:Option Addr) (xlc:Nat) (xd:Option Addr) (xdc:Nat) (xh:Option Addr) (xhc:Nat) (xg:Option Addr) (xgc:Nat) (xk:Option Addr) (xkc:Nat) (j:Nat) (W:World) (u:Value):Prop :=
 match j with
 | 0=>u=qv b 0
 | 1=>u=sv xp fparts.length xpc
 | 2=>∃ es:List PEnt,es.map (·.p)=fparts∧W.ownsRow B 39 2 u es.length (es.flatMap pentCells)∧∀ e∈es,POwn W B e
 | 3=>u=qv b 1
 | 4=>u=sv xl fplan.length xlc
 | 5=>W.ownsRow B 75 3 u fplan.length (fplan.flatMap encNd)
 | 6=>u=qv b 2
 | 7=>u=iv fnow
 | 8=>u=qv b 3
 | 9=>u=sv xd fdone.length xdc
 | 10=>W.ownsRow B 4 1 u fdone.length (fdone.flatMap encB)
 | 11=>u=qv b 4
 | 12=>u=sv xh fgot.length xhc
 | 13=>∃ es:List PEnt,es.map (·.p)=fgot∧W.ownsRow B 39 2 u es.length (es.flatMap pentCells)∧∀ e∈es,POwn W B e
 | 14=>u=qv b 5
 | 15=>u=sv xg fgrants.length xgc
 | 16=>W.ownsRow B 64 2 u fgrants.length (fgrants.flatMap encGrt)
 | 17=>u=qv b 6
 | 18=>u=sv xk fwork.length xkc
 | 19=>W.ownsRow B 3 1 u fwork.length (fwork.flatMap encI)
 | 20=>∃ (y:Fd) (o:Fo),u=.agg #[sv y.p fparts.length y.pc,sv y.l fplan.length y.lc,iv fnow,sv y.d fdone.length y.dc,sv y.h fgot.length y.hc,sv y.g fgrants.length y.gc,sv y.k fwork.length y.kc,sv none 0 0]∧FmR B W ⟨fparts,fplan,fnow,fdone,fgot,fgrants,fwork,[]⟩ { y with n:=none,nc:=0 } o
 | 21=>∃ g,u=qv g 0∧(B≤g∧b+2≤g)∧W.heap[g]?=some (.cells qz 29 (0,0))
 | _=>False
theorem cfR_later {B b:Nat} {fparts:List M.Prt} {fplan:List M.Nd} {fnow:Int} {fdone:List Bool} {fgot:List M.Prt} {fgrants:List M.Grt} {fwork:List Int} {xp:Option Addr} {xpc:Nat} {xl:Option Addr} {xlc:Nat} {xd:Option Addr} {xdc:Nat} {xh:Option Addr} {xhc:Nat} {xg:Option Addr} {xgc:Nat} {xk:Option Addr} {xkc:Nat} {W X:World} (hb:Below W.heap.size W X):∀ j u,cfR B b fparts fplan fnow fdone fgot fgrants fwork xp xpc xl xlc xd xdc xh xhc xg xgc xk xkc j W u→cfR B b fparts fplan fnow fdone fgot fgrants fwork xp xpc xl xlc xd xdc xh xhc xg xgc xk xkc j X u:=by
 intro j u h
 have hg:=grown_of_below hb Option.none
 match j,h with
 | 0,h=>exact h
 | 1,h=>exact h
 | 2,h=>obtain⟨es,h1,h2,h3⟩:=h;exact⟨es,h1,h2.kept hg own_self,fun e he=>(h3 e he).later hb⟩
 | 3,h=>exact h
 | 4,h=>exact h
 | 5,h=>exact World.ownsRow.kept h hg own_self
 | 6,h=>exact h
 | 7,h=>exact h
 | 8,h=>exact h
 | 9,h=>exact h
 | 10,h=>exact World.ownsRow.kept h hg own_self
 | 11,h=>exact h
 | 12,h=>exact h
 | 13,h=>obtain⟨es,h1,h2,h3⟩:=h;exact⟨es,h1,h2.kept hg own_self,fun e he=>(h3 e he).later hb⟩
 | 14,h=>exact h
 | 15,h=>exact h
 | 16,h=>exact World.ownsRow.kept h hg own_self
 | 17,h=>exact h
 | 18,h=>exact h
 | 19,h=>exact World.ownsRow.kept h hg own_self
 | 20,h=>obtain⟨y,o,h1,h2⟩:=h;exact⟨y,o,h1,h2.later hb⟩
 | 21,h=>obtain⟨g,h1,h2,h3⟩:=h;exact⟨g,h1,h2,(hb.block _ (lt1 h3)).trans h3⟩
def cfZ (j k:Nat) (u x:Value):Prop:=(j=2∧k=13∨j=13∧k=2)→u.ownBlock=none∨u.ownBlock≠x.ownBlock
theorem store8 (W:World) (g:Nat) (c0 c1 c2 c3 c4 c5 c6 c7 a0 a1 a2 a3 a4 a5 a6 a7:Value) (t:TypeId) (h:W.heap[g]?=some (.cells #[c0,c1,c2,c3,c4,c5,c6,c7] t (0,0))) :
  ((((((((W.setCell (qa g 0) a0).setCell (qa g 1) a1).setCell (qa g 2) a2).setCell (qa g 3) a3).setCell (qa g 4) a4).setCell (qa g 5) a5).setCell (qa g 6) a6).setCell (qa g 7) a7).heap[g]?=some (.cells #[a0,a1,a2,a3,a4,a5,a6,a7] t (0,0)) ∧
  W.grownBy ((((((((W.setCell (qa g 0) a0).setCell (qa g 1) a1).setCell (qa g 2) a2).setCell (qa g 3) a3).setCell (qa g 4) a4).setCell (qa g 5) a5).setCell (qa g 6) a6).setCell (qa g 7) a7) (some g):=by
 have h1:(W.setCell (qa g 0) a0).heap[g]?=some (.cells #[a0,c1,c2,c3,c4,c5,c6,c7] t (0,0)):=setB' h a0
 have h2:((W.setCell (qa g 0) a0).setCell (qa g 1) a1).heap[g]?=some (.cells #[a0,a1,c2,c3,c4,c5,c6,c7] t (0,0)):=setB' h1 a1
 have h3:(((W.setCell (qa g 0) a0).setCell (qa g 1) a1).setCell (qa g 2) a2).heap[g]?=some (.cells #[a0,a1,a2,c3,c4,c5,c6,c7] t (0,0)):=setB' h2 a2
 have h4:((((W.setCell (qa g 0) a0).setCell (qa g 1) a1).setCell (qa g 2) a2).setCell (qa g 3) a3).heap[g]?=some (.cells #[a0,a1,a2,a3,c4,c5,c6,c7] t (0,0)):=setB' h3 a3
 have h5:(((((W.setCell (qa g 0) a0).setCell (qa g 1) a1).setCell (qa g 2) a2).setCell (qa g 3) a3).setCell (qa g 4) a4).heap[g]?=some (.cells #[a0,a1,a2,a3,a4,c5,c6,c7] t (0,0)):=setB' h4 a4
 have h6:((((((W.setCell (qa g 0) a0).setCell (qa g 1) a1).setCell (qa g 2) a2).setCell (qa g 3) a3).setCell (qa g 4) a4).setCell (qa g 5) a5).heap[g]?=some (.cells #[a0,a1,a2,a3,a4,a5,c6,c7] t (0,0)):=setB' h5 a5
 have h7:(((((((W.setCell (qa g 0) a0).setCell (qa g 1) a1).setCell (qa g 2) a2).setCell (qa g 3) a3).setCell (qa g 4) a4).setCell (qa g 5) a5).setCell (qa g 6) a6).heap[g]?=some (.cells #[a0,a1,a2,a3,a4,a5,a6,c7] t (0,0)):=setB' h6 a6
 exact⟨setB' h7 a7,grown_trans (grown_trans (grown_trans (grown_trans (grown_trans (grown_trans (grown_trans (grown_set W g 0 a0) (grown_set _ g 1 a1)) (grown_set _ g 2 a2)) (grown_set _ g 3 a3)) (grown_set _ g 4 a4)) (grown_set _ g 5 a5)) (grown_set _ g 6 a6)) (grown_set _ g 7 a7)⟩
theorem farm_small {f:M.Farm} (h:M.FarmOk f):f.plan.length≤23∧f.parts.length≤12:=by
 obtain⟨h1,h2,_⟩:=check_ok h.plan
 have:=(M.fewParts_iff _).1 h1
 omega
set_option maxHeartbeats 16000000 in
set_option maxRecDepth 100000 in
theorem copyFarm_any (f:M.Farm) (x:Fd) (w:World) (hf:FarmAt w f x) (hok:M.FarmOk f) :
  Calls Tryz.prog 22 #[.agg #[sv x.p f.parts.length x.pc,sv x.l f.plan.length x.lc,iv f.now,sv x.d f.done.length x.dc,sv x.h f.got.length x.hc,sv x.g f.grants.length x.gc,sv x.k f.work.length x.kc,sv x.n f.net.length x.nc]] w fun e w' =>
   Below w.heap.size w w'∧∃ y o,e=.returned (.agg #[sv y.p f.parts.length y.pc,sv y.l f.plan.length y.lc,iv f.now,sv y.d f.done.length y.dc,sv y.h f.got.length y.hc,sv y.g f.grants.length y.gc,sv y.k f.work.length y.kc,sv y.n f.net.length y.nc])∧FmR w.heap.size w' f y o:=by
 obtain⟨i0,hi0,hz0,hz1,hz2⟩:=info_parts (P:=Tryz.prog) (e:=60) (z:=.agg #[iv 0,iv 0,iv 0,sv none 0 0,sv none 0 0]) (size:=5) (bytes:=72) (by kernel_rfl)
 obtain⟨iL,hiL,hL0,hL1,hL2⟩:=info_parts (P:=Tryz.prog) (e:=75) (z:=.agg #[iv 0,iv 0,iv 0]) (size:=3) (bytes:=24) (by kernel_rfl)
 obtain⟨iD,hiD,hD0,hD1,hD2⟩:=info_parts (P:=Tryz.prog) (e:=4) (z:=.bool false) (size:=1) (bytes:=1) (by kernel_rfl)
 obtain⟨iG,hiG,hG0,hG1,hG2⟩:=info_parts (P:=Tryz.prog) (e:=64) (z:=.agg #[iv 0,iv 0]) (size:=2) (bytes:=16) (by kernel_rfl)
 obtain⟨iK,hiK,hK0,hK1,hK2⟩:=info_parts (P:=Tryz.prog) (e:=3) (z:=iv 0) (size:=1) (bytes:=8) (by kernel_rfl)
 obtain⟨hpl,hpp⟩:=farm_small hok
 have hd1:Hid (f.done.length=f.plan.length):=hok.done;have hd2:Hid (f.got.length=f.plan.length):=hok.got;have hd3:Hid (f.grants.length=f.plan.length):=hok.grants;have hd4:=hok.work4;have hd5:=hok.net
 have HOk:Hid (M.FarmOk f):=hok
 have h0:=(heap_alloc_old (w.alloc (.cells #[sv x.p f.parts.length x.pc,sv x.l f.plan.length x.lc,iv f.now,sv x.d f.done.length x.dc,sv x.h f.got.length x.hc,sv x.g f.grants.length x.gc,sv x.k f.work.length x.kc,sv x.n f.net.length x.nc] 29)) (.cells qz 29) (by simp)).trans (heap_alloc_new w (.cells #[sv x.p f.parts.length x.pc,sv x.l f.plan.length x.lc,iv f.now,sv x.d f.done.length x.dc,sv x.h f.got.length x.hc,sv x.g f.grants.length x.gc,sv x.k f.work.length x.kc,sv x.n f.net.length x.nc] 29))
 have h1:=heap_alloc_new (w.alloc (.cells #[sv x.p f.parts.length x.pc,sv x.l f.plan.length x.lc,iv f.now,sv x.d f.done.length x.dc,sv x.h f.got.length x.hc,sv x.g f.grants.length x.gc,sv x.k f.work.length x.kc,sv x.n f.net.length x.nc] 29)) (.cells qz 29)
 rw[show (w.alloc (.cells #[sv x.p f.parts.length x.pc,sv x.l f.plan.length x.lc,iv f.now,sv x.d f.done.length x.dc,sv x.h f.got.length x.hc,sv x.g f.grants.length x.gc,sv x.k f.work.length x.kc,sv x.n f.net.length x.nc] 29)).heap.size=w.heap.size+1 by simp] at h1
 have HB0:Hid (Below w.heap.size w ((w.alloc (.cells #[sv x.p f.parts.length x.pc,sv x.l f.plan.length x.lc,iv f.now,sv x.d f.done.length x.dc,sv x.h f.got.length x.hc,sv x.g f.grants.length x.gc,sv x.k f.work.length x.kc,sv x.n f.net.length x.nc] 29)).alloc (.cells qz 29))):=((Below.refl _ _).alloc (Nat.le_refl _) _).alloc (by simp) _
 have HF:Hid (∀ W,Below w.heap.size w W→FarmAt W f x):=fun W hW=>hf.later hW
 have HPa:=hok.parts
 have HGo:=hok.gots
 clear hf hok
 obtain⟨xp,xpc,xl,xlc,xd,xdc,xh,xhc,xg,xgc,xk,xkc,xn,xnc⟩:=x
 obtain⟨fparts,fplan,fnow,fdone,fgot,fgrants,fwork,fnet⟩:=f
 simp only at h0 h1 HB0 hpl hpp hd1 hd2 hd3 hd4 hd5 HPa HGo ⊢
 go_enter Tryz.func22,Tryz.ntmps22
 go_upto_region 1 with fail
 generalize (w.alloc (.cells #[sv xp fparts.length xpc,sv xl fplan.length xlc,iv fnow,sv xd fdone.length xdc,sv xh fgot.length xhc,sv xg fgrants.length xgc,sv xk fwork.length xkc,sv xn fnet.length xnc] 29)).alloc (.cells qz 29)=Y at *
 obtain⟨b,hb⟩:∃ b,b=w.heap.size:=⟨_,rfl⟩
 obtain⟨B,hB⟩:∃ B,B=w.heap.size:=⟨_,rfl⟩
 have hBb:B=b:=by rw[hb,hB]
 have hBY:B≤Y.heap.size:=by rw[hB];exact HB0.out.size
 have hYA:∀ W,Below Y.heap.size Y W→FarmAt W ⟨fparts,fplan,fnow,fdone,fgot,fgrants,fwork,fnet⟩ ⟨xp,xpc,xl,xlc,xd,xdc,xh,xhc,xg,xgc,xk,xkc,xn,xnc⟩∧W.heap[b]?=some (.cells #[sv xp fparts.length xpc,sv xl fplan.length xlc,iv fnow,sv xd fdone.length xdc,sv xh fgot.length xhc,sv xg fgrants.length xgc,sv xk fwork.length xkc,sv xn fnet.length xnc] 29 (0,0))∧(B≤W.heap.size∧b+2≤W.heap.size)∧W.heap[b+1]?=some (.cells qz 29 (0,0)):=fun W hW=>⟨HF.out W (HB0.out.trans (hW.mono HB0.out.size)),by rw[hb];exact (hW.block _ (lt1 h0)).trans h0,⟨Nat.le_trans hBY hW.size,by have:=lt1 h1;have:=hW.size;omega⟩,by rw[hb];exact (hW.block _ (lt1 h1)).trans h1⟩
 rw[← hb]
 refine wp_region_rel 22 (fun _ W=>Below Y.heap.size Y W) (fun v=>⟨#[.agg #[sv xp fparts.length xpc,sv xl fplan.length xlc,iv fnow,sv xd fdone.length xdc,sv xh fgot.length xhc,sv xg fgrants.length xgc,sv xk fwork.length xkc,sv xn fnet.length xnc],qv b 0,qv (b+1) 0,v 21,undef,undef,v 0,v 1,v 2,v 3,v 4,v 5,v 6,v 7,v 8,v 9,v 10,v 11,v 12,v 13,v 14,v 15,v 16,v 17,v 18,v 19,v 20,undef,undef,undef,undef,undef,undef,undef,undef,undef,undef,undef,undef,undef,undef,undef,undef,undef,undef,undef],[]⟩) (cfR B b fparts fplan fnow fdone fgot fgrants fwork xp xpc xl xlc xd xdc xh xhc xg xgc xk xkc) cfZ (by kernel_rfl) (by kernel_rfl) (Below.refl _ _).drew ⟨fun _=>undef,rfl⟩ ?_ ?_
 ·have hd1:=hd1.out;have hd2:=hd2.out;have hd3:=hd3.out
  intro j o hj ho
  rcases (by omega:j=0∨j=1∨j=2∨j=3∨j=4∨j=5∨j=6∨j=7∨j=8∨j=9∨j=10∨j=11∨j=12∨j=13∨j=14∨j=15∨j=16∨j=17∨j=18∨j=19∨j=20∨j=21) with rfl | rfl | rfl | rfl | rfl | rfl | rfl | rfl | rfl | rfl | rfl | rfl | rfl | rfl | rfl | rfl | rfl | rfl | rfl | rfl | rfl | rfl
  all_goals cases ho
  all_goals refine relStep_of rfl rfl ?_
  all_goals intro sd v W hC hin hsd hdep hdz
  all_goals obtain⟨hFa,hblk,⟨hBW,hbW⟩,_⟩:=hYA W hC
  ·exact wp_val (qv b 0) (by simp[execOp,Act.eval,go_sem]) ⟨_,rfl,hC,fun _ _ _ _ h=>h,rfl,fun k hk _ hz=>⟨fun h=>absurd h (by omega),fun h=>absurd h (by omega)⟩⟩
  ·have hv:v 0=qv b 0:=hdep ⟨0,.data⟩ (by simp) rfl
   have hc:=cellC hblk 0 rfl
   exact wp_val (sv xp fparts.length xpc) (by simp[execOp,Act.eval,go_sem,hv,hc]) ⟨_,rfl,hC,fun _ _ _ _ h=>h,rfl,fun k hk _ hz=>⟨fun h=>absurd h (by omega),fun h=>absurd h (by omega)⟩⟩
  ·have hv:v 1=sv xp fparts.length xpc:=hdep ⟨1,.data⟩ (by simp) rfl
   refine wp_enter 49 #[sv xp fparts.length xpc] (by simp[Act.eval,go_sem,hv]) ?_
   refine (copyParts_any fparts _ _ W hFa.parts (by omega) HPa).mono ?_
   rintro e W2 ⟨u,rfl,hE⟩
   obtain⟨es,hm,hr,hp⟩:=hE.ex
   refine⟨u,rfl,u,rfl,hC.trans (hE.below.mono hC.size),(fun k x _ _=>cfR_later hE.below k x),⟨es,hm,row_base hr hBW,fun e he=>(hp e he).base hBW⟩,fun k hk _ hz=>?_⟩
   have hap:k=13→(u.ownBlock=none∨u.ownBlock≠(v k).ownBlock)∧((v k).ownBlock=none∨(v k).ownBlock≠u.ownBlock):=by
    intro hke
    rw[hke] at hz ⊢
    obtain⟨es2,_,hr2,_⟩:=hz
    cases hu:u.ownBlock with
    | none=>exact⟨.inl rfl,by cases (v 13).ownBlock <;> simp⟩
    | some g =>
     cases hz2:(v 13).ownBlock with
     | none=>exact⟨.inr (by simp),.inl rfl⟩
     | some g2 =>
      have:=(hr.lt g hu).1
      have:=(hr2.lt g2 hz2).2
      exact⟨.inr (by simp;omega),.inr (by simp;omega)⟩
   exact⟨fun h=>(hap (by omega)).1,fun h=>(hap (by omega)).2⟩
  ·exact wp_val (qv b 1) (by simp[execOp,Act.eval,go_sem]) ⟨_,rfl,hC,fun _ _ _ _ h=>h,rfl,fun k hk _ hz=>⟨fun h=>absurd h (by omega),fun h=>absurd h (by omega)⟩⟩
  ·have hv:v 3=qv b 1:=hdep ⟨3,.data⟩ (by simp) rfl
   have hc:=cellC hblk 1 rfl
   exact wp_val (sv xl fplan.length xlc) (by simp[execOp,Act.eval,go_sem,hv,hc]) ⟨_,rfl,hC,fun _ _ _ _ h=>h,rfl,fun k hk _ hz=>⟨fun h=>absurd h (by omega),fun h=>absurd h (by omega)⟩⟩
  ·have hv:v 4=sv xl fplan.length xlc:=hdep ⟨4,.data⟩ (by simp) rfl
   refine wp_append_src W _ _ 23 rfl B 75 iL (.agg #[iv 0,iv 0,iv 0]) 3 24 Tryz.underlying23 hiL hL0 hL1 hL2 rfl (by decide) (sv none 0 0) 0 [] rfl (World.ownsRow_nil _ _ _ _) (sv xl fplan.length xlc) fplan.length (fplan.flatMap encNd) hv hFa.plan.src (flat_len' 3 encNd (fun _=>rfl) _) (fun u hu=>by obtain⟨q,_,hu⟩:=List.mem_flatMap.1 hu;simp[encNd] at hu;rcases hu with rfl | rfl | rfl <;> rfl) (by unfold maxLen;omega) (by omega) hBW ?_
   intro u W2 hr hg
   have hb2:Below W.heap.size W W2:=(Below.refl _ _).grown hg (Nat.le_refl _) (fun k hk=>by cases hk)
   rw[Nat.zero_add,List.nil_append] at hr
   exact⟨u,rfl,hC.trans (hb2.mono hC.size),(fun k x _ _=>cfR_later hb2 k x),hr,fun k hk _ hz=>⟨fun h=>absurd h (by omega),fun h=>absurd h (by omega)⟩⟩
  ·exact wp_val (qv b 2) (by simp[execOp,Act.eval,go_sem]) ⟨_,rfl,hC,fun _ _ _ _ h=>h,rfl,fun k hk _ hz=>⟨fun h=>absurd h (by omega),fun h=>absurd h (by omega)⟩⟩
  ·have hv:v 6=qv b 2:=hdep ⟨6,.data⟩ (by simp) rfl
   have hc:=cellC hblk 2 rfl
   exact wp_val (iv fnow) (by simp[execOp,Act.eval,go_sem,hv,hc]) ⟨_,rfl,hC,fun _ _ _ _ h=>h,rfl,fun k hk _ hz=>⟨fun h=>absurd h (by omega),fun h=>absurd h (by omega)⟩⟩
  ·exact wp_val (qv b 3) (by simp[execOp,Act.eval,go_sem]) ⟨_,rfl,hC,fun _ _ _ _ h=>h,rfl,fun k hk _ hz=>⟨fun h=>absurd h (by omega),fun h=>absurd h (by omega)⟩⟩
  ·have hv:v 8=qv b 3:=hdep ⟨8,.data⟩ (by simp) rfl
   have hc:=cellC hblk 3 rfl
   exact wp_val (sv xd fdone.length xdc) (by simp[execOp,Act.eval,go_sem,hv,hc]) ⟨_,rfl,hC,fun _ _ _ _ h=>h,rfl,fun k hk _ hz=>⟨fun h=>absurd h (by omega),fun h=>absurd h (by omega)⟩⟩
  ·have hv:v 9=sv xd fdone.length xdc:=hdep ⟨9,.data⟩ (by simp) rfl
   refine wp_append_src W _ _ 24 rfl B 4 iD (.bool false) 1 1 Tryz.underlying24 hiD hD0 hD1 hD2 rfl (by decide) (sv none 0 0) 0 [] rfl (World.ownsRow_nil _ _ _ _) (sv xd fdone.length xdc) fdone.length (fdone.flatMap encB) hv hFa.done.src (flat_len' 1 encB (fun _=>rfl) _) (fun u hu=>by obtain⟨q,_,hu⟩:=List.mem_flatMap.1 hu;simp[encB] at hu;rcases hu with rfl;rfl) (by unfold maxLen;omega) (by omega) hBW ?_
   intro u W2 hr hg
   have hb2:Below W.heap.size W W2:=(Below.refl _ _).grown hg (Nat.le_refl _) (fun k hk=>by cases hk)
   rw[Nat.zero_add,List.nil_append] at hr
   exact⟨u,rfl,hC.trans (hb2.mono hC.size),(fun k x _ _=>cfR_later hb2 k x),hr,fun k hk _ hz=>⟨fun h=>absurd h (by omega),fun h=>absurd h (by omega)⟩⟩
  ·exact wp_val (qv b 4) (by simp[execOp,Act.eval,go_sem]) ⟨_,rfl,hC,fun _ _ _ _ h=>h,rfl,fun k hk _ hz=>⟨fun h=>absurd h (by omega),fun h=>absurd h (by omega)⟩⟩
  ·have hv:v 11=qv b 4:=hdep ⟨11,.data⟩ (by simp) rfl
   have hc:=cellC hblk 4 rfl
   exact wp_val (sv xh fgot.length xhc) (by simp[execOp,Act.eval,go_sem,hv,hc]) ⟨_,rfl,hC,fun _ _ _ _ h=>h,rfl,fun k hk _ hz=>⟨fun h=>absurd h (by omega),fun h=>absurd h (by omega)⟩⟩
  ·have hv:v 12=sv xh fgot.length xhc:=hdep ⟨12,.data⟩ (by simp) rfl
   refine wp_enter 49 #[sv xh fgot.length xhc] (by simp[Act.eval,go_sem,hv]) ?_
   refine (copyParts_any fgot _ _ W hFa.got (by omega) HGo).mono ?_
   rintro e W2 ⟨u,rfl,hE⟩
   obtain⟨es,hm,hr,hp⟩:=hE.ex
   refine⟨u,rfl,u,rfl,hC.trans (hE.below.mono hC.size),(fun k x _ _=>cfR_later hE.below k x),⟨es,hm,row_base hr hBW,fun e he=>(hp e he).base hBW⟩,fun k hk _ hz=>?_⟩
   have hap:k=2→(u.ownBlock=none∨u.ownBlock≠(v k).ownBlock)∧((v k).ownBlock=none∨(v k).ownBlock≠u.ownBlock):=by
    intro hke
    rw[hke] at hz ⊢
    obtain⟨es2,_,hr2,_⟩:=hz
    cases hu:u.ownBlock with
    | none=>exact⟨.inl rfl,by cases (v 2).ownBlock <;> simp⟩
    | some g =>
     cases hz2:(v 2).ownBlock with
     | none=>exact⟨.inr (by simp),.inl rfl⟩
     | some g2 =>
      have:=(hr.lt g hu).1
      have:=(hr2.lt g2 hz2).2
      exact⟨.inr (by simp;omega),.inr (by simp;omega)⟩
   exact⟨fun h=>(hap (by omega)).1,fun h=>(hap (by omega)).2⟩
  ·exact wp_val (qv b 5) (by simp[execOp,Act.eval,go_sem]) ⟨_,rfl,hC,fun _ _ _ _ h=>h,rfl,fun k hk _ hz=>⟨fun h=>absurd h (by omega),fun h=>absurd h (by omega)⟩⟩
  ·have hv:v 14=qv b 5:=hdep ⟨14,.data⟩ (by simp) rfl
   have hc:=cellC hblk 5 rfl
   exact wp_val (sv xg fgrants.length xgc) (by simp[execOp,Act.eval,go_sem,hv,hc]) ⟨_,rfl,hC,fun _ _ _ _ h=>h,rfl,fun k hk _ hz=>⟨fun h=>absurd h (by omega),fun h=>absurd h (by omega)⟩⟩
  ·have hv:v 15=sv xg fgrants.length xgc:=hdep ⟨15,.data⟩ (by simp) rfl
   refine wp_append_src W _ _ 25 rfl B 64 iG (.agg #[iv 0,iv 0]) 2 16 Tryz.underlying25 hiG hG0 hG1 hG2 rfl (by decide) (sv none 0 0) 0 [] rfl (World.ownsRow_nil _ _ _ _) (sv xg fgrants.length xgc) fgrants.length (fgrants.flatMap encGrt) hv hFa.grants.src (flat_len' 2 encGrt (fun _=>rfl) _) (fun u hu=>by obtain⟨q,_,hu⟩:=List.mem_flatMap.1 hu;simp[encGrt] at hu;rcases hu with rfl | rfl <;> rfl) (by unfold maxLen;omega) (by omega) hBW ?_
   intro u W2 hr hg
   have hb2:Below W.heap.size W W2:=(Below.refl _ _).grown hg (Nat.le_refl _) (fun k hk=>by cases hk)
   rw[Nat.zero_add,List.nil_append] at hr
   exact⟨u,rfl,hC.trans (hb2.mono hC.size),(fun k x _ _=>cfR_later hb2 k x),hr,fun k hk _ hz=>⟨fun h=>absurd h (by omega),fun h=>absurd h (by omega)⟩⟩
  ·exact wp_val (qv b 6) (by simp[execOp,Act.eval,go_sem]) ⟨_,rfl,hC,fun _ _ _ _ h=>h,rfl,fun k hk _ hz=>⟨fun h=>absurd h (by omega),fun h=>absurd h (by omega)⟩⟩
  ·have hv:v 17=qv b 6:=hdep ⟨17,.data⟩ (by simp) rfl
   have hc:=cellC hblk 6 rfl
   exact wp_val (sv xk fwork.length xkc) (by simp[execOp,Act.eval,go_sem,hv,hc]) ⟨_,rfl,hC,fun _ _ _ _ h=>h,rfl,fun k hk _ hz=>⟨fun h=>absurd h (by omega),fun h=>absurd h (by omega)⟩⟩
  ·have hv:v 18=sv xk fwork.length xkc:=hdep ⟨18,.data⟩ (by simp) rfl
   refine wp_append_src W _ _ 26 rfl B 3 iK (iv 0) 1 8 Tryz.underlying26 hiK hK0 hK1 hK2 rfl (by decide) (sv none 0 0) 0 [] rfl (World.ownsRow_nil _ _ _ _) (sv xk fwork.length xkc) fwork.length (fwork.flatMap encI) hv hFa.work.src' (flat_len' 1 encI (fun _=>rfl) _) (fun u hu=>by obtain⟨q,_,hu⟩:=List.mem_flatMap.1 hu;simp[encI] at hu;rcases hu with rfl;rfl) (by unfold maxLen;omega) (by omega) hBW ?_
   intro u W2 hr hg
   have hb2:Below W.heap.size W W2:=(Below.refl _ _).grown hg (Nat.le_refl _) (fun k hk=>by cases hk)
   rw[Nat.zero_add,List.nil_append] at hr
   exact⟨u,rfl,hC.trans (hb2.mono hC.size),(fun k x _ _=>cfR_later hb2 k x),hr,fun k hk _ hz=>⟨fun h=>absurd h (by omega),fun h=>absurd h (by omega)⟩⟩
  ·have h2:cfR B b fparts fplan fnow fdone fgot fgrants fwork xp xpc xl xlc xd xdc xh xhc xg xgc xk xkc 2 W (v 2):=hdep ⟨2,.data⟩ (by simp) rfl
   have h5:cfR B b fparts fplan fnow fdone fgot fgrants fwork xp xpc xl xlc xd xdc xh xhc xg xgc xk xkc 5 W (v 5):=hdep ⟨5,.data⟩ (by simp) rfl
   have h7:v 7=iv fnow:=hdep ⟨7,.data⟩ (by simp) rfl
   have h10:cfR B b fparts fplan fnow fdone fgot fgrants fwork xp xpc xl xlc xd xdc xh xhc xg xgc xk xkc 10 W (v 10):=hdep ⟨10,.data⟩ (by simp) rfl
   have h13:cfR B b fparts fplan fnow fdone fgot fgrants fwork xp xpc xl xlc xd xdc xh xhc xg xgc xk xkc 13 W (v 13):=hdep ⟨13,.data⟩ (by simp) rfl
   have h16:cfR B b fparts fplan fnow fdone fgot fgrants fwork xp xpc xl xlc xd xdc xh xhc xg xgc xk xkc 16 W (v 16):=hdep ⟨16,.data⟩ (by simp) rfl
   have h19:cfR B b fparts fplan fnow fdone fgot fgrants fwork xp xpc xl xlc xd xdc xh xhc xg xgc xk xkc 19 W (v 19):=hdep ⟨19,.data⟩ (by simp) rfl
   have hz:cfZ 2 13 (v 2) (v 13):=hdz ⟨2,.data⟩ (by simp) ⟨13,.data⟩ (by simp) rfl rfl (by decide)
   obtain⟨eP,mP,rP,oP⟩:=h2
   obtain⟨eH,mH,rH,oH⟩:=h13
   have lP:=map_len mP
   have lH:=map_len mH
   rw[← lP] at rP
   rw[← lH] at rH
   obtain⟨yp,ypc,e2⟩:=own_len rP
   obtain⟨yh,yhc,e13⟩:=own_len rH
   obtain⟨yl,ylc,e5⟩:=own_len h5
   obtain⟨yd,ydc,e10⟩:=own_len h10
   obtain⟨yg,ygc,e16⟩:=own_len h16
   obtain⟨yk,ykc,e19⟩:=own_len h19
   rw[e2] at rP
   rw[e13] at rH
   have hz':=hz (.inl ⟨rfl,rfl⟩)
   rw[e2,e13] at hz'
   have r5:W.ownsRow B 75 3 (v 5) fplan.length (fplan.flatMap encNd):=h5
   have r10:W.ownsRow B 4 1 (v 10) fdone.length (fdone.flatMap encB):=h10
   have r16:W.ownsRow B 64 2 (v 16) fgrants.length (fgrants.flatMap encGrt):=h16
   have r19:W.ownsRow B 3 1 (v 19) fwork.length (fwork.flatMap encI):=h19
   rw[e5] at r5
   rw[e10] at r10
   rw[e16] at r16
   rw[e19] at r19
   refine wp_val (.agg #[sv yp fparts.length ypc,sv yl fplan.length ylc,iv fnow,sv yd fdone.length ydc,sv yh fgot.length yhc,sv yg fgrants.length ygc,sv yk fwork.length ykc,sv none 0 0]) (by simp[execOp,Act.eval,go_sem,e2,e5,h7,e10,e13,e16,e19]) ⟨_,rfl,hC,fun _ _ _ _ h=>h,?_,fun k hk _ hz=>⟨fun h=>absurd h (by omega),fun h=>absurd h (by omega)⟩⟩
   exact⟨⟨yp,ypc,yl,ylc,yd,ydc,yh,yhc,yg,ygc,yk,ykc,none,0⟩,⟨eP,eH,[]⟩,rfl,rP,mP,r5,r10,rH,mH,r16,r19,World.ownsRow_nil _ _ _ _,rfl,oP,oH,(fun e he=>by cases he),hz'⟩
  ·have hA:=(Below.refl W.heap.size W).alloc (Nat.le_refl _) (.cells qz 29)
   have hr:∀ o:Oper,o.op=.alloc 29→(execOp (Act.eval ⟨#[.agg #[sv xp fparts.length xpc,sv xl fplan.length xlc,iv fnow,sv xd fdone.length xdc,sv xh fgot.length xhc,sv xg fgrants.length xgc,sv xk fwork.length xkc,sv xn fnet.length xnc],qv b 0,qv (b+1) 0,v 21,undef,undef,v 0,v 1,v 2,v 3,v 4,v 5,v 6,v 7,v 8,v 9,v 10,v 11,v 12,v 13,v 14,v 15,v 16,v 17,v 18,v 19,v 20,undef,undef,undef,undef,undef,undef,undef,undef,undef,undef,undef,undef,undef,undef,undef,undef,undef,undef,undef],[]⟩) o).run Tryz.prog W=.ok (.value (qv W.heap.size 0)) (W.alloc (.cells qz 29)):=fun o ho=>by simp[execOp,ho,go_sem]
   unfold Oper.wp
   rw[hr _ rfl]
   exact⟨_,rfl,hC.trans (hA.mono hC.size),(fun k x _ _=>cfR_later hA k x),⟨W.heap.size,rfl,⟨hBW,hbW⟩,heap_alloc_new W _⟩,fun k hk _ hz=>⟨fun h=>absurd h (by omega),fun h=>absurd h (by omega)⟩⟩
 ·intro sd v W hC hR hZ
  obtain⟨hFa,hblk,⟨hBW,hbW⟩,hres⟩:=hYA W hC
  obtain⟨y,o,h20,hrows⟩:cfR B b fparts fplan fnow fdone fgot fgrants fwork xp xpc xl xlc xd xdc xh xhc xg xgc xk xkc 20 W (v 20):=hR 20 (by decide)
  obtain⟨g,h21,⟨hBg,hbg⟩,hg⟩:cfR B b fparts fplan fnow fdone fgot fgrants fwork xp xpc xl xlc xd xdc xh xhc xg xgc xk xkc 21 W (v 21):=hR 21 (by decide)
  obtain⟨hs1,hs2⟩:=store8 W g (sv none 0 0) (sv none 0 0) (iv 0) (sv none 0 0) (sv none 0 0) (sv none 0 0) (sv none 0 0) (sv none 0 0) (sv y.p fparts.length y.pc) (sv y.l fplan.length y.lc) (iv fnow) (sv y.d fdone.length y.dc) (sv y.h fgot.length y.hc) (sv y.g fgrants.length y.gc) (sv y.k fwork.length y.kc) (sv none 0 0) 29 hg
  have hO:FmO B ((((((((W.setCell (qa g 0) (sv y.p fparts.length y.pc)).setCell (qa g 1) (sv y.l fplan.length y.lc)).setCell (qa g 2) (iv fnow)).setCell (qa g 3) (sv y.d fdone.length y.dc)).setCell (qa g 4) (sv y.h fgot.length y.hc)).setCell (qa g 5) (sv y.g fgrants.length y.gc)).setCell (qa g 6) (sv y.k fwork.length y.kc)).setCell (qa g 7) (sv none 0 0)) g ⟨fparts,fplan,fnow,fdone,fgot,fgrants,fwork,[]⟩ { y with n:=none,nc:=0 } o:=(hrows.wr ⟨g,_,hg,hs2⟩).own hBg hs1
  have hbk:((((((((W.setCell (qa g 0) (sv y.p fparts.length y.pc)).setCell (qa g 1) (sv y.l fplan.length y.lc)).setCell (qa g 2) (iv fnow)).setCell (qa g 3) (sv y.d fdone.length y.dc)).setCell (qa g 4) (sv y.h fgot.length y.hc)).setCell (qa g 5) (sv y.g fgrants.length y.gc)).setCell (qa g 6) (sv y.k fwork.length y.kc)).setCell (qa g 7) (sv none 0 0)).heap[b]?=some (.cells #[sv xp fparts.length xpc,sv xl fplan.length xlc,iv fnow,sv xd fdone.length xdc,sv xh fgot.length xhc,sv xg fgrants.length xgc,sv xk fwork.length xkc,sv xn fnet.length xnc] 29 (0,0)):=(hs2.block b (lt1 hblk) (by simp;omega)).trans hblk
  have hrk:((((((((W.setCell (qa g 0) (sv y.p fparts.length y.pc)).setCell (qa g 1) (sv y.l fplan.length y.lc)).setCell (qa g 2) (iv fnow)).setCell (qa g 3) (sv y.d fdone.length y.dc)).setCell (qa g 4) (sv y.h fgot.length y.hc)).setCell (qa g 5) (sv y.g fgrants.length y.gc)).setCell (qa g 6) (sv y.k fwork.length y.kc)).setCell (qa g 7) (sv none 0 0)).heap[b+1]?=some (.cells qz 29 (0,0)):=(hs2.block (b+1) (lt1 hres) (by simp;omega)).trans hres
  have hBw:Below B w ((((((((W.setCell (qa g 0) (sv y.p fparts.length y.pc)).setCell (qa g 1) (sv y.l fplan.length y.lc)).setCell (qa g 2) (iv fnow)).setCell (qa g 3) (sv y.d fdone.length y.dc)).setCell (qa g 4) (sv y.h fgot.length y.hc)).setCell (qa g 5) (sv y.g fgrants.length y.gc)).setCell (qa g 6) (sv y.k fwork.length y.kc)).setCell (qa g 7) (sv none 0 0)):=by
   have h1:Below w.heap.size w W:=HB0.out.trans (hC.mono HB0.out.size)
   rw[hB]
   exact h1.grown hs2 h1.size (fun k hk=>by cases hk;omega)
  have HNt:Hid (∀ X,Below B w X→NetAt X (sv xn fnet.length xnc) fnet):=fun X hX=>(HF.out X (by rw[← hB];exact hX)).net
  simp only[List.drop_succ_cons,List.drop_zero]
  obtain⟨g0,g1,g2,g3,g4,g5,g6,g7⟩:=cell8 hg
  have f0:=frozenB hg
  have lg:=lt1 hg
  have HBB:Hid (B=w.heap.size):=hB
  have HHb:Hid (b=w.heap.size):=hb
  rw[h20,h21]
  clear hb hB hBb hBY
  clear hR hZ h20 h21 hblk hres hrows hs1 hs2 hYA HF HB0 h0 h1 hC hFa hg HPa HGo
  go_upto_region 2 with fail
  generalize ((((((((W.setCell (qa g 0) (sv y.p fparts.length y.pc)).setCell (qa g 1) (sv y.l fplan.length y.lc)).setCell (qa g 2) (iv fnow)).setCell (qa g 3) (sv y.d fdone.length y.dc)).setCell (qa g 4) (sv y.h fgot.length y.hc)).setCell (qa g 5) (sv y.g fgrants.length y.gc)).setCell (qa g 6) (sv y.k fwork.length y.kc)).setCell (qa g 7) (sv none 0 0))=X at *
  have c7:=cellC hbk 7 rfl
  have lb:=lt1 hbk
  clear g0 g1 g2 g3 g4 g5 g6 g7 f0
  go_upto_region 3 with fail
  clear c7 hbk lb
  go_loopw [30] (fun s30 wr=>∃ (k:Nat) (eN:List NEnt) (a7:Option Addr) (c7:Nat),k≤fnet.length∧s30=iv k∧Hid (FmO B wr g ⟨fparts,fplan,fnow,fdone,fgot,fgrants,fwork,fnet.take k⟩ { y with n:=a7,nc:=c7 } { o with eN:=eN })∧Hid (Below B w wr)∧wr.heap[b+1]?=some (.cells qz 29 (0,0))) (fun s30 _=>fnet.length - (intOf s30).toNat)
  case atStart=>exact⟨0,[],none,0,Nat.zero_le _,rfl,by have hN:o.eN=[]:=List.map_eq_nil_iff.1 hO.mapN;obtain⟨oP,oH,oN⟩:=o;cases hN;exact hO,hBw,hrk⟩
  case round =>
   obtain⟨k,eN,a7,c7,hk,rfl,HO,HB,hz⟩:=hrel
   clear hO hrk hBw
   have hsw:B≤wr.heap.size:=by rw[HBB.out];exact HB.out.size
   obtain⟨nk,hnk⟩:∃ nk,(fnet.take k).length=nk:=⟨_,rfl⟩
   have Hnk:Hid ((fnet.take k).length=nk):=hnk
   have hnk2:nk≤20:=by rw[List.length_take] at hnk;omega
   have hrow:=HO.out.rowN
   have hgb:=HO.out.blk
   simp only at hrow hgb
   rw[hnk] at hrow hgb
   clear hnk
   by_cases hlt:k<fnet.length
   ·obtain⟨b2,off,x1,y1,x2,y2,rfl,e0,e1,e2,e3,e4,hF',hD'⟩:=(HNt.out wr HB.out).cells k hlt
    have hbr:b2<wr.heap.size:=World.block_lt_of_cell? _ _ e0
    have hkl:(k:Int)<(fnet.length:Int):=by omega
    have hqo:=((HOk.out.nets _ (getD_mem fnet M.msg0 k hlt)).2)
    have HT:Hid (fnet.take (k+1)=fnet.take k ++ [fnet.getD k M.msg0]):=by rw[Hid,List.take_add_one,getElem?_getD fnet M.msg0 k hlt];rfl
    generalize fnet.getD k M.msg0=m at *
    obtain⟨mk,mw,mn,q⟩:=m
    simp only at e0 e1 e2 e3 e4 hF' hD' hqo
    go_upto_region 5 with fail
    have hA:Below wr.heap.size wr (wr.alloc (.cells #[iv mk,iv mw,iv mn,sv x1 q.frags.length y1,sv x2 q.defs.length y2] 60)):=(Below.refl _ _).alloc (Nat.le_refl _) _
    have hm0:=heap_alloc_new wr (.cells #[iv mk,iv mw,iv mn,sv x1 q.frags.length y1,sv x2 q.defs.length y2] 60)
    obtain⟨nz,hnz⟩:∃ nz,nz=wr.heap.size:=⟨_,rfl⟩
    rw[← hnz] at hm0
    have KC:Hid (Calls Tryz.prog 24 #[.agg #[sv x1 q.frags.length y1,sv x2 q.defs.length y2]] (wr.alloc (.cells #[iv mk,iv mw,iv mn,sv x1 q.frags.length y1,sv x2 q.defs.length y2] 60)) fun e X1 =>
      ∃ z1 u1 z2 u2,e=.returned (.agg #[sv z1 q.frags.length u1,sv z2 q.defs.length u2])∧Below wr.heap.size wr X1∧X1.heap[nz]?=some (.cells #[iv mk,iv mw,iv mn,sv x1 q.frags.length y1,sv x2 q.defs.length y2] 60 (0,0))∧POwn X1 B ⟨q,sv z1 q.frags.length u1,sv z2 q.defs.length u2⟩):=by
     refine (copyPart_any q _ _ _ _ _ (hF'.later hA) (hD'.later hA) hqo).mono ?_
     rintro e X1 ⟨hb1,z1,u1,z2,u2,rfl,hP⟩
     exact⟨z1,u1,z2,u2,rfl,hA.trans (hb1.mono hA.size),(hb1.block _ (lt1 hm0)).trans hm0,hP.base (Nat.le_trans hsw hA.size)⟩
    rw[← hnz]
    clear e0 e1 e2 e3 e4 hA hF' hD' hqo
    generalize wr.alloc (.cells #[iv mk,iv mw,iv mn,sv x1 q.frags.length y1,sv x2 q.defs.length y2] 60)=Z1 at *
    have m3:=cellC hm0 3 rfl
    have m4:=cellC hm0 4 rfl
    have lz:=lt1 hm0
    have Hnz:Hid (nz=wr.heap.size):=hnz
    clear hnz hm0
    go_wp2_with (go_at_call 24;refine KC.out.mono ?_;rintro e X1 ⟨z1,u1,z2,u2,rfl,hb1,hm1,hP1⟩;refine Hid.out ?_)
    have d3:=cellC hm1 3 rfl
    have d4:=cellC hm1 4 rfl
    have ff:=frozenB hm1
    have lx:=lt1 hm1
    have hm2:((X1.setCell (qa nz 3) (sv z1 q.frags.length u1)).setCell (qa nz 4) (sv z2 q.defs.length u2)).heap[nz]?=some (.cells #[iv mk,iv mw,iv mn,sv z1 q.frags.length u1,sv z2 q.defs.length u2] 60 (0,0)):=setB' (setB' hm1 _) _
    have hb2:Below wr.heap.size wr ((X1.setCell (qa nz 3) (sv z1 q.frags.length u1)).setCell (qa nz 4) (sv z2 q.defs.length u2)):=(hb1.setCell (by show wr.heap.size≤nz;rw[Hnz.out];exact Nat.le_refl _) _).setCell (by show wr.heap.size≤nz;rw[Hnz.out];exact Nat.le_refl _) _
    have wr1:Wr X1 ((X1.setCell (qa nz 3) (sv z1 q.frags.length u1)).setCell (qa nz 4) (sv z2 q.defs.length u2)) 60:=⟨nz,_,hm1,grown_trans (grown_set _ _ _ _) (grown_set _ _ _ _)⟩
    have hP2:=wr1.pw hP1 rfl
    clear KC m3 m4 hb1 hP1 wr1
    refine Lib.hid ?_
    go_upto_region 6 with fail
    clear d3 d4 ff hm1 lx
    generalize (X1.setCell (qa nz 3) (sv z1 q.frags.length u1)).setCell (qa nz 4) (sv z2 q.defs.length u2)=X2 at *
    have HO2:=HO.out.later hb2
    have hg2:=(hb2.block _ (lt1 hgb)).trans hgb
    have hz2':=(hb2.block _ (lt1 hz)).trans hz
    have hrow2:=hrow.kept (grown_of_below hb2 Option.none) own_self
    have HB2:Hid (Below B w X2):=HB.out.trans (hb2.mono hsw)
    have hs2:B≤X2.heap.size:=Nat.le_trans hsw hb2.size
    have k0:=cellC hm2 0 rfl
    have k1:=cellC hm2 1 rfl
    have k2:=cellC hm2 2 rfl
    have k3:=cellC hm2 3 rfl
    have k4:=cellC hm2 4 rfl
    have kz:=lt1 hm2
    have c7':=cellC hg2 7 rfl
    have lg2:=lt1 hg2
    have hnews:∀ j u,(#[iv mk,iv mw,iv mn,sv z1 q.frags.length u1,sv z2 q.defs.length u2]:Array Value).toList[j]?=some u→(X2.alloc (.cells #[iv mk,iv mw,iv mn,sv z1 q.frags.length u1,sv z2 q.defs.length u2] 60)).cell? ((qa X2.heap.size 0).add j)=some u:=World.news_of_block (heap_alloc_new X2 _)
    have HAp:Hid (∀ v' w3,(X2.alloc (.cells #[iv mk,iv mw,iv mn,sv z1 q.frags.length u1,sv z2 q.defs.length u2] 60)).grownBy w3 (sv a7 nk c7).ownBlock→w3.ownsRow B 60 5 v' (nk+1) (eN.flatMap nentCells ++ (#[iv mk,iv mw,iv mn,sv z1 q.frags.length u1,sv z2 q.defs.length u2]:Array Value).toList)→∃ a8 c8,v'=sv a8 (nk+1) c8∧g<w3.heap.size∧w3.cell? (qa g 7)=some (sv a7 nk c7)∧w3.frozen? (qa g 7)=false ∧
      FmO B (w3.setCell (qa g 7) (sv a8 (nk+1) c8)) g ⟨fparts,fplan,fnow,fdone,fgot,fgrants,fwork,fnet.take (k+1)⟩ { y with n:=a8,nc:=c8 } { o with eN:=eN ++ [⟨mk,mw,mn,⟨q,sv z1 q.frags.length u1,sv z2 q.defs.length u2⟩⟩] }∧Below B w (w3.setCell (qa g 7) (sv a8 (nk+1) c8))∧(w3.setCell (qa g 7) (sv a8 (nk+1) c8)).heap[b+1]?=some (.cells qz 29 (0,0))):=fun v' w3 hgr ho=>by
     have hb3:=(Below.refl X2.heap.size X2).alloc (Nat.le_refl _) (.cells #[iv mk,iv mw,iv mn,sv z1 q.frags.length u1,sv z2 q.defs.length u2] 60)
     have hO3:=HO2.later hb3
     have hrow3:=hrow2.alloc (.cells #[iv mk,iv mw,iv mn,sv z1 q.frags.length u1,sv z2 q.defs.length u2] 60)
     have hg3:=block_keptP hrow3 hgr ((hb3.block _ lg2).trans hg2) (by decide)
     have hz3:=block_keptP hrow3 hgr ((hb3.block _ (lt1 hz2')).trans hz2') (by decide)
     obtain⟨a8,c8,rfl⟩:=own_len ho
     have hl1:(fnet.take (k+1)).length=nk+1:=by rw[HT.out,List.length_append,Hnk.out];rfl
     refine⟨a8,c8,rfl,(lt1 hg3),cellB hg3 7,frozenB hg3 7,?_,?_,?_⟩
     ·have:=hO3.setNet (fnet.take (k+1)) (eN ++ [⟨mk,mw,mn,⟨q,sv z1 q.frags.length u1,sv z2 q.defs.length u2⟩⟩]) a8 c8 (X:=w3) (by simp only[Hnk.out];exact hgr) (by rw[hl1,List.flatMap_append];simpa [List.flatMap_cons,nentCells] using ho) (by rw[List.map_append,HT.out];exact congrArg (· ++ _) hO3.mapN) (fun e he=>by
       rcases List.mem_append.1 he with he | he
       ·exact hO3.ownN e he
       ·rw[List.mem_singleton.1 he];exact hP2.later hb3)
      rw[hl1] at this
      exact this
     ·exact ((HB2.out.trans (hb3.mono hs2)).grown hgr (Nat.le_trans hs2 hb3.size) (fun k hk=>(hrow3.lt k hk).1)).setCell hBg _
     ·exact (Below.heap_setCell _ _ _ _ (by show b+1≠g;omega)).trans hz3
    clear hb2 hP2 HO2 hg2 hz2' hm2 HB hz hgb hrow HB2 HO
    go_wp2_with (at_builtin;refine wpList_append_own _ rfl _ _ 27 rfl B 60 i0 (.agg #[iv 0,iv 0,iv 0,sv none 0 0,sv none 0 0]) 5 72 Tryz.underlying27 hi0 hz0 hz1 hz2 rfl (by decide) _ _ _ rfl (hrow2.alloc _) ⟨X2.heap.size,0,none⟩ 1 1 (#[iv mk,iv mw,iv mn,sv z1 q.frags.length u1,sv z2 q.defs.length u2]:Array Value).toList rfl rfl hnews (fun u hu=>by simp at hu;rcases hu with rfl | rfl | rfl | rfl | rfl <;> rfl) (by unfold maxLen;omega) (by omega) (by simp;omega) ?_;intro v' w3 hown' hgrow3 hnil3;obtain⟨a8,c8,rfl,q1,q2,q3,q4,q5,q6⟩:=HAp.out _ _ hgrow3 hown';refine Hid.out ?_)
    clear hown' hgrow3 hnil3 hrow2 hnews k0 k1 k2 k3 k4 c7' HAp
    have Q4:Hid (FmO B (w3.setCell (qa g 7) (sv a8 (nk+1) c8)) g ⟨fparts,fplan,fnow,fdone,fgot,fgrants,fwork,fnet.take (k+1)⟩ { y with n:=a8,nc:=c8 } { o with eN:=eN ++ [⟨mk,mw,mn,⟨q,sv z1 q.frags.length u1,sv z2 q.defs.length u2⟩⟩] }):=q4
    have Q6:Hid ((w3.setCell (qa g 7) (sv a8 (nk+1) c8)).heap[b+1]?=some (.cells qz 29 (0,0))):=q6
    clear q4 q6
    refine Lib.hid ?_
    go_wp2_with fail
    go_roundw
    case rel=>exact⟨k+1,_,a8,c8,by omega,by go_num,Q4,q5,Q6.out⟩
    case measure=>simp[intOf];omega
   ·have hkl:k=fnet.length:=by omega
    have hO:=HO.out
    rw[hkl,List.take_length] at hO
    have hg0:=hO.blk
    simp only at hg0
    obtain⟨hs1,hs2⟩:=store8 wr (b+1) (sv none 0 0) (sv none 0 0) (iv 0) (sv none 0 0) (sv none 0 0) (sv none 0 0) (sv none 0 0) (sv none 0 0) (sv y.p fparts.length y.pc) (sv y.l fplan.length y.lc) (iv fnow) (sv y.d fdone.length y.dc) (sv y.h fgot.length y.hc) (sv y.g fgrants.length y.gc) (sv y.k fwork.length y.kc) (sv a7 fnet.length c7) 29 hz
    have HRw:Hid (FmR B ((((((((wr.setCell (qa (b+1) 0) (sv y.p fparts.length y.pc)).setCell (qa (b+1) 1) (sv y.l fplan.length y.lc)).setCell (qa (b+1) 2) (iv fnow)).setCell (qa (b+1) 3) (sv y.d fdone.length y.dc)).setCell (qa (b+1) 4) (sv y.h fgot.length y.hc)).setCell (qa (b+1) 5) (sv y.g fgrants.length y.gc)).setCell (qa (b+1) 6) (sv y.k fwork.length y.kc)).setCell (qa (b+1) 7) (sv a7 fnet.length c7)) ⟨fparts,fplan,fnow,fdone,fgot,fgrants,fwork,fnet⟩ { y with n:=a7,nc:=c7 } { o with eN:=eN }):=hO.rows.wr ⟨b+1,_,hz,hs2⟩
    have HBf:Hid (Below B w ((((((((wr.setCell (qa (b+1) 0) (sv y.p fparts.length y.pc)).setCell (qa (b+1) 1) (sv y.l fplan.length y.lc)).setCell (qa (b+1) 2) (iv fnow)).setCell (qa (b+1) 3) (sv y.d fdone.length y.dc)).setCell (qa (b+1) 4) (sv y.h fgot.length y.hc)).setCell (qa (b+1) 5) (sv y.g fgrants.length y.gc)).setCell (qa (b+1) 6) (sv y.k fwork.length y.kc)).setCell (qa (b+1) 7) (sv a7 fnet.length c7))):=HB.out.grown hs2 (by rw[HBB.out];exact HB.out.size) (fun k hk=>by cases hk;have:=HBB.out;have:=HHb.out;omega)
    obtain⟨c0',c1',c2',c3',c4',c5',c6',c7'⟩:=cell8 hg0
    obtain⟨r0,r1,r2,r3,r4,r5,r6,r7⟩:=cell8 hz
    have rf:=frozenB hz
    have lg2:=lt1 hg0
    have lr2:=lt1 hz
    clear hO hg0 hz hs2 HO HB hrow hgb Hnk hnk2
    subst hkl
    go_wp2_with fail
    obtain⟨t0,t1,t2,t3,t4,t5,t6,t7⟩:=cell8 hs1
    refine bodyPost_ret (v:=.agg #[sv y.p fparts.length y.pc,sv y.l fplan.length y.lc,iv fnow,sv y.d fdone.length y.dc,sv y.h fgot.length y.hc,sv y.g fgrants.length y.gc,sv y.k fwork.length y.kc,sv a7 fnet.length c7]) (by simp[results,Tryz.results22,go_sem,t0,t1,t2,t3,t4,t5,t6,t7]) rfl ?_
    refine⟨by rw[← HBB.out];exact HBf.out,{ y with n:=a7,nc:=c7 },{ o with eN:=eN },rfl,?_⟩
    rw[← HBB.out]
    exact HRw.out
end Go.Proofs.YtebippbakbihiaaGreatDoor
