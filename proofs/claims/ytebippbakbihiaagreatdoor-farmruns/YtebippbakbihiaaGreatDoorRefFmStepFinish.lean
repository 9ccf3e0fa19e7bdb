/-
  The reference's FarmStep: a worker is done with a task.
-/
import Derived.Test.YtebippbakbihiaaGreatDoorRefFmStep0
import Derived.Test.YtebippbakbihiaaGreatDoorRefDg
set_option maxHeartbeats 16000000
set_option maxRecDepth 100000
namespace Go.Proofs.YtebippbakbihiaaGreatDoor
open Go Go.RowKit
set_option linter.unusedVariables false
attribute [local go_sem] lat_cell
theorem FmO.partAt {B b:Nat} {W:World} {f:M.Farm} {x:Fd} {o:Fo} (h:FmO B W b f x o) (k:Nat) (hk:k<f.parts.length) :
  ∃ g en,x.p=some (qa g 0)∧en∈o.eP∧en.p=f.parts.getD k M.nil∧W.cell? (qa g (k*2))=some en.vF∧W.cell? (qa g (k*2+1))=some en.vD:=by
 have hl:=map_len h.mapP
 have hr:=h.rowP
 obtain⟨g,hg⟩:=own_blk hr (by omega)
 rw[hg] at hr
 have key:∀ i,i<2→W.cell? (qa g (k*2+i))=(pentCells (o.eP.getD k pent0))[i]?:=fun i hi=>by
  rw[hr.cellAt (k*2+i) (by omega),flat_get 2 pentCells (fun _=>rfl) o.eP k i hi,getElem?_getD o.eP pent0 k (by omega)];rfl
 exact⟨g,o.eP.getD k pent0,hg,getD_mem _ _ _ (by omega),(map_getD (a:=pent0) (b:=M.nil) h.mapP hk).symm,key 0 (by decide),key 1 (by decide)⟩
def fnR (B b np nd hb ho le ri ng:Nat) (hc:Nat) (A C:M.Prt) (x1 x2 x3 x4:Option Addr) (y1 y2 y3 y4:Nat) (j:Nat) (W:World) (u:Value):Prop :=
 match j with
 | 0=>u=qv b 4
 | 1=>u=sv (some (qa hb ho)) ng hc
 | 2=>u=qv nd 1
 | 3=>u=iv (le:Nat)
 | 4=>u=qv hb (ho+le*2)
 | 5=>u=.agg #[sv x1 A.frags.length y1,sv x2 A.defs.length y2]
 | 6=>u=qv b 4
 | 7=>u=sv (some (qa hb ho)) ng hc
 | 8=>u=qv nd 2
 | 9=>u=iv (ri:Nat)
 | 10=>u=qv hb (ho+ri*2)
 | 11=>u=.agg #[sv x3 C.frags.length y3,sv x4 C.defs.length y4]
 | 12=>∃ vF vD,u=.tuple #[.agg #[vF,vD],iv (M.join A C).2]∧POwn W B ⟨(M.join A C).1,vF,vD⟩
 | 13=>∃ vF vD,u=.tuple #[.agg #[vF,vD],iv (M.join A C).2]∧POwn W B ⟨(M.join A C).1,vF,vD⟩
 | 14=>∃ vF vD,u=.agg #[vF,vD]∧POwn W B ⟨(M.join A C).1,vF,vD⟩
 | 15=>u=iv (M.join A C).2
 | 16=>∃ vF vD,W.heap[np]?=some (.cells #[vF,vD] 39 (0,0))∧POwn W B ⟨(M.join A C).1,vF,vD⟩
 | _=>False
theorem fnR_later {B b np nd hb ho le ri ng hc:Nat} {A C:M.Prt} {x1 x2 x3 x4:Option Addr} {y1 y2 y3 y4:Nat} {W X:World} (hbl:Below W.heap.size W X):∀ j u,fnR B b np nd hb ho le ri ng hc A C x1 x2 x3 x4 y1 y2 y3 y4 j W u→fnR B b np nd hb ho le ri ng hc A C x1 x2 x3 x4 y1 y2 y3 y4 j X u:=by
 intro j u h
 match j,h with
 | 0,h=>exact h
 | 1,h=>exact h
 | 2,h=>exact h
 | 3,h=>exact h
 | 4,h=>exact h
 | 5,h=>exact h
 | 6,h=>exact h
 | 7,h=>exact h
 | 8,h=>exact h
 | 9,h=>exact h
 | 10,h=>exact h
 | 11,h=>exact h
 | 12,h=>obtain⟨vF,vD,h1,h2⟩:=h;exact⟨vF,vD,h1,h2.later hbl⟩
 | 13,h=>obtain⟨vF,vD,h1,h2⟩:=h;exact⟨vF,vD,h1,h2.later hbl⟩
 | 14,h=>obtain⟨vF,vD,h1,h2⟩:=h;exact⟨vF,vD,h1,h2.later hbl⟩
 | 15,h=>exact h
 | 16,h=>obtain⟨vF,vD,h1,h2⟩:=h;exact⟨vF,vD,(hbl.block _ (lt1 h1)).trans h1,h2.later hbl⟩
theorem fnR_wr {B b np nd hb ho le ri ng hc:Nat} {A C:M.Prt} {x1 x2 x3 x4:Option Addr} {y1 y2 y3 y4:Nat} {W X:World} (wr:Wr W X 39):∀ j u,j≠16→fnR B b np nd hb ho le ri ng hc A C x1 x2 x3 x4 y1 y2 y3 y4 j W u→fnR B b np nd hb ho le ri ng hc A C x1 x2 x3 x4 y1 y2 y3 y4 j X u:=by
 intro j u hj h
 match j,h with
 | 0,h=>exact h
 | 1,h=>exact h
 | 2,h=>exact h
 | 3,h=>exact h
 | 4,h=>exact h
 | 5,h=>exact h
 | 6,h=>exact h
 | 7,h=>exact h
 | 8,h=>exact h
 | 9,h=>exact h
 | 10,h=>exact h
 | 11,h=>exact h
 | 12,h=>obtain⟨vF,vD,h1,h2⟩:=h;exact⟨vF,vD,h1,wr.pw h2 rfl⟩
 | 13,h=>obtain⟨vF,vD,h1,h2⟩:=h;exact⟨vF,vD,h1,wr.pw h2 rfl⟩
 | 14,h=>obtain⟨vF,vD,h1,h2⟩:=h;exact⟨vF,vD,h1,wr.pw h2 rfl⟩
 | 15,h=>exact h
 | 16,h=>exact absurd rfl hj
theorem rstep_finish (f:M.Farm) (x:Fd) (w:World) (hf:FarmAt w f x) (hok:M.FarmOk f) (wn:Nat) (kk:Int) (hwn:wn<f.work.length) :
  Calls Tryz.prog 13 #[.agg (qm f x),.agg #[iv 2,iv wn,iv kk]] w (StepTo w (if (M.finish f wn).2=0 then (M.finish f wn).1 else M.farm0) ((M.finish f wn).2)):=by
 obtain⟨RF,hRF⟩:∃ RF,(if (M.finish f wn).2=0 then (M.finish f wn).1 else M.farm0)=RF:=⟨_,rfl⟩
 obtain⟨RE,hRE⟩:∃ RE:Int,((M.finish f wn).2)=RE:=⟨_,rfl⟩
 have HRF:Hid (_=RF):=hRF
 have HRE:Hid (_=RE):=hRE
 rw[hRF,hRE]
 clear hRF hRE
 have KF:Hid (∀ W E,Calls Tryz.prog 45 #[iv E] W fun e w'=>e=.returned (.tuple #[.agg qz,iv E])∧Below W.heap.size W w'):=fun W E=>fail_any E W
 have HOk:Hid (M.FarmOk f):=hok
 have hn0:=hok.now0
 have hn1:=hok.now1
 have hnt:=hok.net
 have hw4:=hok.work4
 obtain⟨X,hX⟩:∃ X,X=(((w.alloc (.cells (qm f x) 29)).alloc (.cells #[iv 2,iv wn,iv kk] 31)).alloc (.cells qz 29)):=⟨_,rfl⟩
 have HX:Hid (X=_):=hX
 have h0:X.heap[w.heap.size]?=some (.cells (qm f x) 29 (0,0)):=by rw[hX];exact (heap_alloc_old _ _ (by simp;omega)).trans ((heap_alloc_old _ _ (by simp)).trans (heap_alloc_new w _))
 have h1:X.heap[w.heap.size+1]?=some (.cells #[iv 2,iv wn,iv kk] 31 (0,0)):=by rw[hX];exact (heap_alloc_old _ _ (by simp)).trans (by have:=heap_alloc_new (w.alloc (.cells (qm f x) 29)) (.cells #[iv 2,iv wn,iv kk] 31);simpa using this)
 have h2:X.heap[w.heap.size+2]?=some (.cells qz 29 (0,0)):=by have:=heap_alloc_new ((w.alloc (.cells (qm f x) 29)).alloc (.cells #[iv 2,iv wn,iv kk] 31)) (.cells qz 29);rw[hX];simpa using this
 have HB0:Hid (Below w.heap.size w X):=by rw[Hid,hX];exact (((Below.refl _ _).alloc (Nat.le_refl _) _).alloc (by simp) _).alloc (by simp;omega) _
 have KO:Hid (Calls Tryz.prog 5 #[.agg (qm f x)] X fun e w'=>Below X.heap.size X w'∧∃ y o,e=.returned (.agg (qm f y))∧FmR X.heap.size w' f y o):=ownFarm_any f x X (hf.later HB0.out) (farmRoom_ok hok)
 clear hf hok hX
 go_enter Tryz.func13,Tryz.ntmps13
 go_upto_region 1 with fail
 rw[← HX.out]
 obtain⟨b,hb⟩:∃ b,b=w.heap.size:=⟨_,rfl⟩
 obtain⟨B,hB⟩:∃ B,B=w.heap.size:=⟨_,rfl⟩
 have HBB:Hid (B=w.heap.size∧b=B):=⟨hB,by rw[hb,hB]⟩
 rw[← hb] at h0 h1 h2 ⊢
 rw[← hB] at HB0
 clear hb hB HX
 have hBb:B≤b:=by rw[HBB.out.2];exact Nat.le_refl _
 have lx0:=lt1 h0
 have hBX:B≤X.heap.size:=by have:=HB0.out.size;rw[HBB.out.1];exact this
 obtain⟨c0,c1,c2,c3,c4,c5,c6,c7⟩:=cell8 h0
 go_wp2_with (go_at_call 5;refine KO.out.mono ?_;rintro e X1 ⟨hb1,y,o,rfl,hR1⟩;refine Hid.out ?_)
 have h01:=bl hb1 h0
 have h11:=bl hb1 h1
 have h21:=bl hb1 h2
 obtain⟨X2,hX2,hs1,hs2⟩:=store8e h01 (sv y.p f.parts.length y.pc) (sv y.l f.plan.length y.lc) (iv f.now) (sv y.d f.done.length y.dc) (sv y.h f.got.length y.hc) (sv y.g f.grants.length y.gc) (sv y.k f.work.length y.kc) (sv y.n f.net.length y.nc)
 have HX2:Hid (X2=_):=hX2
 have HO:Hid (FmO B X2 b f y o):=((hR1.base hBX).wr ⟨b,_,h01,hs2⟩).own hBb hs1
 have hq:=(hs2.block _ (lt1 h11) (by simp)).trans h11
 have hz:=(hs2.block _ (lt1 h21) (by simp)).trans h21
 have HB1:Hid (Below B w X2):=(HB0.out.trans (hb1.mono hBX)).grown hs2 (Nat.le_trans hBX hb1.size) (fun k hk=>by cases hk;exact hBb)
 obtain⟨d0,d1,d2,d3,d4,d5,d6,d7⟩:=cell8 h01
 have df:=frozenB h01
 have dl:=lt1 h01
 clear c0 c1 c2 c3 c4 c5 c6 c7 h0 h1 h2 h01 h11 h21 hb1 hR1 HB0 hBX lx0 KO hs1 hs2 hX2
 refine Lib.hid ?_
 go_upto_region 2 with fail
 rw[← HX2.out]
 clear d0 d1 d2 d3 d4 d5 d6 d7 df dl HX2
 clear X X1
 have hbk:=HO.out.blk
 obtain⟨c0,c1,c2,c3,c4,c5,c6,c7⟩:=cell8 hbk
 have q0:=cellC hq 0 rfl
 have q1:=cellC hq 1 rfl
 have q2:=cellC hq 2 rfl
 have lb:=lt1 hbk
 have lq:=lt1 hq
 have lz:=lt1 hz
 have hBX2:B≤X2.heap.size:=Nat.le_of_lt (Nat.lt_of_le_of_lt hBb lb)
 have hwI:(wn:Int)<(f.work.length:Int):=by omega
 have hwJ:¬ (f.work.length:Int)≤(wn:Int):=by omega
 have hw0:¬ (wn:Int)<0:=by omega
 obtain⟨g,hg,e0,fz,lg⟩:=IntsAt.own HO.out.rowW wn hwn
 have c6':X2.cell? (qa b 6)=some (sv (some (qa g 0)) f.work.length y.kc):=by rw[← hg];exact c6
 have Hg:Hid (y.k=some (qa g 0)):=hg
 have Hwn:Hid (wn<f.work.length):=hwn
 clear c6 hg hwn
 have hwo:=HOk.out.works _ (getD_mem f.work 0 wn Hwn.out)
 have HFin:Hid (M.finish f wn=if f.work.getD wn 0=-1 then (f,11) else (if (M.madeP f (f.work.getD wn 0).toNat).2=true then M.send (M.idled f wn) ⟨2,wn,f.work.getD wn 0,(M.madeP f (f.work.getD wn 0).toNat).1⟩ else M.idled f wn,0)):=rfl
 generalize f.work.getD wn 0=t at *
 generalize M.finish f wn=FN at *
 by_cases ht:t=-1
 ·have HR:Hid (FN=(f,11)):=by rw[Hid,HFin.out,if_pos ht]
  have htb:(t==-1)=true:=by simpa using ht
  clear HFin hwo ht hbk hq HO Hg Hwn
  have KF1:Hid (Calls Tryz.prog 45 #[iv 11] X2 fun e w'=>e=.returned (.tuple #[.agg qz,iv 11])∧Below X2.heap.size X2 w'):=KF.out _ _
  clear KF
  go_wp2_with (go_at_call 45;refine KF1.out.mono ?_;rintro e X5 ⟨rfl,hb5⟩;refine Hid.out ?_)
  have hz5:=bl hb5 hz
  have HB5:Hid (Below B w X5):=HB1.out.trans (hb5.mono hBX2)
  obtain⟨r0,r1,r2,r3,r4,r5,r6,r7⟩:=cell8 hz5
  have rf:=frozenB hz5
  have rl:=lt1 hz5
  have HZ5:Hid (_=_):=hz5
  clear hz5 hb5 KF1 hn0 hn1 hnt hw4 lb lq lz htb c0 c1 c2 c3 c4 c5 c6' c7 q0 q1 q2 e0 fz lg hwI hwJ hw0
  refine Lib.hid ?_
  go_wp2_with fail
  obtain⟨X6,hX6,hs1,hs2⟩:=storeZ HZ5.out
  rw[← hX6]
  rw[← HRF.out,← HRE.out,HR.out,if_neg (by show ¬ (11:Int)=0;decide)]
  exact fin_step (f:=M.farm0) (y:=fd0) rfl rfl rfl hs1 (by rw[← HBB.out.1];exact HB5.out.grown hs2 (by have:=HB5.out.size;rw[HBB.out.1];exact this) (fun k hk=>by cases hk;omega)) (farm0_firm _)
 ·have htb:(t==-1)=false:=by simpa using ht
  have hn:0≤t∧t≤(f.plan.length:Int) - 1:=by
   unfold M.workOk at hwo
   rw[htb,Bool.false_or] at hwo
   exact (M.inR_iff _ _ _).1 hwo
  obtain⟨n,rfl⟩:∃ n:Nat,t=n:=⟨t.toNat,by omega⟩
  have hnl:n<f.plan.length:=by omega
  have HFin2:Hid (FN=(if (M.madeP f n).2=true then M.send (M.idled f wn) ⟨2,wn,n,(M.madeP f n).1⟩ else M.idled f wn,0)):=by rw[Hid,HFin.out,if_neg ht];rfl
  obtain⟨hS1,hS2,hS3⟩:=HO.out.setWork g wn Hg.out Hwn.out (-1)
  obtain⟨cs,hcs⟩:=row_typed (by have:=HO.out.rowW;rw[Hg.out] at this;exact this)
  have wr6:Wr X2 (X2.setCell (qa g wn) (iv (-1))) 3:=⟨g,cs,hcs,grown_set _ _ _ _⟩
  have HOY:Hid (FmO B (X2.setCell (qa g wn) (iv (-1))) b (M.idled f wn) y o):=hS1
  have HBY:Hid (Below B w (X2.setCell (qa g wn) (iv (-1)))):=HB1.out.trans hS2
  have hzY:=wr6.block hz (by decide)
  have hBY:B≤(X2.setCell (qa g wn) (iv (-1))).heap.size:=by simp;exact hBX2
  clear hS1 hS2 hS3 wr6 hcs hbk hz hq HO HB1 HFin hwo ht hn KF Hwn Hg
  clear cs
  go_upto_region 33 with fail
  clear c0 c1 c2 c3 c4 c5 c6' c7 q0 q1 q2 lb lq lz e0 fz lg hwI hwJ hw0 htb hBX2
  generalize (X2.setCell (qa g wn) (iv (-1)))=Y at *
  clear X2
  have hpl:NodesAt Y (sv y.l f.plan.length y.lc) f.plan:=HOY.out.at.plan
  obtain⟨lb0,lo,hl,n0,n1,n2⟩:=hpl.cells n hnl
  have hMP:M.madeP f n=if (f.plan.getD n M.nd0).leaf=-1 then (if (f.done.getD (f.plan.getD n M.nd0).left.toNat false&&f.done.getD (f.plan.getD n M.nd0).right.toNat false)=true then ((M.join (f.got.getD (f.plan.getD n M.nd0).left.toNat M.nil) (f.got.getD (f.plan.getD n M.nd0).right.toNat M.nil)).1,(M.join (f.got.getD (f.plan.getD n M.nd0).left.toNat M.nil) (f.got.getD (f.plan.getD n M.nd0).right.toNat M.nil)).2==0) else (M.nil,false)) else (f.parts.getD (f.plan.getD n M.nd0).leaf.toNat M.nil,true):=rfl
  have hlf:=node_leaf HOk.out hnl
  have hin:=node_inner HOk.out hnl
  generalize f.plan.getD n M.nd0=nd at *
  obtain⟨lf,le,ri⟩:=nd
  simp only at n0 n1 n2 hMP hlf hin
  have HMP:Hid (M.madeP f n=if lf=-1 then (if (f.done.getD le.toNat false&&f.done.getD ri.toNat false)=true then ((M.join (f.got.getD le.toNat M.nil) (f.got.getD ri.toNat M.nil)).1,(M.join (f.got.getD le.toNat M.nil) (f.got.getD ri.toNat M.nil)).2==0) else (M.nil,false)) else (f.parts.getD lf.toNat M.nil,true)):=hMP
  have c1:Y.cell? (qa b 1)=some (sv (some (qa lb0 lo)) f.plan.length y.lc):=by rw[← hl];exact cellB HOY.out.blk 1
  have lbY:=lt1 HOY.out.blk
  have llb:lb0<Y.heap.size:=World.block_lt_of_cell? _ _ n0
  have hnI:(n:Int)<(f.plan.length:Int):=by omega
  have hA:Below Y.heap.size Y ((Y.alloc (.cells #[sv none 0 0,sv none 0 0] 39)).alloc (.cells #[iv lf,iv le,iv ri] 75)):=((Below.refl _ _).alloc (Nat.le_refl _) _).alloc (by simp) _
  have hr0:=(heap_alloc_old (Y.alloc (.cells #[sv none 0 0,sv none 0 0] 39)) (.cells #[iv lf,iv le,iv ri] 75) (by simp)).trans (heap_alloc_new Y (.cells #[sv none 0 0,sv none 0 0] 39))
  have hn0':=heap_alloc_new (Y.alloc (.cells #[sv none 0 0,sv none 0 0] 39)) (.cells #[iv lf,iv le,iv ri] 75)
  rw[show (Y.alloc (.cells #[sv none 0 0,sv none 0 0] 39)).heap.size=Y.heap.size+1 by simp] at hn0'
  clear hMP hpl hl hn0 hn1
  go_upto_region 35 with fail
  clear n0 n1 n2 c1 llb
  obtain⟨np,hnp⟩:∃ np,np=Y.heap.size:=⟨_,rfl⟩
  obtain⟨nd,hnd⟩:∃ nd,nd=Y.heap.size+1:=⟨_,rfl⟩
  have Hnp:Hid (np=Y.heap.size∧nd=np+1):=⟨hnp,by omega⟩
  rw[← hnd] at hn0' ⊢
  rw[← hnp] at hr0 ⊢
  clear hnp hnd
  generalize ((Y.alloc (.cells #[sv none 0 0,sv none 0 0] 39)).alloc (.cells #[iv lf,iv le,iv ri] 75))=Z at *
  have hOZ:=HOY.out.later hA
  have n0:=cellC hn0' 0 rfl
  have lnd:=lt1 hn0'
  have lbZ:=lt1 hOZ.blk
  have lnp:=lt1 hr0
  have HA:Hid (Below Y.heap.size Y Z):=hA
  by_cases hle:lf=-1
  ·obtain⟨⟨hl0,hl1⟩,hr0',hr1⟩:=hin hle
   obtain⟨le,rfl⟩:∃ m:Nat,le=m:=⟨le.toNat,by omega⟩
   obtain⟨ri,rfl⟩:∃ m:Nat,ri=m:=⟨ri.toNat,by omega⟩
   have hleb:¬ (0:Int)≤lf:=by omega
   have HM1:Hid (M.madeP f n=if (f.done.getD le false&&f.done.getD ri false)=true then ((M.join (f.got.getD le M.nil) (f.got.getD ri M.nil)).1,(M.join (f.got.getD le M.nil) (f.got.getD ri M.nil)).2==0) else (M.nil,false)):=by rw[Hid,HMP.out,if_pos hle];simp
   clear HMP hlf hin hle hA
   have hdl:=HOk.out.done
   have hgl:=HOk.out.got
   have hdn:BoolsAt Z (sv y.d f.done.length y.dc) f.done:=hOZ.at.done
   obtain⟨db,dof,hd0,dl,ld⟩:=hdn.cell le (by omega)
   obtain⟨db2,dof2,hd0',dr,_⟩:=hdn.cell ri (by omega)
   rw[hd0] at hd0'
   cases hd0'
   have c3:Z.cell? (qa b 3)=some (sv (some (qa db dof)) f.done.length y.dc):=by rw[← hd0];exact cellB hOZ.blk 3
   have n1:=cellC hn0' 1 rfl
   have n2:=cellC hn0' 2 rfl
   have hleI:(le:Int)<(f.done.length:Int):=by omega
   have hriI:(ri:Int)<(f.done.length:Int):=by omega
   have hleG:le<f.got.length:=by omega
   have hriG:ri<f.got.length:=by omega
   have Hdd:Hid (y.d=some (qa db dof)):=hd0
   clear hdl hgl hdn hd0 hl0 hl1 hr0' hr1
   cases hdL:f.done.getD le false with
   | false =>
    rw[hdL] at dl
    have HFN:Hid (FN=(M.idled f wn,0)):=by rw[Hid,HFin2.out,HM1.out,hdL];rfl
    clear HM1 hdL HFin2
    obtain⟨f6,hf6⟩:∃ f6,M.idled f wn=f6:=⟨_,rfl⟩
    have HF6:Hid (FN=(f6,0)):=by rw[Hid,HFN.out,hf6]
    rw[hf6] at hOZ
    have HO6:Hid (FmO B Z b f6 y o):=hOZ
    clear hf6 HFN hOZ
    go_upto_region 62 with fail
    have HB6:Hid (Below B w Z):=HBY.out.trans (HA.out.mono hBY)
    have hz6:=(HA.out.block _ (lt1 hzY)).trans hzY
    clear n0 n1 n2 c3 dl dr ld lnd lbZ lnp hr0 hn0' hleI hriI hleb
    have hbk6:=HO6.out.blk
    obtain⟨e0,e1,e2,e3,e4,e5,e6,e7⟩:=cell8 hbk6
    obtain⟨r0,r1,r2,r3,r4,r5,r6,r7⟩:=cell8 hz6
    have rf:=frozenB hz6
    have rl:=lt1 hz6
    have rb:=lt1 hbk6
    have HZ6:Hid (_=_):=hz6
    clear hbk6 hz6
    go_wp2_with fail
    obtain⟨X7,hX7,hs1,hs2⟩:=store8e HZ6.out (sv y.p f6.parts.length y.pc) (sv y.l f6.plan.length y.lc) (iv f6.now) (sv y.d f6.done.length y.dc) (sv y.h f6.got.length y.hc) (sv y.g f6.grants.length y.gc) (sv y.k f6.work.length y.kc) (sv y.n f6.net.length y.nc)
    rw[← hX7]
    rw[← HRF.out,← HRE.out,HF6.out,if_pos rfl]
    exact fin_step rfl rfl rfl hs1 (by rw[← HBB.out.1];exact HB6.out.grown hs2 (by have:=HB6.out.size;rw[HBB.out.1];exact this) (fun k hk=>by cases hk;omega)) ((HO6.out.rows.wr ⟨b+2,_,HZ6.out,hs2⟩).firm)
   | true =>
    rw[hdL] at dl
    cases hdR:f.done.getD ri false with
    | false =>
     rw[hdR] at dr
     have HFN:Hid (FN=(M.idled f wn,0)):=by rw[Hid,HFin2.out,HM1.out,hdL,hdR];rfl
     clear HM1 hdL hdR HFin2
     obtain⟨f6,hf6⟩:∃ f6,M.idled f wn=f6:=⟨_,rfl⟩
     have HF6:Hid (FN=(f6,0)):=by rw[Hid,HFN.out,hf6]
     rw[hf6] at hOZ
     have HO6:Hid (FmO B Z b f6 y o):=hOZ
     clear hf6 HFN hOZ
     go_upto_region 62 with fail
     have HB6:Hid (Below B w Z):=HBY.out.trans (HA.out.mono hBY)
     have hz6:=(HA.out.block _ (lt1 hzY)).trans hzY
     clear n0 n1 n2 c3 dl dr ld lnd lbZ lnp hr0 hn0' hleI hriI hleb
     have hbk6:=HO6.out.blk
     obtain⟨e0,e1,e2,e3,e4,e5,e6,e7⟩:=cell8 hbk6
     obtain⟨r0,r1,r2,r3,r4,r5,r6,r7⟩:=cell8 hz6
     have rf:=frozenB hz6
     have rl:=lt1 hz6
     have rb:=lt1 hbk6
     have HZ6:Hid (_=_):=hz6
     clear hbk6 hz6
     go_wp2_with fail
     obtain⟨X7,hX7,hs1,hs2⟩:=store8e HZ6.out (sv y.p f6.parts.length y.pc) (sv y.l f6.plan.length y.lc) (iv f6.now) (sv y.d f6.done.length y.dc) (sv y.h f6.got.length y.hc) (sv y.g f6.grants.length y.gc) (sv y.k f6.work.length y.kc) (sv y.n f6.net.length y.nc)
     rw[← hX7]
     rw[← HRF.out,← HRE.out,HF6.out,if_pos rfl]
     exact fin_step rfl rfl rfl hs1 (by rw[← HBB.out.1];exact HB6.out.grown hs2 (by have:=HB6.out.size;rw[HBB.out.1];exact this) (fun k hk=>by cases hk;omega)) ((HO6.out.rows.wr ⟨b+2,_,HZ6.out,hs2⟩).firm)
    | true =>
     rw[hdR] at dr
     have HM2:Hid (M.madeP f n=((M.join (f.got.getD le M.nil) (f.got.getD ri M.nil)).1,(M.join (f.got.getD le M.nil) (f.got.getD ri M.nil)).2==0)):=by rw[Hid,HM1.out,hdL,hdR];rfl
     clear HM1 hdL hdR
     have hgt:PartsAt Y (sv y.h f.got.length y.hc) f.got:=HOY.out.at.got
     obtain⟨hb,ho,x1,y1,x2,y2,hh,e0,e1,hFA,hDA⟩:=hgt.cells le hleG
     obtain⟨hb',ho',x3,y3,x4,y4,hh',e2,e3,hFC,hDC⟩:=hgt.cells ri hriG
     rw[hh] at hh'
     cases hh'
     have c4:Y.cell? (qa b 4)=some (sv (some (qa hb ho)) f.got.length y.hc):=by rw[← hh];exact cellB HOY.out.blk 4
     have HAC:Hid (M.Ok (f.got.getD le M.nil)∧M.Ok (f.got.getD ri M.nil)):=⟨(M.ok_iff _).1 (each_ok _ HOk.out.gots _ (getD_mem f.got M.nil le hleG)),(M.ok_iff _).1 (each_ok _ HOk.out.gots _ (getD_mem f.got M.nil ri hriG))⟩
     have hgl1:(le:Int)<(f.got.length:Int):=by omega
     have hgr1:(ri:Int)<(f.got.length:Int):=by omega
     generalize f.got.getD le M.nil=A at *
     generalize f.got.getD ri M.nil=C at *
     have HSt:Hid (∀ W,(Below Y.heap.size Y W∧W.heap[nd]?=some (.cells #[iv lf,iv le,iv ri] 75 (0,0))∧∃ u0 u1,W.heap[np]?=some (.cells #[u0,u1] 39 (0,0)))→(W.cell? (qa b 4)=some (sv (some (qa hb ho)) f.got.length y.hc)∧W.cell? (qa nd 1)=some (iv le)∧W.cell? (qa nd 2)=some (iv ri))∧(W.cell? (qa hb (ho+le*2))=some (sv x1 A.frags.length y1)∧W.cell? (qa hb (ho+le*2+1))=some (sv x2 A.defs.length y2)∧W.cell? (qa hb (ho+ri*2))=some (sv x3 C.frags.length y3)∧W.cell? (qa hb (ho+ri*2+1))=some (sv x4 C.defs.length y4))∧(FragsAt W (sv x1 A.frags.length y1) A.frags∧DefsAt W (sv x2 A.defs.length y2) A.defs∧FragsAt W (sv x3 C.frags.length y3) C.frags∧DefsAt W (sv x4 C.defs.length y4) C.defs)∧B≤W.heap.size):=fun W hW=>⟨⟨cell_later hW.1 c4,cellB hW.2.1 1,cellB hW.2.1 2⟩,⟨cell_later hW.1 e0,cell_later hW.1 e1,cell_later hW.1 e2,cell_later hW.1 e3⟩,⟨hFA.later hW.1,hDA.later hW.1,hFC.later hW.1,hDC.later hW.1⟩,Nat.le_trans hBY hW.1.size⟩
     have HCZ:Hid (Below Y.heap.size Y Z∧Z.heap[nd]?=some (.cells #[iv lf,iv le,iv ri] 75 (0,0))∧∃ u0 u1,Z.heap[np]?=some (.cells #[u0,u1] 39 (0,0))):=⟨HA.out,hn0',_,_,hr0⟩
     clear hgt c4 e0 e1 e2 e3 hFA hDA hFC hDC hOZ hr0 hn0' hh
     go_upto_region 38 with fail
     clear n0 n1 n2 c3 dl dr ld lnd lbZ lnp hleb
     have hstay:=HSt.out
     have hCZ:=HCZ.out
     refine wp_region_rel 17 (fun _ W=>Below Y.heap.size Y W∧W.heap[nd]?=some (.cells #[iv lf,iv le,iv ri] 75 (0,0))∧∃ u0 u1,W.heap[np]?=some (.cells #[u0,u1] 39 (0,0))) (fun v=>⟨#[.agg (qm f x),.agg #[iv 2,iv ↑wn,iv kk],qv b 0,qv (b+1) 0,qv (b+1+1) 0,iv 0,.func (Fn.func 45) #[] #[],.func (Fn.func 46) #[] #[qv b 0],iv ↑wn,undef,undef,iv ↑n,qv np 0,iv 11,qv nd 0,undef,.agg (qm f x),.agg (qm f y),.func (Fn.func 46) #[] #[qv b 0],qv (b+1) 1,iv ↑wn,qv (b+1) 0,iv 2,.bool true,.bool false,.bool true,undef,iv ↑wn,.bool false,.bool false,iv ↑wn,qv b 6,sv (some (qa g 0)) f.work.length y.kc,iv ↑f.work.length,.bool false,.bool false,undef,undef,undef,undef,undef,undef,undef,undef,undef,undef,undef,undef,undef,undef,undef,undef,undef,undef,undef,undef,undef,undef,undef,qv (b+1) 0,iv 2,undef,undef,undef,undef,.bool false,.bool false,undef,undef,undef,undef,undef,undef,undef,undef,undef,undef,undef,undef,undef,undef,undef,undef,undef,undef,undef,undef,undef,undef,undef,undef,undef,undef,undef,undef,undef,undef,undef,undef,undef,undef,undef,undef,undef,undef,undef,.bool true,.bool true,qv b 6,sv (some (qa g 0)) f.work.length y.kc,iv ↑wn,qv g wn,iv ↑n,iv ↑n,.bool false,undef,undef,undef,undef,qv b 6,sv (some (qa g 0)) f.work.length y.kc,iv ↑wn,qv g wn,.agg #[sv none 0 0,sv none 0 0],qv b 1,sv (some (qa lb0 lo)) f.plan.length y.lc,iv ↑n,qv lb0 (lo+n*3),.agg #[iv lf,iv ↑le,iv ↑ri],qv nd 0,iv lf,.bool false,undef,undef,undef,undef,undef,undef,qv b 3,sv (some (qa db dof)) f.done.length y.dc,qv nd 1,iv ↑le,qv db (dof+le),.bool true,.bool true,qv b 3,sv (some (qa db dof)) f.done.length y.dc,qv nd 2,iv ↑ri,qv db (dof+ri),.bool true,.bool true,v 13,v 0,v 1,v 2,v 3,v 4,v 5,v 6,v 7,v 8,v 9,v 10,v 11,v 12,v 14,v 15,undef,undef,undef,undef,undef,undef,undef,undef,undef,undef,undef,undef,undef,undef,undef,undef,undef,undef,undef,undef,undef,undef,undef,undef,undef,undef,undef,undef,undef,undef,undef,undef,undef,undef,undef,undef,undef,undef,undef,undef,undef,undef,undef,undef,undef,undef,undef,undef,undef,undef,undef,undef,undef,undef,undef,undef,undef,undef,undef,undef,undef,undef,undef,undef,undef,undef,undef,undef,undef,undef,undef,undef,undef,undef,undef,undef,undef,undef,undef,undef,undef,undef,undef,undef,undef,undef,undef,undef,undef,undef,undef,undef,undef,undef,undef,undef,undef,undef,undef,undef,undef,undef,undef,undef,undef,undef,undef,undef,undef,undef,undef,undef,undef,undef,undef,undef,undef,undef,undef,undef,undef,undef,undef,undef,undef,undef,undef,undef,undef],[]⟩) (fnR B b np nd hb ho le ri f.got.length y.hc A C x1 x2 x3 x4 y1 y2 y3 y4) (fun _ _ _ _=>True) (by kernel_rfl) (by kernel_rfl) ⟨hCZ.1.drew,hCZ.2⟩ ⟨fun _=>undef,rfl⟩ ?_ ?_
     ·intro j op hj ho'
      rcases (by omega:j=0∨j=1∨j=2∨j=3∨j=4∨j=5∨j=6∨j=7∨j=8∨j=9∨j=10∨j=11∨j=12∨j=13∨j=14∨j=15∨j=16) with rfl | rfl | rfl | rfl | rfl | rfl | rfl | rfl | rfl | rfl | rfl | rfl | rfl | rfl | rfl | rfl | rfl
      all_goals cases ho'
      all_goals refine relStep_of rfl rfl ?_
      all_goals rintro sd v W hC hin hsd hdep hdz
      all_goals obtain⟨⟨c4,n1,n2⟩,⟨e0,e1,e2,e3⟩,⟨hFA,hDA,hFC,hDC⟩,hBW⟩:=hstay W hC
      ·exact wp_val (qv b 4) (by simp[execOp,Act.eval,go_sem]) ⟨_,rfl,hC,fun _ _ _ _ h=>h,rfl,fun k hk _ hz=>⟨trivial,trivial⟩⟩
      ·have hv:v 0=qv b 4:=hdep ⟨0,.data⟩ (by simp) rfl
       exact wp_val (sv (some (qa hb ho)) f.got.length y.hc) (by simp[execOp,Act.eval,go_sem,hv,c4]) ⟨_,rfl,hC,fun _ _ _ _ h=>h,rfl,fun k hk _ hz=>⟨trivial,trivial⟩⟩
      ·exact wp_val (qv nd 1) (by simp[execOp,Act.eval,go_sem]) ⟨_,rfl,hC,fun _ _ _ _ h=>h,rfl,fun k hk _ hz=>⟨trivial,trivial⟩⟩
      ·have hv:v 2=qv nd 1:=hdep ⟨2,.data⟩ (by simp) rfl
       exact wp_val (iv (le:Nat)) (by simp[execOp,Act.eval,go_sem,hv,n1]) ⟨_,rfl,hC,fun _ _ _ _ h=>h,rfl,fun k hk _ hz=>⟨trivial,trivial⟩⟩
      ·have hv:v 1=sv (some (qa hb ho)) f.got.length y.hc:=hdep ⟨1,.data⟩ (by simp) rfl
       have hv2:v 3=iv (le:Nat):=hdep ⟨3,.data⟩ (by simp) rfl
       exact wp_val (qv hb (ho+le*2)) (by simp[execOp,Act.eval,go_sem,hv,hv2,hgl1]) ⟨_,rfl,hC,fun _ _ _ _ h=>h,rfl,fun k hk _ hz=>⟨trivial,trivial⟩⟩
      ·have hv:v 4=qv hb (ho+le*2):=hdep ⟨4,.data⟩ (by simp) rfl
       exact wp_val (.agg #[sv x1 A.frags.length y1,sv x2 A.defs.length y2]) (by simp[execOp,Act.eval,go_sem,hv,e0,e1]) ⟨_,rfl,hC,fun _ _ _ _ h=>h,rfl,fun k hk _ hz=>⟨trivial,trivial⟩⟩
      ·exact wp_val (qv b 4) (by simp[execOp,Act.eval,go_sem]) ⟨_,rfl,hC,fun _ _ _ _ h=>h,rfl,fun k hk _ hz=>⟨trivial,trivial⟩⟩
      ·have hv:v 6=qv b 4:=hdep ⟨6,.data⟩ (by simp) rfl
       exact wp_val (sv (some (qa hb ho)) f.got.length y.hc) (by simp[execOp,Act.eval,go_sem,hv,c4]) ⟨_,rfl,hC,fun _ _ _ _ h=>h,rfl,fun k hk _ hz=>⟨trivial,trivial⟩⟩
      ·exact wp_val (qv nd 2) (by simp[execOp,Act.eval,go_sem]) ⟨_,rfl,hC,fun _ _ _ _ h=>h,rfl,fun k hk _ hz=>⟨trivial,trivial⟩⟩
      ·have hv:v 8=qv nd 2:=hdep ⟨8,.data⟩ (by simp) rfl
       exact wp_val (iv (ri:Nat)) (by simp[execOp,Act.eval,go_sem,hv,n2]) ⟨_,rfl,hC,fun _ _ _ _ h=>h,rfl,fun k hk _ hz=>⟨trivial,trivial⟩⟩
      ·have hv:v 7=sv (some (qa hb ho)) f.got.length y.hc:=hdep ⟨7,.data⟩ (by simp) rfl
       have hv2:v 9=iv (ri:Nat):=hdep ⟨9,.data⟩ (by simp) rfl
       exact wp_val (qv hb (ho+ri*2)) (by simp[execOp,Act.eval,go_sem,hv,hv2,hgr1]) ⟨_,rfl,hC,fun _ _ _ _ h=>h,rfl,fun k hk _ hz=>⟨trivial,trivial⟩⟩
      ·have hv:v 10=qv hb (ho+ri*2):=hdep ⟨10,.data⟩ (by simp) rfl
       exact wp_val (.agg #[sv x3 C.frags.length y3,sv x4 C.defs.length y4]) (by simp[execOp,Act.eval,go_sem,hv,e2,e3]) ⟨_,rfl,hC,fun _ _ _ _ h=>h,rfl,fun k hk _ hz=>⟨trivial,trivial⟩⟩
      ·have h5:v 5=.agg #[sv x1 A.frags.length y1,sv x2 A.defs.length y2]:=hdep ⟨5,.data⟩ (by simp) rfl
       have h11:v 11=.agg #[sv x3 C.frags.length y3,sv x4 C.defs.length y4]:=hdep ⟨11,.data⟩ (by simp) rfl
       refine wp_enter 48 #[.agg #[sv x1 A.frags.length y1,sv x2 A.defs.length y2],.agg #[sv x3 C.frags.length y3,sv x4 C.defs.length y4]] (by simp[Act.eval,go_sem,h5,h11]) ?_
       refine (joined_any A C _ _ _ _ _ _ _ _ W hFA hDA hFC hDC HAC.out.1 HAC.out.2).mono ?_
       rintro e W2 ⟨hb2,es,vF,vD,rfl,hP,hes⟩
       exact⟨_,rfl,_,rfl,⟨hC.1.trans (hb2.mono hC.1.size),(hb2.block _ (lt1 hC.2.1)).trans hC.2.1,hC.2.2.elim fun u0 h=>h.elim fun u1 h=>⟨u0,u1,(hb2.block _ (lt1 h)).trans h⟩⟩,fun k z _ _=>fnR_later hb2 k z,⟨vF,vD,rfl,es,hP.base hBW,hes⟩,fun k hk _ hz=>⟨trivial,trivial⟩⟩
      ·obtain⟨vF,vD,h12,hP⟩:fnR B b np nd hb ho le ri f.got.length y.hc A C x1 x2 x3 x4 y1 y2 y3 y4 12 W (v 12):=hdep ⟨12,.data⟩ (by simp) rfl
       exact wp_val (.tuple #[.agg #[vF,vD],iv (M.join A C).2]) (by simp[execOp,Act.eval,go_sem,h12]) ⟨_,rfl,hC,fun _ _ _ _ h=>h,⟨vF,vD,rfl,hP⟩,fun k hk _ hz=>⟨trivial,trivial⟩⟩
      ·obtain⟨vF,vD,h13,hP⟩:fnR B b np nd hb ho le ri f.got.length y.hc A C x1 x2 x3 x4 y1 y2 y3 y4 13 W (v 13):=hdep ⟨13,.data⟩ (by simp) rfl
       exact wp_val (.agg #[vF,vD]) (by simp[execOp,Act.eval,go_sem,h13]) ⟨_,rfl,hC,fun _ _ _ _ h=>h,⟨vF,vD,rfl,hP⟩,fun k hk _ hz=>⟨trivial,trivial⟩⟩
      ·obtain⟨vF,vD,h13,hP⟩:fnR B b np nd hb ho le ri f.got.length y.hc A C x1 x2 x3 x4 y1 y2 y3 y4 13 W (v 13):=hdep ⟨13,.data⟩ (by simp) rfl
       exact wp_val (iv (M.join A C).2) (by simp[execOp,Act.eval,go_sem,h13]) ⟨_,rfl,hC,fun _ _ _ _ h=>h,rfl,fun k hk _ hz=>⟨trivial,trivial⟩⟩
      ·obtain⟨vF,vD,h14,hP⟩:fnR B b np nd hb ho le ri f.got.length y.hc A C x1 x2 x3 x4 y1 y2 y3 y4 14 W (v 14):=hdep ⟨14,.data⟩ (by simp) rfl
       obtain⟨u0,u1,hg⟩:=hC.2.2
       obtain⟨a1,k1,a2,k2,e1',e2',_,_⟩:=hP.at
       simp only at e1' e2'
       subst e1' e2'
       have g0:=cellC hg 0 rfl
       have g1:=cellC hg 1 rfl
       have gf:=frozenB hg
       have lg:=lt1 hg
       obtain⟨vF,hvF⟩:∃ vF:Value,vF=sv a1 (M.join A C).1.frags.length k1:=⟨_,rfl⟩
       obtain⟨vD,hvD⟩:∃ vD:Value,vD=sv a2 (M.join A C).1.defs.length k2:=⟨_,rfl⟩
       have wr:Wr W ((W.setCell (qa np 0) vF).setCell (qa np 1) vD) 39:=⟨np,_,hg,grown_trans (grown_set _ _ _ _) (grown_set _ _ _ _)⟩
       have hgn:((W.setCell (qa np 0) vF).setCell (qa np 1) vD).heap[np]?=some (.cells #[vF,vD] 39 (0,0)):=setB' (setB' hg _) _
       have hP':POwn W B ⟨(M.join A C).1,vF,vD⟩:=by rw[hvF,hvD];exact hP
       refine wp_skipW ((W.setCell (qa np 0) vF).setCell (qa np 1) vD) (by rw[hvF,hvD];simp[execOp,Act.eval,go_sem,h14,g0,g1,gf]) ⟨undef,rfl,⟨(hC.1.setCell (by show Y.heap.size≤np;rw[Hnp.out.1];exact Nat.le_refl _) _).setCell (by show Y.heap.size≤np;rw[Hnp.out.1];exact Nat.le_refl _) _,wr.block hC.2.1 (by decide),vF,vD,hgn⟩,fun i u hi hs hR=>fnR_wr wr i u hi hR,⟨vF,vD,hgn,wr.pw hP' rfl⟩,fun k hk _ hz=>⟨trivial,trivial⟩⟩
     ·intro sd v Z3 hC hR hZ
      have h15:v 15=iv (M.join A C).2:=hR 15 (by decide)
      obtain⟨vF,vD,hp3,hP3⟩:fnR B b np nd hb ho le ri f.got.length y.hc A C x1 x2 x3 x4 y1 y2 y3 y4 16 Z3 (v 16):=hR 16 (by decide)
      obtain⟨a1,d1,a2,d2,ev1,ev2,_,_⟩:=hP3.at
      simp only at ev1 ev2
      subst ev1 ev2
      have hZ3:=hC.1
      simp only[List.drop_succ_cons,List.drop_zero]
      rw[h15]
      clear hR hZ h15 hC hstay hCZ HSt HCZ hgl1 hgr1 hleI hriI hleG hriG
      have HM3:=HM2.out
      clear HM2
      generalize M.join A C=JJ at *
      obtain⟨q,ej⟩:=JJ
      simp only at hp3 hP3 HM3
      by_cases hej:ej=0
      ·subst hej
       have HFN:Hid (FN=(M.send (M.idled f wn) ⟨2,wn,n,q⟩,0)):=by rw[Hid,HFin2.out,HM3];rfl
       clear HFin2 HM3
       go_upto_region 40 with fail
       have hO3:=HOY.out.later hZ3
       have hz3:=(hZ3.block _ (lt1 hzY)).trans hzY
       have hB3:B≤Z3.heap.size:=Nat.le_trans hBY hZ3.size
       have HB3:Hid (Below B w Z3):=HBY.out.trans (hZ3.mono hBY)
       have k0:=cellC hp3 0 rfl
       have k1:=cellC hp3 1 rfl
       have lnp3:=lt1 hp3
       have KS:Hid (Calls Tryz.prog 46 #[.agg #[iv 2,iv wn,iv n,sv a1 q.frags.length d1,sv a2 q.defs.length d2],qv b 0] Z3 fun e w'=>e=.returned (.tuple #[])∧Below B Z3 w'∧KeepB b Z3 w'∧∃ x' o',FmO B w' b (M.send (M.idled f wn) ⟨2,wn,n,q⟩) x' o'):=rsend_any Z3 hO3 hB3 hnt 2 wn n q a1 a2 d1 d2 hP3
       obtain⟨f6,hf6⟩:∃ f6,M.send (M.idled f wn) ⟨2,wn,n,q⟩=f6:=⟨_,rfl⟩
       have HF6:Hid (FN=(f6,0)):=by rw[Hid,HFN.out,hf6]
       rw[hf6] at KS
       clear hf6 hO3 hP3 hp3 HFN hZ3
       go_upto_region 62 with (go_at_call 46;refine KS.out.mono ?_;rintro e X6 ⟨rfl,j1,j2,y6,o6,j3⟩)
       have HO6:Hid (FmO B X6 b f6 y6 o6):=j3
       have HB6:Hid (Below B w X6):=HB3.out.trans j1
       have hz6:=j2 _ _ _ hz3 (by omega) (by decide)
       clear j1 j2 j3 KS hz3 HB3 hB3 k0 k1 lnp3
       have hbk6:=HO6.out.blk
       obtain⟨e0,e1,e2,e3,e4,e5,e6,e7⟩:=cell8 hbk6
       obtain⟨r0,r1,r2,r3,r4,r5,r6,r7⟩:=cell8 hz6
       have rf:=frozenB hz6
       have rl:=lt1 hz6
       have rb:=lt1 hbk6
       have HZ6:Hid (_=_):=hz6
       clear hbk6 hz6
       go_wp2_with fail
       obtain⟨X7,hX7,hs1,hs2⟩:=store8e HZ6.out (sv y6.p f6.parts.length y6.pc) (sv y6.l f6.plan.length y6.lc) (iv f6.now) (sv y6.d f6.done.length y6.dc) (sv y6.h f6.got.length y6.hc) (sv y6.g f6.grants.length y6.gc) (sv y6.k f6.work.length y6.kc) (sv y6.n f6.net.length y6.nc)
       rw[← hX7]
       rw[← HRF.out,← HRE.out,HF6.out,if_pos rfl]
       exact fin_step rfl rfl rfl hs1 (by rw[← HBB.out.1];exact HB6.out.grown hs2 (by have:=HB6.out.size;rw[HBB.out.1];exact this) (fun k hk=>by cases hk;omega)) ((HO6.out.rows.wr ⟨b+2,_,HZ6.out,hs2⟩).firm)
      ·have hejb:(ej==0)=false:=by simpa using hej
       obtain⟨f6,hf6⟩:∃ f6,M.idled f wn=f6:=⟨_,rfl⟩
       have HF6:Hid (FN=(f6,0)):=by rw[Hid,HFin2.out,HM3,hejb,← hf6];rfl
       have HO6:Hid (FmO B Z3 b f6 y o):=by have:=HOY.out.later hZ3;rw[hf6] at this;exact this
       have HB6:Hid (Below B w Z3):=HBY.out.trans (hZ3.mono hBY)
       have hz6:=(hZ3.block _ (lt1 hzY)).trans hzY
       clear hf6 HFin2 HM3 hp3 hP3 hZ3 hej
       go_upto_region 62 with fail
       clear hejb
       have hbk6:=HO6.out.blk
       obtain⟨e0,e1,e2,e3,e4,e5,e6,e7⟩:=cell8 hbk6
       obtain⟨r0,r1,r2,r3,r4,r5,r6,r7⟩:=cell8 hz6
       have rf:=frozenB hz6
       have rl:=lt1 hz6
       have rb:=lt1 hbk6
       have HZ6:Hid (_=_):=hz6
       clear hbk6 hz6
       go_wp2_with fail
       obtain⟨X7,hX7,hs1,hs2⟩:=store8e HZ6.out (sv y.p f6.parts.length y.pc) (sv y.l f6.plan.length y.lc) (iv f6.now) (sv y.d f6.done.length y.dc) (sv y.h f6.got.length y.hc) (sv y.g f6.grants.length y.gc) (sv y.k f6.work.length y.kc) (sv y.n f6.net.length y.nc)
       rw[← hX7]
       rw[← HRF.out,← HRE.out,HF6.out,if_pos rfl]
       exact fin_step rfl rfl rfl hs1 (by rw[← HBB.out.1];exact HB6.out.grown hs2 (by have:=HB6.out.size;rw[HBB.out.1];exact this) (fun k hk=>by cases hk;omega)) ((HO6.out.rows.wr ⟨b+2,_,HZ6.out,hs2⟩).firm)
  ·have hl2:=hlf hle
   obtain⟨lf,rfl⟩:∃ m:Nat,lf=m:=⟨lf.toNat,by omega⟩
   have hleb:(0:Int)≤(lf:Int):=by omega
   have hlI:(lf:Int)<(f.parts.length:Int):=by omega
   obtain⟨gp,en,hgp,hen,hep,p0,p1⟩:=hOZ.partAt lf (by show lf<f.parts.length;omega)
   have hPe:=hOZ.ownP en hen
   obtain⟨a1,d1,a2,d2,ev1,ev2,_,_⟩:=hPe.at
   obtain⟨q,vF,vD⟩:=en
   simp only at p0 p1 ev1 ev2 hPe hep
   subst ev1
   subst ev2
   have HM1:Hid (M.madeP f n=(q,true)):=by rw[Hid,HMP.out,if_neg hle,hep];rfl
   have c0:Z.cell? (qa b 0)=some (sv (some (qa gp 0)) f.parts.length y.pc):=by rw[← hgp];exact cellB hOZ.blk 0
   have lgp:gp<Z.heap.size:=World.block_lt_of_cell? _ _ p0
   have HFN:Hid (FN=(M.send (M.idled f wn) ⟨2,wn,n,q⟩,0)):=by rw[Hid,HFin2.out,HM1.out];rfl
   clear HMP hlf hin hle hl2 hgp hep HM1 HFin2 hen
   have r0:=cellC hr0 0 rfl
   have r1:=cellC hr0 1 rfl
   have rf:=frozenB hr0
   have hZ3:Below Y.heap.size Y ((Z.setCell (qa np 0) (sv a1 q.frags.length d1)).setCell (qa np 1) (sv a2 q.defs.length d2)):=(hA.setCell (by show Y.heap.size≤np;rw[Hnp.out.1];exact Nat.le_refl _) _).setCell (by show Y.heap.size≤np;rw[Hnp.out.1];exact Nat.le_refl _) _
   have wrP:Wr Z ((Z.setCell (qa np 0) (sv a1 q.frags.length d1)).setCell (qa np 1) (sv a2 q.defs.length d2)) 39:=⟨np,_,hr0,grown_trans (grown_set _ _ _ _) (grown_set _ _ _ _)⟩
   have hp3:((Z.setCell (qa np 0) (sv a1 q.frags.length d1)).setCell (qa np 1) (sv a2 q.defs.length d2)).heap[np]?=some (.cells #[sv a1 q.frags.length d1,sv a2 q.defs.length d2] 39 (0,0)):=setB' (setB' hr0 _) _
   have hP3:=wrP.pw hPe rfl
   clear wrP hPe hOZ hr0 hn0' hA
   go_upto_region 40 with fail
   clear n0 lnd lbZ lnp p0 p1 c0 lgp r0 r1 rf hleb hlI
   generalize ((Z.setCell (qa np 0) (sv a1 q.frags.length d1)).setCell (qa np 1) (sv a2 q.defs.length d2))=Z3 at *
   have hO3:=HOY.out.later hZ3
   have hz3:=(hZ3.block _ (lt1 hzY)).trans hzY
   have hB3:B≤Z3.heap.size:=Nat.le_trans hBY hZ3.size
   have HB3:Hid (Below B w Z3):=HBY.out.trans (hZ3.mono hBY)
   have k0:=cellC hp3 0 rfl
   have k1:=cellC hp3 1 rfl
   have lnp3:=lt1 hp3
   have KS:Hid (Calls Tryz.prog 46 #[.agg #[iv 2,iv wn,iv n,sv a1 q.frags.length d1,sv a2 q.defs.length d2],qv b 0] Z3 fun e w'=>e=.returned (.tuple #[])∧Below B Z3 w'∧KeepB b Z3 w'∧∃ x' o',FmO B w' b (M.send (M.idled f wn) ⟨2,wn,n,q⟩) x' o'):=rsend_any Z3 hO3 hB3 hnt 2 wn n q a1 a2 d1 d2 hP3
   obtain⟨f6,hf6⟩:∃ f6,M.send (M.idled f wn) ⟨2,wn,n,q⟩=f6:=⟨_,rfl⟩
   have HF6:Hid (FN=(f6,0)):=by rw[Hid,HFN.out,hf6]
   rw[hf6] at KS
   clear hf6 hO3 hP3 hp3 HFN hZ3
   go_upto_region 62 with (go_at_call 46;refine KS.out.mono ?_;rintro e X6 ⟨rfl,j1,j2,y6,o6,j3⟩)
   have HO6:Hid (FmO B X6 b f6 y6 o6):=j3
   have HB6:Hid (Below B w X6):=HB3.out.trans j1
   have hz6:=j2 _ _ _ hz3 (by omega) (by decide)
   clear j1 j2 j3 KS hz3 HB3 hB3 k0 k1 lnp3
   have hbk6:=HO6.out.blk
   obtain⟨e0,e1,e2,e3,e4,e5,e6,e7⟩:=cell8 hbk6
   obtain⟨r0,r1,r2,r3,r4,r5,r6,r7⟩:=cell8 hz6
   have rf:=frozenB hz6
   have rl:=lt1 hz6
   have rb:=lt1 hbk6
   have HZ6:Hid (_=_):=hz6
   clear hbk6 hz6
   go_wp2_with fail
   obtain⟨X7,hX7,hs1,hs2⟩:=store8e HZ6.out (sv y6.p f6.parts.length y6.pc) (sv y6.l f6.plan.length y6.lc) (iv f6.now) (sv y6.d f6.done.length y6.dc) (sv y6.h f6.got.length y6.hc) (sv y6.g f6.grants.length y6.gc) (sv y6.k f6.work.length y6.kc) (sv y6.n f6.net.length y6.nc)
   rw[← hX7]
   rw[← HRF.out,← HRE.out,HF6.out,if_pos rfl]
   exact fin_step rfl rfl rfl hs1 (by rw[← HBB.out.1];exact HB6.out.grown hs2 (by have:=HB6.out.size;rw[HBB.out.1];exact this) (fun k hk=>by cases hk;omega)) ((HO6.out.rows.wr ⟨b+2,_,HZ6.out,hs2⟩).firm)
end Go.Proofs.YtebippbakbihiaaGreatDoor
