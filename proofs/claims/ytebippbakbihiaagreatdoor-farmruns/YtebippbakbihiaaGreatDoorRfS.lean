/-
  The reference's FarmStep: the time goes on. The reference's FarmStep: what is no happening. The reference's FarmStep: the grants are forgotten. The reference's FarmStep: there is no such worker. The reference's FarmStep: there is no such message. The reference's FarmStep: a worker falls. The reference's FarmStep: a message comes twice. The reference's FarmStep: a worker is given a task.
-/
import Derived.Test.YtebippbakbihiaaGreatDoorRefFmStep0
import Derived.Test.YtebippbakbihiaaGreatDoorFmRN
import Derived.Test.YtebippbakbihiaaGreatDoorPlRl
set_option maxHeartbeats 16000000
set_option maxRecDepth 100000
namespace Go.Proofs.YtebippbakbihiaaGreatDoor
open Go Go.RowKit
set_option linter.unusedVariables false
theorem rstep_tick (f:M.Farm) (x:Fd) (w:World) (hf:FarmAt w f x) (hok:M.FarmOk f) (wk kk:Int) :
  Calls Tryz.prog 13 #[.agg (qm f x),.agg #[iv 6,iv wk,iv kk]] w (StepTo w (if f.now=65536 then M.farm0 else { f with now:=f.now+1 }) (if f.now=65536 then 10 else 0)):=by
 obtain⟨RF,hRF⟩:∃ RF,(if f.now=65536 then M.farm0 else { f with now:=f.now+1 })=RF:=⟨_,rfl⟩
 obtain⟨RE,hRE⟩:∃ RE:Int,(if f.now=65536 then 10 else 0)=RE:=⟨_,rfl⟩
 have HRF:Hid (_=RF):=hRF
 have HRE:Hid (_=RE):=hRE
 rw[hRF,hRE]
 clear hRF hRE
 have KF:Hid (∀ W E,Calls Tryz.prog 45 #[iv E] W fun e w'=>e=.returned (.tuple #[.agg qz,iv E])∧Below W.heap.size W w'):=fun W E=>fail_any E W
 have HOk:Hid (M.FarmOk f):=hok
 have hn0:=hok.now0
 have hn1:=hok.now1
 have hnt:=hok.net
 have hw4:=hok.work4
 obtain⟨X,hX⟩:∃ X,X=(((w.alloc (.cells (qm f x) 29)).alloc (.cells #[iv 6,iv wk,iv kk] 31)).alloc (.cells qz 29)):=⟨_,rfl⟩
 have HX:Hid (X=_):=hX
 have h0:X.heap[w.heap.size]?=some (.cells (qm f x) 29 (0,0)):=by rw[hX];exact (heap_alloc_old _ _ (by simp;omega)).trans ((heap_alloc_old _ _ (by simp)).trans (heap_alloc_new w _))
 have h1:X.heap[w.heap.size+1]?=some (.cells #[iv 6,iv wk,iv kk] 31 (0,0)):=by rw[hX];exact (heap_alloc_old _ _ (by simp)).trans (by have:=heap_alloc_new (w.alloc (.cells (qm f x) 29)) (.cells #[iv 6,iv wk,iv kk] 31);simpa using this)
 have h2:X.heap[w.heap.size+2]?=some (.cells qz 29 (0,0)):=by have:=heap_alloc_new ((w.alloc (.cells (qm f x) 29)).alloc (.cells #[iv 6,iv wk,iv kk] 31)) (.cells qz 29);rw[hX];simpa using this
 have HB0:Hid (Below w.heap.size w X):=by rw[Hid,hX];exact (((Below.refl _ _).alloc (Nat.le_refl _) _).alloc (by simp) _).alloc (by simp;omega) _
 have KO:Hid (Calls Tryz.prog 5 #[.agg (qm f x)] X fun e w'=>Below X.heap.size X w'∧∃ y o,e=.returned (.agg (qm f y))∧FmR X.heap.size w' f y o):=ownFarm_any f x X (hf.later HB0.out) (farmRoom_ok hok)
 clear hf hok hX
 go_enter Tryz.func13,Tryz.ntmps13
 go_upto_region 1 with fail
 rw[← HX.out]
 obtain⟨b,hb⟩:∃ b,b=w.heap.size:=⟨_,rfl⟩
 obtain⟨B,hB⟩:∃ B,B=w.heap.size:=⟨_,rfl⟩
 have HBB:Hid (B=w.heap.size∧b=B):=⟨hB,by rw[hb,hB]⟩
 rw[← hb] at h0 h1 h2 ⊢
 rw[← hB] at HB0
 clear hb hB HX
 have hBb:B≤b:=by rw[HBB.out.2];exact Nat.le_refl _
 have lx0:=lt1 h0
 have hBX:B≤X.heap.size:=by have:=HB0.out.size;rw[HBB.out.1];exact this
 obtain⟨c0,c1,c2,c3,c4,c5,c6,c7⟩:=cell8 h0
 go_wp2_with (go_at_call 5;refine KO.out.mono ?_;rintro e X1 ⟨hb1,y,o,rfl,hR1⟩;refine Hid.out ?_)
 have h01:=bl hb1 h0
 have h11:=bl hb1 h1
 have h21:=bl hb1 h2
 obtain⟨X2,hX2,hs1,hs2⟩:=store8e h01 (sv y.p f.parts.length y.pc) (sv y.l f.plan.length y.lc) (iv f.now) (sv y.d f.done.length y.dc) (sv y.h f.got.length y.hc) (sv y.g f.grants.length y.gc) (sv y.k f.work.length y.kc) (sv y.n f.net.length y.nc)
 have HX2:Hid (X2=_):=hX2
 have HO:Hid (FmO B X2 b f y o):=((hR1.base hBX).wr ⟨b,_,h01,hs2⟩).own hBb hs1
 have hq:=(hs2.block _ (lt1 h11) (by simp)).trans h11
 have hz:=(hs2.block _ (lt1 h21) (by simp)).trans h21
 have HB1:Hid (Below B w X2):=(HB0.out.trans (hb1.mono hBX)).grown hs2 (Nat.le_trans hBX hb1.size) (fun k hk=>by cases hk;exact hBb)
 obtain⟨d0,d1,d2,d3,d4,d5,d6,d7⟩:=cell8 h01
 have df:=frozenB h01
 have dl:=lt1 h01
 clear c0 c1 c2 c3 c4 c5 c6 c7 h0 h1 h2 h01 h11 h21 hb1 hR1 HB0 hBX lx0 KO hs1 hs2 hX2
 refine Lib.hid ?_
 go_upto_region 2 with fail
 rw[← HX2.out]
 clear d0 d1 d2 d3 d4 d5 d6 d7 df dl HX2
 clear X X1
 have hbk:=HO.out.blk
 obtain⟨c0,c1,c2,c3,c4,c5,c6,c7⟩:=cell8 hbk
 have q0:=cellC hq 0 rfl
 have q1:=cellC hq 1 rfl
 have q2:=cellC hq 2 rfl
 have lb:=lt1 hbk
 have lq:=lt1 hq
 have lz:=lt1 hz
 have hBX2:B≤X2.heap.size:=Nat.le_of_lt (Nat.lt_of_le_of_lt hBb lb)
 by_cases hnw:f.now=65536
 ·have hnw1:(f.now==65536)=true:=by simpa using hnw
  have HN:Hid (f.now=65536):=hnw
  clear hnw
  have KF1:Hid (Calls Tryz.prog 45 #[iv 10] X2 fun e w'=>e=.returned (.tuple #[.agg qz,iv 10])∧Below X2.heap.size X2 w'):=KF.out _ _
  clear KF
  go_wp2_with (go_at_call 45;refine KF1.out.mono ?_;rintro e X5 ⟨rfl,hb5⟩;refine Hid.out ?_)
  have hz5:=bl hb5 hz
  have HB5:Hid (Below B w X5):=HB1.out.trans (hb5.mono hBX2)
  obtain⟨r0,r1,r2,r3,r4,r5,r6,r7⟩:=cell8 hz5
  have rf:=frozenB hz5
  have rl:=lt1 hz5
  have HZ5:Hid (_=_):=hz5
  clear hz5 hb5 KF1 hn0 hn1 hnt hw4 lb lq lz hnw1 c0 c1 c2 c3 c4 c5 c6 c7 q0 q1 q2
  refine Lib.hid ?_
  go_wp2_with fail
  obtain⟨X6,hX6,hs1,hs2⟩:=storeZ HZ5.out
  rw[← hX6]
  rw[← HRF.out,← HRE.out,if_pos HN.out,if_pos HN.out]
  exact fin_step (f:=M.farm0) (y:=fd0) rfl rfl rfl hs1 (by rw[← HBB.out.1];exact HB5.out.grown hs2 (by have:=HB5.out.size;rw[HBB.out.1];exact this) (fun k hk=>by cases hk;omega)) (farm0_firm _)
 ·have hnw1:(f.now==65536)=false:=by simpa using hnw
  have HN:Hid (¬ f.now=65536):=hnw
  have hf2:=frozenB hbk 2
  have HO6:Hid (FmO B (X2.setCell (qa b 2) (iv (f.now+1))) b { f with now:=f.now+1 } y o):=HO.out.setNow _
  have HB6:Hid (Below B w (X2.setCell (qa b 2) (iv (f.now+1)))):=HB1.out.setCell hBb _
  have hz6:(X2.setCell (qa b 2) (iv (f.now+1))).heap[b+2]?=some (.cells qz 29 (0,0)):=(Below.heap_setCell _ _ _ _ (by show b+2≠b;omega)).trans hz
  clear KF hnw hbk hz hq
  go_upto_region 62 with fail
  clear c0 c1 c2 c3 c4 c5 c6 c7 q0 q1 q2 lb lq lz hf2 HO HB1
  generalize X2.setCell (qa b 2) (iv (f.now+1))=X6 at *
  obtain⟨f6,hf6⟩:∃ f6,{ f with now:=f.now+1 }=f6:=⟨_,rfl⟩
  have HF6:Hid ({ f with now:=f.now+1 }=f6):=hf6
  rw[hf6] at HO6
  clear hf6 hnw1
  have hbk6:=HO6.out.blk
  obtain⟨e0,e1,e2,e3,e4,e5,e6,e7⟩:=cell8 hbk6
  obtain⟨r0,r1,r2,r3,r4,r5,r6,r7⟩:=cell8 hz6
  have rf:=frozenB hz6
  have rl:=lt1 hz6
  have rb:=lt1 hbk6
  have HZ6:Hid (_=_):=hz6
  clear hbk6 hz6
  go_wp2_with fail
  obtain⟨X7,hX7,hs1,hs2⟩:=store8e HZ6.out (sv y.p f6.parts.length y.pc) (sv y.l f6.plan.length y.lc) (iv f6.now) (sv y.d f6.done.length y.dc) (sv y.h f6.got.length y.hc) (sv y.g f6.grants.length y.gc) (sv y.k f6.work.length y.kc) (sv y.n f6.net.length y.nc)
  rw[← hX7]
  rw[← HRF.out,← HRE.out,if_neg HN.out,if_neg HN.out,HF6.out]
  exact fin_step rfl rfl rfl hs1 (by rw[← HBB.out.1];exact HB6.out.grown hs2 (by have:=HB6.out.size;rw[HBB.out.1];exact this) (fun k hk=>by cases hk;omega)) ((HO6.out.rows.wr ⟨b+2,_,HZ6.out,hs2⟩).firm)
theorem rstep_else (f:M.Farm) (x:Fd) (w:World) (hf:FarmAt w f x) (hok:M.FarmOk f) (kd wk kk:Int) (hk1:(kd==1)=false) (hk2:(kd==2)=false) (hk3:(kd==3)=false) (hk4:(kd==4)=false) (hk5:(kd==5)=false) (hk6:(kd==6)=false) (hk7:(kd==7)=false) (hk8:(kd==8)=false) :
  Calls Tryz.prog 13 #[.agg (qm f x),.agg #[iv kd,iv wk,iv kk]] w (StepTo w (M.farm0) (4)):=by
 obtain⟨RF,hRF⟩:∃ RF,(M.farm0)=RF:=⟨_,rfl⟩
 obtain⟨RE,hRE⟩:∃ RE:Int,(4)=RE:=⟨_,rfl⟩
 have HRF:Hid (_=RF):=hRF
 have HRE:Hid (_=RE):=hRE
 rw[hRF,hRE]
 clear hRF hRE
 have KF:Hid (∀ W E,Calls Tryz.prog 45 #[iv E] W fun e w'=>e=.returned (.tuple #[.agg qz,iv E])∧Below W.heap.size W w'):=fun W E=>fail_any E W
 have HOk:Hid (M.FarmOk f):=hok
 have hn0:=hok.now0
 have hn1:=hok.now1
 have hnt:=hok.net
 have hw4:=hok.work4
 obtain⟨X,hX⟩:∃ X,X=(((w.alloc (.cells (qm f x) 29)).alloc (.cells #[iv kd,iv wk,iv kk] 31)).alloc (.cells qz 29)):=⟨_,rfl⟩
 have HX:Hid (X=_):=hX
 have h0:X.heap[w.heap.size]?=some (.cells (qm f x) 29 (0,0)):=by rw[hX];exact (heap_alloc_old _ _ (by simp;omega)).trans ((heap_alloc_old _ _ (by simp)).trans (heap_alloc_new w _))
 have h1:X.heap[w.heap.size+1]?=some (.cells #[iv kd,iv wk,iv kk] 31 (0,0)):=by rw[hX];exact (heap_alloc_old _ _ (by simp)).trans (by have:=heap_alloc_new (w.alloc (.cells (qm f x) 29)) (.cells #[iv kd,iv wk,iv kk] 31);simpa using this)
 have h2:X.heap[w.heap.size+2]?=some (.cells qz 29 (0,0)):=by have:=heap_alloc_new ((w.alloc (.cells (qm f x) 29)).alloc (.cells #[iv kd,iv wk,iv kk] 31)) (.cells qz 29);rw[hX];simpa using this
 have HB0:Hid (Below w.heap.size w X):=by rw[Hid,hX];exact (((Below.refl _ _).alloc (Nat.le_refl _) _).alloc (by simp) _).alloc (by simp;omega) _
 have KO:Hid (Calls Tryz.prog 5 #[.agg (qm f x)] X fun e w'=>Below X.heap.size X w'∧∃ y o,e=.returned (.agg (qm f y))∧FmR X.heap.size w' f y o):=ownFarm_any f x X (hf.later HB0.out) (farmRoom_ok hok)
 clear hf hok hX
 go_enter Tryz.func13,Tryz.ntmps13
 go_upto_region 1 with fail
 rw[← HX.out]
 obtain⟨b,hb⟩:∃ b,b=w.heap.size:=⟨_,rfl⟩
 obtain⟨B,hB⟩:∃ B,B=w.heap.size:=⟨_,rfl⟩
 have HBB:Hid (B=w.heap.size∧b=B):=⟨hB,by rw[hb,hB]⟩
 rw[← hb] at h0 h1 h2 ⊢
 rw[← hB] at HB0
 clear hb hB HX
 have hBb:B≤b:=by rw[HBB.out.2];exact Nat.le_refl _
 have lx0:=lt1 h0
 have hBX:B≤X.heap.size:=by have:=HB0.out.size;rw[HBB.out.1];exact this
 obtain⟨c0,c1,c2,c3,c4,c5,c6,c7⟩:=cell8 h0
 go_wp2_with (go_at_call 5;refine KO.out.mono ?_;rintro e X1 ⟨hb1,y,o,rfl,hR1⟩;refine Hid.out ?_)
 have h01:=bl hb1 h0
 have h11:=bl hb1 h1
 have h21:=bl hb1 h2
 obtain⟨X2,hX2,hs1,hs2⟩:=store8e h01 (sv y.p f.parts.length y.pc) (sv y.l f.plan.length y.lc) (iv f.now) (sv y.d f.done.length y.dc) (sv y.h f.got.length y.hc) (sv y.g f.grants.length y.gc) (sv y.k f.work.length y.kc) (sv y.n f.net.length y.nc)
 have HX2:Hid (X2=_):=hX2
 have HO:Hid (FmO B X2 b f y o):=((hR1.base hBX).wr ⟨b,_,h01,hs2⟩).own hBb hs1
 have hq:=(hs2.block _ (lt1 h11) (by simp)).trans h11
 have hz:=(hs2.block _ (lt1 h21) (by simp)).trans h21
 have HB1:Hid (Below B w X2):=(HB0.out.trans (hb1.mono hBX)).grown hs2 (Nat.le_trans hBX hb1.size) (fun k hk=>by cases hk;exact hBb)
 obtain⟨d0,d1,d2,d3,d4,d5,d6,d7⟩:=cell8 h01
 have df:=frozenB h01
 have dl:=lt1 h01
 clear c0 c1 c2 c3 c4 c5 c6 c7 h0 h1 h2 h01 h11 h21 hb1 hR1 HB0 hBX lx0 KO hs1 hs2 hX2
 refine Lib.hid ?_
 go_upto_region 2 with fail
 rw[← HX2.out]
 clear d0 d1 d2 d3 d4 d5 d6 d7 df dl HX2
 clear X X1
 have hbk:=HO.out.blk
 obtain⟨c0,c1,c2,c3,c4,c5,c6,c7⟩:=cell8 hbk
 have q0:=cellC hq 0 rfl
 have q1:=cellC hq 1 rfl
 have q2:=cellC hq 2 rfl
 have lb:=lt1 hbk
 have lq:=lt1 hq
 have lz:=lt1 hz
 have hBX2:B≤X2.heap.size:=Nat.le_of_lt (Nat.lt_of_le_of_lt hBb lb)
 have KF1:Hid (Calls Tryz.prog 45 #[iv 4] X2 fun e w'=>e=.returned (.tuple #[.agg qz,iv 4])∧Below X2.heap.size X2 w'):=KF.out _ _
 clear KF
 go_wp2_with (go_at_call 45;refine KF1.out.mono ?_;rintro e X5 ⟨rfl,hb5⟩;refine Hid.out ?_)
 have hz5:=bl hb5 hz
 have HB5:Hid (Below B w X5):=HB1.out.trans (hb5.mono hBX2)
 obtain⟨r0,r1,r2,r3,r4,r5,r6,r7⟩:=cell8 hz5
 have rf:=frozenB hz5
 have rl:=lt1 hz5
 have HZ5:Hid (_=_):=hz5
 clear hz5 hb5 KF1 hn0 hn1 hnt hw4 lb lq lz
 refine Lib.hid ?_
 go_wp2_with fail
 obtain⟨X6,hX6,hs1,hs2⟩:=storeZ HZ5.out
 rw[← hX6]
 rw[← HRF.out,← HRE.out]
 exact fin_step (f:=M.farm0) (y:=fd0) rfl rfl rfl hs1 (by rw[← HBB.out.1];exact HB5.out.grown hs2 (by have:=HB5.out.size;rw[HBB.out.1];exact this) (fun k hk=>by cases hk;omega)) (farm0_firm _)
theorem FmO.setGrantRow {B b:Nat} {W X:World} {f:M.Farm} {x:Fd} {o:Fo} (h:FmO B W b f x o) (ms:List M.Grt) (a:Option Addr) (c:Nat) (hw:W.grownBy X (sv x.g f.grants.length x.gc).ownBlock)
  (hr:X.ownsRow B 64 2 (sv a ms.length c) ms.length (ms.flatMap encGrt)) :
  FmO B (X.setCell (qa b 5) (sv a ms.length c)) b { f with grants:=ms } { x with g:=a,gc:=c } o:=by
 have kr:∀ (e:TypeId) (k n:Nat) (v:Value) (xs:List Value),W.ownsRow B e k v n xs→e≠64→X.ownsRow B e k v n xs:=fun e k n v xs hx hne=>hx.kept hw (own_apart hx h.rowG hne)
 have kp:∀ e,POwn W B e→POwn X B e:=fun e ⟨en,hP,hm⟩=>⟨en,⟨kr _ _ _ _ _ hP.rowF (by decide),kr _ _ _ _ _ hP.rowD (by decide),fun e he=>kr _ _ _ _ _ (hP.bytes e he) (by decide),hP.small,hP.smallD,fun e he=>kr _ _ _ _ _ (hP.rels e he) (by decide)⟩,hm⟩
 have hb:=block_keptP h.rowG hw h.blk (by decide)
 have wr:Wr X (X.setCell (qa b 5) (sv a ms.length c)) 29:=⟨b,_,hb,grown_set _ _ _ _⟩
 exact⟨setB' hb _,h.bge,wr.row (kr _ _ _ _ _ h.rowP (by decide)) (by decide),h.mapP,wr.row (kr _ _ _ _ _ h.rowL (by decide)) (by decide),wr.row (kr _ _ _ _ _ h.rowD (by decide)) (by decide),wr.row (kr _ _ _ _ _ h.rowH (by decide)) (by decide),h.mapH,
  wr.row hr (by decide),wr.row (kr _ _ _ _ _ h.rowW (by decide)) (by decide),wr.row (kr _ _ _ _ _ h.rowN (by decide)) (by decide),h.mapN,
  fun e he=>wr.pw (kp e (h.ownP e he)) rfl,fun e he=>wr.pw (kp e (h.ownH e he)) rfl,fun e he=>wr.pw (kp e.e (h.ownN e he)) rfl,h.apart⟩
theorem rstep_again (f:M.Farm) (x:Fd) (w:World) (hf:FarmAt w f x) (hok:M.FarmOk f) (wk kk:Int) :
  Calls Tryz.prog 13 #[.agg (qm f x),.agg #[iv 8,iv wk,iv kk]] w (StepTo w ({ f with grants:=List.replicate f.grants.length M.grt0 }) (0)):=by
 obtain⟨RF,hRF⟩:∃ RF,({ f with grants:=List.replicate f.grants.length M.grt0 })=RF:=⟨_,rfl⟩
 obtain⟨RE,hRE⟩:∃ RE:Int,(0)=RE:=⟨_,rfl⟩
 have HRF:Hid (_=RF):=hRF
 have HRE:Hid (_=RE):=hRE
 rw[hRF,hRE]
 clear hRF hRE
 have KF:Hid (∀ W E,Calls Tryz.prog 45 #[iv E] W fun e w'=>e=.returned (.tuple #[.agg qz,iv E])∧Below W.heap.size W w'):=fun W E=>fail_any E W
 have HOk:Hid (M.FarmOk f):=hok
 have hn0:=hok.now0
 have hn1:=hok.now1
 have hnt:=hok.net
 have hw4:=hok.work4
 obtain⟨X,hX⟩:∃ X,X=(((w.alloc (.cells (qm f x) 29)).alloc (.cells #[iv 8,iv wk,iv kk] 31)).alloc (.cells qz 29)):=⟨_,rfl⟩
 have HX:Hid (X=_):=hX
 have h0:X.heap[w.heap.size]?=some (.cells (qm f x) 29 (0,0)):=by rw[hX];exact (heap_alloc_old _ _ (by simp;omega)).trans ((heap_alloc_old _ _ (by simp)).trans (heap_alloc_new w _))
 have h1:X.heap[w.heap.size+1]?=some (.cells #[iv 8,iv wk,iv kk] 31 (0,0)):=by rw[hX];exact (heap_alloc_old _ _ (by simp)).trans (by have:=heap_alloc_new (w.alloc (.cells (qm f x) 29)) (.cells #[iv 8,iv wk,iv kk] 31);simpa using this)
 have h2:X.heap[w.heap.size+2]?=some (.cells qz 29 (0,0)):=by have:=heap_alloc_new ((w.alloc (.cells (qm f x) 29)).alloc (.cells #[iv 8,iv wk,iv kk] 31)) (.cells qz 29);rw[hX];simpa using this
 have HB0:Hid (Below w.heap.size w X):=by rw[Hid,hX];exact (((Below.refl _ _).alloc (Nat.le_refl _) _).alloc (by simp) _).alloc (by simp;omega) _
 have KO:Hid (Calls Tryz.prog 5 #[.agg (qm f x)] X fun e w'=>Below X.heap.size X w'∧∃ y o,e=.returned (.agg (qm f y))∧FmR X.heap.size w' f y o):=ownFarm_any f x X (hf.later HB0.out) (farmRoom_ok hok)
 clear hf hok hX
 go_enter Tryz.func13,Tryz.ntmps13
 go_upto_region 1 with fail
 rw[← HX.out]
 obtain⟨b,hb⟩:∃ b,b=w.heap.size:=⟨_,rfl⟩
 obtain⟨B,hB⟩:∃ B,B=w.heap.size:=⟨_,rfl⟩
 have HBB:Hid (B=w.heap.size∧b=B):=⟨hB,by rw[hb,hB]⟩
 rw[← hb] at h0 h1 h2 ⊢
 rw[← hB] at HB0
 clear hb hB HX
 have hBb:B≤b:=by rw[HBB.out.2];exact Nat.le_refl _
 have lx0:=lt1 h0
 have hBX:B≤X.heap.size:=by have:=HB0.out.size;rw[HBB.out.1];exact this
 obtain⟨c0,c1,c2,c3,c4,c5,c6,c7⟩:=cell8 h0
 go_wp2_with (go_at_call 5;refine KO.out.mono ?_;rintro e X1 ⟨hb1,y,o,rfl,hR1⟩;refine Hid.out ?_)
 have h01:=bl hb1 h0
 have h11:=bl hb1 h1
 have h21:=bl hb1 h2
 obtain⟨X2,hX2,hs1,hs2⟩:=store8e h01 (sv y.p f.parts.length y.pc) (sv y.l f.plan.length y.lc) (iv f.now) (sv y.d f.done.length y.dc) (sv y.h f.got.length y.hc) (sv y.g f.grants.length y.gc) (sv y.k f.work.length y.kc) (sv y.n f.net.length y.nc)
 have HX2:Hid (X2=_):=hX2
 have HO:Hid (FmO B X2 b f y o):=((hR1.base hBX).wr ⟨b,_,h01,hs2⟩).own hBb hs1
 have hq:=(hs2.block _ (lt1 h11) (by simp)).trans h11
 have hz:=(hs2.block _ (lt1 h21) (by simp)).trans h21
 have HB1:Hid (Below B w X2):=(HB0.out.trans (hb1.mono hBX)).grown hs2 (Nat.le_trans hBX hb1.size) (fun k hk=>by cases hk;exact hBb)
 obtain⟨d0,d1,d2,d3,d4,d5,d6,d7⟩:=cell8 h01
 have df:=frozenB h01
 have dl:=lt1 h01
 clear c0 c1 c2 c3 c4 c5 c6 c7 h0 h1 h2 h01 h11 h21 hb1 hR1 HB0 hBX lx0 KO hs1 hs2 hX2
 refine Lib.hid ?_
 go_upto_region 2 with fail
 rw[← HX2.out]
 clear d0 d1 d2 d3 d4 d5 d6 d7 df dl HX2
 clear X X1
 have hbk:=HO.out.blk
 obtain⟨c0,c1,c2,c3,c4,c5,c6,c7⟩:=cell8 hbk
 have q0:=cellC hq 0 rfl
 have q1:=cellC hq 1 rfl
 have q2:=cellC hq 2 rfl
 have lb:=lt1 hbk
 have lq:=lt1 hq
 have lz:=lt1 hz
 have hBX2:B≤X2.heap.size:=Nat.le_of_lt (Nat.lt_of_le_of_lt hBb lb)
 obtain⟨iG,hiG,hG0,hG1,hG2⟩:=info_parts (P:=Tryz.prog) (e:=64) (z:=.agg #[iv 0,iv 0]) (size:=2) (bytes:=16) (by kernel_rfl)
 have hgl:f.grants.length≤23:=by rw[HOk.out.grants];exact (farm_small HOk.out).1
 obtain⟨W2,hmk,hrow,hgr⟩:=run_makeSlice_full X2 B 25 64 iG (.agg #[iv 0,iv 0]) 2 Tryz.underlying25 hiG hG0 hG1 .i64 .i64 f.grants.length (by omega) (by rw[hG2];omega) (by unfold maxLen;omega) hBX2
 have hb2:Below X2.heap.size X2 W2:=(Below.refl _ _).grown hgr (Nat.le_refl _) (fun k hk=>by cases hk)
 rw[show (Value.cells (.agg #[iv 0,iv 0]))=#[iv 0,iv 0] from rfl,made_flat2 encGrt M.grt0 (iv 0) (iv 0) rfl f.grants.length] at hrow
 have hbk2:=(hb2.block _ (lt1 hbk)).trans hbk
 have HO6:Hid (FmO B (W2.setCell (qa b 5) (sv (some (qa X2.heap.size 0)) f.grants.length f.grants.length)) b { f with grants:=List.replicate f.grants.length M.grt0 } { y with g:=some (qa X2.heap.size 0),gc:=f.grants.length } o):=by
  have:=HO.out.setGrantRow (List.replicate f.grants.length M.grt0) (some (qa X2.heap.size 0)) f.grants.length (grown_of_below hb2 _) (by rw[List.length_replicate];exact hrow)
  rw[List.length_replicate] at this
  exact this
 have HB6:Hid (Below B w (W2.setCell (qa b 5) (sv (some (qa X2.heap.size 0)) f.grants.length f.grants.length))):=(HB1.out.trans (hb2.mono hBX2)).setCell hBb _
 have hz6:(W2.setCell (qa b 5) (sv (some (qa X2.heap.size 0)) f.grants.length f.grants.length)).heap[b+2]?=some (.cells qz 29 (0,0)):=(Below.heap_setCell _ _ _ _ (by show b+2≠b;omega)).trans ((hb2.block _ lz).trans hz)
 have k5:=cellC hbk2 5 rfl
 have hf5:=frozenB hbk2 5
 have lb2:=lt1 hbk2
 obtain⟨f6,hf6⟩:∃ f6,({ f with grants:=List.replicate f.grants.length M.grt0 } : M.Farm)=f6:=⟨_,rfl⟩
 obtain⟨y6,hy6⟩:∃ y6,({ y with g:=some (qa X2.heap.size 0),gc:=f.grants.length } : Fd)=y6:=⟨_,rfl⟩
 have HF6:Hid (f6=RF):=hf6.symm.trans HRF.out
 rw[hf6,hy6] at HO6
 clear hf6 hy6 hrow hgr hb2 KF hbk hbk2 hz hq HO HB1 hgl
 go_upto_region 62 with fail
 clear c0 c1 c2 c3 c4 c5 c6 c7 q0 q1 q2 lb lq lz k5 hf5 lb2 hmk
 generalize (W2.setCell (qa b 5) (sv (some (qa X2.heap.size 0)) f.grants.length f.grants.length))=X6 at *
 have hbk6:=HO6.out.blk
 obtain⟨e0,e1,e2,e3,e4,e5,e6,e7⟩:=cell8 hbk6
 obtain⟨r0,r1,r2,r3,r4,r5,r6,r7⟩:=cell8 hz6
 have rf:=frozenB hz6
 have rl:=lt1 hz6
 have rb:=lt1 hbk6
 have HZ6:Hid (_=_):=hz6
 clear hbk6 hz6
 go_wp2_with fail
 obtain⟨X7,hX7,hs1,hs2⟩:=store8e HZ6.out (sv y6.p f6.parts.length y6.pc) (sv y6.l f6.plan.length y6.lc) (iv f6.now) (sv y6.d f6.done.length y6.dc) (sv y6.h f6.got.length y6.hc) (sv y6.g f6.grants.length y6.gc) (sv y6.k f6.work.length y6.kc) (sv y6.n f6.net.length y6.nc)
 rw[← hX7]
 rw[← HRE.out,← HF6.out]
 exact fin_step rfl rfl rfl hs1 (by rw[← HBB.out.1];exact HB6.out.grown hs2 (by have:=HB6.out.size;rw[HBB.out.1];exact this) (fun k hk=>by cases hk;omega)) ((HO6.out.rows.wr ⟨b+2,_,HZ6.out,hs2⟩).firm)
theorem rstep_who (f:M.Farm) (x:Fd) (w:World) (hf:FarmAt w f x) (hok:M.FarmOk f) (kd wk kk:Int) (hk:kd=1∨kd=2∨kd=7) (hr:M.inR wk 0 ((f.work.length:Int) - 1)=false) :
  Calls Tryz.prog 13 #[.agg (qm f x),.agg #[iv kd,iv wk,iv kk]] w (StepTo w (M.farm0) (5)):=by
 obtain⟨RF,hRF⟩:∃ RF,(M.farm0)=RF:=⟨_,rfl⟩
 obtain⟨RE,hRE⟩:∃ RE:Int,(5)=RE:=⟨_,rfl⟩
 have HRF:Hid (_=RF):=hRF
 have HRE:Hid (_=RE):=hRE
 rw[hRF,hRE]
 clear hRF hRE
 have KF:Hid (∀ W E,Calls Tryz.prog 45 #[iv E] W fun e w'=>e=.returned (.tuple #[.agg qz,iv E])∧Below W.heap.size W w'):=fun W E=>fail_any E W
 have HOk:Hid (M.FarmOk f):=hok
 have hn0:=hok.now0
 have hn1:=hok.now1
 have hnt:=hok.net
 have hw4:=hok.work4
 obtain⟨X,hX⟩:∃ X,X=(((w.alloc (.cells (qm f x) 29)).alloc (.cells #[iv kd,iv wk,iv kk] 31)).alloc (.cells qz 29)):=⟨_,rfl⟩
 have HX:Hid (X=_):=hX
 have h0:X.heap[w.heap.size]?=some (.cells (qm f x) 29 (0,0)):=by rw[hX];exact (heap_alloc_old _ _ (by simp;omega)).trans ((heap_alloc_old _ _ (by simp)).trans (heap_alloc_new w _))
 have h1:X.heap[w.heap.size+1]?=some (.cells #[iv kd,iv wk,iv kk] 31 (0,0)):=by rw[hX];exact (heap_alloc_old _ _ (by simp)).trans (by have:=heap_alloc_new (w.alloc (.cells (qm f x) 29)) (.cells #[iv kd,iv wk,iv kk] 31);simpa using this)
 have h2:X.heap[w.heap.size+2]?=some (.cells qz 29 (0,0)):=by have:=heap_alloc_new ((w.alloc (.cells (qm f x) 29)).alloc (.cells #[iv kd,iv wk,iv kk] 31)) (.cells qz 29);rw[hX];simpa using this
 have HB0:Hid (Below w.heap.size w X):=by rw[Hid,hX];exact (((Below.refl _ _).alloc (Nat.le_refl _) _).alloc (by simp) _).alloc (by simp;omega) _
 have KO:Hid (Calls Tryz.prog 5 #[.agg (qm f x)] X fun e w'=>Below X.heap.size X w'∧∃ y o,e=.returned (.agg (qm f y))∧FmR X.heap.size w' f y o):=ownFarm_any f x X (hf.later HB0.out) (farmRoom_ok hok)
 clear hf hok hX
 go_enter Tryz.func13,Tryz.ntmps13
 go_upto_region 1 with fail
 rw[← HX.out]
 obtain⟨b,hb⟩:∃ b,b=w.heap.size:=⟨_,rfl⟩
 obtain⟨B,hB⟩:∃ B,B=w.heap.size:=⟨_,rfl⟩
 have HBB:Hid (B=w.heap.size∧b=B):=⟨hB,by rw[hb,hB]⟩
 rw[← hb] at h0 h1 h2 ⊢
 rw[← hB] at HB0
 clear hb hB HX
 have hBb:B≤b:=by rw[HBB.out.2];exact Nat.le_refl _
 have lx0:=lt1 h0
 have hBX:B≤X.heap.size:=by have:=HB0.out.size;rw[HBB.out.1];exact this
 obtain⟨c0,c1,c2,c3,c4,c5,c6,c7⟩:=cell8 h0
 go_wp2_with (go_at_call 5;refine KO.out.mono ?_;rintro e X1 ⟨hb1,y,o,rfl,hR1⟩;refine Hid.out ?_)
 have h01:=bl hb1 h0
 have h11:=bl hb1 h1
 have h21:=bl hb1 h2
 obtain⟨X2,hX2,hs1,hs2⟩:=store8e h01 (sv y.p f.parts.length y.pc) (sv y.l f.plan.length y.lc) (iv f.now) (sv y.d f.done.length y.dc) (sv y.h f.got.length y.hc) (sv y.g f.grants.length y.gc) (sv y.k f.work.length y.kc) (sv y.n f.net.length y.nc)
 have HX2:Hid (X2=_):=hX2
 have HO:Hid (FmO B X2 b f y o):=((hR1.base hBX).wr ⟨b,_,h01,hs2⟩).own hBb hs1
 have hq:=(hs2.block _ (lt1 h11) (by simp)).trans h11
 have hz:=(hs2.block _ (lt1 h21) (by simp)).trans h21
 have HB1:Hid (Below B w X2):=(HB0.out.trans (hb1.mono hBX)).grown hs2 (Nat.le_trans hBX hb1.size) (fun k hk=>by cases hk;exact hBb)
 obtain⟨d0,d1,d2,d3,d4,d5,d6,d7⟩:=cell8 h01
 have df:=frozenB h01
 have dl:=lt1 h01
 clear c0 c1 c2 c3 c4 c5 c6 c7 h0 h1 h2 h01 h11 h21 hb1 hR1 HB0 hBX lx0 KO hs1 hs2 hX2
 refine Lib.hid ?_
 go_upto_region 2 with fail
 rw[← HX2.out]
 clear d0 d1 d2 d3 d4 d5 d6 d7 df dl HX2
 clear X X1
 have hbk:=HO.out.blk
 obtain⟨c0,c1,c2,c3,c4,c5,c6,c7⟩:=cell8 hbk
 have q0:=cellC hq 0 rfl
 have q1:=cellC hq 1 rfl
 have q2:=cellC hq 2 rfl
 have lb:=lt1 hbk
 have lq:=lt1 hq
 have lz:=lt1 hz
 have hBX2:B≤X2.heap.size:=Nat.le_of_lt (Nat.lt_of_le_of_lt hBb lb)
 have hr2:¬ (0≤wk∧wk≤(f.work.length:Int) - 1):=fun h=>by rw[(M.inR_iff _ _ _).2 h] at hr;cases hr
 clear hr hbk hq HO
 by_cases hw0:wk<0
 ·clear hr2
  rcases hk with rfl | rfl | rfl
  all_goals
   have KF1:Hid (Calls Tryz.prog 45 #[iv 5] X2 fun e w'=>e=.returned (.tuple #[.agg qz,iv 5])∧Below X2.heap.size X2 w'):=KF.out _ _
   clear KF
   go_wp2_with (go_at_call 45;refine KF1.out.mono ?_;rintro e X5 ⟨rfl,hb5⟩;refine Hid.out ?_)
   have hz5:=bl hb5 hz
   have HB5:Hid (Below B w X5):=HB1.out.trans (hb5.mono hBX2)
   obtain⟨r0,r1,r2,r3,r4,r5,r6,r7⟩:=cell8 hz5
   have rf:=frozenB hz5
   have rl:=lt1 hz5
   have HZ5:Hid (_=_):=hz5
   clear hz5 hb5 KF1 hn0 hn1 hnt hw4 lb lq lz hw0 c0 c1 c2 c3 c4 c5 c6 c7 q0 q1 q2
   refine Lib.hid ?_
   go_wp2_with fail
   obtain⟨X6,hX6,hs1,hs2⟩:=storeZ HZ5.out
   rw[← hX6]
   rw[← HRF.out,← HRE.out]
   exact fin_step (f:=M.farm0) (y:=fd0) rfl rfl rfl hs1 (by rw[← HBB.out.1];exact HB5.out.grown hs2 (by have:=HB5.out.size;rw[HBB.out.1];exact this) (fun k hk=>by cases hk;omega)) (farm0_firm _)
 ·have hw1:(f.work.length:Int)≤wk:=by omega
  clear hr2
  rcases hk with rfl | rfl | rfl
  all_goals
   have KF1:Hid (Calls Tryz.prog 45 #[iv 5] X2 fun e w'=>e=.returned (.tuple #[.agg qz,iv 5])∧Below X2.heap.size X2 w'):=KF.out _ _
   clear KF
   go_wp2_with (go_at_call 45;refine KF1.out.mono ?_;rintro e X5 ⟨rfl,hb5⟩;refine Hid.out ?_)
   have hz5:=bl hb5 hz
   have HB5:Hid (Below B w X5):=HB1.out.trans (hb5.mono hBX2)
   obtain⟨r0,r1,r2,r3,r4,r5,r6,r7⟩:=cell8 hz5
   have rf:=frozenB hz5
   have rl:=lt1 hz5
   have HZ5:Hid (_=_):=hz5
   clear hz5 hb5 KF1 hn0 hn1 hnt hw4 lb lq lz hw0 hw1 c0 c1 c2 c3 c4 c5 c6 c7 q0 q1 q2
   refine Lib.hid ?_
   go_wp2_with fail
   obtain⟨X6,hX6,hs1,hs2⟩:=storeZ HZ5.out
   rw[← hX6]
   rw[← HRF.out,← HRE.out]
   exact fin_step (f:=M.farm0) (y:=fd0) rfl rfl rfl hs1 (by rw[← HBB.out.1];exact HB5.out.grown hs2 (by have:=HB5.out.size;rw[HBB.out.1];exact this) (fun k hk=>by cases hk;omega)) (farm0_firm _)
theorem rstep_which (f:M.Farm) (x:Fd) (w:World) (hf:FarmAt w f x) (hok:M.FarmOk f) (kd wk kk:Int) (hk:kd=3∨kd=4∨kd=5) (hr:M.inR kk 0 ((f.net.length:Int) - 1)=false) :
  Calls Tryz.prog 13 #[.agg (qm f x),.agg #[iv kd,iv wk,iv kk]] w (StepTo w (M.farm0) (5)):=by
 obtain⟨RF,hRF⟩:∃ RF,(M.farm0)=RF:=⟨_,rfl⟩
 obtain⟨RE,hRE⟩:∃ RE:Int,(5)=RE:=⟨_,rfl⟩
 have HRF:Hid (_=RF):=hRF
 have HRE:Hid (_=RE):=hRE
 rw[hRF,hRE]
 clear hRF hRE
 have KF:Hid (∀ W E,Calls Tryz.prog 45 #[iv E] W fun e w'=>e=.returned (.tuple #[.agg qz,iv E])∧Below W.heap.size W w'):=fun W E=>fail_any E W
 have HOk:Hid (M.FarmOk f):=hok
 have hn0:=hok.now0
 have hn1:=hok.now1
 have hnt:=hok.net
 have hw4:=hok.work4
 obtain⟨X,hX⟩:∃ X,X=(((w.alloc (.cells (qm f x) 29)).alloc (.cells #[iv kd,iv wk,iv kk] 31)).alloc (.cells qz 29)):=⟨_,rfl⟩
 have HX:Hid (X=_):=hX
 have h0:X.heap[w.heap.size]?=some (.cells (qm f x) 29 (0,0)):=by rw[hX];exact (heap_alloc_old _ _ (by simp;omega)).trans ((heap_alloc_old _ _ (by simp)).trans (heap_alloc_new w _))
 have h1:X.heap[w.heap.size+1]?=some (.cells #[iv kd,iv wk,iv kk] 31 (0,0)):=by rw[hX];exact (heap_alloc_old _ _ (by simp)).trans (by have:=heap_alloc_new (w.alloc (.cells (qm f x) 29)) (.cells #[iv kd,iv wk,iv kk] 31);simpa using this)
 have h2:X.heap[w.heap.size+2]?=some (.cells qz 29 (0,0)):=by have:=heap_alloc_new ((w.alloc (.cells (qm f x) 29)).alloc (.cells #[iv kd,iv wk,iv kk] 31)) (.cells qz 29);rw[hX];simpa using this
 have HB0:Hid (Below w.heap.size w X):=by rw[Hid,hX];exact (((Below.refl _ _).alloc (Nat.le_refl _) _).alloc (by simp) _).alloc (by simp;omega) _
 have KO:Hid (Calls Tryz.prog 5 #[.agg (qm f x)] X fun e w'=>Below X.heap.size X w'∧∃ y o,e=.returned (.agg (qm f y))∧FmR X.heap.size w' f y o):=ownFarm_any f x X (hf.later HB0.out) (farmRoom_ok hok)
 clear hf hok hX
 go_enter Tryz.func13,Tryz.ntmps13
 go_upto_region 1 with fail
 rw[← HX.out]
 obtain⟨b,hb⟩:∃ b,b=w.heap.size:=⟨_,rfl⟩
 obtain⟨B,hB⟩:∃ B,B=w.heap.size:=⟨_,rfl⟩
 have HBB:Hid (B=w.heap.size∧b=B):=⟨hB,by rw[hb,hB]⟩
 rw[← hb] at h0 h1 h2 ⊢
 rw[← hB] at HB0
 clear hb hB HX
 have hBb:B≤b:=by rw[HBB.out.2];exact Nat.le_refl _
 have lx0:=lt1 h0
 have hBX:B≤X.heap.size:=by have:=HB0.out.size;rw[HBB.out.1];exact this
 obtain⟨c0,c1,c2,c3,c4,c5,c6,c7⟩:=cell8 h0
 go_wp2_with (go_at_call 5;refine KO.out.mono ?_;rintro e X1 ⟨hb1,y,o,rfl,hR1⟩;refine Hid.out ?_)
 have h01:=bl hb1 h0
 have h11:=bl hb1 h1
 have h21:=bl hb1 h2
 obtain⟨X2,hX2,hs1,hs2⟩:=store8e h01 (sv y.p f.parts.length y.pc) (sv y.l f.plan.length y.lc) (iv f.now) (sv y.d f.done.length y.dc) (sv y.h f.got.length y.hc) (sv y.g f.grants.length y.gc) (sv y.k f.work.length y.kc) (sv y.n f.net.length y.nc)
 have HX2:Hid (X2=_):=hX2
 have HO:Hid (FmO B X2 b f y o):=((hR1.base hBX).wr ⟨b,_,h01,hs2⟩).own hBb hs1
 have hq:=(hs2.block _ (lt1 h11) (by simp)).trans h11
 have hz:=(hs2.block _ (lt1 h21) (by simp)).trans h21
 have HB1:Hid (Below B w X2):=(HB0.out.trans (hb1.mono hBX)).grown hs2 (Nat.le_trans hBX hb1.size) (fun k hk=>by cases hk;exact hBb)
 obtain⟨d0,d1,d2,d3,d4,d5,d6,d7⟩:=cell8 h01
 have df:=frozenB h01
 have dl:=lt1 h01
 clear c0 c1 c2 c3 c4 c5 c6 c7 h0 h1 h2 h01 h11 h21 hb1 hR1 HB0 hBX lx0 KO hs1 hs2 hX2
 refine Lib.hid ?_
 go_upto_region 2 with fail
 rw[← HX2.out]
 clear d0 d1 d2 d3 d4 d5 d6 d7 df dl HX2
 clear X X1
 have hbk:=HO.out.blk
 obtain⟨c0,c1,c2,c3,c4,c5,c6,c7⟩:=cell8 hbk
 have q0:=cellC hq 0 rfl
 have q1:=cellC hq 1 rfl
 have q2:=cellC hq 2 rfl
 have lb:=lt1 hbk
 have lq:=lt1 hq
 have lz:=lt1 hz
 have hBX2:B≤X2.heap.size:=Nat.le_of_lt (Nat.lt_of_le_of_lt hBb lb)
 have hr2:¬ (0≤kk∧kk≤(f.net.length:Int) - 1):=fun h=>by rw[(M.inR_iff _ _ _).2 h] at hr;cases hr
 clear hr hbk hq HO
 by_cases hw0:kk<0
 ·clear hr2
  rcases hk with rfl | rfl | rfl
  all_goals
   have KF1:Hid (Calls Tryz.prog 45 #[iv 5] X2 fun e w'=>e=.returned (.tuple #[.agg qz,iv 5])∧Below X2.heap.size X2 w'):=KF.out _ _
   clear KF
   go_wp2_with (go_at_call 45;refine KF1.out.mono ?_;rintro e X5 ⟨rfl,hb5⟩;refine Hid.out ?_)
   have hz5:=bl hb5 hz
   have HB5:Hid (Below B w X5):=HB1.out.trans (hb5.mono hBX2)
   obtain⟨r0,r1,r2,r3,r4,r5,r6,r7⟩:=cell8 hz5
   have rf:=frozenB hz5
   have rl:=lt1 hz5
   have HZ5:Hid (_=_):=hz5
   clear hz5 hb5 KF1 hn0 hn1 hnt hw4 lb lq lz hw0 c0 c1 c2 c3 c4 c5 c6 c7 q0 q1 q2
   refine Lib.hid ?_
   go_wp2_with fail
   obtain⟨X6,hX6,hs1,hs2⟩:=storeZ HZ5.out
   rw[← hX6]
   rw[← HRF.out,← HRE.out]
   exact fin_step (f:=M.farm0) (y:=fd0) rfl rfl rfl hs1 (by rw[← HBB.out.1];exact HB5.out.grown hs2 (by have:=HB5.out.size;rw[HBB.out.1];exact this) (fun k hk=>by cases hk;omega)) (farm0_firm _)
 ·have hw1:(f.net.length:Int)≤kk:=by omega
  clear hr2
  rcases hk with rfl | rfl | rfl
  all_goals
   have KF1:Hid (Calls Tryz.prog 45 #[iv 5] X2 fun e w'=>e=.returned (.tuple #[.agg qz,iv 5])∧Below X2.heap.size X2 w'):=KF.out _ _
   clear KF
   go_wp2_with (go_at_call 45;refine KF1.out.mono ?_;rintro e X5 ⟨rfl,hb5⟩;refine Hid.out ?_)
   have hz5:=bl hb5 hz
   have HB5:Hid (Below B w X5):=HB1.out.trans (hb5.mono hBX2)
   obtain⟨r0,r1,r2,r3,r4,r5,r6,r7⟩:=cell8 hz5
   have rf:=frozenB hz5
   have rl:=lt1 hz5
   have HZ5:Hid (_=_):=hz5
   clear hz5 hb5 KF1 hn0 hn1 hnt hw4 lb lq lz hw0 hw1 c0 c1 c2 c3 c4 c5 c6 c7 q0 q1 q2
   refine Lib.hid ?_
   go_wp2_with fail
   obtain⟨X6,hX6,hs1,hs2⟩:=storeZ HZ5.out
   rw[← hX6]
   rw[← HRF.out,← HRE.out]
   exact fin_step (f:=M.farm0) (y:=fd0) rfl rfl rfl hs1 (by rw[← HBB.out.1];exact HB5.out.grown hs2 (by have:=HB5.out.size;rw[HBB.out.1];exact this) (fun k hk=>by cases hk;omega)) (farm0_firm _)
theorem rstep_fall (f:M.Farm) (x:Fd) (w:World) (hf:FarmAt w f x) (hok:M.FarmOk f) (wn:Nat) (kk:Int) (hwn:wn<f.work.length) :
  Calls Tryz.prog 13 #[.agg (qm f x),.agg #[iv 7,iv wn,iv kk]] w (StepTo w (M.idled f wn) (0)):=by
 obtain⟨RF,hRF⟩:∃ RF,(M.idled f wn)=RF:=⟨_,rfl⟩
 obtain⟨RE,hRE⟩:∃ RE:Int,(0)=RE:=⟨_,rfl⟩
 have HRF:Hid (_=RF):=hRF
 have HRE:Hid (_=RE):=hRE
 rw[hRF,hRE]
 clear hRF hRE
 have KF:Hid (∀ W E,Calls Tryz.prog 45 #[iv E] W fun e w'=>e=.returned (.tuple #[.agg qz,iv E])∧Below W.heap.size W w'):=fun W E=>fail_any E W
 have HOk:Hid (M.FarmOk f):=hok
 have hn0:=hok.now0
 have hn1:=hok.now1
 have hnt:=hok.net
 have hw4:=hok.work4
 obtain⟨X,hX⟩:∃ X,X=(((w.alloc (.cells (qm f x) 29)).alloc (.cells #[iv 7,iv wn,iv kk] 31)).alloc (.cells qz 29)):=⟨_,rfl⟩
 have HX:Hid (X=_):=hX
 have h0:X.heap[w.heap.size]?=some (.cells (qm f x) 29 (0,0)):=by rw[hX];exact (heap_alloc_old _ _ (by simp;omega)).trans ((heap_alloc_old _ _ (by simp)).trans (heap_alloc_new w _))
 have h1:X.heap[w.heap.size+1]?=some (.cells #[iv 7,iv wn,iv kk] 31 (0,0)):=by rw[hX];exact (heap_alloc_old _ _ (by simp)).trans (by have:=heap_alloc_new (w.alloc (.cells (qm f x) 29)) (.cells #[iv 7,iv wn,iv kk] 31);simpa using this)
 have h2:X.heap[w.heap.size+2]?=some (.cells qz 29 (0,0)):=by have:=heap_alloc_new ((w.alloc (.cells (qm f x) 29)).alloc (.cells #[iv 7,iv wn,iv kk] 31)) (.cells qz 29);rw[hX];simpa using this
 have HB0:Hid (Below w.heap.size w X):=by rw[Hid,hX];exact (((Below.refl _ _).alloc (Nat.le_refl _) _).alloc (by simp) _).alloc (by simp;omega) _
 have KO:Hid (Calls Tryz.prog 5 #[.agg (qm f x)] X fun e w'=>Below X.heap.size X w'∧∃ y o,e=.returned (.agg (qm f y))∧FmR X.heap.size w' f y o):=ownFarm_any f x X (hf.later HB0.out) (farmRoom_ok hok)
 clear hf hok hX
 go_enter Tryz.func13,Tryz.ntmps13
 go_upto_region 1 with fail
 rw[← HX.out]
 obtain⟨b,hb⟩:∃ b,b=w.heap.size:=⟨_,rfl⟩
 obtain⟨B,hB⟩:∃ B,B=w.heap.size:=⟨_,rfl⟩
 have HBB:Hid (B=w.heap.size∧b=B):=⟨hB,by rw[hb,hB]⟩
 rw[← hb] at h0 h1 h2 ⊢
 rw[← hB] at HB0
 clear hb hB HX
 have hBb:B≤b:=by rw[HBB.out.2];exact Nat.le_refl _
 have lx0:=lt1 h0
 have hBX:B≤X.heap.size:=by have:=HB0.out.size;rw[HBB.out.1];exact this
 obtain⟨c0,c1,c2,c3,c4,c5,c6,c7⟩:=cell8 h0
 go_wp2_with (go_at_call 5;refine KO.out.mono ?_;rintro e X1 ⟨hb1,y,o,rfl,hR1⟩;refine Hid.out ?_)
 have h01:=bl hb1 h0
 have h11:=bl hb1 h1
 have h21:=bl hb1 h2
 obtain⟨X2,hX2,hs1,hs2⟩:=store8e h01 (sv y.p f.parts.length y.pc) (sv y.l f.plan.length y.lc) (iv f.now) (sv y.d f.done.length y.dc) (sv y.h f.got.length y.hc) (sv y.g f.grants.length y.gc) (sv y.k f.work.length y.kc) (sv y.n f.net.length y.nc)
 have HX2:Hid (X2=_):=hX2
 have HO:Hid (FmO B X2 b f y o):=((hR1.base hBX).wr ⟨b,_,h01,hs2⟩).own hBb hs1
 have hq:=(hs2.block _ (lt1 h11) (by simp)).trans h11
 have hz:=(hs2.block _ (lt1 h21) (by simp)).trans h21
 have HB1:Hid (Below B w X2):=(HB0.out.trans (hb1.mono hBX)).grown hs2 (Nat.le_trans hBX hb1.size) (fun k hk=>by cases hk;exact hBb)
 obtain⟨d0,d1,d2,d3,d4,d5,d6,d7⟩:=cell8 h01
 have df:=frozenB h01
 have dl:=lt1 h01
 clear c0 c1 c2 c3 c4 c5 c6 c7 h0 h1 h2 h01 h11 h21 hb1 hR1 HB0 hBX lx0 KO hs1 hs2 hX2
 refine Lib.hid ?_
 go_upto_region 2 with fail
 rw[← HX2.out]
 clear d0 d1 d2 d3 d4 d5 d6 d7 df dl HX2
 clear X X1
 have hbk:=HO.out.blk
 obtain⟨c0,c1,c2,c3,c4,c5,c6,c7⟩:=cell8 hbk
 have q0:=cellC hq 0 rfl
 have q1:=cellC hq 1 rfl
 have q2:=cellC hq 2 rfl
 have lb:=lt1 hbk
 have lq:=lt1 hq
 have lz:=lt1 hz
 have hBX2:B≤X2.heap.size:=Nat.le_of_lt (Nat.lt_of_le_of_lt hBb lb)
 have hwI:(wn:Int)<(f.work.length:Int):=by omega
 have hwJ:¬ (f.work.length:Int)≤(wn:Int):=by omega
 have hw0:¬ (wn:Int)<0:=by omega
 obtain⟨g,hg,e0,fz,lg⟩:=IntsAt.own HO.out.rowW wn hwn
 have c6':X2.cell? (qa b 6)=some (sv (some (qa g 0)) f.work.length y.kc):=by rw[← hg];exact c6
 have Hg:Hid (y.k=some (qa g 0)):=hg
 have Hwn:Hid (wn<f.work.length):=hwn
 clear c6 hg hwn
 obtain⟨hS1,hS2,hS3⟩:=HO.out.setWork g wn Hg.out Hwn.out (-1)
 obtain⟨cs,hcs⟩:=row_typed (by have:=HO.out.rowW;rw[Hg.out] at this;exact this)
 have wr6:Wr X2 (X2.setCell (qa g wn) (iv (-1))) 3:=⟨g,cs,hcs,grown_set _ _ _ _⟩
 have HO6:Hid (FmO B (X2.setCell (qa g wn) (iv (-1))) b (M.idled f wn) y o):=hS1
 have HB6:Hid (Below B w (X2.setCell (qa g wn) (iv (-1)))):=HB1.out.trans hS2
 have hz6:=wr6.block hz (by decide)
 obtain⟨f6,hf6⟩:∃ f6,M.idled f wn=f6:=⟨_,rfl⟩
 have HF6:Hid (f6=RF):=hf6.symm.trans HRF.out
 rw[hf6] at HO6
 clear hf6 hS1 hS2 hS3 wr6 hcs KF hbk hz hq HO HB1
 clear cs
 generalize f.work.getD wn 0=t0 at *
 go_upto_region 62 with fail
 clear c0 c1 c2 c3 c4 c5 c6' c7 q0 q1 q2 lb lq lz e0 fz lg hwI hwJ hw0
 generalize (X2.setCell (qa g wn) (iv (-1)))=X6 at *
 have hbk6:=HO6.out.blk
 obtain⟨e0,e1,e2,e3,e4,e5,e6,e7⟩:=cell8 hbk6
 obtain⟨r0,r1,r2,r3,r4,r5,r6,r7⟩:=cell8 hz6
 have rf:=frozenB hz6
 have rl:=lt1 hz6
 have rb:=lt1 hbk6
 have HZ6:Hid (_=_):=hz6
 clear hbk6 hz6
 go_wp2_with fail
 obtain⟨X7,hX7,hs1,hs2⟩:=store8e HZ6.out (sv y.p f6.parts.length y.pc) (sv y.l f6.plan.length y.lc) (iv f6.now) (sv y.d f6.done.length y.dc) (sv y.h f6.got.length y.hc) (sv y.g f6.grants.length y.gc) (sv y.k f6.work.length y.kc) (sv y.n f6.net.length y.nc)
 rw[← hX7]
 rw[← HRE.out,← HF6.out]
 exact fin_step rfl rfl rfl hs1 (by rw[← HBB.out.1];exact HB6.out.grown hs2 (by have:=HB6.out.size;rw[HBB.out.1];exact this) (fun k hk=>by cases hk;omega)) ((HO6.out.rows.wr ⟨b+2,_,HZ6.out,hs2⟩).firm)
theorem rstep_double (f:M.Farm) (x:Fd) (w:World) (hf:FarmAt w f x) (hok:M.FarmOk f) (wk:Int) (kn:Nat) (hkn:kn<f.net.length) :
  Calls Tryz.prog 13 #[.agg (qm f x),.agg #[iv 5,iv wk,iv kn]] w (StepTo w (if 20≤f.net.length then M.farm0 else { f with net:=f.net ++ [f.net.getD kn M.msg0] }) (if 20≤f.net.length then 10 else 0)):=by
 obtain⟨RF,hRF⟩:∃ RF,(if 20≤f.net.length then M.farm0 else { f with net:=f.net ++ [f.net.getD kn M.msg0] })=RF:=⟨_,rfl⟩
 obtain⟨RE,hRE⟩:∃ RE:Int,(if 20≤f.net.length then 10 else 0)=RE:=⟨_,rfl⟩
 have HRF:Hid (_=RF):=hRF
 have HRE:Hid (_=RE):=hRE
 rw[hRF,hRE]
 clear hRF hRE
 have KF:Hid (∀ W E,Calls Tryz.prog 45 #[iv E] W fun e w'=>e=.returned (.tuple #[.agg qz,iv E])∧Below W.heap.size W w'):=fun W E=>fail_any E W
 have HOk:Hid (M.FarmOk f):=hok
 have hn0:=hok.now0
 have hn1:=hok.now1
 have hnt:=hok.net
 have hw4:=hok.work4
 obtain⟨X,hX⟩:∃ X,X=(((w.alloc (.cells (qm f x) 29)).alloc (.cells #[iv 5,iv wk,iv kn] 31)).alloc (.cells qz 29)):=⟨_,rfl⟩
 have HX:Hid (X=_):=hX
 have h0:X.heap[w.heap.size]?=some (.cells (qm f x) 29 (0,0)):=by rw[hX];exact (heap_alloc_old _ _ (by simp;omega)).trans ((heap_alloc_old _ _ (by simp)).trans (heap_alloc_new w _))
 have h1:X.heap[w.heap.size+1]?=some (.cells #[iv 5,iv wk,iv kn] 31 (0,0)):=by rw[hX];exact (heap_alloc_old _ _ (by simp)).trans (by have:=heap_alloc_new (w.alloc (.cells (qm f x) 29)) (.cells #[iv 5,iv wk,iv kn] 31);simpa using this)
 have h2:X.heap[w.heap.size+2]?=some (.cells qz 29 (0,0)):=by have:=heap_alloc_new ((w.alloc (.cells (qm f x) 29)).alloc (.cells #[iv 5,iv wk,iv kn] 31)) (.cells qz 29);rw[hX];simpa using this
 have HB0:Hid (Below w.heap.size w X):=by rw[Hid,hX];exact (((Below.refl _ _).alloc (Nat.le_refl _) _).alloc (by simp) _).alloc (by simp;omega) _
 have KO:Hid (Calls Tryz.prog 5 #[.agg (qm f x)] X fun e w'=>Below X.heap.size X w'∧∃ y o,e=.returned (.agg (qm f y))∧FmR X.heap.size w' f y o):=ownFarm_any f x X (hf.later HB0.out) (farmRoom_ok hok)
 clear hf hok hX
 go_enter Tryz.func13,Tryz.ntmps13
 go_upto_region 1 with fail
 rw[← HX.out]
 obtain⟨b,hb⟩:∃ b,b=w.heap.size:=⟨_,rfl⟩
 obtain⟨B,hB⟩:∃ B,B=w.heap.size:=⟨_,rfl⟩
 have HBB:Hid (B=w.heap.size∧b=B):=⟨hB,by rw[hb,hB]⟩
 rw[← hb] at h0 h1 h2 ⊢
 rw[← hB] at HB0
 clear hb hB HX
 have hBb:B≤b:=by rw[HBB.out.2];exact Nat.le_refl _
 have lx0:=lt1 h0
 have hBX:B≤X.heap.size:=by have:=HB0.out.size;rw[HBB.out.1];exact this
 obtain⟨c0,c1,c2,c3,c4,c5,c6,c7⟩:=cell8 h0
 go_wp2_with (go_at_call 5;refine KO.out.mono ?_;rintro e X1 ⟨hb1,y,o,rfl,hR1⟩;refine Hid.out ?_)
 have h01:=bl hb1 h0
 have h11:=bl hb1 h1
 have h21:=bl hb1 h2
 obtain⟨X2,hX2,hs1,hs2⟩:=store8e h01 (sv y.p f.parts.length y.pc) (sv y.l f.plan.length y.lc) (iv f.now) (sv y.d f.done.length y.dc) (sv y.h f.got.length y.hc) (sv y.g f.grants.length y.gc) (sv y.k f.work.length y.kc) (sv y.n f.net.length y.nc)
 have HX2:Hid (X2=_):=hX2
 have HO:Hid (FmO B X2 b f y o):=((hR1.base hBX).wr ⟨b,_,h01,hs2⟩).own hBb hs1
 have hq:=(hs2.block _ (lt1 h11) (by simp)).trans h11
 have hz:=(hs2.block _ (lt1 h21) (by simp)).trans h21
 have HB1:Hid (Below B w X2):=(HB0.out.trans (hb1.mono hBX)).grown hs2 (Nat.le_trans hBX hb1.size) (fun k hk=>by cases hk;exact hBb)
 obtain⟨d0,d1,d2,d3,d4,d5,d6,d7⟩:=cell8 h01
 have df:=frozenB h01
 have dl:=lt1 h01
 clear c0 c1 c2 c3 c4 c5 c6 c7 h0 h1 h2 h01 h11 h21 hb1 hR1 HB0 hBX lx0 KO hs1 hs2 hX2
 refine Lib.hid ?_
 go_upto_region 2 with fail
 rw[← HX2.out]
 clear d0 d1 d2 d3 d4 d5 d6 d7 df dl HX2
 clear X X1
 have hbk:=HO.out.blk
 obtain⟨c0,c1,c2,c3,c4,c5,c6,c7⟩:=cell8 hbk
 have q0:=cellC hq 0 rfl
 have q1:=cellC hq 1 rfl
 have q2:=cellC hq 2 rfl
 have lb:=lt1 hbk
 have lq:=lt1 hq
 have lz:=lt1 hz
 have hBX2:B≤X2.heap.size:=Nat.le_of_lt (Nat.lt_of_le_of_lt hBb lb)
 have hkI:(kn:Int)<(f.net.length:Int):=by omega
 have hkJ:¬ (f.net.length:Int)≤(kn:Int):=by omega
 have hk0:¬ (kn:Int)<0:=by omega
 obtain⟨g,en,hg,hen,hem,e0,e1,e2,e3,e4⟩:=HO.out.msgAt kn hkn
 have hPe:=HO.out.ownN en hen
 obtain⟨a1,d1,a2,d2,ev1,ev2,-,-⟩:=hPe.at
 obtain⟨mk,mw,mn,q,vF,vD⟩:=en
 simp only at e0 e1 e2 e3 e4 ev1 ev2 hPe
 subst ev1
 subst ev2
 have HPe:Hid (POwn X2 B ⟨q,sv a1 q.frags.length d1,sv a2 q.defs.length d2⟩):=hPe
 have Hem:Hid (f.net.getD kn M.msg0=⟨mk,mw,mn,q⟩):=hem.symm
 have c7':X2.cell? (qa b 7)=some (sv (some (qa g 0)) f.net.length y.nc):=by rw[← hg];exact c7
 have lgn:g<X2.heap.size:=World.block_lt_of_cell? _ _ e0
 have Hg:Hid (y.n=some (qa g 0)):=hg
 have Hkn:Hid (kn<f.net.length):=hkn
 have Hen:Hid ((⟨mk,mw,mn,⟨q,sv a1 q.frags.length d1,sv a2 q.defs.length d2⟩⟩:NEnt)∈o.eN):=hen
 clear c7 hg hkn hPe hem hen
 by_cases h20:20≤f.net.length
 ·have h20':((f.net.length:Int)==20)=true:=by simp;omega
  have HN:Hid (20≤f.net.length):=h20
  clear h20 hbk hq HO HPe Hem Hen
  have KF1:Hid (Calls Tryz.prog 45 #[iv 10] X2 fun e w'=>e=.returned (.tuple #[.agg qz,iv 10])∧Below X2.heap.size X2 w'):=KF.out _ _
  clear KF
  go_wp2_with (go_at_call 45;refine KF1.out.mono ?_;rintro e X5 ⟨rfl,hb5⟩;refine Hid.out ?_)
  have hz5:=bl hb5 hz
  have HB5:Hid (Below B w X5):=HB1.out.trans (hb5.mono hBX2)
  obtain⟨r0,r1,r2,r3,r4,r5,r6,r7⟩:=cell8 hz5
  have rf:=frozenB hz5
  have rl:=lt1 hz5
  have HZ5:Hid (_=_):=hz5
  clear hz5 hb5 KF1 hn0 hn1 hnt hw4 lb lq lz h20' hkI hkJ hk0 c0 c1 c2 c3 c4 c5 c6 c7' q0 q1 q2 e0 e1 e2 e3 e4
  refine Lib.hid ?_
  go_wp2_with fail
  obtain⟨X6,hX6,hs1,hs2⟩:=storeZ HZ5.out
  rw[← hX6]
  rw[← HRF.out,← HRE.out,if_pos HN.out,if_pos HN.out]
  exact fin_step (f:=M.farm0) (y:=fd0) rfl rfl rfl hs1 (by rw[← HBB.out.1];exact HB5.out.grown hs2 (by have:=HB5.out.size;rw[HBB.out.1];exact this) (fun k hk=>by cases hk;omega)) (farm0_firm _)
 ·have h20':((f.net.length:Int)==20)=false:=by simp;omega
  have HN:Hid (¬ 20≤f.net.length):=h20
  have HS0:Hid (M.send f ⟨mk,mw,mn,q⟩={ f with net:=f.net ++ [⟨mk,mw,mn,q⟩] }):=by rw[Hid,M.send,if_pos (by omega)]
  have KS:Hid (Calls Tryz.prog 46 #[.agg #[iv mk,iv mw,iv mn,sv a1 q.frags.length d1,sv a2 q.defs.length d2],qv b 0] X2 fun e w'=>e=.returned (.tuple #[])∧Below B X2 w'∧KeepB b X2 w'∧∃ x' o',FmO B w' b (M.send f ⟨mk,mw,mn,q⟩) x' o'):=rsend_any X2 HO.out hBX2 hnt mk mw mn q a1 a2 d1 d2 HPe.out
  obtain⟨f6,hf6⟩:∃ f6,M.send f ⟨mk,mw,mn,q⟩=f6:=⟨_,rfl⟩
  have HF6:Hid (M.send f ⟨mk,mw,mn,q⟩=f6):=hf6
  rw[hf6] at KS
  clear hf6 h20 KF hbk hq HO HPe Hen
  go_upto_region 62 with (go_at_call 46;refine KS.out.mono ?_;rintro e X6 ⟨rfl,k1,k2,y6,o6,k3⟩)
  have HO6:Hid (FmO B X6 b f6 y6 o6):=k3
  have HB6:Hid (Below B w X6):=HB1.out.trans k1
  have hz6:=k2 _ _ _ hz (by omega) (by decide)
  clear k1 k2 k3 KS hz HB1 h20' hkI hkJ hk0 c0 c1 c2 c3 c4 c5 c6 c7' q0 q1 q2 e0 e1 e2 e3 e4 lb lq lz lgn hBX2
  have hbk6:=HO6.out.blk
  obtain⟨e0,e1,e2,e3,e4,e5,e6,e7⟩:=cell8 hbk6
  obtain⟨r0,r1,r2,r3,r4,r5,r6,r7⟩:=cell8 hz6
  have rf:=frozenB hz6
  have rl:=lt1 hz6
  have rb:=lt1 hbk6
  have HZ6:Hid (_=_):=hz6
  clear hbk6 hz6
  go_wp2_with fail
  obtain⟨X7,hX7,hs1,hs2⟩:=store8e HZ6.out (sv y6.p f6.parts.length y6.pc) (sv y6.l f6.plan.length y6.lc) (iv f6.now) (sv y6.d f6.done.length y6.dc) (sv y6.h f6.got.length y6.hc) (sv y6.g f6.grants.length y6.gc) (sv y6.k f6.work.length y6.kc) (sv y6.n f6.net.length y6.nc)
  rw[← hX7]
  rw[← HRF.out,← HRE.out,if_neg HN.out,if_neg HN.out,Hem.out,← HS0.out,HF6.out]
  exact fin_step rfl rfl rfl hs1 (by rw[← HBB.out.1];exact HB6.out.grown hs2 (by have:=HB6.out.size;rw[HBB.out.1];exact this) (fun k hk=>by cases hk;omega)) ((HO6.out.rows.wr ⟨b+2,_,HZ6.out,hs2⟩).firm)
attribute [local go_sem] lat_cell
theorem rstep_give (f:M.Farm) (x:Fd) (w:World) (hf:FarmAt w f x) (hok:M.FarmOk f) (wn:Nat) (kk:Int) (hwn:wn<f.work.length) :
  Calls Tryz.prog 13 #[.agg (qm f x),.agg #[iv 1,iv wn,iv kk]] w (StepTo w (if (M.give f wn).2=0 then (M.give f wn).1 else M.farm0) ((M.give f wn).2)):=by
 obtain⟨RF,hRF⟩:∃ RF,(if (M.give f wn).2=0 then (M.give f wn).1 else M.farm0)=RF:=⟨_,rfl⟩
 obtain⟨RE,hRE⟩:∃ RE:Int,((M.give f wn).2)=RE:=⟨_,rfl⟩
 have HRF:Hid (_=RF):=hRF
 have HRE:Hid (_=RE):=hRE
 rw[hRF,hRE]
 clear hRF hRE
 have KF:Hid (∀ W E,Calls Tryz.prog 45 #[iv E] W fun e w'=>e=.returned (.tuple #[.agg qz,iv E])∧Below W.heap.size W w'):=fun W E=>fail_any E W
 have HOk:Hid (M.FarmOk f):=hok
 have hn0:=hok.now0
 have hn1:=hok.now1
 have hnt:=hok.net
 have hw4:=hok.work4
 obtain⟨X,hX⟩:∃ X,X=(((w.alloc (.cells (qm f x) 29)).alloc (.cells #[iv 1,iv wn,iv kk] 31)).alloc (.cells qz 29)):=⟨_,rfl⟩
 have HX:Hid (X=_):=hX
 have h0:X.heap[w.heap.size]?=some (.cells (qm f x) 29 (0,0)):=by rw[hX];exact (heap_alloc_old _ _ (by simp;omega)).trans ((heap_alloc_old _ _ (by simp)).trans (heap_alloc_new w _))
 have h1:X.heap[w.heap.size+1]?=some (.cells #[iv 1,iv wn,iv kk] 31 (0,0)):=by rw[hX];exact (heap_alloc_old _ _ (by simp)).trans (by have:=heap_alloc_new (w.alloc (.cells (qm f x) 29)) (.cells #[iv 1,iv wn,iv kk] 31);simpa using this)
 have h2:X.heap[w.heap.size+2]?=some (.cells qz 29 (0,0)):=by have:=heap_alloc_new ((w.alloc (.cells (qm f x) 29)).alloc (.cells #[iv 1,iv wn,iv kk] 31)) (.cells qz 29);rw[hX];simpa using this
 have HB0:Hid (Below w.heap.size w X):=by rw[Hid,hX];exact (((Below.refl _ _).alloc (Nat.le_refl _) _).alloc (by simp) _).alloc (by simp;omega) _
 have KO:Hid (Calls Tryz.prog 5 #[.agg (qm f x)] X fun e w'=>Below X.heap.size X w'∧∃ y o,e=.returned (.agg (qm f y))∧FmR X.heap.size w' f y o):=ownFarm_any f x X (hf.later HB0.out) (farmRoom_ok hok)
 clear hf hok hX
 go_enter Tryz.func13,Tryz.ntmps13
 go_upto_region 1 with fail
 rw[← HX.out]
 obtain⟨b,hb⟩:∃ b,b=w.heap.size:=⟨_,rfl⟩
 obtain⟨B,hB⟩:∃ B,B=w.heap.size:=⟨_,rfl⟩
 have HBB:Hid (B=w.heap.size∧b=B):=⟨hB,by rw[hb,hB]⟩
 rw[← hb] at h0 h1 h2 ⊢
 rw[← hB] at HB0
 clear hb hB HX
 have hBb:B≤b:=by rw[HBB.out.2];exact Nat.le_refl _
 have lx0:=lt1 h0
 have hBX:B≤X.heap.size:=by have:=HB0.out.size;rw[HBB.out.1];exact this
 obtain⟨c0,c1,c2,c3,c4,c5,c6,c7⟩:=cell8 h0
 go_wp2_with (go_at_call 5;refine KO.out.mono ?_;rintro e X1 ⟨hb1,y,o,rfl,hR1⟩;refine Hid.out ?_)
 have h01:=bl hb1 h0
 have h11:=bl hb1 h1
 have h21:=bl hb1 h2
 obtain⟨X2,hX2,hs1,hs2⟩:=store8e h01 (sv y.p f.parts.length y.pc) (sv y.l f.plan.length y.lc) (iv f.now) (sv y.d f.done.length y.dc) (sv y.h f.got.length y.hc) (sv y.g f.grants.length y.gc) (sv y.k f.work.length y.kc) (sv y.n f.net.length y.nc)
 have HX2:Hid (X2=_):=hX2
 have HO:Hid (FmO B X2 b f y o):=((hR1.base hBX).wr ⟨b,_,h01,hs2⟩).own hBb hs1
 have hq:=(hs2.block _ (lt1 h11) (by simp)).trans h11
 have hz:=(hs2.block _ (lt1 h21) (by simp)).trans h21
 have HB1:Hid (Below B w X2):=(HB0.out.trans (hb1.mono hBX)).grown hs2 (Nat.le_trans hBX hb1.size) (fun k hk=>by cases hk;exact hBb)
 obtain⟨d0,d1,d2,d3,d4,d5,d6,d7⟩:=cell8 h01
 have df:=frozenB h01
 have dl:=lt1 h01
 clear c0 c1 c2 c3 c4 c5 c6 c7 h0 h1 h2 h01 h11 h21 hb1 hR1 HB0 hBX lx0 KO hs1 hs2 hX2
 refine Lib.hid ?_
 go_upto_region 2 with fail
 rw[← HX2.out]
 clear d0 d1 d2 d3 d4 d5 d6 d7 df dl HX2
 clear X X1
 have hbk:=HO.out.blk
 obtain⟨c0,c1,c2,c3,c4,c5,c6,c7⟩:=cell8 hbk
 have q0:=cellC hq 0 rfl
 have q1:=cellC hq 1 rfl
 have q2:=cellC hq 2 rfl
 have lb:=lt1 hbk
 have lq:=lt1 hq
 have lz:=lt1 hz
 have hBX2:B≤X2.heap.size:=Nat.le_of_lt (Nat.lt_of_le_of_lt hBb lb)
 have hwI:(wn:Int)<(f.work.length:Int):=by omega
 have hwJ:¬ (f.work.length:Int)≤(wn:Int):=by omega
 have hw0:¬ (wn:Int)<0:=by omega
 obtain⟨g,hg,e0,fz,lg⟩:=IntsAt.own HO.out.rowW wn hwn
 have c6':X2.cell? (qa b 6)=some (sv (some (qa g 0)) f.work.length y.kc):=by rw[← hg];exact c6
 have Hg:Hid (y.k=some (qa g 0)):=hg
 have Hwn:Hid (wn<f.work.length):=hwn
 clear c6 hg hwn
 have HG0:Hid (M.give f wn=match (M.ready f.plan f.done).find? (M.freeAt f) with
   | none=>(f,11)
   | some n=>(M.send { f with grants:=f.grants.set n.toNat ⟨wn,f.now+5⟩ } ⟨1,wn,n,M.nil⟩,0)):=rfl
 obtain⟨_,h23,_,hfit,_,_⟩:=check_ok HOk.out.plan
 have KR:Hid (Calls Tryz.prog 47 #[sv y.l f.plan.length y.lc,sv y.d f.done.length y.dc] X2 fun e w'=>Below X2.heap.size X2 w'∧∃ ra rc,e=.returned (sv ra (M.ready f.plan f.done).length rc)∧IntsAt w' (sv ra (M.ready f.plan f.done).length rc) (M.ready f.plan f.done)) :=
  (isReady_any f.plan f.parts.length f.done _ _ _ _ X2 HO.out.at.plan HO.out.at.done HOk.out.done hfit h23).mono fun e w' ⟨g1,v,g2,g3⟩=>by
    obtain⟨a,c,rfl⟩:=own_len g3
    exact⟨g1,a,c,g2,row_ints g3⟩
 have HLb:Hid (∀ n∈M.ready f.plan f.done,0≤n∧n<(f.grants.length:Int)):=by rw[Hid,HOk.out.grants];exact ready_bound _ _
 generalize M.ready f.plan f.done=L at *
 generalize M.give f wn=GV at *
 generalize f.work.getD wn 0=t0 at *
 clear hfit h23 hbk hq e0 fz lg Hg Hwn
 go_upto_region 20 with (go_at_call 47;refine KR.out.mono ?_;rintro e X3 ⟨hb3,ra,rc,rfl,hI3⟩)
 have HO3:Hid (FmO B X3 b f y o):=HO.out.later hb3
 have HB3:Hid (Below B w X3):=HB1.out.trans (hb3.mono hBX2)
 have hz3:=(hb3.block _ lz).trans hz
 have hBX3:B≤X3.heap.size:=Nat.le_trans hBX2 hb3.size
 have HIn:Hid (∀ X,Below X3.heap.size X3 X→IntsAt X (sv ra L.length rc) L):=fun X hX=>hI3.later hX
 have hLm:L.length≤maxLen:=by obtain⟨_,_,_,h⟩:=SlAt.form hI3;exact h
 unfold maxLen at hLm
 clear hb3 hI3 KR HO HB1 hz hBX2 c0 c1 c2 c3 c4 c5 c6' c7 q0 q1 q2 lb lq lz hwI hwJ hw0
 clear X2
 go_loopw [73] (fun s73 wr=>∃ (k:Nat),k≤L.length∧s73=iv k∧Hid (GV=match (L.drop k).find? (M.freeAt f) with
   | none=>(f,11)
   | some n=>(M.send { f with grants:=f.grants.set n.toNat ⟨wn,f.now+5⟩ } ⟨1,wn,n,M.nil⟩,0))∧Hid (Below X3.heap.size X3 wr)) (fun s73 _=>L.length - (intOf s73).toNat)
 case atStart=>exact⟨0,Nat.zero_le _,rfl,HG0,Below.refl _ _⟩
 case round =>
  obtain⟨k,hk,rfl,HGk,HBk⟩:=hrel
  clear HG0
  have HOk2:Hid (FmO B wr b f y o):=HO3.out.later HBk.out
  have hzk:=(HBk.out.block _ (lt1 hz3)).trans hz3
  have HBw:Hid (Below B w wr):=HB3.out.trans (HBk.out.mono hBX3)
  have hBX2:B≤wr.heap.size:=Nat.le_trans hBX3 HBk.out.size
  by_cases hlt:k<L.length
  ·obtain⟨bb,off,rfl,e0,hbb⟩:=(HIn.out wr HBk.out).cell k hlt
   obtain⟨hm0,hm1⟩:=HLb.out _ (getD_mem L 0 k hlt)
   have hkI:(k:Int)<(L.length:Int):=by omega
   have HGn:Hid (GV=match (if M.freeAt f (L.getD k 0)=true then some (L.getD k 0) else (L.drop (k+1)).find? (M.freeAt f)) with
     | none=>(f,11)
     | some n=>(M.send { f with grants:=f.grants.set n.toNat ⟨wn,f.now+5⟩ } ⟨1,wn,n,M.nil⟩,0)):=by
    rw[Hid,HGk.out,drop_getD L 0 k hlt,List.find?_cons]
    cases M.freeAt f (L.getD k 0) <;> rfl
   clear HGk
   generalize L.getD k 0=t at *
   obtain⟨n,rfl⟩:∃ n:Nat,t=n:=⟨t.toNat,by omega⟩
   have hng:n<f.grants.length:=by omega
   obtain⟨g,hg⟩:=own_blk HOk2.out.rowG (by omega)
   have hGr:GrantsAt wr (sv (some (qa g 0)) f.grants.length y.gc) f.grants:=by rw[← hg];exact HOk2.out.at.grants
   obtain⟨gb,goff,hge,d0,d1⟩:=hGr.cells n hng
   cases hge
   rw[Nat.zero_add] at d0 d1
   have lg:g<wr.heap.size:=World.block_lt_of_cell? _ _ d0
   have c5:wr.cell? (qa b 5)=some (sv (some (qa g 0)) f.grants.length y.gc):=by rw[← hg];exact cellB HOk2.out.blk 5
   have c2:wr.cell? (qa b 2)=some (iv f.now):=cellB HOk2.out.blk 2
   have lb:=lt1 HOk2.out.blk
   have hnI:(n:Int)<(f.grants.length:Int):=by omega
   have Hg:Hid (y.g=some (qa g 0)∧n<f.grants.length):=⟨hg,hng⟩
   have HFr:Hid (M.freeAt f n=decide ((f.grants.getD n M.grt0).till≤f.now)):=rfl
   have d0x:∃ u,wr.cell? (qa g (n*2))=some u:=⟨_,d0⟩
   have Hd0:Hid (∃ u,wr.cell? (qa g (n*2))=some u):=d0x
   clear d0 d0x hGr hg hm0 hm1 hng
   generalize (f.grants.getD n M.grt0).till=tt at *
   by_cases hle:tt≤f.now
   ·have HG1:Hid (GV=(M.send { f with grants:=f.grants.set n ⟨wn,f.now+5⟩ } ⟨1,wn,n,M.nil⟩,0)):=by rw[Hid,HGn.out,HFr.out,decide_eq_true hle];rfl
    clear HGn HFr
    go_upto_region 22 with fail
    refine wp_region_lat (by kernel_rfl) (by kernel_rfl) ?_
    intro hne
    repeat (go_big_quiet_step (fail))
    refine wpQuiet_nil ?_
    intro X hX
    have hX:=lat_out hX
    have hOX:=HOk2.out.later hX
    have hzX:=(hX.block _ (lt1 hzk)).trans hzk
    have hBX:B≤X.heap.size:=Nat.le_trans hBX2 hX.size
    obtain⟨hS1,hS2,hS3⟩:=hOX.setGrant g n Hg.out.1 Hg.out.2 wn (f.now+5)
    obtain⟨u0,hu0⟩:=Hd0.out
    have d0':=cell_later hX hu0
    have d1':=cell_later hX d1
    have fz:∀ i,X.frozen? (qa g i)=false:=fun j=>by have h:=hOX.rowG;rw[Hg.out.1] at h;exact h.frozenAt j
    have lgX:g<X.heap.size:=Nat.lt_of_lt_of_le lg hX.size
    have c5':=cell_later hX c5
    have c2':=cell_later hX c2
    have lbX:b<X.heap.size:=Nat.lt_of_lt_of_le lb hX.size
    obtain⟨cs,hcs⟩:=row_typed (by have:=hOX.rowG;rw[Hg.out.1] at this;exact this)
    have wrX:Wr X ((X.setCell (qa g (n*2)) (iv wn)).setCell (qa g (n*2+1)) (iv (f.now+5))) 64:=⟨g,cs,hcs,grown_trans (grown_set _ _ _ _) (grown_set _ _ _ _)⟩
    have hzZ:=wrX.block hzX (by decide)
    have hBZ:B≤((X.setCell (qa g (n*2)) (iv wn)).setCell (qa g (n*2+1)) (iv (f.now+5))).heap.size:=by simp;exact hBX
    have HBZ:Hid (Below B w ((X.setCell (qa g (n*2)) (iv wn)).setCell (qa g (n*2+1)) (iv (f.now+5)))):=(HBw.out.trans (hX.mono hBX2)).trans hS2
    have KS:Hid (Calls Tryz.prog 46 #[.agg #[iv 1,iv wn,iv n,sv none 0 0,sv none 0 0],qv b 0] ((X.setCell (qa g (n*2)) (iv wn)).setCell (qa g (n*2+1)) (iv (f.now+5))) fun e w'=>e=.returned (.tuple #[])∧Below B ((X.setCell (qa g (n*2)) (iv wn)).setCell (qa g (n*2+1)) (iv (f.now+5))) w'∧KeepB b ((X.setCell (qa g (n*2)) (iv wn)).setCell (qa g (n*2+1)) (iv (f.now+5))) w'∧∃ x' o',FmO B w' b (M.send { f with grants:=f.grants.set n ⟨wn,f.now+5⟩ } ⟨1,wn,n,M.nil⟩) x' o'):=rsend_any ((X.setCell (qa g (n*2)) (iv wn)).setCell (qa g (n*2+1)) (iv (f.now+5))) hS1 hBZ hnt 1 wn n M.nil none none 0 0 ⟨[],PR.nil _ _,rfl⟩
    obtain⟨f6,hf6⟩:∃ f6,M.send { f with grants:=f.grants.set n ⟨wn,f.now+5⟩ } ⟨1,wn,n,M.nil⟩=f6:=⟨_,rfl⟩
    have HF6:Hid (GV=(f6,0)):=by rw[Hid,HG1.out,hf6]
    rw[hf6] at KS
    clear hf6 hne hX hOX hzX hS1 hS2 hS3 hcs wrX d1 c5 c2 hu0 Hd0 HG1 HOk2 hzk HBw e0 KF
    clear cs
    go_upto_region 24 with fail
    clear d0' d1' fz c5' c2'
    generalize ((X.setCell (qa g (n*2)) (iv wn)).setCell (qa g (n*2+1)) (iv (f.now+5)))=Z at *
    go_upto_region 25 with (go_at_call 46;refine KS.out.mono ?_;rintro e X6 ⟨rfl,k1,k2,y6,o6,k3⟩)
    have HO6:Hid (FmO B X6 b f6 y6 o6):=k3
    have HB6:Hid (Below B w X6):=HBZ.out.trans k1
    have hz6:=k2 _ _ _ hzZ (by omega) (by decide)
    clear k1 k2 k3 KS hzZ HBZ hBZ hle hkI hnI lgX lbX hbb lb lg hlt hk hLm
    have hbk6:=HO6.out.blk
    obtain⟨e0,e1,e2,e3,e4,e5,e6,e7⟩:=cell8 hbk6
    obtain⟨r0,r1,r2,r3,r4,r5,r6,r7⟩:=cell8 hz6
    have rf:=frozenB hz6
    have rl:=lt1 hz6
    have rb:=lt1 hbk6
    have HZ6:Hid (_=_):=hz6
    clear hbk6 hz6
    go_wp2_with fail
    obtain⟨X7,hX7,hs1,hs2⟩:=store8e HZ6.out (sv y6.p f6.parts.length y6.pc) (sv y6.l f6.plan.length y6.lc) (iv f6.now) (sv y6.d f6.done.length y6.dc) (sv y6.h f6.got.length y6.hc) (sv y6.g f6.grants.length y6.gc) (sv y6.k f6.work.length y6.kc) (sv y6.n f6.net.length y6.nc)
    rw[← hX7]
    rw[← HRF.out,← HRE.out,HF6.out,if_pos rfl]
    exact fin_step rfl rfl rfl hs1 (by rw[← HBB.out.1];exact HB6.out.grown hs2 (by have:=HB6.out.size;rw[HBB.out.1];exact this) (fun k hk=>by cases hk;omega)) ((HO6.out.rows.wr ⟨b+2,_,HZ6.out,hs2⟩).firm)
   ·have HG1:Hid (GV=match (L.drop (k+1)).find? (M.freeAt f) with
     | none=>(f,11)
     | some n=>(M.send { f with grants:=f.grants.set n.toNat ⟨wn,f.now+5⟩ } ⟨1,wn,n,M.nil⟩,0)):=by rw[Hid,HGn.out,HFr.out,decide_eq_false hle];rfl
    clear HGn HFr
    go_upto_region 22 with fail
    refine wp_region_lat (by kernel_rfl) (by kernel_rfl) ?_
    intro hne
    repeat (go_big_quiet_step (fail))
    refine wpQuiet_nil ?_
    intro X hX
    have hX:=lat_out hX
    have HBX:Hid (Below X3.heap.size X3 X):=HBk.out.trans (hX.mono HBk.out.size)
    clear hne hX
    go_wp2_with fail
    go_roundw
    case rel=>exact⟨k+1,by omega,by go_num,HG1,HBX⟩
    case measure=>simp[intOf];omega
  ·have hkl:k=L.length:=by omega
   have HG1:Hid (GV=(f,11)):=by rw[Hid,HGk.out,hkl,List.drop_eq_nil_of_le (Nat.le_refl _)];rfl
   clear HGk hlt hk hLm
   subst hkl
   have KF1:Hid (Calls Tryz.prog 45 #[iv 11] wr fun e w'=>e=.returned (.tuple #[.agg qz,iv 11])∧Below wr.heap.size wr w'):=KF.out _ _
   clear KF
   go_wp2_with (go_at_call 45;refine KF1.out.mono ?_;rintro e X5 ⟨rfl,hb5⟩;refine Hid.out ?_)
   have hz5:=bl hb5 hzk
   have HB5:Hid (Below B w X5):=HBw.out.trans (hb5.mono hBX2)
   obtain⟨r0,r1,r2,r3,r4,r5,r6,r7⟩:=cell8 hz5
   have rf:=frozenB hz5
   have rl:=lt1 hz5
   have HZ5:Hid (_=_):=hz5
   clear hz5 hb5 KF1 hn0 hn1 hnt hw4
   refine Lib.hid ?_
   go_wp2_with fail
   obtain⟨X6,hX6,hs1,hs2⟩:=storeZ HZ5.out
   rw[← hX6]
   rw[← HRF.out,← HRE.out,HG1.out,if_neg (by show ¬ (11:Int)=0;decide)]
   exact fin_step (f:=M.farm0) (y:=fd0) rfl rfl rfl hs1 (by rw[← HBB.out.1];exact HB5.out.grown hs2 (by have:=HB5.out.size;rw[HBB.out.1];exact this) (fun k hk=>by cases hk;omega)) (farm0_firm _)
end Go.Proofs.YtebippbakbihiaaGreatDoor
