/-
  The contract of farm.Run. The contract of farm.New.
-/
import Derived.Test.YtebippbakbihiaaGreatDoorFmDO
set_option maxHeartbeats 16000000
set_option maxRecDepth 100000
namespace Go.Proofs.YtebippbakbihiaaGreatDoor
open Go Go.RowKit
set_option linter.unusedVariables false
def hapCell (h:M.Hap):Nat→Value
 | 0=>iv h.kind
 | 1=>iv h.worker
 | _=>iv h.k
def hap0:M.Hap:=⟨0,0,0⟩
def HapsAt (w:World) (v:Value) (l:List M.Hap):Prop:=SlAt w v 3 l.length (fun j i=>hapCell (l.getD j hap0) i)
theorem HapsAt.later {w w':World} {v:Value} {l:List M.Hap} (h:HapsAt w v l) (hb:Below w.heap.size w w'):HapsAt w' v l:=SlAt.later h hb
theorem HapsAt.cells {w:World} {a:Option Addr} {c:Nat} {l:List M.Hap} (h:HapsAt w (sv a l.length c) l) (k:Nat) (hk:k<l.length) :
  ∃ b off,a=some (qa b off)∧w.cell? (qa b (off+k*3))=some (iv (l.getD k hap0).kind)∧w.cell? (qa b (off+k*3+1))=some (iv (l.getD k hap0).worker)∧w.cell? (qa b (off+k*3+2))=some (iv (l.getD k hap0).k):=by
 obtain⟨b,off,rfl,hc⟩:=SlAt.at h k hk
 exact⟨b,off,rfl,hc 0 (by decide),hc 1 (by decide),hc 2 (by decide)⟩
theorem run_snoc:∀ (l:List M.Hap) (f:M.Farm) (x:M.Hap),M.runF f (l ++ [x])=((M.happen (M.runF f l).1 x).1,(M.runF f l).2 ++ [(M.happen (M.runF f l).1 x).2])
 | [],f,x=>rfl
 | y :: l,f,x=>by
  rw[List.cons_append,M.runF,run_snoc l]
  rfl
theorem run_len:∀ (l:List M.Hap) (f:M.Farm),(M.runF f l).2.length=l.length
 | [],_=>rfl
 | y :: l,f=>by rw[M.runF];simp[run_len l]
theorem run_plan:∀ (l:List M.Hap) (f:M.Farm),M.FarmOk f→M.FarmOk (M.runF f l).1
 | [],_,h=>h
 | y :: l,f,h=>run_plan l _ (M.happen_ok h (fun n hn=>node_leaf h hn) y)
theorem row_keep {W X:World} {B n:Nat} {v:Value} {xs:List Value} (h:W.ownsRow B 33 1 v n xs) (hk:KeepE W X):X.ownsRow B 33 1 v n xs:=by
 refine⟨h.1,?_⟩
 rcases h.2 with h1 | ⟨g,cap,cur,h1,h2,h3,h4⟩
 ·exact .inl h1
 ·exact .inr ⟨g,cap,cur,h1,h2,hk g cur h3,h4⟩
theorem FmO.said {B B' b n:Nat} {W X:World} {f:M.Farm} {x:Fd} {o:Fo} {v:Value} {xs:List Value} (h:FmO B W b f x o) (hr:W.ownsRow B' 33 1 v n xs) (hg:W.grownBy X v.ownBlock):FmO B X b f x o:=by
 have kr:∀ (e:TypeId) (k n:Nat) (v':Value) (xs:List Value),W.ownsRow B e k v' n xs→e≠33→X.ownsRow B e k v' n xs:=fun e k n v' xs hx hne=>hx.kept hg (own_apart hx hr hne)
 have kp:∀ e,POwn W B e→POwn X B e:=fun e ⟨en,hP,hm⟩=>⟨en,⟨kr _ _ _ _ _ hP.rowF (by decide),kr _ _ _ _ _ hP.rowD (by decide),fun e he=>kr _ _ _ _ _ (hP.bytes e he) (by decide),hP.small,hP.smallD,fun e he=>kr _ _ _ _ _ (hP.rels e he) (by decide)⟩,hm⟩
 exact⟨block_keptP hr hg h.blk (by decide),h.bge,kr _ _ _ _ _ h.rowP (by decide),h.mapP,kr _ _ _ _ _ h.rowL (by decide),kr _ _ _ _ _ h.rowD (by decide),kr _ _ _ _ _ h.rowH (by decide),h.mapH,kr _ _ _ _ _ h.rowG (by decide),kr _ _ _ _ _ h.rowW (by decide),kr _ _ _ _ _ h.rowN (by decide),h.mapN,
  fun e he=>kp e (h.ownP e he),fun e he=>kp e (h.ownH e he),fun e he=>kp e.e (h.ownN e he),h.apart⟩
theorem row_errs {w:World} {B:Nat} {v:Value} {l:List Int} (h:w.ownsRow B 33 1 v l.length (l.map (Value.int .i64))):IntsAt w v l:=by
 have h':w.ownsRow B 33 1 v l.length (l.flatMap fun x=>[iv x]):=by
  rwa [flat_one l]
 refine (row_slice (k:=1) (0:Int) (fun x=>[iv x]) (fun _=>rfl) l h').congr' (fun j i hj hi=>?_)
 obtain rfl:i=0:=by omega
 rfl
theorem run_any (f:M.Farm) (x:Fd) (l:List M.Hap) (a:Option Addr) (c:Nat) (w:World) (hf:FarmAt w f x) (hs:HapsAt w (sv a l.length c) l) :
  Calls Tryz.prog 14 #[.agg (qm f x),sv a l.length c] w fun e w'=>Below w.heap.size w w'∧∃ y v,e=.returned (.tuple #[.agg #[sv y.p (M.run f l).1.parts.length y.pc,sv y.l (M.run f l).1.plan.length y.lc,iv (M.run f l).1.now,sv y.d (M.run f l).1.done.length y.dc,sv y.h (M.run f l).1.got.length y.hc,sv y.g (M.run f l).1.grants.length y.gc,sv y.k (M.run f l).1.work.length y.kc,sv y.n (M.run f l).1.net.length y.nc],v,iv (M.runE f l)])∧(FarmAt w' (M.run f l).1 y∧(M.runE f l=0→∃ o,FmR w.heap.size w' (M.run f l).1 y o))∧w'.ownsRow w.heap.size 33 1 v (M.run f l).2.length ((M.run f l).2.map (Value.int .i64)):=by
 obtain⟨i0,hi0,hz0,hz1,hz2⟩:=info_parts (P:=Tryz.prog) (e:=33) (z:=iv 0) (size:=1) (bytes:=8) (by kernel_rfl)
 have hA:Below w.heap.size w ((w.alloc (.cells (qm f x) 29)).alloc (.cells qz 29)):=((Below.refl _ _).alloc (Nat.le_refl _) _).alloc (by simp) _
 have h0:((w.alloc (.cells (qm f x) 29)).alloc (.cells qz 29)).heap[w.heap.size]?=some (.cells (qm f x) 29 (0,0)):=(heap_alloc_old _ _ (by simp)).trans (heap_alloc_new _ _)
 have h2:((w.alloc (.cells (qm f x) 29)).alloc (.cells qz 29)).heap[w.heap.size+1]?=some (.cells qz 29 (0,0)):=by
  have:=heap_alloc_new (w.alloc (.cells (qm f x) 29)) (.cells qz 29)
  simpa using this
 have hln:l.length≤maxLen:=by obtain⟨_,_,_,h⟩:=SlAt.form hs;exact h
 unfold maxLen at hln
 have HA:Hid (Below w.heap.size w ((w.alloc (.cells (qm f x) 29)).alloc (.cells qz 29))):=hA
 have HF:Hid (∀ W,Below w.heap.size w W→FarmAt W f x∧HapsAt W (sv a l.length c) l):=fun W hW=>⟨hf.later hW,hs.later hW⟩
 have HE:Hid (M.runE f l=M.orE (M.checkFarm f) (if 120<l.length then 2 else 0)):=rfl
 have HS:Hid (M.run f l=if M.runE f l=0 then M.runF f l else (M.farm0,[])):=rfl
 generalize M.run f l=R at *
 generalize M.runE f l=E at *
 clear hf hA hs
 go_enter Tryz.func14,Tryz.ntmps14
 go_upto_region 1 with fail
 obtain⟨b0,hb0⟩:∃ b0,b0=w.heap.size:=⟨_,rfl⟩
 obtain⟨r,hr⟩:∃ r,r=w.heap.size+1:=⟨_,rfl⟩
 have Hr:Hid (w.heap.size≤r∧b0≠r):=⟨by omega,by omega⟩
 rw[← hr] at h2 ⊢
 rw[← hb0] at h0 ⊢
 clear hb0 hr
 generalize (w.alloc (.cells (qm f x) 29)).alloc (.cells qz 29)=Z at *
 have KC:Hid (Calls Tryz.prog 10 #[.agg (qm f x)] Z fun e w'=>e=.returned (iv (M.checkFarm f))∧Below Z.heap.size Z w'):=farmCheck_any f x Z (HF.out Z HA.out).1
 obtain⟨c0,c1,c2,c3,c4,c5,c6,c7⟩:=cell8 h0
 have lb0:=lt1 h0
 have HH0:Hid (Z.heap[b0]?=some (.cells (qm f x) 29 (0,0))∧Z.heap[r]?=some (.cells qz 29 (0,0))):=⟨h0,h2⟩
 clear h0 h2
 by_cases hck:M.checkFarm f=0
 ·have HE1:Hid (E=if 120<l.length then 2 else 0):=by rw[Hid,HE.out,hck];rfl
  have hok:=(M.farm_iff f).1 hck
  rw[hck] at KC
  clear HE hck
  go_upto_region 4 with (go_at_call 10;refine KC.out.mono ?_;rintro e X ⟨rfl,hbX⟩)
  obtain⟨h0,h2⟩:=HH0.out
  have x0:=(hbX.block _ (lt1 h0)).trans h0
  have x2:=(hbX.block _ (lt1 h2)).trans h2
  have HX:Hid (Below w.heap.size w X):=HA.out.trans (hbX.mono HA.out.size)
  clear c0 c1 c2 c3 c4 c5 c6 c7 KC hbX h0 h2 HH0 lb0
  by_cases hm:120<l.length
  ·have hmI:(120:Int)<(l.length:Int):=by omega
   have HE2:Hid (E=2):=by rw[Hid,HE1.out,if_pos hm]
   have HS2:Hid (R=(M.farm0,[])):=by rw[Hid,HS.out,HE2.out];rfl
   obtain⟨hs1,hs2⟩:=store8 X r (sv none 0 0) (sv none 0 0) (iv 0) (sv none 0 0) (sv none 0 0) (sv none 0 0) (sv none 0 0) (sv none 0 0) (sv none 0 0) (sv none 0 0) (iv 0) (sv none 0 0) (sv none 0 0) (sv none 0 0) (sv none 0 0) (sv none 0 0) 29 x2
   have HBV:Hid (Below w.heap.size w ((((((((X.setCell (qa r 0) (sv none 0 0)).setCell (qa r 1) (sv none 0 0)).setCell (qa r 2) (iv 0)).setCell (qa r 3) (sv none 0 0)).setCell (qa r 4) (sv none 0 0)).setCell (qa r 5) (sv none 0 0)).setCell (qa r 6) (sv none 0 0)).setCell (qa r 7) (sv none 0 0))):=HX.out.grown hs2 HX.out.size (fun k hk=>by cases hk;exact Hr.out.1)
   obtain⟨r0,r1,r2,r3,r4,r5,r6,r7⟩:=cell8 x2
   have rf:=frozenB x2
   have lr:=lt1 x2
   clear HE1 HS x0 x2 hs2 hm
   go_wp2_with fail
   obtain⟨e0,e1,e2,e3,e4,e5,e6,e7⟩:=cell8 hs1
   refine bodyPost_ret (v:=.tuple #[.agg qz,sv none 0 0,iv 2]) (by simp[results,Tryz.results14,go_sem,e0,e1,e2,e3,e4,e5,e6,e7]) rfl ?_
   rw[HS2.out,HE2.out]
   exact⟨HBV.out,fd0,sv none 0 0,rfl,⟨farm0_at _,fun h=>absurd h (by decide)⟩,World.ownsRow_nil _ _ _ _⟩
  ·have hmI:¬ (120:Int)<(l.length:Int):=by omega
   have HE2:Hid (E=0):=by rw[Hid,HE1.out,if_neg hm]
   have HS2:Hid (R=M.runF f l):=by rw[Hid,HS.out,HE2.out];rfl
   clear HE1 HS
   obtain⟨d0,d1,d2,d3,d4,d5,d6,d7⟩:=cell8 x0
   have lx0:=lt1 x0
   have KF:Hid (Calls Tryz.prog 22 #[.agg (qm f x)] X fun e w'=>Below X.heap.size X w'∧∃ y o,e=.returned (.agg (qm f y))∧FmR X.heap.size w' f y o):=copyFarm_any f x X (HF.out X HX.out).1 hok
   have Hx2:Hid (X.heap[r]?=some (.cells qz 29 (0,0))):=x2
   clear x0 x2
   go_upto_region 7 with (go_at_call 22;refine KF.out.mono ?_;rintro e X2 ⟨hb2,y,o,rfl,hR2⟩)
   obtain⟨bo,hbo⟩:∃ bo,bo=X2.heap.size:=⟨_,rfl⟩
   have hAl:=(Below.refl X2.heap.size X2).alloc (Nat.le_refl _) (.cells (qm f y) 29)
   have hn:=heap_alloc_new X2 (.cells (qm f y) 29)
   have hX3:=hb2.trans (hAl.mono hb2.size)
   have hO3:FmO X.heap.size (X2.alloc (.cells (qm f y) 29)) X2.heap.size f y o:=(hR2.later hAl).own hb2.size hn
   have HB3:Hid (Below X.heap.size X (X2.alloc (.cells (qm f y) 29))):=hX3
   have hrX:=lt1 Hx2.out
   rw[← hbo] at hO3 ⊢
   have Hbo:Hid (r≠bo):=by rw[Hid,hbo];have:=hb2.size;omega
   have HO3:Hid (FmO X.heap.size (X2.alloc (.cells (qm f y) 29)) bo f y o):=hO3
   clear hbo hAl hn hR2 d0 d1 d2 d3 d4 d5 d6 d7 lx0 KF hb2 hO3 hX3
   generalize X2.alloc (.cells (qm f y) 29)=Y at *
   go_upto_region 9 with fail
   go_loopw [9,26] (fun s9 s26 wr=>∃ (k:Nat) (xk:Fd) (ok:Fo),k≤l.length∧s26=iv k∧Hid (FmO X.heap.size wr bo (M.runF f (l.take k)).1 xk ok)∧Hid (wr.ownsRow X.heap.size 33 1 s9 k ((M.runF f (l.take k)).2.map (Value.int .i64)))∧Hid (Below X.heap.size X wr)) (fun _ s26 _=>l.length - (intOf s26).toNat)
   case atStart=>exact⟨0,y,o,Nat.zero_le _,rfl,HO3,World.ownsRow_nil _ _ _ _,HB3⟩
   case round =>
    obtain⟨k,xk,ok,hk,rfl,HO,HRw,HB⟩:=hrel
    clear HO3 HB3
    have hsz:X.heap.size≤wr.heap.size:=HB.out.size
    have HW:Hid (Below w.heap.size w wr):=HX.out.trans (HB.out.mono HX.out.size)
    by_cases hlt:k<l.length
    ·obtain⟨b,off,rfl,e0,e1,e2⟩:=(HF.out wr HW.out).2.cells k hlt
     have hbr:b<wr.heap.size:=World.block_lt_of_cell? _ _ e0
     have hkl:(k:Int)<(l.length:Int):=by omega
     have HT:Hid (M.runF f (l.take (k+1))=((M.happen (M.runF f (l.take k)).1 (l.getD k hap0)).1,(M.runF f (l.take k)).2 ++ [(M.happen (M.runF f (l.take k)).1 (l.getD k hap0)).2])):=by
      rw[Hid,List.take_add_one,getElem?_getD l hap0 k hlt];exact run_snoc _ _ _
     have hokk:=run_plan (l.take k) f hok
     generalize l.getD k hap0=h at *
     obtain⟨kd,wk,kk⟩:=h
     simp only at e0 e1 e2
     obtain⟨ad,nn,cc,rfl⟩:=own_form HRw.out
     go_upto_region 11 with fail
     have hAl:=(Below.refl wr.heap.size wr).alloc (Nat.le_refl _) (.cells #[iv kd,iv wk,iv kk] 31)
     have hn:=heap_alloc_new wr (.cells #[iv kd,iv wk,iv kk] 31)
     have hO4:=HO.out.later hAl
     have hr4:=HRw.out.kept (grown_of_below hAl Option.none) own_self
     have hB4:=HB.out.trans (hAl.mono hsz)
     obtain⟨nz,hnz⟩:∃ nz,nz=wr.heap.size:=⟨_,rfl⟩
     rw[← hnz] at hn ⊢
     clear hnz e0 e1 e2 hAl HO HRw HB
     generalize wr.alloc (.cells #[iv kd,iv wk,iv kk] 31)=V at *
     have q0:=cellC hn 0 rfl
     have q1:=cellC hn 1 rfl
     have q2:=cellC hn 2 rfl
     have lnz:=lt1 hn
     have KH:Hid (Calls Tryz.prog 23 #[qv bo 0,.agg #[iv kd,iv wk,iv kk]] V fun e w'=>e=.returned (iv (M.happen (M.runF f (l.take k)).1 ⟨kd,wk,kk⟩).2)∧Below X.heap.size V w'∧KeepE V w'∧∃ x' o',FmO X.heap.size w' bo (M.happen (M.runF f (l.take k)).1 ⟨kd,wk,kk⟩).1 x' o'):=happen_any V hO4 hB4.size hokk kd wk kk
     have Hr4:Hid (V.ownsRow X.heap.size 33 1 (sv ad nn cc) k ((M.runF f (l.take k)).2.map (Value.int .i64))):=hr4
     have HB4:Hid (Below X.heap.size X V):=hB4
     clear hO4 hr4 hB4 hn hokk
     generalize M.runF f (l.take k)=rk at *
     obtain⟨fk,ek⟩:=rk
     simp only at KH HT Hr4
     generalize M.happen fk ⟨kd,wk,kk⟩=hp at *
     obtain⟨f',e'⟩:=hp
     simp only at KH HT
     go_wp2_with (go_at_call 23;refine KH.out.mono ?_;rintro e U ⟨rfl,hbU,hkU,x',o',hOU⟩;refine Hid.out ?_)
     have hrU:=row_keep Hr4.out hkU
     have hBU:=HB4.out.trans hbU
     have hsU:X.heap.size≤U.heap.size:=hBU.size
     have hnews:∀ j u,(#[iv e']:Array Value).toList[j]?=some u→(U.alloc (.cells #[iv e'] 33)).cell? ((qa U.heap.size 0).add j)=some u:=World.news_of_block (heap_alloc_new U _)
     have HAp:Hid (∀ v' w3,(U.alloc (.cells #[iv e'] 33)).grownBy w3 (sv ad nn cc).ownBlock→w3.ownsRow X.heap.size 33 1 v' (k+1) (ek.map (Value.int .i64) ++ (#[iv e']:Array Value).toList)→FmO X.heap.size w3 bo (M.runF f (l.take (k+1))).1 x' o'∧w3.ownsRow X.heap.size 33 1 v' (k+1) ((M.runF f (l.take (k+1))).2.map (Value.int .i64))∧Below X.heap.size X w3):=fun v' w3 hg ho=>by
      have hb:=(Below.refl U.heap.size U).alloc (Nat.le_refl _) (.cells #[iv e'] 33)
      have hr':=hrU.alloc (.cells #[iv e'] 33)
      rw[HT.out]
      refine⟨(hOU.later hb).said hr' hg,?_,(hBU.trans (hb.mono hsU)).grown hg (Nat.le_trans hsU hb.size) (fun k hk=>(hr'.lt k hk).1)⟩
      rw[List.map_append];exact ho
     clear KH q0 q1 q2 Hr4 HB4 hbU hkU hOU hBU lnz
     refine Lib.hid ?_
     go_wp2_with (at_builtin;refine wpList_append_own _ rfl _ _ 48 rfl X.heap.size 33 i0 (iv 0) 1 8 Tryz.underlying48 hi0 hz0 hz1 hz2 rfl (by decide) _ _ _ rfl (hrU.alloc _) ⟨U.heap.size,0,none⟩ 1 1 (#[iv e']:Array Value).toList rfl rfl hnews (fun u hu=>by simp at hu;rcases hu with rfl;rfl) (by unfold maxLen;omega) (by omega) (by simp;omega) ?_;intro v' w3 hown' hgrow3 hnil3)
     go_roundw
     case rel =>
      obtain⟨j1,j2,j3⟩:=HAp.out _ _ hgrow3 hown'
      exact⟨k+1,x',o',by omega,by go_num,j1,j2,j3⟩
     case measure=>simp[intOf];omega
    ·have hkl:k=l.length:=by omega
     have hO:=HO.out
     have hRw:=HRw.out
     rw[hkl,List.take_length,← HS2.out] at hO hRw
     have hlen:R.2.length=l.length:=by rw[HS2.out];exact run_len l f
     obtain⟨ad,nn,cc,rfl⟩:=own_form hRw
     obtain⟨f',e'⟩:=R
     simp only at hO hRw hlen
     have v2:=(HB.out.block _ hrX).trans Hx2.out
     obtain⟨hs1,hs2⟩:=store8 wr r (sv none 0 0) (sv none 0 0) (iv 0) (sv none 0 0) (sv none 0 0) (sv none 0 0) (sv none 0 0) (sv none 0 0) (sv xk.p f'.parts.length xk.pc) (sv xk.l f'.plan.length xk.lc) (iv f'.now) (sv xk.d f'.done.length xk.dc) (sv xk.h f'.got.length xk.hc) (sv xk.g f'.grants.length xk.gc) (sv xk.k f'.work.length xk.kc) (sv xk.n f'.net.length xk.nc) 29 v2
     have wrF:Wr wr ((((((((wr.setCell (qa r 0) (sv xk.p f'.parts.length xk.pc)).setCell (qa r 1) (sv xk.l f'.plan.length xk.lc)).setCell (qa r 2) (iv f'.now)).setCell (qa r 3) (sv xk.d f'.done.length xk.dc)).setCell (qa r 4) (sv xk.h f'.got.length xk.hc)).setCell (qa r 5) (sv xk.g f'.grants.length xk.gc)).setCell (qa r 6) (sv xk.k f'.work.length xk.kc)).setCell (qa r 7) (sv xk.n f'.net.length xk.nc)) 29:=⟨r,_,v2,hs2⟩
     have HFA:Hid (FmR w.heap.size ((((((((wr.setCell (qa r 0) (sv xk.p f'.parts.length xk.pc)).setCell (qa r 1) (sv xk.l f'.plan.length xk.lc)).setCell (qa r 2) (iv f'.now)).setCell (qa r 3) (sv xk.d f'.done.length xk.dc)).setCell (qa r 4) (sv xk.h f'.got.length xk.hc)).setCell (qa r 5) (sv xk.g f'.grants.length xk.gc)).setCell (qa r 6) (sv xk.k f'.work.length xk.kc)).setCell (qa r 7) (sv xk.n f'.net.length xk.nc)) f' xk ok):=(hO.rows.wr wrF).base HX.out.size
     have HIn:Hid (World.ownsRow ((((((((wr.setCell (qa r 0) (sv xk.p f'.parts.length xk.pc)).setCell (qa r 1) (sv xk.l f'.plan.length xk.lc)).setCell (qa r 2) (iv f'.now)).setCell (qa r 3) (sv xk.d f'.done.length xk.dc)).setCell (qa r 4) (sv xk.h f'.got.length xk.hc)).setCell (qa r 5) (sv xk.g f'.grants.length xk.gc)).setCell (qa r 6) (sv xk.k f'.work.length xk.kc)).setCell (qa r 7) (sv xk.n f'.net.length xk.nc)) w.heap.size 33 1 (sv ad nn cc) e'.length (e'.map (Value.int .i64))):=row_base (by rw[hlen];exact wrF.row hRw (by decide)) HX.out.size
     have HBV:Hid (Below w.heap.size w ((((((((wr.setCell (qa r 0) (sv xk.p f'.parts.length xk.pc)).setCell (qa r 1) (sv xk.l f'.plan.length xk.lc)).setCell (qa r 2) (iv f'.now)).setCell (qa r 3) (sv xk.d f'.done.length xk.dc)).setCell (qa r 4) (sv xk.h f'.got.length xk.hc)).setCell (qa r 5) (sv xk.g f'.grants.length xk.gc)).setCell (qa r 6) (sv xk.k f'.work.length xk.kc)).setCell (qa r 7) (sv xk.n f'.net.length xk.nc))):=HW.out.grown hs2 HW.out.size (fun k hk=>by cases hk;exact Hr.out.1)
     have k0:wr.cell? (qa bo 0)=some (sv xk.p f'.parts.length xk.pc):=cellB hO.blk 0
     have k1:wr.cell? (qa bo 1)=some (sv xk.l f'.plan.length xk.lc):=cellB hO.blk 1
     have k2:wr.cell? (qa bo 2)=some (iv f'.now):=cellB hO.blk 2
     have k3:wr.cell? (qa bo 3)=some (sv xk.d f'.done.length xk.dc):=cellB hO.blk 3
     have k4:wr.cell? (qa bo 4)=some (sv xk.h f'.got.length xk.hc):=cellB hO.blk 4
     have k5:wr.cell? (qa bo 5)=some (sv xk.g f'.grants.length xk.gc):=cellB hO.blk 5
     have k6:wr.cell? (qa bo 6)=some (sv xk.k f'.work.length xk.kc):=cellB hO.blk 6
     have k7:wr.cell? (qa bo 7)=some (sv xk.n f'.net.length xk.nc):=cellB hO.blk 7
     have lbo:=lt1 hO.blk
     obtain⟨r0,r1,r2,r3,r4,r5,r6,r7⟩:=cell8 v2
     have rf:=frozenB v2
     have lr:=lt1 v2
     have hbor:=Hbo.out
     clear HS2 hO hRw v2 hs2 wrF HO HRw HB hlen
     subst hkl
     go_wp2_with fail
     obtain⟨e0,e1,e2,e3,e4,e5,e6,e7⟩:=cell8 hs1
     refine bodyPost_ret (v:=.tuple #[.agg (qm f' xk),sv ad nn cc,iv 0]) (by simp[results,Tryz.results14,go_sem,e0,e1,e2,e3,e4,e5,e6,e7]) rfl ?_
     rw[HE2.out]
     exact⟨HBV.out,xk,sv ad nn cc,rfl,⟨HFA.out.at,fun _=>⟨ok,HFA.out⟩⟩,HIn.out⟩
 ·have HE2:Hid (E=M.checkFarm f):=by rw[Hid,HE.out,M.orE,if_neg hck]
  have HS2:Hid (R=(M.farm0,[])):=by rw[Hid,HS.out,HE2.out,if_neg hck]
  have hne:(M.checkFarm f !=0)=true:=by simpa using hck
  clear HE HS hck
  generalize M.checkFarm f=e' at *
  go_upto_region 3 with (go_at_call 10;refine KC.out.mono ?_;rintro e X ⟨rfl,hbX⟩)
  have x2:=(hbX.block _ (lt1 HH0.out.2)).trans HH0.out.2
  have HX:Hid (Below w.heap.size w X):=HA.out.trans (hbX.mono HA.out.size)
  obtain⟨hs1,hs2⟩:=store8 X r (sv none 0 0) (sv none 0 0) (iv 0) (sv none 0 0) (sv none 0 0) (sv none 0 0) (sv none 0 0) (sv none 0 0) (sv none 0 0) (sv none 0 0) (iv 0) (sv none 0 0) (sv none 0 0) (sv none 0 0) (sv none 0 0) (sv none 0 0) 29 x2
  have HBV:Hid (Below w.heap.size w ((((((((X.setCell (qa r 0) (sv none 0 0)).setCell (qa r 1) (sv none 0 0)).setCell (qa r 2) (iv 0)).setCell (qa r 3) (sv none 0 0)).setCell (qa r 4) (sv none 0 0)).setCell (qa r 5) (sv none 0 0)).setCell (qa r 6) (sv none 0 0)).setCell (qa r 7) (sv none 0 0))):=HX.out.grown hs2 HX.out.size (fun k hk=>by cases hk;exact Hr.out.1)
  obtain⟨r0,r1,r2,r3,r4,r5,r6,r7⟩:=cell8 x2
  have rf:=frozenB x2
  have lr:=lt1 x2
  clear x2 hs2 c0 c1 c2 c3 c4 c5 c6 c7 KC hbX lb0
  go_wp2_with fail
  obtain⟨e0,e1,e2,e3,e4,e5,e6,e7⟩:=cell8 hs1
  refine bodyPost_ret (v:=.tuple #[.agg qz,sv none 0 0,iv e']) (by simp[results,Tryz.results14,go_sem,e0,e1,e2,e3,e4,e5,e6,e7]) rfl ?_
  rw[HS2.out,HE2.out]
  exact⟨HBV.out,fd0,sv none 0 0,rfl,⟨farm0_at _,fun h=>absurd h (by simpa using hne)⟩,World.ownsRow_nil _ _ _ _⟩
theorem made_flat1 {α:Type} (enc:α→List Value) (y:α) (z:Value) (hy:enc y=[z]) (n:Nat):(madeCells #[z] (n*1)).toList=(List.replicate n y).flatMap enc:=by
 rw[Nat.mul_one,toList_madeCells_one]
 induction n with
 | zero=>rfl
 | succ n ih=>rw[List.replicate_succ,List.replicate_succ,List.flatMap_cons,← ih,hy];rfl
theorem made_flat2 {α:Type} (enc:α→List Value) (y:α) (z1 z2:Value) (hy:enc y=[z1,z2]) (n:Nat):(madeCells #[z1,z2] (n*2)).toList=(List.replicate n y).flatMap enc:=by
 have key:∀ n,(List.replicate n y).flatMap enc=(List.range (n*2)).map (fun i=>if i % 2=0 then z1 else z2):=by
  intro n
  induction n with
  | zero=>rfl
  | succ n ih =>
   rw[List.replicate_succ',List.flatMap_append,ih,show (n+1)*2=n*2+1+1 by omega,List.range_succ,List.range_succ,List.map_append,List.map_append,List.append_assoc]
   simp[hy]
 rw[key]
 apply List.ext_getElem
 ·simp[madeCells]
 ·intro i h1 h2
  rcases (by omega:i % 2=0∨i % 2=1) with h | h
  ·simp[madeCells,h]
  ·simp[madeCells,h]
theorem FmO.setWorkRow {B b:Nat} {W X:World} {f:M.Farm} {x:Fd} {o:Fo} (h:FmO B W b f x o) (ms:List Int) (a:Option Addr) (c:Nat) (hw:W.grownBy X (sv x.k f.work.length x.kc).ownBlock)
  (hr:X.ownsRow B 3 1 (sv a ms.length c) ms.length (ms.flatMap encI)) :
  FmO B (X.setCell (qa b 6) (sv a ms.length c)) b { f with work:=ms } { x with k:=a,kc:=c } o:=by
 have kr:∀ (e:TypeId) (k n:Nat) (v:Value) (xs:List Value),W.ownsRow B e k v n xs→e≠3→X.ownsRow B e k v n xs:=fun e k n v xs hx hne=>hx.kept hw (own_apart hx h.rowW hne)
 have kp:∀ e,POwn W B e→POwn X B e:=fun e ⟨en,hP,hm⟩=>⟨en,⟨kr _ _ _ _ _ hP.rowF (by decide),kr _ _ _ _ _ hP.rowD (by decide),fun e he=>kr _ _ _ _ _ (hP.bytes e he) (by decide),hP.small,hP.smallD,fun e he=>kr _ _ _ _ _ (hP.rels e he) (by decide)⟩,hm⟩
 have hb:=block_keptP h.rowW hw h.blk (by decide)
 have wr:Wr X (X.setCell (qa b 6) (sv a ms.length c)) 29:=⟨b,_,hb,grown_set _ _ _ _⟩
 exact⟨setB' hb _,h.bge,wr.row (kr _ _ _ _ _ h.rowP (by decide)) (by decide),h.mapP,wr.row (kr _ _ _ _ _ h.rowL (by decide)) (by decide),wr.row (kr _ _ _ _ _ h.rowD (by decide)) (by decide),wr.row (kr _ _ _ _ _ h.rowH (by decide)) (by decide),h.mapH,
  wr.row (kr _ _ _ _ _ h.rowG (by decide)) (by decide),wr.row hr (by decide),wr.row (kr _ _ _ _ _ h.rowN (by decide)) (by decide),h.mapN,
  fun e he=>wr.pw (kp e (h.ownP e he)) rfl,fun e he=>wr.pw (kp e (h.ownH e he)) rfl,fun e he=>wr.pw (kp e.e (h.ownN e he)) rfl,h.apart⟩
def nwR (B N:Nat) (parts:List M.Prt) (l:List M.Nd) (a:Option Addr) (c:Nat) (a':Option Addr) (c':Nat) (j:Nat) (W:World) (u:Value):Prop :=
 match j with
 | 0=>u=sv a parts.length c
 | 1=>∃ es:List PEnt,es.map (·.p)=parts∧W.ownsRow B 39 2 u es.length (es.flatMap pentCells)∧∀ e∈es,POwn W B e
 | 2=>u=(sv a' l.length c')
 | 3=>W.ownsRow B 75 3 u l.length (l.flatMap encNd)
 | 4=>u=(sv a' l.length c')
 | 5=>u=iv l.length
 | 6=>W.ownsRow B 4 1 u l.length ((List.replicate l.length false).flatMap encB)
 | 7=>u=(sv a' l.length c')
 | 8=>u=iv l.length
 | 9=>W.ownsRow B 39 2 u l.length ((List.replicate l.length pent0).flatMap pentCells)
 | 10=>u=(sv a' l.length c')
 | 11=>u=iv l.length
 | 12=>W.ownsRow B 64 2 u l.length ((List.replicate l.length M.grt0).flatMap encGrt)
 | 13=>∃ (y:Fd) (o:Fo),u=.agg #[sv y.p parts.length y.pc,sv y.l l.length y.lc,iv 0,sv y.d l.length y.dc,sv y.h l.length y.hc,sv y.g l.length y.gc,sv none 0 0,sv none 0 0]∧FmR B W ⟨parts,l,0,List.replicate l.length false,List.replicate l.length M.nil,List.replicate l.length M.grt0,[],[]⟩ { y with k:=none,kc:=0,n:=none,nc:=0 } o
 | 14=>∃ g,u=qv g 0∧(B≤g∧N≤g)∧W.heap[g]?=some (.cells qz 29 (0,0))
 | _=>False
theorem nwR_later {B N:Nat} {parts:List M.Prt} {l:List M.Nd} {a:Option Addr} {c:Nat} {a':Option Addr} {c':Nat} {W X:World} (hb:Below W.heap.size W X):∀ j u,nwR B N parts l a c a' c' j W u→nwR B N parts l a c a' c' j X u:=by
 intro j u h
 have hg:=grown_of_below hb Option.none
 match j,h with
 | 0,h=>exact h
 | 2,h=>exact h
 | 4,h=>exact h
 | 5,h=>exact h
 | 7,h=>exact h
 | 8,h=>exact h
 | 10,h=>exact h
 | 11,h=>exact h
 | 1,h=>obtain⟨es,h1,h2,h3⟩:=h;exact⟨es,h1,h2.kept hg own_self,fun e he=>(h3 e he).later hb⟩
 | 3,h=>exact World.ownsRow.kept h hg own_self
 | 6,h=>exact World.ownsRow.kept h hg own_self
 | 9,h=>exact World.ownsRow.kept h hg own_self
 | 12,h=>exact World.ownsRow.kept h hg own_self
 | 13,h=>obtain⟨y,o,h1,h2⟩:=h;exact⟨y,o,h1,h2.later hb⟩
 | 14,h=>obtain⟨g,h1,h2,h3⟩:=h;exact⟨g,h1,h2,(hb.block _ (lt1 h3)).trans h3⟩
def nwZ (j k:Nat) (u x:Value):Prop:=(j=1∧k=9∨j=9∧k=1)→u.ownBlock=none∨u.ownBlock≠x.ownBlock
theorem new_any (parts:List M.Prt) (l:List M.Nd) (wks:Int) (a a':Option Addr) (c c':Nat) (w:World) (hp:PartsAt w (sv a parts.length c) parts) (hn:NodesAt w (sv a' l.length c') l) :
  Calls Tryz.prog 15 #[sv a parts.length c,sv a' l.length c',iv wks] w fun e w'=>Below w.heap.size w w'∧∃ y,e=.returned (.tuple #[.agg #[sv y.p (M.new parts l wks).parts.length y.pc,sv y.l (M.new parts l wks).plan.length y.lc,iv (M.new parts l wks).now,sv y.d (M.new parts l wks).done.length y.dc,sv y.h (M.new parts l wks).got.length y.hc,sv y.g (M.new parts l wks).grants.length y.gc,sv y.k (M.new parts l wks).work.length y.kc,sv y.n (M.new parts l wks).net.length y.nc],iv (M.newE parts l wks)])∧FarmAt w' (M.new parts l wks) y∧(M.newE parts l wks=0→∃ o,FmR w.heap.size w' (M.new parts l wks) y o):=by
 obtain⟨iL,hiL,hL0,hL1,hL2⟩:=info_parts (P:=Tryz.prog) (e:=75) (z:=.agg #[iv 0,iv 0,iv 0]) (size:=3) (bytes:=24) (by kernel_rfl)
 obtain⟨iD,hiD,hD0,hD1,hD2⟩:=info_parts (P:=Tryz.prog) (e:=4) (z:=.bool false) (size:=1) (bytes:=1) (by kernel_rfl)
 obtain⟨iG,hiG,hG0,hG1,hG2⟩:=info_parts (P:=Tryz.prog) (e:=64) (z:=.agg #[iv 0,iv 0]) (size:=2) (bytes:=16) (by kernel_rfl)
 obtain⟨iP,hiP,hP0,hP1,hP2⟩:=info_parts (P:=Tryz.prog) (e:=39) (z:=.agg #[sv none 0 0,sv none 0 0]) (size:=2) (bytes:=48) (by kernel_rfl)
 obtain⟨iK,hiK,hK0,hK1,hK2⟩:=info_parts (P:=Tryz.prog) (e:=3) (z:=iv 0) (size:=1) (bytes:=8) (by kernel_rfl)
 have hpl:parts.length≤maxLen:=by obtain⟨_,h,_⟩:=hp;obtain⟨_,_,_,h⟩:=h.form;exact h
 unfold maxLen at hpl
 have hA:Below w.heap.size w (w.alloc (.cells qz 29)):=(Below.refl _ _).alloc (Nat.le_refl _) _
 have h2:=heap_alloc_new w (.cells qz 29)
 have HA:Hid (Below w.heap.size w (w.alloc (.cells qz 29))):=hA
 have HF:Hid (∀ W,Below w.heap.size w W→PartsAt W (sv a parts.length c) parts∧NodesAt W (sv a' l.length c') l):=fun W hW=>⟨hp.later hW,hn.later hW⟩
 have HE:Hid (M.newE parts l wks=M.orE (M.checkPlan l parts.length) (bif M.inR wks 1 4 then M.checkEach parts else 3)):=rfl
 have HS:Hid (M.new parts l wks=if M.newE parts l wks=0 then M.newF parts l wks else M.farm0):=rfl
 generalize M.new parts l wks=R at *
 generalize M.newE parts l wks=E at *
 clear hp hn hA
 go_enter Tryz.func15,Tryz.ntmps15
 go_upto_region 1 with fail
 obtain⟨r,hr⟩:∃ r,r=w.heap.size:=⟨_,rfl⟩
 have Hr:Hid (w.heap.size≤r):=by rw[Hid,hr];exact Nat.le_refl _
 rw[← hr] at h2 ⊢
 clear hr
 generalize w.alloc (.cells qz 29)=Z at *
 have Hh2:Hid (Z.heap[r]?=some (.cells qz 29 (0,0))):=h2
 clear h2
 have KP:Hid (Calls Tryz.prog 29 #[sv a' l.length c',iv parts.length] Z fun e w'=>e=.returned (iv (M.checkPlan l parts.length))∧Below Z.heap.size Z w'):=planCheck_any l parts.length _ _ Z (HF.out Z HA.out).2
 have KW:Hid (∀ W,Calls Tryz.prog 30 #[iv wks,iv 1,iv 4] W fun e w'=>e=.returned (.bool (M.inR wks 1 4))∧W=w'):=fun W=>(fwithin_any wks 1 4 W).mono fun e w' ⟨h1,h2⟩=>⟨h1,h2.symm⟩
 have KE:Hid (∀ W,Below w.heap.size w W→Calls Tryz.prog 31 #[sv a parts.length c] W fun e w'=>e=.returned (iv (M.checkEach parts))∧Below W.heap.size W w'):=fun W hW=>checkParts_any parts _ _ W (HF.out W hW).1
 by_cases hck:M.checkPlan l parts.length=0
 ·have HE1:Hid (E=bif M.inR wks 1 4 then M.checkEach parts else 3):=by rw[Hid,HE.out,hck];rfl
  obtain⟨hfew,hl23,hl0,_⟩:=check_ok hck
  have hfw:=(M.fewParts_iff _).1 hfew
  rw[hck] at KP
  clear HE hck hfew
  go_upto_region 4 with (go_at_call 29;refine KP.out.mono ?_;rintro e X ⟨rfl,hbX⟩)
  have HX:Hid (Below w.heap.size w X):=HA.out.trans (hbX.mono HA.out.size)
  have x2:=(hbX.block _ (lt1 Hh2.out)).trans Hh2.out
  clear KP hbX Hh2
  cases hin:M.inR wks 1 4
  ·rw[hin] at KW
   have HE2:Hid (E=3):=by rw[Hid,HE1.out,hin];rfl
   have HS2:Hid (R=M.farm0):=by rw[Hid,HS.out,HE2.out];rfl
   obtain⟨hs1,hs2⟩:=store8 X r (sv none 0 0) (sv none 0 0) (iv 0) (sv none 0 0) (sv none 0 0) (sv none 0 0) (sv none 0 0) (sv none 0 0) (sv none 0 0) (sv none 0 0) (iv 0) (sv none 0 0) (sv none 0 0) (sv none 0 0) (sv none 0 0) (sv none 0 0) 29 x2
   have HBV:Hid (Below w.heap.size w ((((((((X.setCell (qa r 0) (sv none 0 0)).setCell (qa r 1) (sv none 0 0)).setCell (qa r 2) (iv 0)).setCell (qa r 3) (sv none 0 0)).setCell (qa r 4) (sv none 0 0)).setCell (qa r 5) (sv none 0 0)).setCell (qa r 6) (sv none 0 0)).setCell (qa r 7) (sv none 0 0))):=HX.out.grown hs2 HX.out.size (fun k hk=>by cases hk;exact Hr.out)
   obtain⟨r0,r1,r2,r3,r4,r5,r6,r7⟩:=cell8 x2
   have rf:=frozenB x2
   have lr:=lt1 x2
   clear HE1 HS x2 hs2 hin
   go_wp2_with (go_at_call 30;refine (KW.out _).mono ?_;rintro e w1 ⟨rfl,rfl⟩)
   obtain⟨e0,e1,e2,e3,e4,e5,e6,e7⟩:=cell8 hs1
   refine bodyPost_ret (v:=.tuple #[.agg qz,iv 3]) (by simp[results,Tryz.results15,go_sem,e0,e1,e2,e3,e4,e5,e6,e7]) rfl ?_
   rw[HS2.out,HE2.out]
   exact⟨HBV.out,fd0,rfl,farm0_at _,fun h=>absurd h (by decide)⟩
  ·rw[hin] at KW
   have hin':=(M.inR_iff _ _ _).1 hin
   have HE2:Hid (E=M.checkEach parts):=by rw[Hid,HE1.out,hin];rfl
   have KE1:Hid (Calls Tryz.prog 31 #[sv a parts.length c] X fun e w'=>e=.returned (iv (M.checkEach parts))∧Below X.heap.size X w'):=KE.out X HX.out
   by_cases hce:M.checkEach parts=0
   ·have HE3:Hid (E=0):=by rw[Hid,HE2.out,hce]
    have HS2:Hid (R=M.newF parts l wks):=by rw[Hid,HS.out,HE3.out];rfl
    have HPa:M.checkEach parts=0:=hce
    rw[hce] at KE1
    have Hx2:Hid (X.heap[r]?=some (.cells qz 29 (0,0))):=x2
    have HPa':Hid (M.checkEach parts=0):=HPa
    clear HE1 HE2 HS hce KE x2 hin HPa
    go_upto_region 9 with (first | (go_at_call 30;refine (KW.out _).mono ?_;rintro e w1 ⟨rfl,rfl⟩) | (go_at_call 31;refine KE1.out.mono ?_;rintro e Y ⟨rfl,hbY⟩))
    have HY:Hid (Below w.heap.size w Y):=HX.out.trans (hbY.mono HX.out.size)
    have y2:=(hbY.block _ (lt1 Hx2.out)).trans Hx2.out
    have HPa:=HPa'.out
    obtain⟨B,hB⟩:∃ B,B=w.heap.size:=⟨_,rfl⟩
    have hBY:B≤Y.heap.size:=by rw[hB];exact HY.out.size
    have hYA:∀ W,Below Y.heap.size Y W→(PartsAt W (sv a parts.length c) parts∧NodesAt W (sv a' l.length c') l)∧B≤W.heap.size:=fun W hW=>⟨HF.out W (HY.out.trans (hW.mono HY.out.size)),Nat.le_trans hBY hW.size⟩
    obtain⟨N,hN⟩:∃ N,N=Y.heap.size:=⟨_,rfl⟩
    refine wp_region_rel 15 (fun _ W=>Below Y.heap.size Y W) (fun v=>⟨#[(sv a parts.length c),(sv a' l.length c'),iv wks,undef,undef,undef,qv r 0,iv 0,iv 0,iv 0,v 14,(sv a' l.length c'),(sv a parts.length c),iv parts.length,iv 0,iv 0,.bool false,undef,undef,iv wks,.bool true,.bool false,undef,(sv a parts.length c),iv 0,iv 0,.bool false,undef,undef,v 0,v 1,v 2,v 3,v 4,v 5,v 6,v 7,v 8,v 9,v 10,v 11,v 12,v 13,undef,undef,undef,undef,undef,undef,undef,undef,undef,undef],[]⟩) (nwR B N parts l a c a' c') nwZ (by kernel_rfl) (by kernel_rfl) (Below.refl _ _).drew ⟨fun _=>undef,rfl⟩ ?_ ?_
    ·intro j op hj ho
     rcases (by omega:j=0∨j=1∨j=2∨j=3∨j=4∨j=5∨j=6∨j=7∨j=8∨j=9∨j=10∨j=11∨j=12∨j=13∨j=14) with rfl | rfl | rfl | rfl | rfl | rfl | rfl | rfl | rfl | rfl | rfl | rfl | rfl | rfl | rfl
     all_goals cases ho
     all_goals refine relStep_of rfl rfl ?_
     all_goals rintro sd v W hC hin hsd hdep hdz
     all_goals obtain⟨⟨hPa,hNo⟩,hBW⟩:=hYA W hC
     ·exact wp_val (sv a parts.length c) (by simp[execOp,Act.eval,go_sem]) ⟨_,rfl,hC,fun _ _ _ _ h=>h,rfl,fun k hk _ hz=>⟨fun h=>absurd h (by omega),fun h=>absurd h (by omega)⟩⟩
     ·have hv:v 0=sv a parts.length c:=hdep ⟨0,.data⟩ (by simp) rfl
      refine wp_enter 49 #[sv a parts.length c] (by simp[Act.eval,go_sem,hv]) ?_
      refine (copyParts_any parts _ _ W hPa (by omega) HPa).mono ?_
      rintro e W2 ⟨u,rfl,hE⟩
      obtain⟨es,hm,hr,hp⟩:=hE.ex
      refine⟨u,rfl,u,rfl,hC.trans (hE.below.mono hC.size),(fun k x _ _=>nwR_later hE.below k x),⟨es,hm,row_base hr hBW,fun e he=>(hp e he).base hBW⟩,fun k hk _ hz=>?_⟩
      have hap:k=9→(u.ownBlock=none∨u.ownBlock≠(v k).ownBlock)∧((v k).ownBlock=none∨(v k).ownBlock≠u.ownBlock):=by
       intro hke
       rw[hke] at hz ⊢
       have hr2:W.ownsRow B 39 2 (v 9) l.length ((List.replicate l.length pent0).flatMap pentCells):=hz
       cases hu:u.ownBlock with
       | none=>exact⟨.inl rfl,by cases (v 9).ownBlock <;> simp⟩
       | some g =>
        cases hz2:(v 9).ownBlock with
        | none=>exact⟨.inr (by simp),.inl rfl⟩
        | some g2 =>
         have:=(hr.lt g hu).1
         have:=(hr2.lt g2 hz2).2
         exact⟨.inr (by simp;omega),.inr (by simp;omega)⟩
      exact⟨fun h=>(hap (by omega)).1,fun h=>(hap (by omega)).2⟩
     ·exact wp_val ((sv a' l.length c')) (by simp[execOp,Act.eval,go_sem]) ⟨_,rfl,hC,fun _ _ _ _ h=>h,rfl,fun k hk _ hz=>⟨fun h=>absurd h (by omega),fun h=>absurd h (by omega)⟩⟩
     ·have hv:v 2=sv a' l.length c':=hdep ⟨2,.data⟩ (by simp) rfl
      refine wp_append_src W _ _ 23 rfl B 75 iL (.agg #[iv 0,iv 0,iv 0]) 3 24 Tryz.underlying23 hiL hL0 hL1 hL2 rfl (by decide) (sv none 0 0) 0 [] rfl (World.ownsRow_nil _ _ _ _) (sv a' l.length c') l.length (l.flatMap encNd) hv hNo.src (flat_len' 3 encNd (fun _=>rfl) _) (fun u hu=>by obtain⟨q,_,hu⟩:=List.mem_flatMap.1 hu;simp[encNd] at hu;rcases hu with rfl | rfl | rfl <;> rfl) (by unfold maxLen;omega) (by omega) hBW ?_
      intro u W2 hr hg
      have hb2:Below W.heap.size W W2:=(Below.refl _ _).grown hg (Nat.le_refl _) (fun k hk=>by cases hk)
      rw[Nat.zero_add,List.nil_append] at hr
      exact⟨u,rfl,hC.trans (hb2.mono hC.size),(fun k x _ _=>nwR_later hb2 k x),hr,fun k hk _ hz=>⟨fun h=>absurd h (by omega),fun h=>absurd h (by omega)⟩⟩
     ·exact wp_val ((sv a' l.length c')) (by simp[execOp,Act.eval,go_sem]) ⟨_,rfl,hC,fun _ _ _ _ h=>h,rfl,fun k hk _ hz=>⟨fun h=>absurd h (by omega),fun h=>absurd h (by omega)⟩⟩
     ·have hv:v 4=(sv a' l.length c'):=hdep ⟨4,.data⟩ (by simp) rfl
      exact wp_val (iv l.length) (by simp[Act.eval,go_sem,hv]) ⟨_,rfl,hC,fun _ _ _ _ h=>h,rfl,fun k hk _ hz=>⟨fun h=>absurd h (by omega),fun h=>absurd h (by omega)⟩⟩
     ·have hv:v 5=iv l.length:=hdep ⟨5,.data⟩ (by simp) rfl
      obtain⟨W2,hmk,hrow,hgr⟩:=run_makeSlice_full W B 24 4 iD (.bool false) 1 Tryz.underlying24 hiD hD0 hD1 .i64 .i64 l.length (by omega) (by rw[hD2];omega) (by unfold maxLen;omega) hBW
      have hb2:Below W.heap.size W W2:=(Below.refl _ _).grown hgr (Nat.le_refl _) (fun k hk=>by cases hk)
      rw[show (Value.cells (.bool false))=#[.bool false] from rfl,made_flat1 encB false (.bool false) rfl l.length] at hrow
      exact wp_valW (sv (some (qa W.heap.size 0)) l.length l.length) W2 (by simp[execOp,Act.eval,hv,hmk]) ⟨_,rfl,hC.trans (hb2.mono hC.size),(fun k x _ _=>nwR_later hb2 k x),hrow,fun k hk _ hz=>⟨fun h=>absurd h (by omega),fun h=>absurd h (by omega)⟩⟩
     ·exact wp_val ((sv a' l.length c')) (by simp[execOp,Act.eval,go_sem]) ⟨_,rfl,hC,fun _ _ _ _ h=>h,rfl,fun k hk _ hz=>⟨fun h=>absurd h (by omega),fun h=>absurd h (by omega)⟩⟩
     ·have hv:v 7=(sv a' l.length c'):=hdep ⟨7,.data⟩ (by simp) rfl
      exact wp_val (iv l.length) (by simp[Act.eval,go_sem,hv]) ⟨_,rfl,hC,fun _ _ _ _ h=>h,rfl,fun k hk _ hz=>⟨fun h=>absurd h (by omega),fun h=>absurd h (by omega)⟩⟩
     ·have hv:v 8=iv l.length:=hdep ⟨8,.data⟩ (by simp) rfl
      obtain⟨W2,hmk,hrow,hgr⟩:=run_makeSlice_full W B 22 39 iP (.agg #[sv none 0 0,sv none 0 0]) 2 Tryz.underlying22 hiP hP0 hP1 .i64 .i64 l.length (by omega) (by rw[hP2];omega) (by unfold maxLen;omega) hBW
      have hb2:Below W.heap.size W W2:=(Below.refl _ _).grown hgr (Nat.le_refl _) (fun k hk=>by cases hk)
      rw[show (Value.cells (.agg #[sv none 0 0,sv none 0 0]))=#[sv none 0 0,sv none 0 0] from rfl,made_flat2 pentCells pent0 (sv none 0 0) (sv none 0 0) rfl l.length] at hrow
      refine wp_valW (sv (some (qa W.heap.size 0)) l.length l.length) W2 (by simp[execOp,Act.eval,hv,hmk]) ⟨_,rfl,hC.trans (hb2.mono hC.size),(fun k x _ _=>nwR_later hb2 k x),hrow,fun k hk _ hz=>?_⟩
      have hap:k=1→((sv (some (qa W.heap.size 0)) l.length l.length).ownBlock=none∨(sv (some (qa W.heap.size 0)) l.length l.length).ownBlock≠(v k).ownBlock)∧((v k).ownBlock=none∨(v k).ownBlock≠(sv (some (qa W.heap.size 0)) l.length l.length).ownBlock):=by
       intro hke
       rw[hke] at hz ⊢
       obtain⟨es2,_,hr2,_⟩:=hz
       cases hz2:(v 1).ownBlock with
       | none=>exact⟨.inr (by simp[Value.ownBlock]),.inl rfl⟩
       | some g2 =>
        have:=(hr2.lt g2 hz2).2
        exact⟨.inr (by simp[Value.ownBlock];omega),.inr (by simp[Value.ownBlock];omega)⟩
      exact⟨fun h=>(hap (by omega)).1,fun h=>(hap (by omega)).2⟩
     ·exact wp_val ((sv a' l.length c')) (by simp[execOp,Act.eval,go_sem]) ⟨_,rfl,hC,fun _ _ _ _ h=>h,rfl,fun k hk _ hz=>⟨fun h=>absurd h (by omega),fun h=>absurd h (by omega)⟩⟩
     ·have hv:v 10=(sv a' l.length c'):=hdep ⟨10,.data⟩ (by simp) rfl
      exact wp_val (iv l.length) (by simp[Act.eval,go_sem,hv]) ⟨_,rfl,hC,fun _ _ _ _ h=>h,rfl,fun k hk _ hz=>⟨fun h=>absurd h (by omega),fun h=>absurd h (by omega)⟩⟩
     ·have hv:v 11=iv l.length:=hdep ⟨11,.data⟩ (by simp) rfl
      obtain⟨W2,hmk,hrow,hgr⟩:=run_makeSlice_full W B 25 64 iG (.agg #[iv 0,iv 0]) 2 Tryz.underlying25 hiG hG0 hG1 .i64 .i64 l.length (by omega) (by rw[hG2];omega) (by unfold maxLen;omega) hBW
      have hb2:Below W.heap.size W W2:=(Below.refl _ _).grown hgr (Nat.le_refl _) (fun k hk=>by cases hk)
      rw[show (Value.cells (.agg #[iv 0,iv 0]))=#[iv 0,iv 0] from rfl,made_flat2 encGrt M.grt0 (iv 0) (iv 0) rfl l.length] at hrow
      exact wp_valW (sv (some (qa W.heap.size 0)) l.length l.length) W2 (by simp[execOp,Act.eval,hv,hmk]) ⟨_,rfl,hC.trans (hb2.mono hC.size),(fun k x _ _=>nwR_later hb2 k x),hrow,fun k hk _ hz=>⟨fun h=>absurd h (by omega),fun h=>absurd h (by omega)⟩⟩
     ·obtain⟨eP,mP,rP,oP⟩:nwR B N parts l a c a' c' 1 W (v 1):=hdep ⟨1,.data⟩ (by simp) rfl
      have r3:W.ownsRow B 75 3 (v 3) l.length (l.flatMap encNd):=hdep ⟨3,.data⟩ (by simp) rfl
      have r6:W.ownsRow B 4 1 (v 6) l.length ((List.replicate l.length false).flatMap encB):=hdep ⟨6,.data⟩ (by simp) rfl
      have r9:W.ownsRow B 39 2 (v 9) l.length ((List.replicate l.length pent0).flatMap pentCells):=hdep ⟨9,.data⟩ (by simp) rfl
      have r12:W.ownsRow B 64 2 (v 12) l.length ((List.replicate l.length M.grt0).flatMap encGrt):=hdep ⟨12,.data⟩ (by simp) rfl
      have hz:nwZ 1 9 (v 1) (v 9):=hdz ⟨1,.data⟩ (by simp) ⟨9,.data⟩ (by simp) rfl rfl (by decide)
      have lP:=map_len mP
      rw[← lP] at rP
      obtain⟨yp,ypc,e1⟩:=own_len rP
      obtain⟨yl,ylc,e3⟩:=own_len r3
      obtain⟨yd,ydc,e6⟩:=own_len r6
      obtain⟨yh,yhc,e9⟩:=own_len r9
      obtain⟨yg,ygc,e12⟩:=own_len r12
      have hz':=hz (.inl ⟨rfl,rfl⟩)
      rw[e1,e9] at hz'
      rw[e1] at rP
      rw[e3] at r3
      rw[e6] at r6
      rw[e9] at r9
      rw[e12] at r12
      refine wp_val (.agg #[sv yp parts.length ypc,sv yl l.length ylc,iv 0,sv yd l.length ydc,sv yh l.length yhc,sv yg l.length ygc,sv none 0 0,sv none 0 0]) (by simp[execOp,Act.eval,go_sem,e1,e3,e6,e9,e12]) ⟨_,rfl,hC,fun _ _ _ _ h=>h,?_,fun k hk _ hz=>⟨fun h=>absurd h (by omega),fun h=>absurd h (by omega)⟩⟩
      refine⟨⟨yp,ypc,yl,ylc,yd,ydc,yh,yhc,yg,ygc,none,0,none,0⟩,⟨eP,List.replicate l.length pent0,[]⟩,rfl,⟨rP,mP,r3,?_,?_,?_,?_,World.ownsRow_nil _ _ _ _,World.ownsRow_nil _ _ _ _,rfl,oP,?_,(fun e he=>by cases he),?_⟩⟩
      ·simpa using r6
      ·simpa using r9
      ·simp[pent0]
      ·simpa using r12
      ·intro e he;rw[List.eq_of_mem_replicate he];exact⟨[],PR.nil _ _,rfl⟩
      ·simpa using hz'
     ·have hA:=(Below.refl W.heap.size W).alloc (Nat.le_refl _) (.cells qz 29)
      exact wp_valW (qv W.heap.size 0) (W.alloc (.cells qz 29)) (by simp[execOp,go_sem]) ⟨_,rfl,hC.trans (hA.mono hC.size),(fun k x _ _=>nwR_later hA k x),⟨W.heap.size,rfl,⟨hBW,by rw[hN];exact hC.size⟩,heap_alloc_new W _⟩,fun k hk _ hz=>⟨fun h=>absurd h (by omega),fun h=>absurd h (by omega)⟩⟩
    ·rintro sd v W hC hR hZ
     obtain⟨_,hBW⟩:=hYA W hC
     obtain⟨y,o,h13,hrows⟩:nwR B N parts l a c a' c' 13 W (v 13):=hR 13 (by decide)
     obtain⟨g,h14,⟨hBg,hNg⟩,hg⟩:nwR B N parts l a c a' c' 14 W (v 14):=hR 14 (by decide)
     have hresW:=(hC.block _ (lt1 y2)).trans y2
     have hrY:=lt1 y2
     obtain⟨hs1,hs2⟩:=store8 W g (sv none 0 0) (sv none 0 0) (iv 0) (sv none 0 0) (sv none 0 0) (sv none 0 0) (sv none 0 0) (sv none 0 0) (sv y.p parts.length y.pc) (sv y.l l.length y.lc) (iv 0) (sv y.d l.length y.dc) (sv y.h l.length y.hc) (sv y.g l.length y.gc) (sv none 0 0) (sv none 0 0) 29 hg
     have hO:FmO B ((((((((W.setCell (qa g 0) (sv y.p parts.length y.pc)).setCell (qa g 1) (sv y.l l.length y.lc)).setCell (qa g 2) (iv 0)).setCell (qa g 3) (sv y.d l.length y.dc)).setCell (qa g 4) (sv y.h l.length y.hc)).setCell (qa g 5) (sv y.g l.length y.gc)).setCell (qa g 6) (sv none 0 0)).setCell (qa g 7) (sv none 0 0)) g ⟨parts,l,0,List.replicate l.length false,List.replicate l.length M.nil,List.replicate l.length M.grt0,[],[]⟩ { y with k:=none,kc:=0,n:=none,nc:=0 } o:=(hrows.wr ⟨g,_,hg,hs2⟩).own hBg (by simpa using hs1)
     have hrk:=(hs2.block r (lt1 hresW) (by simp;omega)).trans hresW
     have hBw:Below B w ((((((((W.setCell (qa g 0) (sv y.p parts.length y.pc)).setCell (qa g 1) (sv y.l l.length y.lc)).setCell (qa g 2) (iv 0)).setCell (qa g 3) (sv y.d l.length y.dc)).setCell (qa g 4) (sv y.h l.length y.hc)).setCell (qa g 5) (sv y.g l.length y.gc)).setCell (qa g 6) (sv none 0 0)).setCell (qa g 7) (sv none 0 0)):=by
      have h1:Below w.heap.size w W:=HY.out.trans (hC.mono HY.out.size)
      rw[hB]
      exact h1.grown hs2 h1.size (fun k hk=>by cases hk;omega)
     simp only[List.drop_succ_cons,List.drop_zero]
     obtain⟨g0,g1,g2,g3,g4,g5,g6,g7⟩:=cell8 hg
     have f0:=frozenB hg
     have lg:=lt1 hg
     have HBB:Hid (B=w.heap.size):=hB
     have Hrg:Hid (r≠g):=by rw[Hid];omega
     have Hh:Hid (FmO B ((((((((W.setCell (qa g 0) (sv y.p parts.length y.pc)).setCell (qa g 1) (sv y.l l.length y.lc)).setCell (qa g 2) (iv 0)).setCell (qa g 3) (sv y.d l.length y.dc)).setCell (qa g 4) (sv y.h l.length y.hc)).setCell (qa g 5) (sv y.g l.length y.gc)).setCell (qa g 6) (sv none 0 0)).setCell (qa g 7) (sv none 0 0)) g ⟨parts,l,0,List.replicate l.length false,List.replicate l.length M.nil,List.replicate l.length M.grt0,[],[]⟩ { y with k:=none,kc:=0,n:=none,nc:=0 } o∧((((((((W.setCell (qa g 0) (sv y.p parts.length y.pc)).setCell (qa g 1) (sv y.l l.length y.lc)).setCell (qa g 2) (iv 0)).setCell (qa g 3) (sv y.d l.length y.dc)).setCell (qa g 4) (sv y.h l.length y.hc)).setCell (qa g 5) (sv y.g l.length y.gc)).setCell (qa g 6) (sv none 0 0)).setCell (qa g 7) (sv none 0 0)).heap[r]?=some (.cells qz 29 (0,0))∧Below B w ((((((((W.setCell (qa g 0) (sv y.p parts.length y.pc)).setCell (qa g 1) (sv y.l l.length y.lc)).setCell (qa g 2) (iv 0)).setCell (qa g 3) (sv y.d l.length y.dc)).setCell (qa g 4) (sv y.h l.length y.hc)).setCell (qa g 5) (sv y.g l.length y.gc)).setCell (qa g 6) (sv none 0 0)).setCell (qa g 7) (sv none 0 0))):=⟨hO,hrk,hBw⟩
     rw[h13,h14]
     clear hR hZ h13 h14 hresW hrows hs1 hs2 hYA hC hg HPa hB hN hBY y2 hO hrk hBw
     go_upto_region 10 with fail
     clear g0 g1 g2 g3 g4 g5 g6 g7 f0
     generalize ((((((((W.setCell (qa g 0) (sv y.p parts.length y.pc)).setCell (qa g 1) (sv y.l l.length y.lc)).setCell (qa g 2) (iv 0)).setCell (qa g 3) (sv y.d l.length y.dc)).setCell (qa g 4) (sv y.h l.length y.hc)).setCell (qa g 5) (sv y.g l.length y.gc)).setCell (qa g 6) (sv none 0 0)).setCell (qa g 7) (sv none 0 0))=X0 at *
     obtain⟨wn,rfl⟩:∃ m:Nat,wks=m:=⟨wks.toNat,by omega⟩
     have hw4:wn≤4:=by omega
     clear hin'
     go_upto_region 11 with fail
     go_loopw [44] (fun s44 wr=>∃ (k:Nat) (xk:Fd),k≤wn∧s44=iv k∧Hid (∃ ok,FmO B wr g ⟨parts,l,0,List.replicate l.length false,List.replicate l.length M.nil,List.replicate l.length M.grt0,List.replicate k (-1),[]⟩ xk ok)∧Hid (Below B w wr)∧Hid (wr.heap[r]?=some (.cells qz 29 (0,0)))) (fun s44 _=>wn - (intOf s44).toNat)
     case atStart=>exact⟨0,{ y with k:=none,kc:=0,n:=none,nc:=0 },Nat.zero_le _,rfl,⟨o,Hh.out.1⟩,Hh.out.2.2,Hh.out.2.1⟩
     case round =>
      obtain⟨k,xk,hk,rfl,HO,HB,Hz⟩:=hrel
      clear Hh
      obtain⟨ok,hO⟩:=HO.out
      have hsw:B≤wr.heap.size:=by rw[HBB.out];exact HB.out.size
      obtain⟨nk,hnk⟩:∃ nk,(List.replicate k (-1:Int)).length=nk:=⟨_,rfl⟩
      have Hnk:Hid (nk=k):=by rw[Hid,← hnk,List.length_replicate]
      have hnk4:nk≤4:=by have:=Hnk.out;omega
      have hgb:=hO.blk
      simp only[List.length_replicate,List.length_nil] at hgb
      rw[show k=nk from Hnk.out.symm] at hgb
      have hrow:=hO.rowW
      simp only at hrow
      rw[hnk] at hrow
      by_cases hlt:k<wn
      ·have hkl:(k:Int)<(wn:Int):=by omega
       have c6:=cellC hgb 6 rfl
       have lgw:=lt1 hgb
       have hnews:∀ j u,(#[iv (-1)]:Array Value).toList[j]?=some u→(wr.alloc (.cells #[iv (-1)] 3)).cell? ((qa wr.heap.size 0).add j)=some u:=World.news_of_block (heap_alloc_new wr _)
       have HAp:Hid (∀ v' w3,(wr.alloc (.cells #[iv (-1)] 3)).grownBy w3 (sv xk.k nk xk.kc).ownBlock→w3.ownsRow B 3 1 v' (nk+1) ((List.replicate k (-1:Int)).flatMap encI ++ (#[iv (-1)]:Array Value).toList)→∃ a8 c8,v'=sv a8 (nk+1) c8∧g<w3.heap.size∧w3.cell? (qa g 6)=some (sv xk.k nk xk.kc)∧w3.frozen? (qa g 6)=false ∧
         Hid (∃ ok,FmO B (w3.setCell (qa g 6) (sv a8 (nk+1) c8)) g ⟨parts,l,0,List.replicate l.length false,List.replicate l.length M.nil,List.replicate l.length M.grt0,List.replicate (k+1) (-1),[]⟩ { xk with k:=a8,kc:=c8 } ok)∧Hid (Below B w (w3.setCell (qa g 6) (sv a8 (nk+1) c8)))∧Hid ((w3.setCell (qa g 6) (sv a8 (nk+1) c8)).heap[r]?=some (.cells qz 29 (0,0)))):=fun v' w3 hgr ho=>by
        have hb3:=(Below.refl wr.heap.size wr).alloc (Nat.le_refl _) (.cells #[iv (-1)] 3)
        have hO3:=hO.later hb3
        have hrow3:=hrow.alloc (.cells #[iv (-1)] 3)
        have hg3:=block_keptP hrow3 hgr ((hb3.block _ lgw).trans hgb) (by decide)
        have hz3:=block_keptP hrow3 hgr ((hb3.block _ (lt1 Hz.out)).trans Hz.out) (by decide)
        obtain⟨a8,c8,rfl⟩:=own_len ho
        have hl1:(List.replicate (k+1) (-1:Int)).length=nk+1:=by rw[List.length_replicate,Hnk.out]
        refine⟨a8,c8,rfl,(lt1 hg3),cellB hg3 6,frozenB hg3 6,?_,?_,?_⟩
        ·have:=hO3.setWorkRow (List.replicate (k+1) (-1:Int)) a8 c8 (X:=w3) (by simp only;rw[hnk];exact hgr) (by rw[hl1,List.replicate_succ',List.flatMap_append];simpa [List.flatMap_cons,encI] using ho)
         rw[hl1] at this
         exact⟨_,this⟩
        ·exact ((HB.out.trans (hb3.mono hsw)).grown hgr (Nat.le_trans hsw hb3.size) (fun k hk=>(hrow3.lt k hk).1)).setCell hBg _
        ·exact (Below.heap_setCell _ _ _ _ Hrg.out).trans hz3
       clear hO HO hgb Hz HB
       go_wp2_with (at_builtin;refine wpList_append_own _ rfl _ _ 26 rfl B 3 iK (iv 0) 1 8 Tryz.underlying26 hiK hK0 hK1 hK2 rfl (by decide) _ _ _ rfl (hrow.alloc _) ⟨wr.heap.size,0,none⟩ 1 1 (#[iv (-1)]:Array Value).toList rfl rfl hnews (fun u hu=>by simp at hu;rcases hu with rfl;rfl) (by unfold maxLen;omega) (by omega) (by simp;omega) ?_;intro v' w3 hown' hgrow3 hnil3;obtain⟨a8,c8,rfl,q1,q2,q3,q4,q5,q6⟩:=HAp.out _ _ hgrow3 hown';refine Hid.out ?_)
       clear hown' hgrow3 hnil3 hrow hnews c6 HAp
       refine Lib.hid ?_
       go_wp2_with fail
       go_roundw
       case rel=>exact⟨k+1,{ xk with k:=a8,kc:=c8 },by omega,by go_num,q4,q5,q6⟩
       case measure=>simp[intOf];omega
      ·have hkl:k=wn:=by omega
       have HS3:Hid (R=⟨parts,l,0,List.replicate l.length false,List.replicate l.length M.nil,List.replicate l.length M.grt0,List.replicate k (-1),[]⟩):=by rw[Hid,HS2.out,hkl,M.newF,Int.toNat_natCast]
       subst hkl
       have v2:=Hz.out
       obtain⟨hs1,hs2⟩:=store8 wr r (sv none 0 0) (sv none 0 0) (iv 0) (sv none 0 0) (sv none 0 0) (sv none 0 0) (sv none 0 0) (sv none 0 0) (sv xk.p parts.length xk.pc) (sv xk.l l.length xk.lc) (iv 0) (sv xk.d l.length xk.dc) (sv xk.h l.length xk.hc) (sv xk.g l.length xk.gc) (sv xk.k nk xk.kc) (sv xk.n 0 xk.nc) 29 v2
       have HFA:Hid (FmR w.heap.size ((((((((wr.setCell (qa r 0) (sv xk.p parts.length xk.pc)).setCell (qa r 1) (sv xk.l l.length xk.lc)).setCell (qa r 2) (iv 0)).setCell (qa r 3) (sv xk.d l.length xk.dc)).setCell (qa r 4) (sv xk.h l.length xk.hc)).setCell (qa r 5) (sv xk.g l.length xk.gc)).setCell (qa r 6) (sv xk.k nk xk.kc)).setCell (qa r 7) (sv xk.n 0 xk.nc)) ⟨parts,l,0,List.replicate l.length false,List.replicate l.length M.nil,List.replicate l.length M.grt0,List.replicate k (-1),[]⟩ xk ok):=(hO.rows.wr ⟨r,_,v2,hs2⟩).base (Nat.le_of_eq HBB.out.symm)
       have HBV:Hid (Below w.heap.size w ((((((((wr.setCell (qa r 0) (sv xk.p parts.length xk.pc)).setCell (qa r 1) (sv xk.l l.length xk.lc)).setCell (qa r 2) (iv 0)).setCell (qa r 3) (sv xk.d l.length xk.dc)).setCell (qa r 4) (sv xk.h l.length xk.hc)).setCell (qa r 5) (sv xk.g l.length xk.gc)).setCell (qa r 6) (sv xk.k nk xk.kc)).setCell (qa r 7) (sv xk.n 0 xk.nc))):=by
        have h1:Below w.heap.size w wr:=by rw[← HBB.out];exact HB.out
        exact h1.grown hs2 h1.size (fun k hk=>by cases hk;exact Hr.out)
       obtain⟨k0,k1,k2,k3,k4,k5,k6,k7⟩:=cell8 hgb
       have lgw:=lt1 hgb
       obtain⟨r0,r1,r2,r3,r4,r5,r6,r7⟩:=cell8 v2
       have rf:=frozenB v2
       have lr:=lt1 v2
       have hrg:=Hrg.out
       clear HS2 hO v2 hs2 HO HB Hz hgb hrow hnk
       go_wp2_with fail
       obtain⟨e0,e1,e2,e3,e4,e5,e6,e7⟩:=cell8 hs1
       refine bodyPost_ret (v:=.tuple #[.agg #[sv xk.p parts.length xk.pc,sv xk.l l.length xk.lc,iv 0,sv xk.d l.length xk.dc,sv xk.h l.length xk.hc,sv xk.g l.length xk.gc,sv xk.k nk xk.kc,sv xk.n 0 xk.nc],iv 0]) (by simp[results,Tryz.results15,go_sem,e0,e1,e2,e3,e4,e5,e6,e7]) rfl ?_
       rw[HS3.out,HE3.out]
       refine⟨HBV.out,xk,?_,HFA.out.at,fun _=>⟨ok,HFA.out⟩⟩
       have h1:=Hnk.out
       subst h1
       simp
   ·have HE3:Hid (E=M.checkEach parts):=HE2
    have HS2:Hid (R=M.farm0):=by rw[Hid,HS.out,HE3.out,if_neg hce]
    have hne:(M.checkEach parts !=0)=true:=by simpa using hce
    have Hx2:Hid (X.heap[r]?=some (.cells qz 29 (0,0))):=x2
    clear HE1 HE2 HS hce KE x2 hin
    generalize M.checkEach parts=e' at *
    go_upto_region 8 with (first | (go_at_call 30;refine (KW.out _).mono ?_;rintro e w1 ⟨rfl,rfl⟩) | (go_at_call 31;refine KE1.out.mono ?_;rintro e V ⟨rfl,hbY⟩))
    have HV:Hid (Below w.heap.size w V):=HX.out.trans (hbY.mono HX.out.size)
    have v2:=(hbY.block _ (lt1 Hx2.out)).trans Hx2.out
    obtain⟨hs1,hs2⟩:=store8 V r (sv none 0 0) (sv none 0 0) (iv 0) (sv none 0 0) (sv none 0 0) (sv none 0 0) (sv none 0 0) (sv none 0 0) (sv none 0 0) (sv none 0 0) (iv 0) (sv none 0 0) (sv none 0 0) (sv none 0 0) (sv none 0 0) (sv none 0 0) 29 v2
    have HBV:Hid (Below w.heap.size w ((((((((V.setCell (qa r 0) (sv none 0 0)).setCell (qa r 1) (sv none 0 0)).setCell (qa r 2) (iv 0)).setCell (qa r 3) (sv none 0 0)).setCell (qa r 4) (sv none 0 0)).setCell (qa r 5) (sv none 0 0)).setCell (qa r 6) (sv none 0 0)).setCell (qa r 7) (sv none 0 0))):=HV.out.grown hs2 HV.out.size (fun k hk=>by cases hk;exact Hr.out)
    obtain⟨r0,r1,r2,r3,r4,r5,r6,r7⟩:=cell8 v2
    have rf:=frozenB v2
    have lr:=lt1 v2
    clear v2 hs2 KW KE1 hbY
    go_wp2_with fail
    obtain⟨e0,e1,e2,e3,e4,e5,e6,e7⟩:=cell8 hs1
    refine bodyPost_ret (v:=.tuple #[.agg qz,iv e']) (by simp[results,Tryz.results15,go_sem,e0,e1,e2,e3,e4,e5,e6,e7]) rfl ?_
    rw[HS2.out,HE3.out]
    exact⟨HBV.out,fd0,rfl,farm0_at _,fun h=>absurd h (by simpa using hne)⟩
 ·have HE3:Hid (E=M.checkPlan l parts.length):=by rw[Hid,HE.out,M.orE,if_neg hck]
  have HS2:Hid (R=M.farm0):=by rw[Hid,HS.out,HE3.out,if_neg hck]
  have hne:(M.checkPlan l parts.length !=0)=true:=by simpa using hck
  clear HE HS hck KE KW
  generalize M.checkPlan l parts.length=e' at *
  go_upto_region 3 with (go_at_call 29;refine KP.out.mono ?_;rintro e V ⟨rfl,hbY⟩)
  have HV:Hid (Below w.heap.size w V):=HA.out.trans (hbY.mono HA.out.size)
  have v2:=(hbY.block _ (lt1 Hh2.out)).trans Hh2.out
  obtain⟨hs1,hs2⟩:=store8 V r (sv none 0 0) (sv none 0 0) (iv 0) (sv none 0 0) (sv none 0 0) (sv none 0 0) (sv none 0 0) (sv none 0 0) (sv none 0 0) (sv none 0 0) (iv 0) (sv none 0 0) (sv none 0 0) (sv none 0 0) (sv none 0 0) (sv none 0 0) 29 v2
  have HBV:Hid (Below w.heap.size w ((((((((V.setCell (qa r 0) (sv none 0 0)).setCell (qa r 1) (sv none 0 0)).setCell (qa r 2) (iv 0)).setCell (qa r 3) (sv none 0 0)).setCell (qa r 4) (sv none 0 0)).setCell (qa r 5) (sv none 0 0)).setCell (qa r 6) (sv none 0 0)).setCell (qa r 7) (sv none 0 0))):=HV.out.grown hs2 HV.out.size (fun k hk=>by cases hk;exact Hr.out)
  obtain⟨r0,r1,r2,r3,r4,r5,r6,r7⟩:=cell8 v2
  have rf:=frozenB v2
  have lr:=lt1 v2
  clear v2 hs2 KP hbY
  go_wp2_with fail
  obtain⟨e0,e1,e2,e3,e4,e5,e6,e7⟩:=cell8 hs1
  refine bodyPost_ret (v:=.tuple #[.agg qz,iv e']) (by simp[results,Tryz.results15,go_sem,e0,e1,e2,e3,e4,e5,e6,e7]) rfl ?_
  rw[HS2.out,HE3.out]
  exact⟨HBV.out,fd0,rfl,farm0_at _,fun h=>absurd h (by simpa using hne)⟩
end Go.Proofs.YtebippbakbihiaaGreatDoor
