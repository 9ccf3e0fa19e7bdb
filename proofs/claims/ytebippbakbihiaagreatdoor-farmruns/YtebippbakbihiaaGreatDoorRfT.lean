/-
  A message is taken out of a farm's net: what is left of the row. The reference's FarmStep: a message is lost. The reference's FarmStep: a message arrives.
-/
import Derived.Test.YtebippbakbihiaaGreatDoorRefFmStep0
set_option maxHeartbeats 16000000
set_option maxRecDepth 100000
namespace Go.Proofs.YtebippbakbihiaaGreatDoor
open Go Go.RowKit
set_option linter.unusedVariables false
theorem setCell_comm (W:World) (b b' i i':Nat) (u u':Value) (h:b≠b'):(W.setCell (qa b i) u).setCell (qa b' i') u'=(W.setCell (qa b' i') u').setCell (qa b i) u:=by
 unfold World.setCell
 simp only
 congr 1
 apply Array.ext
 ·simp
 ·intro k h1 h2
  simp only[Array.getElem_modify]
  by_cases hk:b=k
  ·have hk':¬ b'=k:=fun e=>h (hk.trans e.symm)
   simp[hk,hk']
  ·simp[hk]
def NetK (B:Nat) (W:World) (u:Value) (ms:List M.Msg):Prop :=
 ∃ (a:Option Addr) (n' c0 c:Nat) (es':List NEnt),u=sv a ms.length c∧ms.length≤n'∧W.ownsRow B 60 5 (sv a n' c0) n' (es'.flatMap nentCells)∧(es'.take ms.length).map (·.msg)=ms∧es'.length=n'∧∀ e∈es',POwn W B e.e
theorem NetK.at {B:Nat} {W:World} {u:Value} {ms:List M.Msg} (h:NetK B W u ms):NetAt W u ms:=by
 obtain⟨a,n',c0,c,es',rfl,hle,hr,hm,hl,ho⟩:=h
 have hN:NetAt W (sv a n' c0) (es'.map (·.msg)):=row_net (es:=es') (by rw[List.length_map,hl];exact hr) rfl ho
 obtain⟨cell,⟨a2,c2,hv,hn,hs⟩,hc⟩:=hN
 rw[List.length_map,hl] at hv hn hs hc
 cases hv
 refine⟨cell,⟨a,c,rfl,Nat.le_trans hle hn,?_⟩,fun j hj=>?_⟩
 ·rcases hs with hs | ⟨b,off,rfl,hs⟩
  ·exact .inl (by omega)
  ·exact .inr ⟨b,off,rfl,fun j i hj hi=>hs j i (by omega) hi⟩
 ·have h1:=hc j (by omega)
  have e:(es'.map (·.msg)).getD j M.msg0=ms.getD j M.msg0:=by
   rw[List.getD_eq_getElem?_getD,List.getD_eq_getElem?_getD,← hm,List.map_take,List.getElem?_take_of_lt (by omega)]
  rw[e] at h1
  exact h1
theorem NetK.wr {B:Nat} {W X:World} {u:Value} {ms:List M.Msg} {t:TypeId} (h:NetK B W u ms) (wr:Wr W X t) (h0:60≠t) (h1:90≠t) (h2:86≠t) (h3:5≠t) (h4:94≠t):NetK B X u ms :=
 let ⟨a,n',c0,c,es',e,hle,hr,hm,hl,ho⟩:=h
 ⟨a,n',c0,c,es',e,hle,wr.row hr h0,hm,hl,fun x hx=>wr.pown (ho x hx) h1 h2 h3 h4⟩
theorem NetK.kq {B:Nat} {W X:World} {u:Value} {ms:List M.Msg} (h:NetK B W u ms) (k:Kq W X):NetK B X u ms :=
 let ⟨a,n',c0,c,es',e,hle,hr,hm,hl,ho⟩:=h
 ⟨a,n',c0,c,es',e,hle,k.row hr (by decide) (by decide),hm,hl,fun x hx=>k.pown (ho x hx)⟩
theorem NetK.later {B:Nat} {W X:World} {u:Value} {ms:List M.Msg} (h:NetK B W u ms) (hb:Below W.heap.size W X):NetK B X u ms :=
 let ⟨a,n',c0,c,es',e,hle,hr,hm,hl,ho⟩:=h
 ⟨a,n',c0,c,es',e,hle,hr.kept (grown_of_below hb none) own_self,hm,hl,fun x hx=>(ho x hx).later hb⟩
theorem FmR.withNet {B:Nat} {X:World} {f:M.Farm} {x:Fd} {o:Fo} {a:Option Addr} {c:Nat} {ms:List M.Msg} (h:FmR B X f x o) (hN:NetK B X (sv a ms.length c) ms):FarmAt X { f with net:=ms } { x with n:=a,nc:=c } :=
 ⟨h.at.parts,h.at.plan,h.at.done,h.at.got,h.at.grants,h.at.work,hN.at⟩
theorem netk_last {B b g kn:Nat} {W:World} {f:M.Farm} {x:Fd} {o:Fo} (h:FmO B W b f x o) (hg:x.n=some (qa g 0)) (hk:kn<f.net.length) (h0:f.net.length - (kn+1)=0):NetK B W (sv (some (qa g 0)) kn kn) (f.net.eraseIdx kn):=by
 have hl:=map_len h.mapN
 have he:f.net.eraseIdx kn=f.net.take kn:=by rw[List.eraseIdx_eq_take_drop_succ,List.drop_eq_nil_of_le (by omega),List.append_nil]
 have hlen:(f.net.take kn).length=kn:=by rw[List.length_take];omega
 have hr:=h.rowN
 rw[hg] at hr
 rw[he]
 exact⟨some (qa g 0),f.net.length,x.nc,kn,o.eN,by rw[hlen],by rw[hlen];omega,hr,by rw[hlen,List.map_take,h.mapN],hl.symm,h.ownN⟩
theorem netk_new {B b kn:Nat} {W X:World} {f:M.Farm} {x:Fd} {o:Fo} {v:Value} (h:FmO B W b f x o) (hk:kn<f.net.length) (hb:Below W.heap.size W X) (hB:B≤W.heap.size)
  (hr:X.ownsRow W.heap.size 60 5 v (kn+(f.net.length - (kn+1))) ((o.eN.take kn).flatMap nentCells ++ (o.eN.drop (kn+1)).flatMap nentCells)):NetK B X v (f.net.eraseIdx kn):=by
 have hl:=map_len h.mapN
 have hlen:(f.net.eraseIdx kn).length=kn+(f.net.length - (kn+1)):=by rw[List.length_eraseIdx];simp[hk];omega
 have hle2:(o.eN.eraseIdx kn).length=kn+(f.net.length - (kn+1)):=by rw[List.length_eraseIdx];simp[show kn<o.eN.length by omega];omega
 rw[erase_flat] at hr
 obtain⟨a,c,rfl⟩:=own_len hr
 refine⟨a,_,c,c,o.eN.eraseIdx kn,by rw[hlen],by rw[hlen];exact Nat.le_refl _,row_base hr hB,?_,hle2,fun e he=>(h.ownN e (List.mem_of_mem_eraseIdx he)).later hb⟩
 rw[hlen,← hle2,List.take_length,erase_map,h.mapN]
def tkR (B b g kn n nc:Nat) (a12:Option Addr) (ms:List M.Msg) (j:Nat) (W:World) (u:Value):Prop :=
 match j with
 | 0=>u=qv b 7
 | 1=>u=sv (some (qa g 0)) n nc
 | 2=>u=qv (b+1) 2
 | 3=>u=iv (kn:Nat)
 | 4=>u=qv (b+1) 2
 | 5=>u=iv (kn:Nat)
 | 6=>u=sv (some (qa g 0)) kn kn
 | 7=>u=qv b 7
 | 8=>u=sv (some (qa g 0)) n nc
 | 9=>u=qv (b+1) 2
 | 10=>u=iv (kn:Nat)
 | 11=>u=iv ((kn:Int)+1)
 | 12=>u=sv a12 (n - (kn+1)) (nc - (kn+1))
 | 13=>NetK B W u ms
 | _=>False
theorem tkR_later {B b g kn n nc:Nat} {a12:Option Addr} {ms:List M.Msg} {W X:World} (hbl:Below W.heap.size W X):∀ j u,tkR B b g kn n nc a12 ms j W u→tkR B b g kn n nc a12 ms j X u:=by
 intro j u h
 match j,h with
 | 0,h=>exact h
 | 1,h=>exact h
 | 2,h=>exact h
 | 3,h=>exact h
 | 4,h=>exact h
 | 5,h=>exact h
 | 6,h=>exact h
 | 7,h=>exact h
 | 8,h=>exact h
 | 9,h=>exact h
 | 10,h=>exact h
 | 11,h=>exact h
 | 12,h=>exact h
 | 13,h=>exact h.later hbl
attribute [local go_sem] lat_cell
theorem rstep_lose (f:M.Farm) (x:Fd) (w:World) (hf:FarmAt w f x) (hok:M.FarmOk f) (wk:Int) (kn:Nat) (hkn:kn<f.net.length) :
  Calls Tryz.prog 13 #[.agg (qm f x),.agg #[iv 4,iv wk,iv kn]] w (StepTo w (M.taken f kn) (0)):=by
 obtain⟨RF,hRF⟩:∃ RF,(M.taken f kn)=RF:=⟨_,rfl⟩
 obtain⟨RE,hRE⟩:∃ RE:Int,(0)=RE:=⟨_,rfl⟩
 have HRF:Hid (_=RF):=hRF
 have HRE:Hid (_=RE):=hRE
 rw[hRF,hRE]
 clear hRF hRE
 have KF:Hid (∀ W E,Calls Tryz.prog 45 #[iv E] W fun e w'=>e=.returned (.tuple #[.agg qz,iv E])∧Below W.heap.size W w'):=fun W E=>fail_any E W
 have HOk:Hid (M.FarmOk f):=hok
 have hn0:=hok.now0
 have hn1:=hok.now1
 have hnt:=hok.net
 have hw4:=hok.work4
 obtain⟨X,hX⟩:∃ X,X=(((w.alloc (.cells (qm f x) 29)).alloc (.cells #[iv 4,iv wk,iv kn] 31)).alloc (.cells qz 29)):=⟨_,rfl⟩
 have HX:Hid (X=_):=hX
 have h0:X.heap[w.heap.size]?=some (.cells (qm f x) 29 (0,0)):=by rw[hX];exact (heap_alloc_old _ _ (by simp;omega)).trans ((heap_alloc_old _ _ (by simp)).trans (heap_alloc_new w _))
 have h1:X.heap[w.heap.size+1]?=some (.cells #[iv 4,iv wk,iv kn] 31 (0,0)):=by rw[hX];exact (heap_alloc_old _ _ (by simp)).trans (by have:=heap_alloc_new (w.alloc (.cells (qm f x) 29)) (.cells #[iv 4,iv wk,iv kn] 31);simpa using this)
 have h2:X.heap[w.heap.size+2]?=some (.cells qz 29 (0,0)):=by have:=heap_alloc_new ((w.alloc (.cells (qm f x) 29)).alloc (.cells #[iv 4,iv wk,iv kn] 31)) (.cells qz 29);rw[hX];simpa using this
 have HB0:Hid (Below w.heap.size w X):=by rw[Hid,hX];exact (((Below.refl _ _).alloc (Nat.le_refl _) _).alloc (by simp) _).alloc (by simp;omega) _
 have KO:Hid (Calls Tryz.prog 5 #[.agg (qm f x)] X fun e w'=>Below X.heap.size X w'∧∃ y o,e=.returned (.agg (qm f y))∧FmR X.heap.size w' f y o):=ownFarm_any f x X (hf.later HB0.out) (farmRoom_ok hok)
 clear hf hok hX
 go_enter Tryz.func13,Tryz.ntmps13
 go_upto_region 1 with fail
 rw[← HX.out]
 obtain⟨b,hb⟩:∃ b,b=w.heap.size:=⟨_,rfl⟩
 obtain⟨B,hB⟩:∃ B,B=w.heap.size:=⟨_,rfl⟩
 have HBB:Hid (B=w.heap.size∧b=B):=⟨hB,by rw[hb,hB]⟩
 rw[← hb] at h0 h1 h2 ⊢
 rw[← hB] at HB0
 clear hb hB HX
 have hBb:B≤b:=by rw[HBB.out.2];exact Nat.le_refl _
 have lx0:=lt1 h0
 have hBX:B≤X.heap.size:=by have:=HB0.out.size;rw[HBB.out.1];exact this
 obtain⟨c0,c1,c2,c3,c4,c5,c6,c7⟩:=cell8 h0
 go_wp2_with (go_at_call 5;refine KO.out.mono ?_;rintro e X1 ⟨hb1,y,o,rfl,hR1⟩;refine Hid.out ?_)
 have h01:=bl hb1 h0
 have h11:=bl hb1 h1
 have h21:=bl hb1 h2
 obtain⟨X2,hX2,hs1,hs2⟩:=store8e h01 (sv y.p f.parts.length y.pc) (sv y.l f.plan.length y.lc) (iv f.now) (sv y.d f.done.length y.dc) (sv y.h f.got.length y.hc) (sv y.g f.grants.length y.gc) (sv y.k f.work.length y.kc) (sv y.n f.net.length y.nc)
 have HX2:Hid (X2=_):=hX2
 have HO:Hid (FmO B X2 b f y o):=((hR1.base hBX).wr ⟨b,_,h01,hs2⟩).own hBb hs1
 have hq:=(hs2.block _ (lt1 h11) (by simp)).trans h11
 have hz:=(hs2.block _ (lt1 h21) (by simp)).trans h21
 have HB1:Hid (Below B w X2):=(HB0.out.trans (hb1.mono hBX)).grown hs2 (Nat.le_trans hBX hb1.size) (fun k hk=>by cases hk;exact hBb)
 obtain⟨d0,d1,d2,d3,d4,d5,d6,d7⟩:=cell8 h01
 have df:=frozenB h01
 have dl:=lt1 h01
 clear c0 c1 c2 c3 c4 c5 c6 c7 h0 h1 h2 h01 h11 h21 hb1 hR1 HB0 hBX lx0 KO hs1 hs2 hX2
 refine Lib.hid ?_
 go_upto_region 2 with fail
 rw[← HX2.out]
 clear d0 d1 d2 d3 d4 d5 d6 d7 df dl HX2
 clear X X1
 have hbk:=HO.out.blk
 obtain⟨c0,c1,c2,c3,c4,c5,c6,c7⟩:=cell8 hbk
 have q0:=cellC hq 0 rfl
 have q1:=cellC hq 1 rfl
 have q2:=cellC hq 2 rfl
 have lb:=lt1 hbk
 have lq:=lt1 hq
 have lz:=lt1 hz
 have hBX2:B≤X2.heap.size:=Nat.le_of_lt (Nat.lt_of_le_of_lt hBb lb)
 have hkI:(kn:Int)<(f.net.length:Int):=by omega
 have hkJ:¬ (f.net.length:Int)≤(kn:Int):=by omega
 have hk0:¬ (kn:Int)<0:=by omega
 obtain⟨g,en,hg,hen,hem,e0,e1,e2,e3,e4⟩:=HO.out.msgAt kn hkn
 have hPe:=HO.out.ownN en hen
 obtain⟨a1,d1,a2,d2,ev1,ev2,-,-⟩:=hPe.at
 obtain⟨mk,mw,mn,q,vF,vD⟩:=en
 simp only at e0 e1 e2 e3 e4 ev1 ev2 hPe
 subst ev1
 subst ev2
 have HPe:Hid (POwn X2 B ⟨q,sv a1 q.frags.length d1,sv a2 q.defs.length d2⟩):=hPe
 have Hem:Hid (f.net.getD kn M.msg0=⟨mk,mw,mn,q⟩):=hem.symm
 have c7':X2.cell? (qa b 7)=some (sv (some (qa g 0)) f.net.length y.nc):=by rw[← hg];exact c7
 have lgn:g<X2.heap.size:=World.block_lt_of_cell? _ _ e0
 have Hg:Hid (y.n=some (qa g 0)):=hg
 have Hkn:Hid (kn<f.net.length):=hkn
 have Hen:Hid ((⟨mk,mw,mn,⟨q,sv a1 q.frags.length d1,sv a2 q.defs.length d2⟩⟩:NEnt)∈o.eN):=hen
 clear c7 hg hkn hPe hem hen
 have HOn:Hid (FmO B X2 b f y o):=HO
 have hA:Below X2.heap.size X2 (X2.alloc (.cells #[iv mk,iv mw,iv mn,sv a1 q.frags.length d1,sv a2 q.defs.length d2] 60)):=(Below.refl _ _).alloc (Nat.le_refl _) _
 have hm0:=heap_alloc_new X2 (.cells #[iv mk,iv mw,iv mn,sv a1 q.frags.length d1,sv a2 q.defs.length d2] 60)
 have hOZ:=HO.out.later hA
 have hzZ:=(hA.block _ lz).trans hz
 have hqZ:=(hA.block _ lq).trans hq
 have HBZ:Hid (Below B w (X2.alloc (.cells #[iv mk,iv mw,iv mn,sv a1 q.frags.length d1,sv a2 q.defs.length d2] 60))):=HB1.out.trans (hA.mono hBX2)
 have hBZ:B≤(X2.alloc (.cells #[iv mk,iv mw,iv mn,sv a1 q.frags.length d1,sv a2 q.defs.length d2] 60)).heap.size:=Nat.le_trans hBX2 hA.size
 have HPZ:Hid (POwn (X2.alloc (.cells #[iv mk,iv mw,iv mn,sv a1 q.frags.length d1,sv a2 q.defs.length d2] 60)) B ⟨q,sv a1 q.frags.length d1,sv a2 q.defs.length d2⟩):=HPe.out.later hA
 have hcap:f.net.length≤y.nc:=by
  have h:=HO.out.rowN
  rw[Hg.out] at h
  rcases h.2 with ⟨h1,_⟩ | ⟨g',cap,cur,h1,_,_,h3,_⟩
  ·cases h1
  ·cases h1;exact h3
 clear KF hbk hq hz HO HB1 HPe hA HOn Hen
 go_upto_region 50 with fail
 clear c0 c1 c2 c3 c4 c5 c6 c7' q0 q1 q2 lb lq lz e0 e1 e2 e3 e4 lgn hBX2
 obtain⟨nm,hnm⟩:∃ nm,nm=X2.heap.size:=⟨_,rfl⟩
 rw[← hnm] at hm0 ⊢
 clear hnm
 generalize X2.alloc (.cells #[iv mk,iv mw,iv mn,sv a1 q.frags.length d1,sv a2 q.defs.length d2] 60)=Z at *
 clear X2
 obtain⟨i0,hi0,hz0,hz1,hz2⟩:=info_parts (P:=Tryz.prog) (e:=60) (z:=.agg #[iv 0,iv 0,iv 0,sv none 0 0,sv none 0 0]) (size:=5) (bytes:=72) (by kernel_rfl)
 obtain⟨a12,h12⟩:∃ a12:Option Addr,a12=if y.nc=kn+1 then some (qa g 0) else some (qa g ((kn+1)*5)):=⟨_,rfl⟩
 have h12s:∃ aa,a12=some aa:=by rw[h12];split <;> exact⟨_,rfl⟩
 have hkn:=Hkn.out
 have hkc:(kn:Int)≤(y.nc:Int):=by omega
 have hwr:IntKind.i64.wrap ((kn:Int)+1)=(kn:Int)+1:=by rw[IntKind.wrap_i64];omega
 have HGN:Hid (y.n=some (qa g 0)):=Hg
 have HKN:Hid (kn<f.net.length):=Hkn
 have hstay:∀ W,Below Z.heap.size Z W→W.cell? (qa b 7)=some (sv (some (qa g 0)) f.net.length y.nc)∧W.cell? (qa (b+1) 2)=some (iv kn)∧FmO B W b f y o∧B≤W.heap.size:=fun W hW=>⟨by rw[← Hg.out];exact cellB (hOZ.later hW).blk 7,cellB ((hW.block _ (lt1 hqZ)).trans hqZ) 2,hOZ.later hW,Nat.le_trans hBZ hW.size⟩
 refine wp_region_rel 14 (fun _ W=>Below Z.heap.size Z W) (fun v=>⟨#[.agg (qm f x),.agg #[iv 4,iv wk,iv ↑kn],qv b 0,qv (b+1) 0,qv (b+1+1) 0,iv 0,.func (Fn.func 45) #[] #[],.func (Fn.func 46) #[] #[qv b 0],iv wk,undef,undef,undef,undef,undef,undef,qv nm 0,.agg (qm f x),.agg (qm f y),.func (Fn.func 46) #[] #[qv b 0],qv (b+1) 1,iv wk,qv (b+1) 0,iv 4,.bool false,.bool false,.bool false,.bool false,undef,undef,undef,undef,undef,undef,undef,undef,undef,undef,undef,undef,undef,.bool true,.bool false,.bool true,undef,qv (b+1) 2,iv ↑kn,.bool false,.bool false,qv (b+1) 2,iv ↑kn,qv b 7,sv (some (qa g 0)) f.net.length y.nc,iv ↑f.net.length,.bool false,.bool false,undef,undef,undef,undef,qv (b+1) 0,iv 4,undef,undef,undef,undef,.bool false,.bool false,undef,undef,undef,undef,undef,undef,undef,undef,undef,undef,undef,undef,undef,undef,undef,undef,undef,undef,undef,undef,undef,undef,undef,undef,undef,undef,undef,undef,undef,undef,undef,undef,undef,undef,undef,undef,undef,undef,undef,.bool false,.bool false,undef,undef,undef,undef,undef,undef,undef,undef,undef,undef,undef,undef,undef,undef,undef,undef,undef,undef,undef,undef,undef,undef,undef,undef,undef,undef,undef,undef,undef,undef,undef,undef,undef,undef,undef,undef,undef,undef,undef,undef,undef,undef,undef,undef,undef,undef,undef,undef,undef,undef,undef,undef,undef,undef,undef,undef,undef,undef,undef,undef,undef,undef,undef,undef,undef,undef,undef,undef,.bool false,.bool false,undef,undef,undef,undef,.bool false,.bool false,undef,undef,undef,undef,undef,undef,undef,undef,undef,undef,undef,undef,undef,undef,undef,undef,.bool true,.bool false,.bool true,qv b 7,sv (some (qa g 0)) f.net.length y.nc,qv (b+1) 2,iv ↑kn,qv g (kn*5),.agg #[iv mk,iv mw,iv mn,sv a1 q.frags.length d1,sv a2 q.defs.length d2],v 0,v 1,v 2,v 3,v 4,v 5,v 6,v 7,v 8,v 9,v 10,v 11,v 12,v 13,undef,undef,undef,undef,undef,undef,undef,undef,undef,undef,undef,undef,undef,undef,undef,undef,undef,undef,undef,undef,undef,undef,undef,undef,undef,undef,undef,undef,undef,undef,undef,undef,undef,undef,undef,undef,undef,undef,undef,undef,undef,undef,undef,undef,undef,undef,undef,undef,undef,undef,undef,undef,undef,undef,undef,undef,undef,undef,undef,undef,undef,undef,undef,undef,undef,undef,undef,undef,undef,undef,undef,undef,undef,undef],[]⟩) (tkR B b g kn f.net.length y.nc a12 (f.net.eraseIdx kn)) (fun _ _ _ _=>True) (by kernel_rfl) (by kernel_rfl) (Below.refl _ _).drew ⟨fun _=>undef,rfl⟩ ?_ ?_
 ·intro j op hj ho'
  rcases (by omega:j=0∨j=1∨j=2∨j=3∨j=4∨j=5∨j=6∨j=7∨j=8∨j=9∨j=10∨j=11∨j=12∨j=13) with rfl | rfl | rfl | rfl | rfl | rfl | rfl | rfl | rfl | rfl | rfl | rfl | rfl | rfl
  all_goals cases ho'
  all_goals refine relStep_of rfl rfl ?_
  all_goals rintro sd v W hC hin hsd hdep hdz
  all_goals obtain⟨hc7,hq2,hO,hBW⟩:=hstay W hC
  ·exact wp_val (qv b 7) (by simp[execOp,Act.eval,go_sem]) ⟨_,rfl,hC,fun _ _ _ _ h=>h,rfl,fun k hk _ hz=>⟨trivial,trivial⟩⟩
  ·have hv:v 0=qv b 7:=hdep ⟨0,.data⟩ (by simp) rfl
   exact wp_val (sv (some (qa g 0)) f.net.length y.nc) (by simp[execOp,Act.eval,go_sem,hv,hc7]) ⟨_,rfl,hC,fun _ _ _ _ h=>h,rfl,fun k hk _ hz=>⟨trivial,trivial⟩⟩
  ·exact wp_val (qv (b+1) 2) (by simp[execOp,Act.eval,go_sem]) ⟨_,rfl,hC,fun _ _ _ _ h=>h,rfl,fun k hk _ hz=>⟨trivial,trivial⟩⟩
  ·have hv:v 2=qv (b+1) 2:=hdep ⟨2,.data⟩ (by simp) rfl
   exact wp_val (iv (kn:Nat)) (by simp[execOp,Act.eval,go_sem,hv,hq2]) ⟨_,rfl,hC,fun _ _ _ _ h=>h,rfl,fun k hk _ hz=>⟨trivial,trivial⟩⟩
  ·exact wp_val (qv (b+1) 2) (by simp[execOp,Act.eval,go_sem]) ⟨_,rfl,hC,fun _ _ _ _ h=>h,rfl,fun k hk _ hz=>⟨trivial,trivial⟩⟩
  ·have hv:v 4=qv (b+1) 2:=hdep ⟨4,.data⟩ (by simp) rfl
   exact wp_val (iv (kn:Nat)) (by simp[execOp,Act.eval,go_sem,hv,hq2]) ⟨_,rfl,hC,fun _ _ _ _ h=>h,rfl,fun k hk _ hz=>⟨trivial,trivial⟩⟩
  ·have hv1:v 1=sv (some (qa g 0)) f.net.length y.nc:=hdep ⟨1,.data⟩ (by simp) rfl
   have hv3:v 3=iv (kn:Nat):=hdep ⟨3,.data⟩ (by simp) rfl
   have hv5:v 5=iv (kn:Nat):=hdep ⟨5,.data⟩ (by simp) rfl
   exact wp_val (sv (some (qa g 0)) kn kn) (by simp[execOp,Act.eval,go_sem,hv1,hv3,hv5,hkc]) ⟨_,rfl,hC,fun _ _ _ _ h=>h,rfl,fun k hk _ hz=>⟨trivial,trivial⟩⟩
  ·exact wp_val (qv b 7) (by simp[execOp,Act.eval,go_sem]) ⟨_,rfl,hC,fun _ _ _ _ h=>h,rfl,fun k hk _ hz=>⟨trivial,trivial⟩⟩
  ·have hv:v 7=qv b 7:=hdep ⟨7,.data⟩ (by simp) rfl
   exact wp_val (sv (some (qa g 0)) f.net.length y.nc) (by simp[execOp,Act.eval,go_sem,hv,hc7]) ⟨_,rfl,hC,fun _ _ _ _ h=>h,rfl,fun k hk _ hz=>⟨trivial,trivial⟩⟩
  ·exact wp_val (qv (b+1) 2) (by simp[execOp,Act.eval,go_sem]) ⟨_,rfl,hC,fun _ _ _ _ h=>h,rfl,fun k hk _ hz=>⟨trivial,trivial⟩⟩
  ·have hv:v 9=qv (b+1) 2:=hdep ⟨9,.data⟩ (by simp) rfl
   exact wp_val (iv (kn:Nat)) (by simp[execOp,Act.eval,go_sem,hv,hq2]) ⟨_,rfl,hC,fun _ _ _ _ h=>h,rfl,fun k hk _ hz=>⟨trivial,trivial⟩⟩
  ·have hv:v 10=iv (kn:Nat):=hdep ⟨10,.data⟩ (by simp) rfl
   exact wp_val (iv ((kn:Int)+1)) (by simp[execOp,Act.eval,go_sem,hv,hwr]) ⟨_,rfl,hC,fun _ _ _ _ h=>h,rfl,fun k hk _ hz=>⟨trivial,trivial⟩⟩
  ·have hv8:v 8=sv (some (qa g 0)) f.net.length y.nc:=hdep ⟨8,.data⟩ (by simp) rfl
   have hv11:v 11=iv ((kn:Int)+1):=hdep ⟨11,.data⟩ (by simp) rfl
   have hrun:(Instr.sliceAt 27 (sv (some (qa g 0)) f.net.length y.nc) (some (iv ((kn:Int)+1))) none none).run Tryz.prog W=.ok (sv a12 (f.net.length - (kn+1)) (y.nc - (kn+1))) W:=by
    rw[run_sliceAt_slice W 27 _ _ _ _ (by kernel_rfl),run_slice_l W 27 (some (qa g 0)) f.net.length y.nc (by kernel_rfl) .i64 ((kn:Int)+1) (by omega) (by omega)]
    rw[show ((kn:Int)+1).toNat=kn+1 by omega]
    simp[go_sem]
    exact h12.symm
   exact wp_val (sv a12 (f.net.length - (kn+1)) (y.nc - (kn+1))) (by simp[execOp,Act.eval,hv8,hv11,hrun]) ⟨_,rfl,hC,fun _ _ _ _ h=>h,rfl,fun k hk _ hz=>⟨trivial,trivial⟩⟩
  ·have hv6:v 6=sv (some (qa g 0)) kn kn:=hdep ⟨6,.data⟩ (by simp) rfl
   have hv12:v 12=sv a12 (f.net.length - (kn+1)) (y.nc - (kn+1)):=hdep ⟨12,.data⟩ (by simp) rfl
   have hle:=map_len hO.mapN
   have hr:=hO.rowN
   rw[HGN.out] at hr
   have hrc:∀ j,j<f.net.length*5→W.cell? (qa g j)=(o.eN.flatMap nentCells)[j]?:=fun j hj=>hr.cellAt j hj
   refine wp_append_full W _ _ 27 rfl 60 i0 (.agg #[iv 0,iv 0,iv 0,sv none 0 0,sv none 0 0]) 5 72 Tryz.underlying27 hi0 hz0 hz1 hz2 rfl (by decide) ⟨g,0,none⟩ kn ((o.eN.take kn).flatMap nentCells) hv6 (by rw[flat_len' 5 nentCells (fun _=>rfl),List.length_take];congr 1;omega) (fun j u hj=>?_) (sv a12 (f.net.length - (kn+1)) (y.nc - (kn+1))) (f.net.length - (kn+1)) ((o.eN.drop (kn+1)).flatMap nentCells) hv12 ?_ (by rw[flat_len' 5 nentCells (fun _=>rfl),List.length_drop];congr 1;omega) (by unfold maxLen;omega) (by omega) (fun hm=>?_) (fun hm v' W2 hr2 hb2=>?_)
   ·have hjl:=(List.getElem?_eq_some_iff.1 hj).1
    rw[flat_len' 5 nentCells (fun _=>rfl),List.length_take] at hjl
    rw[Addr.add_lit,Nat.zero_add,hrc j (by omega),← hj]
    conv=>lhs;rw[← List.take_append_drop kn o.eN,List.flatMap_append]
    rw[List.getElem?_append_left (by rw[flat_len' 5 nentCells (fun _=>rfl),List.length_take];omega)]
   ·by_cases hm:f.net.length - (kn+1)=0
    ·have hnil:o.eN.drop (kn+1)=[]:=List.drop_eq_nil_of_le (by omega)
     obtain⟨aa,haa⟩:=h12s
     rw[hnil,hm,haa]
     exact⟨_,_,rfl,.inr ⟨aa,rfl,fun j u hj=>by simp at hj⟩⟩
    ·have ha:a12=some (qa g ((kn+1)*5)):=by rw[h12,if_neg (by omega)]
     rw[ha]
     refine⟨_,_,rfl,.inr ⟨_,rfl,fun j u hj=>?_⟩⟩
     have hjl:=(List.getElem?_eq_some_iff.1 hj).1
     rw[flat_len' 5 nentCells (fun _=>rfl),List.length_drop] at hjl
     rw[Addr.add_lit,hrc _ (by omega),← hj]
     conv=>lhs;rw[← List.take_append_drop (kn+1) o.eN,List.flatMap_append]
     rw[List.getElem?_append_right (by rw[flat_len' 5 nentCells (fun _=>rfl),List.length_take];omega),flat_len' 5 nentCells (fun _=>rfl),List.length_take]
     congr 1
     omega
   ·exact⟨_,rfl,hC,fun _ _ _ _ h=>h,netk_last hO HGN.out HKN.out hm,fun k hk _ hz=>⟨trivial,trivial⟩⟩
   ·exact⟨_,rfl,hC.trans (hb2.mono hC.size),fun k z _ _=>tkR_later hb2 k z,netk_new hO HKN.out hb2 hBW hr2,fun k hk _ hz=>⟨trivial,trivial⟩⟩
 ·intro sd v W hC hR hZ
  have hNK:NetK B W (v 13) (f.net.eraseIdx kn):=hR 13 (by decide)
  obtain⟨hc7,hq2,hO,hBW⟩:=hstay W hC
  obtain⟨a7,c7,e13⟩:∃ a7 c7,v 13=sv a7 (f.net.eraseIdx kn).length c7:=by obtain⟨a,_,_,c,_,h,_⟩:=hNK;exact⟨a,c,h⟩
  rw[e13] at hNK
  simp only[List.drop_succ_cons,List.drop_zero]
  rw[e13]
  have HNK:Hid (NetK B W (sv a7 (f.net.eraseIdx kn).length c7) (f.net.eraseIdx kn)):=hNK
  have HOW:Hid (FmO B W b f y o):=hO
  have HBW:Hid (Below B w W):=HBZ.out.trans (hC.mono hBZ)
  have hzW:=(hC.block _ (lt1 hzZ)).trans hzZ
  have hqW:=(hC.block _ (lt1 hqZ)).trans hqZ
  have hmW:=(hC.block _ (lt1 hm0)).trans hm0
  have HPW:Hid (POwn W B ⟨q,sv a1 q.frags.length d1,sv a2 q.defs.length d2⟩):=HPZ.out.later hC
  have hbW:=hO.blk
  have hfb:=frozenB hbW
  have lbW:=lt1 hbW
  clear hR hZ e13 hNK hstay hC hOZ hzZ hqZ hm0 HPZ HBZ hBZ hO h12 h12s hkc hwr hcap hq2
  clear Z
  have HTK:Hid (({ f with net:=f.net.eraseIdx kn } : M.Farm)=RF):=HRF.out
  clear HRF
  generalize f.net.eraseIdx kn=ms at *
  have hb5:(W.setCell (qa b 7) (sv a7 ms.length c7)).heap[b]?=some (.cells #[sv y.p f.parts.length y.pc,sv y.l f.plan.length y.lc,iv f.now,sv y.d f.done.length y.dc,sv y.h f.got.length y.hc,sv y.g f.grants.length y.gc,sv y.k f.work.length y.kc,sv a7 ms.length c7] 29 (0,0)):=setB' hbW _
  have wr5:Wr W (W.setCell (qa b 7) (sv a7 ms.length c7)) 29:=⟨b,_,hbW,grown_set _ _ _ _⟩
  have HR5:Hid (FmR B (W.setCell (qa b 7) (sv a7 ms.length c7)) f y o):=HOW.out.rows.wr wr5
  have HN5:Hid (NetK B (W.setCell (qa b 7) (sv a7 ms.length c7)) (sv a7 ms.length c7) ms):=HNK.out.wr wr5 (by decide) (by decide) (by decide) (by decide) (by decide)
  have hq5:=wr5.block hqW (by decide)
  have hz6:(W.setCell (qa b 7) (sv a7 ms.length c7)).heap[b+2]?=some (.cells qz 29 (0,0)):=(Below.heap_setCell _ _ _ _ (by show b+2≠b;omega)).trans hzW
  have HB6:Hid (Below B w (W.setCell (qa b 7) (sv a7 ms.length c7))):=HBW.out.setCell hBb _
  clear wr5 HOW HNK hqW hzW HBW hmW hbW
  go_upto_region 51 with fail
  clear hc7 hfb lbW
  generalize (W.setCell (qa b 7) (sv a7 ms.length c7))=X6 at *
  have k0:=cellC hq5 0 rfl
  have lq5:=lt1 hq5
  obtain⟨f6,hf6⟩:∃ f6,({ f with net:=ms } : M.Farm)=f6:=⟨_,rfl⟩
  obtain⟨y6,hy6⟩:∃ y6,({ y with n:=a7,nc:=c7 } : Fd)=y6:=⟨_,rfl⟩
  have HF6:Hid (f6=RF):=hf6.symm.trans HTK.out
  have HAT:Hid (∀ X,Kq X6 X→FarmAt X f6 y6):=fun X wr=>by
   have:=(HR5.out.kq wr).withNet (HN5.out.kq wr)
   rw[hf6,hy6] at this
   exact this
  have hb6:X6.heap[b]?=some (.cells (qm f6 y6) 29 (0,0)):=by rw[← hf6,← hy6];exact hb5
  clear hf6 hy6 HR5 HN5 hb5 hq5
  go_upto_region 62 with fail
  clear k0 lq5
  have hbk6:=hb6
  obtain⟨e0,e1,e2,e3,e4,e5,e6,e7⟩:=cell8 hbk6
  obtain⟨r0,r1,r2,r3,r4,r5,r6,r7⟩:=cell8 hz6
  have rf:=frozenB hz6
  have rl:=lt1 hz6
  have rb:=lt1 hbk6
  have HZ6:Hid (_=_):=hz6
  clear hbk6 hz6
  go_wp2_with fail
  obtain⟨X7,hX7,hs1,hs2⟩:=store8e HZ6.out (sv y6.p f6.parts.length y6.pc) (sv y6.l f6.plan.length y6.lc) (iv f6.now) (sv y6.d f6.done.length y6.dc) (sv y6.h f6.got.length y6.hc) (sv y6.g f6.grants.length y6.gc) (sv y6.k f6.work.length y6.kc) (sv y6.n f6.net.length y6.nc)
  rw[← hX7]
  rw[← HRE.out,← HF6.out]
  exact fin_step rfl rfl rfl hs1 (by rw[← HBB.out.1];exact HB6.out.grown hs2 (by have:=HB6.out.size;rw[HBB.out.1];exact this) (fun k hk=>by cases hk;omega)) (fun X k=>HAT.out X ((Kq.of_wr ⟨b+2,_,HZ6.out,hs2⟩).trans k))
end Go.Proofs.YtebippbakbihiaaGreatDoor
namespace Go.Proofs.YtebippbakbihiaaGreatDoor
open Go Go.RowKit
set_option linter.unusedVariables false
attribute [local go_sem] lat_cell
theorem rstep_arrive (f:M.Farm) (x:Fd) (w:World) (hf:FarmAt w f x) (hok:M.FarmOk f) (wk:Int) (kn:Nat) (hkn:kn<f.net.length) :
  Calls Tryz.prog 13 #[.agg (qm f x),.agg #[iv 3,iv wk,iv kn]] w (StepTo w (M.arriveM (M.taken f kn) (f.net.getD kn M.msg0)) (0)):=by
 obtain⟨RF,hRF⟩:∃ RF,(M.arriveM (M.taken f kn) (f.net.getD kn M.msg0))=RF:=⟨_,rfl⟩
 obtain⟨RE,hRE⟩:∃ RE:Int,(0)=RE:=⟨_,rfl⟩
 have HRF:Hid (_=RF):=hRF
 have HRE:Hid (_=RE):=hRE
 rw[hRF,hRE]
 clear hRF hRE
 have KF:Hid (∀ W E,Calls Tryz.prog 45 #[iv E] W fun e w'=>e=.returned (.tuple #[.agg qz,iv E])∧Below W.heap.size W w'):=fun W E=>fail_any E W
 have HOk:Hid (M.FarmOk f):=hok
 have hn0:=hok.now0
 have hn1:=hok.now1
 have hnt:=hok.net
 have hw4:=hok.work4
 obtain⟨X,hX⟩:∃ X,X=(((w.alloc (.cells (qm f x) 29)).alloc (.cells #[iv 3,iv wk,iv kn] 31)).alloc (.cells qz 29)):=⟨_,rfl⟩
 have HX:Hid (X=_):=hX
 have h0:X.heap[w.heap.size]?=some (.cells (qm f x) 29 (0,0)):=by rw[hX];exact (heap_alloc_old _ _ (by simp;omega)).trans ((heap_alloc_old _ _ (by simp)).trans (heap_alloc_new w _))
 have h1:X.heap[w.heap.size+1]?=some (.cells #[iv 3,iv wk,iv kn] 31 (0,0)):=by rw[hX];exact (heap_alloc_old _ _ (by simp)).trans (by have:=heap_alloc_new (w.alloc (.cells (qm f x) 29)) (.cells #[iv 3,iv wk,iv kn] 31);simpa using this)
 have h2:X.heap[w.heap.size+2]?=some (.cells qz 29 (0,0)):=by have:=heap_alloc_new ((w.alloc (.cells (qm f x) 29)).alloc (.cells #[iv 3,iv wk,iv kn] 31)) (.cells qz 29);rw[hX];simpa using this
 have HB0:Hid (Below w.heap.size w X):=by rw[Hid,hX];exact (((Below.refl _ _).alloc (Nat.le_refl _) _).alloc (by simp) _).alloc (by simp;omega) _
 have KO:Hid (Calls Tryz.prog 5 #[.agg (qm f x)] X fun e w'=>Below X.heap.size X w'∧∃ y o,e=.returned (.agg (qm f y))∧FmR X.heap.size w' f y o):=ownFarm_any f x X (hf.later HB0.out) (farmRoom_ok hok)
 clear hf hok hX
 go_enter Tryz.func13,Tryz.ntmps13
 go_upto_region 1 with fail
 rw[← HX.out]
 obtain⟨b,hb⟩:∃ b,b=w.heap.size:=⟨_,rfl⟩
 obtain⟨B,hB⟩:∃ B,B=w.heap.size:=⟨_,rfl⟩
 have HBB:Hid (B=w.heap.size∧b=B):=⟨hB,by rw[hb,hB]⟩
 rw[← hb] at h0 h1 h2 ⊢
 rw[← hB] at HB0
 clear hb hB HX
 have hBb:B≤b:=by rw[HBB.out.2];exact Nat.le_refl _
 have lx0:=lt1 h0
 have hBX:B≤X.heap.size:=by have:=HB0.out.size;rw[HBB.out.1];exact this
 obtain⟨c0,c1,c2,c3,c4,c5,c6,c7⟩:=cell8 h0
 go_wp2_with (go_at_call 5;refine KO.out.mono ?_;rintro e X1 ⟨hb1,y,o,rfl,hR1⟩;refine Hid.out ?_)
 have h01:=bl hb1 h0
 have h11:=bl hb1 h1
 have h21:=bl hb1 h2
 obtain⟨X2,hX2,hs1,hs2⟩:=store8e h01 (sv y.p f.parts.length y.pc) (sv y.l f.plan.length y.lc) (iv f.now) (sv y.d f.done.length y.dc) (sv y.h f.got.length y.hc) (sv y.g f.grants.length y.gc) (sv y.k f.work.length y.kc) (sv y.n f.net.length y.nc)
 have HX2:Hid (X2=_):=hX2
 have HO:Hid (FmO B X2 b f y o):=((hR1.base hBX).wr ⟨b,_,h01,hs2⟩).own hBb hs1
 have hq:=(hs2.block _ (lt1 h11) (by simp)).trans h11
 have hz:=(hs2.block _ (lt1 h21) (by simp)).trans h21
 have HB1:Hid (Below B w X2):=(HB0.out.trans (hb1.mono hBX)).grown hs2 (Nat.le_trans hBX hb1.size) (fun k hk=>by cases hk;exact hBb)
 obtain⟨d0,d1,d2,d3,d4,d5,d6,d7⟩:=cell8 h01
 have df:=frozenB h01
 have dl:=lt1 h01
 clear c0 c1 c2 c3 c4 c5 c6 c7 h0 h1 h2 h01 h11 h21 hb1 hR1 HB0 hBX lx0 KO hs1 hs2 hX2
 refine Lib.hid ?_
 go_upto_region 2 with fail
 rw[← HX2.out]
 clear d0 d1 d2 d3 d4 d5 d6 d7 df dl HX2
 clear X X1
 have hbk:=HO.out.blk
 obtain⟨c0,c1,c2,c3,c4,c5,c6,c7⟩:=cell8 hbk
 have q0:=cellC hq 0 rfl
 have q1:=cellC hq 1 rfl
 have q2:=cellC hq 2 rfl
 have lb:=lt1 hbk
 have lq:=lt1 hq
 have lz:=lt1 hz
 have hBX2:B≤X2.heap.size:=Nat.le_of_lt (Nat.lt_of_le_of_lt hBb lb)
 have hkI:(kn:Int)<(f.net.length:Int):=by omega
 have hkJ:¬ (f.net.length:Int)≤(kn:Int):=by omega
 have hk0:¬ (kn:Int)<0:=by omega
 obtain⟨g,en,hg,hen,hem,e0,e1,e2,e3,e4⟩:=HO.out.msgAt kn hkn
 have hPe:=HO.out.ownN en hen
 obtain⟨a1,d1,a2,d2,ev1,ev2,-,-⟩:=hPe.at
 obtain⟨mk,mw,mn,q,vF,vD⟩:=en
 simp only at e0 e1 e2 e3 e4 ev1 ev2 hPe
 subst ev1
 subst ev2
 have HPe:Hid (POwn X2 B ⟨q,sv a1 q.frags.length d1,sv a2 q.defs.length d2⟩):=hPe
 have Hem:Hid (f.net.getD kn M.msg0=⟨mk,mw,mn,q⟩):=hem.symm
 have c7':X2.cell? (qa b 7)=some (sv (some (qa g 0)) f.net.length y.nc):=by rw[← hg];exact c7
 have lgn:g<X2.heap.size:=World.block_lt_of_cell? _ _ e0
 have Hg:Hid (y.n=some (qa g 0)):=hg
 have Hkn:Hid (kn<f.net.length):=hkn
 have Hen:Hid ((⟨mk,mw,mn,⟨q,sv a1 q.frags.length d1,sv a2 q.defs.length d2⟩⟩:NEnt)∈o.eN):=hen
 clear c7 hg hkn hPe hem hen
 have HOn:Hid (FmO B X2 b f y o):=HO
 have hA:Below X2.heap.size X2 (X2.alloc (.cells #[iv mk,iv mw,iv mn,sv a1 q.frags.length d1,sv a2 q.defs.length d2] 60)):=(Below.refl _ _).alloc (Nat.le_refl _) _
 have hm0:=heap_alloc_new X2 (.cells #[iv mk,iv mw,iv mn,sv a1 q.frags.length d1,sv a2 q.defs.length d2] 60)
 have hOZ:=HO.out.later hA
 have hzZ:=(hA.block _ lz).trans hz
 have hqZ:=(hA.block _ lq).trans hq
 have HBZ:Hid (Below B w (X2.alloc (.cells #[iv mk,iv mw,iv mn,sv a1 q.frags.length d1,sv a2 q.defs.length d2] 60))):=HB1.out.trans (hA.mono hBX2)
 have hBZ:B≤(X2.alloc (.cells #[iv mk,iv mw,iv mn,sv a1 q.frags.length d1,sv a2 q.defs.length d2] 60)).heap.size:=Nat.le_trans hBX2 hA.size
 have HPZ:Hid (POwn (X2.alloc (.cells #[iv mk,iv mw,iv mn,sv a1 q.frags.length d1,sv a2 q.defs.length d2] 60)) B ⟨q,sv a1 q.frags.length d1,sv a2 q.defs.length d2⟩):=HPe.out.later hA
 have hcap:f.net.length≤y.nc:=by
  have h:=HO.out.rowN
  rw[Hg.out] at h
  rcases h.2 with ⟨h1,_⟩ | ⟨g',cap,cur,h1,_,_,h3,_⟩
  ·cases h1
  ·cases h1;exact h3
 clear KF hbk hq hz HO HB1 HPe hA HOn Hen
 go_upto_region 50 with fail
 clear c0 c1 c2 c3 c4 c5 c6 c7' q0 q1 q2 lb lq lz e0 e1 e2 e3 e4 lgn hBX2
 obtain⟨nm,hnm⟩:∃ nm,nm=X2.heap.size:=⟨_,rfl⟩
 rw[← hnm] at hm0 ⊢
 clear hnm
 generalize X2.alloc (.cells #[iv mk,iv mw,iv mn,sv a1 q.frags.length d1,sv a2 q.defs.length d2] 60)=Z at *
 clear X2
 obtain⟨i0,hi0,hz0,hz1,hz2⟩:=info_parts (P:=Tryz.prog) (e:=60) (z:=.agg #[iv 0,iv 0,iv 0,sv none 0 0,sv none 0 0]) (size:=5) (bytes:=72) (by kernel_rfl)
 obtain⟨a12,h12⟩:∃ a12:Option Addr,a12=if y.nc=kn+1 then some (qa g 0) else some (qa g ((kn+1)*5)):=⟨_,rfl⟩
 have h12s:∃ aa,a12=some aa:=by rw[h12];split <;> exact⟨_,rfl⟩
 have hkn:=Hkn.out
 have hkc:(kn:Int)≤(y.nc:Int):=by omega
 have hwr:IntKind.i64.wrap ((kn:Int)+1)=(kn:Int)+1:=by rw[IntKind.wrap_i64];omega
 have HGN:Hid (y.n=some (qa g 0)):=Hg
 have HKN:Hid (kn<f.net.length):=Hkn
 have hstay:∀ W,Below Z.heap.size Z W→W.cell? (qa b 7)=some (sv (some (qa g 0)) f.net.length y.nc)∧W.cell? (qa (b+1) 2)=some (iv kn)∧FmO B W b f y o∧B≤W.heap.size:=fun W hW=>⟨by rw[← Hg.out];exact cellB (hOZ.later hW).blk 7,cellB ((hW.block _ (lt1 hqZ)).trans hqZ) 2,hOZ.later hW,Nat.le_trans hBZ hW.size⟩
 refine wp_region_rel 14 (fun _ W=>Below Z.heap.size Z W) (fun v=>⟨#[.agg (qm f x),.agg #[iv 3,iv wk,iv ↑kn],qv b 0,qv (b+1) 0,qv (b+1+1) 0,iv 0,.func (Fn.func 45) #[] #[],.func (Fn.func 46) #[] #[qv b 0],iv wk,undef,undef,undef,undef,undef,undef,qv nm 0,.agg (qm f x),.agg (qm f y),.func (Fn.func 46) #[] #[qv b 0],qv (b+1) 1,iv wk,qv (b+1) 0,iv 3,.bool false,.bool false,.bool false,.bool false,undef,undef,undef,undef,undef,undef,undef,undef,undef,undef,undef,undef,undef,.bool true,.bool true,undef,undef,qv (b+1) 2,iv ↑kn,.bool false,.bool false,qv (b+1) 2,iv ↑kn,qv b 7,sv (some (qa g 0)) f.net.length y.nc,iv ↑f.net.length,.bool false,.bool false,undef,undef,undef,undef,qv (b+1) 0,iv 3,undef,undef,undef,undef,.bool false,.bool false,undef,undef,undef,undef,undef,undef,undef,undef,undef,undef,undef,undef,undef,undef,undef,undef,undef,undef,undef,undef,undef,undef,undef,undef,undef,undef,undef,undef,undef,undef,undef,undef,undef,undef,undef,undef,undef,undef,undef,.bool false,.bool false,undef,undef,undef,undef,undef,undef,undef,undef,undef,undef,undef,undef,undef,undef,undef,undef,undef,undef,undef,undef,undef,undef,undef,undef,undef,undef,undef,undef,undef,undef,undef,undef,undef,undef,undef,undef,undef,undef,undef,undef,undef,undef,undef,undef,undef,undef,undef,undef,undef,undef,undef,undef,undef,undef,undef,undef,undef,undef,undef,undef,undef,undef,undef,undef,undef,undef,undef,undef,.bool false,.bool false,undef,undef,undef,undef,.bool false,.bool false,undef,undef,undef,undef,undef,undef,undef,undef,undef,undef,undef,undef,undef,undef,undef,undef,.bool true,.bool true,undef,qv b 7,sv (some (qa g 0)) f.net.length y.nc,qv (b+1) 2,iv ↑kn,qv g (kn*5),.agg #[iv mk,iv mw,iv mn,sv a1 q.frags.length d1,sv a2 q.defs.length d2],v 0,v 1,v 2,v 3,v 4,v 5,v 6,v 7,v 8,v 9,v 10,v 11,v 12,v 13,undef,undef,undef,undef,undef,undef,undef,undef,undef,undef,undef,undef,undef,undef,undef,undef,undef,undef,undef,undef,undef,undef,undef,undef,undef,undef,undef,undef,undef,undef,undef,undef,undef,undef,undef,undef,undef,undef,undef,undef,undef,undef,undef,undef,undef,undef,undef,undef,undef,undef,undef,undef,undef,undef,undef,undef,undef,undef,undef,undef,undef,undef,undef,undef,undef,undef,undef,undef,undef,undef,undef,undef,undef,undef],[]⟩) (tkR B b g kn f.net.length y.nc a12 (f.net.eraseIdx kn)) (fun _ _ _ _=>True) (by kernel_rfl) (by kernel_rfl) (Below.refl _ _).drew ⟨fun _=>undef,rfl⟩ ?_ ?_
 ·intro j op hj ho'
  rcases (by omega:j=0∨j=1∨j=2∨j=3∨j=4∨j=5∨j=6∨j=7∨j=8∨j=9∨j=10∨j=11∨j=12∨j=13) with rfl | rfl | rfl | rfl | rfl | rfl | rfl | rfl | rfl | rfl | rfl | rfl | rfl | rfl
  all_goals cases ho'
  all_goals refine relStep_of rfl rfl ?_
  all_goals rintro sd v W hC hin hsd hdep hdz
  all_goals obtain⟨hc7,hq2,hO,hBW⟩:=hstay W hC
  ·exact wp_val (qv b 7) (by simp[execOp,Act.eval,go_sem]) ⟨_,rfl,hC,fun _ _ _ _ h=>h,rfl,fun k hk _ hz=>⟨trivial,trivial⟩⟩
  ·have hv:v 0=qv b 7:=hdep ⟨0,.data⟩ (by simp) rfl
   exact wp_val (sv (some (qa g 0)) f.net.length y.nc) (by simp[execOp,Act.eval,go_sem,hv,hc7]) ⟨_,rfl,hC,fun _ _ _ _ h=>h,rfl,fun k hk _ hz=>⟨trivial,trivial⟩⟩
  ·exact wp_val (qv (b+1) 2) (by simp[execOp,Act.eval,go_sem]) ⟨_,rfl,hC,fun _ _ _ _ h=>h,rfl,fun k hk _ hz=>⟨trivial,trivial⟩⟩
  ·have hv:v 2=qv (b+1) 2:=hdep ⟨2,.data⟩ (by simp) rfl
   exact wp_val (iv (kn:Nat)) (by simp[execOp,Act.eval,go_sem,hv,hq2]) ⟨_,rfl,hC,fun _ _ _ _ h=>h,rfl,fun k hk _ hz=>⟨trivial,trivial⟩⟩
  ·exact wp_val (qv (b+1) 2) (by simp[execOp,Act.eval,go_sem]) ⟨_,rfl,hC,fun _ _ _ _ h=>h,rfl,fun k hk _ hz=>⟨trivial,trivial⟩⟩
  ·have hv:v 4=qv (b+1) 2:=hdep ⟨4,.data⟩ (by simp) rfl
   exact wp_val (iv (kn:Nat)) (by simp[execOp,Act.eval,go_sem,hv,hq2]) ⟨_,rfl,hC,fun _ _ _ _ h=>h,rfl,fun k hk _ hz=>⟨trivial,trivial⟩⟩
  ·have hv1:v 1=sv (some (qa g 0)) f.net.length y.nc:=hdep ⟨1,.data⟩ (by simp) rfl
   have hv3:v 3=iv (kn:Nat):=hdep ⟨3,.data⟩ (by simp) rfl
   have hv5:v 5=iv (kn:Nat):=hdep ⟨5,.data⟩ (by simp) rfl
   exact wp_val (sv (some (qa g 0)) kn kn) (by simp[execOp,Act.eval,go_sem,hv1,hv3,hv5,hkc]) ⟨_,rfl,hC,fun _ _ _ _ h=>h,rfl,fun k hk _ hz=>⟨trivial,trivial⟩⟩
  ·exact wp_val (qv b 7) (by simp[execOp,Act.eval,go_sem]) ⟨_,rfl,hC,fun _ _ _ _ h=>h,rfl,fun k hk _ hz=>⟨trivial,trivial⟩⟩
  ·have hv:v 7=qv b 7:=hdep ⟨7,.data⟩ (by simp) rfl
   exact wp_val (sv (some (qa g 0)) f.net.length y.nc) (by simp[execOp,Act.eval,go_sem,hv,hc7]) ⟨_,rfl,hC,fun _ _ _ _ h=>h,rfl,fun k hk _ hz=>⟨trivial,trivial⟩⟩
  ·exact wp_val (qv (b+1) 2) (by simp[execOp,Act.eval,go_sem]) ⟨_,rfl,hC,fun _ _ _ _ h=>h,rfl,fun k hk _ hz=>⟨trivial,trivial⟩⟩
  ·have hv:v 9=qv (b+1) 2:=hdep ⟨9,.data⟩ (by simp) rfl
   exact wp_val (iv (kn:Nat)) (by simp[execOp,Act.eval,go_sem,hv,hq2]) ⟨_,rfl,hC,fun _ _ _ _ h=>h,rfl,fun k hk _ hz=>⟨trivial,trivial⟩⟩
  ·have hv:v 10=iv (kn:Nat):=hdep ⟨10,.data⟩ (by simp) rfl
   exact wp_val (iv ((kn:Int)+1)) (by simp[execOp,Act.eval,go_sem,hv,hwr]) ⟨_,rfl,hC,fun _ _ _ _ h=>h,rfl,fun k hk _ hz=>⟨trivial,trivial⟩⟩
  ·have hv8:v 8=sv (some (qa g 0)) f.net.length y.nc:=hdep ⟨8,.data⟩ (by simp) rfl
   have hv11:v 11=iv ((kn:Int)+1):=hdep ⟨11,.data⟩ (by simp) rfl
   have hrun:(Instr.sliceAt 27 (sv (some (qa g 0)) f.net.length y.nc) (some (iv ((kn:Int)+1))) none none).run Tryz.prog W=.ok (sv a12 (f.net.length - (kn+1)) (y.nc - (kn+1))) W:=by
    rw[run_sliceAt_slice W 27 _ _ _ _ (by kernel_rfl),run_slice_l W 27 (some (qa g 0)) f.net.length y.nc (by kernel_rfl) .i64 ((kn:Int)+1) (by omega) (by omega)]
    rw[show ((kn:Int)+1).toNat=kn+1 by omega]
    simp[go_sem]
    exact h12.symm
   exact wp_val (sv a12 (f.net.length - (kn+1)) (y.nc - (kn+1))) (by simp[execOp,Act.eval,hv8,hv11,hrun]) ⟨_,rfl,hC,fun _ _ _ _ h=>h,rfl,fun k hk _ hz=>⟨trivial,trivial⟩⟩
  ·have hv6:v 6=sv (some (qa g 0)) kn kn:=hdep ⟨6,.data⟩ (by simp) rfl
   have hv12:v 12=sv a12 (f.net.length - (kn+1)) (y.nc - (kn+1)):=hdep ⟨12,.data⟩ (by simp) rfl
   have hle:=map_len hO.mapN
   have hr:=hO.rowN
   rw[HGN.out] at hr
   have hrc:∀ j,j<f.net.length*5→W.cell? (qa g j)=(o.eN.flatMap nentCells)[j]?:=fun j hj=>hr.cellAt j hj
   refine wp_append_full W _ _ 27 rfl 60 i0 (.agg #[iv 0,iv 0,iv 0,sv none 0 0,sv none 0 0]) 5 72 Tryz.underlying27 hi0 hz0 hz1 hz2 rfl (by decide) ⟨g,0,none⟩ kn ((o.eN.take kn).flatMap nentCells) hv6 (by rw[flat_len' 5 nentCells (fun _=>rfl),List.length_take];congr 1;omega) (fun j u hj=>?_) (sv a12 (f.net.length - (kn+1)) (y.nc - (kn+1))) (f.net.length - (kn+1)) ((o.eN.drop (kn+1)).flatMap nentCells) hv12 ?_ (by rw[flat_len' 5 nentCells (fun _=>rfl),List.length_drop];congr 1;omega) (by unfold maxLen;omega) (by omega) (fun hm=>?_) (fun hm v' W2 hr2 hb2=>?_)
   ·have hjl:=(List.getElem?_eq_some_iff.1 hj).1
    rw[flat_len' 5 nentCells (fun _=>rfl),List.length_take] at hjl
    rw[Addr.add_lit,Nat.zero_add,hrc j (by omega),← hj]
    conv=>lhs;rw[← List.take_append_drop kn o.eN,List.flatMap_append]
    rw[List.getElem?_append_left (by rw[flat_len' 5 nentCells (fun _=>rfl),List.length_take];omega)]
   ·by_cases hm:f.net.length - (kn+1)=0
    ·have hnil:o.eN.drop (kn+1)=[]:=List.drop_eq_nil_of_le (by omega)
     obtain⟨aa,haa⟩:=h12s
     rw[hnil,hm,haa]
     exact⟨_,_,rfl,.inr ⟨aa,rfl,fun j u hj=>by simp at hj⟩⟩
    ·have ha:a12=some (qa g ((kn+1)*5)):=by rw[h12,if_neg (by omega)]
     rw[ha]
     refine⟨_,_,rfl,.inr ⟨_,rfl,fun j u hj=>?_⟩⟩
     have hjl:=(List.getElem?_eq_some_iff.1 hj).1
     rw[flat_len' 5 nentCells (fun _=>rfl),List.length_drop] at hjl
     rw[Addr.add_lit,hrc _ (by omega),← hj]
     conv=>lhs;rw[← List.take_append_drop (kn+1) o.eN,List.flatMap_append]
     rw[List.getElem?_append_right (by rw[flat_len' 5 nentCells (fun _=>rfl),List.length_take];omega),flat_len' 5 nentCells (fun _=>rfl),List.length_take]
     congr 1
     omega
   ·exact⟨_,rfl,hC,fun _ _ _ _ h=>h,netk_last hO HGN.out HKN.out hm,fun k hk _ hz=>⟨trivial,trivial⟩⟩
   ·exact⟨_,rfl,hC.trans (hb2.mono hC.size),fun k z _ _=>tkR_later hb2 k z,netk_new hO HKN.out hb2 hBW hr2,fun k hk _ hz=>⟨trivial,trivial⟩⟩
 ·intro sd v W hC hR hZ
  have hNK:NetK B W (v 13) (f.net.eraseIdx kn):=hR 13 (by decide)
  obtain⟨hc7,hq2,hO,hBW⟩:=hstay W hC
  obtain⟨a7,c7,e13⟩:∃ a7 c7,v 13=sv a7 (f.net.eraseIdx kn).length c7:=by obtain⟨a,_,_,c,_,h,_⟩:=hNK;exact⟨a,c,h⟩
  rw[e13] at hNK
  simp only[List.drop_succ_cons,List.drop_zero]
  rw[e13]
  have HNK:Hid (NetK B W (sv a7 (f.net.eraseIdx kn).length c7) (f.net.eraseIdx kn)):=hNK
  have HOW:Hid (FmO B W b f y o):=hO
  have HBW:Hid (Below B w W):=HBZ.out.trans (hC.mono hBZ)
  have hzW:=(hC.block _ (lt1 hzZ)).trans hzZ
  have hqW:=(hC.block _ (lt1 hqZ)).trans hqZ
  have hmW:=(hC.block _ (lt1 hm0)).trans hm0
  have HPW:Hid (POwn W B ⟨q,sv a1 q.frags.length d1,sv a2 q.defs.length d2⟩):=HPZ.out.later hC
  have hbW:=hO.blk
  have hfb:=frozenB hbW
  have lbW:=lt1 hbW
  clear hR hZ e13 hNK hstay hC hOZ hzZ hqZ hm0 HPZ HBZ hBZ hO h12 h12s hkc hwr hcap hq2
  clear Z
  have HTK:Hid (M.arriveM ({ f with net:=f.net.eraseIdx kn } : M.Farm) ⟨mk,mw,mn,q⟩=RF):=by rw[Hid,← Hem.out];exact HRF.out
  clear HRF
  generalize f.net.eraseIdx kn=ms at *
  obtain⟨X5,hX5⟩:∃ X5,X5=(W.setCell (qa b 7) (sv a7 ms.length c7)):=⟨_,rfl⟩
  have HX5:Hid (X5=(W.setCell (qa b 7) (sv a7 ms.length c7))):=hX5
  have hb5:X5.heap[b]?=some (.cells #[sv y.p f.parts.length y.pc,sv y.l f.plan.length y.lc,iv f.now,sv y.d f.done.length y.dc,sv y.h f.got.length y.hc,sv y.g f.grants.length y.gc,sv y.k f.work.length y.kc,sv a7 ms.length c7] 29 (0,0)):=by rw[hX5];exact setB' hbW _
  have wr5:Wr W X5 29:=by rw[hX5];exact⟨b,_,hbW,grown_set _ _ _ _⟩
  have HW5:Hid (Wr W X5 29):=wr5
  have hq5:=wr5.block hqW (by decide)
  have hm5:=wr5.block hmW (by decide)
  have hz5:X5.heap[b+2]?=some (.cells qz 29 (0,0)):=by rw[hX5];exact (Below.heap_setCell _ _ _ _ (by show b+2≠b;omega)).trans hzW
  have HB5:Hid (Below B w X5):=by rw[Hid,hX5];exact HBW.out.setCell hBb _
  have hrW5:=wr5.row HOW.out.rowW (by decide)
  have hrD5:=wr5.row HOW.out.rowD (by decide)
  have hrH5:=wr5.row HOW.out.rowH (by decide)
  have hrG5:=wr5.row HOW.out.rowG (by decide)
  have hok1:=HOk.out.nets _ (getD_mem f.net M.msg0 kn hkn)
  rw[Hem.out] at hok1
  have hok2:=hok1.1
  unfold M.msgOk at hok2
  rw[Bool.and_eq_true,Bool.and_eq_true,M.inR_iff,M.inR_iff,M.inR_iff] at hok2
  simp only at hok2
  obtain⟨⟨hk1,hk2⟩,⟨hm1,hm2⟩,⟨hn1',hn2'⟩⟩:=hok2
  have hdl:=HOk.out.done
  have hgl:=HOk.out.got
  have hgrl:=HOk.out.grants
  clear hqW hmW hzW hok1
  go_upto_region 51 with fail
  rw[← hX5]
  clear hX5 hc7 hfb lbW hbW wr5
  obtain⟨mw,rfl⟩:∃ m:Nat,mw=m:=⟨mw.toNat,by omega⟩
  obtain⟨mn,rfl⟩:∃ m:Nat,mn=m:=⟨mn.toNat,by omega⟩
  have hmw:mw<f.work.length:=by omega
  have hmd:mn<f.done.length:=by omega
  have hmg:mn<f.got.length:=by omega
  have hmr:mn<f.grants.length:=by omega
  have HMW:Hid (mw<f.work.length∧mn<f.done.length∧mn<f.got.length∧mn<f.grants.length):=⟨hmw,hmd,hmg,hmr⟩
  have hwI:(mw:Int)<(f.work.length:Int):=by omega
  have hdI:(mn:Int)<(f.done.length:Int):=by omega
  have hgI:(mn:Int)<(f.got.length:Int):=by omega
  have hrI:(mn:Int)<(f.grants.length:Int):=by omega
  have k0:=cellC hq5 0 rfl
  have lq5:=lt1 hq5
  have m0:=cellC hm5 0 rfl
  have m1:=cellC hm5 1 rfl
  have m2:=cellC hm5 2 rfl
  have m3:=cellC hm5 3 rfl
  have m4:=cellC hm5 4 rfl
  have lm5:=lt1 hm5
  have lb5:=lt1 hb5
  have c3:=cellC hb5 3 rfl
  have c4:=cellC hb5 4 rfl
  have c5:=cellC hb5 5 rfl
  have c6:=cellC hb5 6 rfl
  clear hdl hgl hgrl hm1 hm2 hn1' hn2'
  rcases (by omega:mk=1∨mk=2) with rfl | rfl
  ·obtain⟨gk,hgk,ek,fk,lk⟩:=IntsAt.own hrW5 mw hmw
   rw[hgk] at c6
   by_cases hwv:f.work.getD mw 0=-1
   ·have hwb:(f.work.getD mw 0==-1)=true:=by simpa using hwv
    have e1:M.arriveM { f with net:=ms } ⟨1,mw,mn,q⟩={ f with work:=f.work.set mw (mn:Int),net:=ms }:=if_pos hwv
    obtain⟨hS1,hS2,hS3⟩:=HOW.out.setWork gk mw hgk hmw (mn:Int)
    obtain⟨cs,hcs⟩:=row_typed (by have:=HOW.out.rowW;rw[hgk] at this;exact this)
    obtain⟨cs5,hcs5⟩:=row_typed (by rw[hgk] at hrW5;exact hrW5)
    have hge:B≤gk:=by rw[hgk] at hrW5;exact (hrW5.lt gk rfl).1
    have hne:b≠gk:=fun e=>by rw[e,hcs5] at hb5;cases hb5
    have wrA:Wr W (W.setCell (qa gk mw) (iv mn)) 3:=⟨gk,cs,hcs,grown_set _ _ _ _⟩
    have wrK:Wr X5 (X5.setCell (qa gk mw) (iv mn)) 3:=⟨gk,cs5,hcs5,grown_set _ _ _ _⟩
    have hX6:X5.setCell (qa gk mw) (iv mn)=(W.setCell (qa gk mw) (iv mn)).setCell (qa b 7) (sv a7 ms.length c7):=by rw[HX5.out];exact setCell_comm W b gk 7 mw _ _ hne
    have wrB:Wr (W.setCell (qa gk mw) (iv mn)) (X5.setCell (qa gk mw) (iv mn)) 29:=by rw[hX6];exact⟨b,_,hS1.blk,grown_set _ _ _ _⟩
    obtain⟨f6,hf6⟩:∃ f6,({ f with work:=f.work.set mw (mn:Int),net:=ms } : M.Farm)=f6:=⟨_,rfl⟩
    obtain⟨y6,hy6⟩:∃ y6,({ y with n:=a7,nc:=c7 } : Fd)=y6:=⟨_,rfl⟩
    have HF6:Hid (f6=RF):=by rw[Hid,← HTK.out,← hf6,e1]
    have HAT:Hid (∀ X,Kq (X5.setCell (qa gk mw) (iv mn)) X→FarmAt X f6 y6):=fun X wr=>by
     have:=FmR.withNet (ms:=ms) (a:=a7) (c:=c7) ((hS1.rows.wr wrB).kq wr) (((HNK.out.wr wrA (by decide) (by decide) (by decide) (by decide) (by decide)).wr wrB (by decide) (by decide) (by decide) (by decide) (by decide)).kq wr)
     rw[← hf6,← hy6]
     exact this
    have hb6:(X5.setCell (qa gk mw) (iv mn)).heap[b]?=some (.cells (qm f6 y6) 29 (0,0)):=by rw[← hf6,← hy6];simp only[qm,List.length_set];exact wrK.block hb5 (by decide)
    have hz6:(X5.setCell (qa gk mw) (iv mn)).heap[b+2]?=some (.cells qz 29 (0,0)):=wrK.block hz5 (by decide)
    have HB6:Hid (Below B w (X5.setCell (qa gk mw) (iv mn))):=HB5.out.setCell hge _
    clear hf6 hy6
    have hm6:=wrK.block hm5 (by decide)
    clear HOW HNK hrW5 hrD5 hrH5 hrG5 hS1 hS2 hS3 hcs hcs5 wrA wrK wrB hX6 hgk hwv e1 HX5 HW5 hb5 hz5 HB5 hq5 hm5 hmw hmd hmg hmr
    clear cs cs5
    generalize f.work.getD mw 0=wv at *
    go_upto_region 54 with fail
    clear k0 lq5 m0 m1 m2 m3 m4 lm5 lb5 c3 c4 c5 c6 ek fk lk hwb hwI hdI hgI hrI
    generalize X5.setCell (qa gk mw) (iv mn)=X6 at *
    have m0:=cellC hm6 0 rfl
    have lm6:=lt1 hm6
    clear hm6
    go_upto_region 62 with fail
    clear m0 lm6
    have hbk6:=hb6
    obtain⟨e0,e1,e2,e3,e4,e5,e6,e7⟩:=cell8 hbk6
    obtain⟨r0,r1,r2,r3,r4,r5,r6,r7⟩:=cell8 hz6
    have rf:=frozenB hz6
    have rl:=lt1 hz6
    have rb:=lt1 hbk6
    have HZ6:Hid (_=_):=hz6
    clear hbk6 hz6
    go_wp2_with fail
    obtain⟨X7,hX7,hs1,hs2⟩:=store8e HZ6.out (sv y6.p f6.parts.length y6.pc) (sv y6.l f6.plan.length y6.lc) (iv f6.now) (sv y6.d f6.done.length y6.dc) (sv y6.h f6.got.length y6.hc) (sv y6.g f6.grants.length y6.gc) (sv y6.k f6.work.length y6.kc) (sv y6.n f6.net.length y6.nc)
    rw[← hX7]
    rw[← HRE.out,← HF6.out]
    exact fin_step rfl rfl rfl hs1 (by rw[← HBB.out.1];exact HB6.out.grown hs2 (by have:=HB6.out.size;rw[HBB.out.1];exact this) (fun k hk=>by cases hk;omega)) (fun X k=>HAT.out X ((Kq.of_wr ⟨b+2,_,HZ6.out,hs2⟩).trans k))
   ·have hwb:(f.work.getD mw 0==-1)=false:=by simpa using hwv
    have e1:M.arriveM { f with net:=ms } ⟨1,mw,mn,q⟩={ f with net:=ms }:=if_neg hwv
    obtain⟨f6,hf6⟩:∃ f6,({ f with net:=ms } : M.Farm)=f6:=⟨_,rfl⟩
    obtain⟨y6,hy6⟩:∃ y6,({ y with n:=a7,nc:=c7 } : Fd)=y6:=⟨_,rfl⟩
    have HF6:Hid (f6=RF):=by rw[Hid,← HTK.out,← hf6,e1]
    have HAT:Hid (∀ X,Kq X5 X→FarmAt X f6 y6):=fun X wr=>by
     have:=FmR.withNet (ms:=ms) (a:=a7) (c:=c7) ((HOW.out.rows.wr HW5.out).kq wr) ((HNK.out.wr HW5.out (by decide) (by decide) (by decide) (by decide) (by decide)).kq wr)
     rw[← hf6,← hy6]
     exact this
    have hb6:X5.heap[b]?=some (.cells (qm f6 y6) 29 (0,0)):=by rw[← hf6,← hy6];exact hb5
    have hz6:X5.heap[b+2]?=some (.cells qz 29 (0,0)):=hz5
    have HB6:Hid (Below B w X5):=HB5
    clear hf6 hy6
    clear HOW HNK hrW5 hrD5 hrH5 hrG5 hgk hwv e1 HX5 HW5 hb5 hz5 HB5 hq5 hm5 hmw hmd hmg hmr
    generalize f.work.getD mw 0=wv at *
    go_upto_region 62 with fail
    clear k0 lq5 m0 m1 m2 m3 m4 lm5 lb5 c3 c4 c5 c6 ek fk lk hwb hwI hdI hgI hrI
    have hbk6:=hb6
    obtain⟨e0,e1,e2,e3,e4,e5,e6,e7⟩:=cell8 hbk6
    obtain⟨r0,r1,r2,r3,r4,r5,r6,r7⟩:=cell8 hz6
    have rf:=frozenB hz6
    have rl:=lt1 hz6
    have rb:=lt1 hbk6
    have HZ6:Hid (_=_):=hz6
    clear hbk6 hz6
    go_wp2_with fail
    obtain⟨X7,hX7,hs1,hs2⟩:=store8e HZ6.out (sv y6.p f6.parts.length y6.pc) (sv y6.l f6.plan.length y6.lc) (iv f6.now) (sv y6.d f6.done.length y6.dc) (sv y6.h f6.got.length y6.hc) (sv y6.g f6.grants.length y6.gc) (sv y6.k f6.work.length y6.kc) (sv y6.n f6.net.length y6.nc)
    rw[← hX7]
    rw[← HRE.out,← HF6.out]
    exact fin_step rfl rfl rfl hs1 (by rw[← HBB.out.1];exact HB6.out.grown hs2 (by have:=HB6.out.size;rw[HBB.out.1];exact this) (fun k hk=>by cases hk;omega)) (fun X k=>HAT.out X ((Kq.of_wr ⟨b+2,_,HZ6.out,hs2⟩).trans k))
  ·obtain⟨gd,hgd,ed,fd,ld⟩:=BoolsAt.own hrD5 mn hmd
   rw[hgd] at c3
   cases hdv:f.done.getD mn false with
   | true =>
    rw[hdv] at ed
    have e1:M.arriveM { f with net:=ms } ⟨2,mw,mn,q⟩={ f with net:=ms }:=if_neg (show ¬ f.done.getD mn false=false from fun h=>by rw[hdv] at h;cases h)
    obtain⟨f6,hf6⟩:∃ f6,({ f with net:=ms } : M.Farm)=f6:=⟨_,rfl⟩
    obtain⟨y6,hy6⟩:∃ y6,({ y with n:=a7,nc:=c7 } : Fd)=y6:=⟨_,rfl⟩
    have HF6:Hid (f6=RF):=by rw[Hid,← HTK.out,← hf6,e1]
    have HAT:Hid (∀ X,Kq X5 X→FarmAt X f6 y6):=fun X wr=>by
     have:=FmR.withNet (ms:=ms) (a:=a7) (c:=c7) ((HOW.out.rows.wr HW5.out).kq wr) ((HNK.out.wr HW5.out (by decide) (by decide) (by decide) (by decide) (by decide)).kq wr)
     rw[← hf6,← hy6]
     exact this
    have hb6:X5.heap[b]?=some (.cells (qm f6 y6) 29 (0,0)):=by rw[← hf6,← hy6];exact hb5
    have hz6:X5.heap[b+2]?=some (.cells qz 29 (0,0)):=hz5
    have HB6:Hid (Below B w X5):=HB5
    clear hf6 hy6
    clear HOW HNK hrW5 hrD5 hrH5 hrG5 hgd hdv e1 HX5 HW5 hb5 hz5 HB5 hq5 hm5 hmw hmd hmg hmr
    go_upto_region 62 with fail
    clear k0 lq5 m0 m1 m2 m3 m4 lm5 lb5 c3 c4 c5 c6 ed fd ld hwI hdI hgI hrI
    have hbk6:=hb6
    obtain⟨e0,e1,e2,e3,e4,e5,e6,e7⟩:=cell8 hbk6
    obtain⟨r0,r1,r2,r3,r4,r5,r6,r7⟩:=cell8 hz6
    have rf:=frozenB hz6
    have rl:=lt1 hz6
    have rb:=lt1 hbk6
    have HZ6:Hid (_=_):=hz6
    clear hbk6 hz6
    go_wp2_with fail
    obtain⟨X7,hX7,hs1,hs2⟩:=store8e HZ6.out (sv y6.p f6.parts.length y6.pc) (sv y6.l f6.plan.length y6.lc) (iv f6.now) (sv y6.d f6.done.length y6.dc) (sv y6.h f6.got.length y6.hc) (sv y6.g f6.grants.length y6.gc) (sv y6.k f6.work.length y6.kc) (sv y6.n f6.net.length y6.nc)
    rw[← hX7]
    rw[← HRE.out,← HF6.out]
    exact fin_step rfl rfl rfl hs1 (by rw[← HBB.out.1];exact HB6.out.grown hs2 (by have:=HB6.out.size;rw[HBB.out.1];exact this) (fun k hk=>by cases hk;omega)) (fun X k=>HAT.out X ((Kq.of_wr ⟨b+2,_,HZ6.out,hs2⟩).trans k))
   | false =>
    rw[hdv] at ed
    have e1:M.arriveM { f with net:=ms } ⟨2,mw,mn,q⟩={ f with done:=f.done.set mn true,got:=f.got.set mn q,grants:=f.grants.set mn M.grt0,net:=ms }:=if_pos hdv
    obtain⟨gh,u1,u2,hgh,h0,h1,fh,lh⟩:=gots_own hrH5 (map_len HOW.out.mapH).symm mn hmg
    obtain⟨gg,u3,u4,hgg,g0,g1,fg,lg⟩:=GrantsAt.own hrG5 mn hmr
    rw[hgh] at c4
    rw[hgg] at c5
    obtain⟨csd,hcd⟩:=row_typed (by rw[hgd] at hrD5;exact hrD5)
    obtain⟨csh,hch⟩:=row_typed (by rw[hgh] at hrH5;exact hrH5)
    obtain⟨csg,hcg⟩:=row_typed (by rw[hgg] at hrG5;exact hrG5)
    have hged:B≤gd:=by rw[hgd] at hrD5;exact (hrD5.lt gd rfl).1
    have hgeh:B≤gh:=by rw[hgh] at hrH5;exact (hrH5.lt gh rfl).1
    have hgeg:B≤gg:=by rw[hgg] at hrG5;exact (hrG5.lt gg rfl).1
    have nbd:b≠gd:=fun e=>by rw[e,hcd] at hb5;cases hb5
    have nbh:b≠gh:=fun e=>by rw[e,hch] at hb5;cases hb5
    have nbg:b≠gg:=fun e=>by rw[e,hcg] at hb5;cases hb5
    have nmd:nm≠gd:=fun e=>by rw[e,hcd] at hm5;cases hm5
    have nmh:nm≠gh:=fun e=>by rw[e,hch] at hm5;cases hm5
    have nmg:nm≠gg:=fun e=>by rw[e,hcg] at hm5;cases hm5
    have ndh:gd≠gh:=fun e=>by rw[e,hch] at hcd;cases hcd
    have ndg:gd≠gg:=fun e=>by rw[e,hcg] at hcd;cases hcd
    have nhg:gh≠gg:=fun e=>by rw[e,hcg] at hch;cases hch
    have hOd:=HOW.out.later (Below.refl W.heap.size W).drew
    have hPd:=HPW.out.later (Below.refl W.heap.size W).drew
    obtain⟨hS1,_,_⟩:=hOd.setDone gd mn hgd hmd true
    obtain⟨csD,hcD⟩:=row_typed (by have:=hOd.rowD;rw[hgd] at this;exact this)
    have wrd:Wr W.drew (W.drew.setCell (qa gd mn) (.bool true)) 4:=⟨gd,csD,hcD,grown_set _ _ _ _⟩
    obtain⟨o2,hS2,_,_⟩:=hS1.setGot gh mn hgh hmg ⟨q,(sv a1 q.frags.length d1),(sv a2 q.defs.length d2)⟩ (wrd.pw hPd rfl)
    obtain⟨csH,hcH⟩:=row_typed (by have:=hS1.rowH;rw[hgh] at this;exact this)
    have wrh:Wr (W.drew.setCell (qa gd mn) (.bool true)) ((((W.drew.setCell (qa gd mn) (.bool true)).setCell (qa gh (mn*2)) (sv a1 q.frags.length d1))).setCell (qa gh (mn*2+1)) (sv a2 q.defs.length d2)) 39:=⟨gh,csH,hcH,grown_trans (grown_set _ _ _ _) (grown_set _ _ _ _)⟩
    obtain⟨hS3,_,_⟩:=hS2.setGrant gg mn hgg hmr 0 0
    obtain⟨csG,hcG⟩:=row_typed (by have:=hS2.rowG;rw[hgg] at this;exact this)
    have wrg:Wr ((((W.drew.setCell (qa gd mn) (.bool true)).setCell (qa gh (mn*2)) (sv a1 q.frags.length d1))).setCell (qa gh (mn*2+1)) (sv a2 q.defs.length d2)) (((((W.drew.setCell (qa gd mn) (.bool true)).setCell (qa gh (mn*2)) (sv a1 q.frags.length d1)).setCell (qa gh (mn*2+1)) (sv a2 q.defs.length d2)).setCell (qa gg (mn*2)) (iv 0)).setCell (qa gg (mn*2+1)) (iv 0)) 64:=⟨gg,csG,hcG,grown_trans (grown_set _ _ _ _) (grown_set _ _ _ _)⟩
    have hNd:=(((HNK.out.later (Below.refl W.heap.size W).drew).wr wrd (by decide) (by decide) (by decide) (by decide) (by decide)).wr wrh (by decide) (by decide) (by decide) (by decide) (by decide)).wr wrg (by decide) (by decide) (by decide) (by decide) (by decide)
    have hX6:(((((X5.drew.setCell (qa gd mn) (.bool true)).setCell (qa gh (mn*2)) (sv a1 q.frags.length d1)).setCell (qa gh (mn*2+1)) (sv a2 q.defs.length d2)).setCell (qa gg (mn*2)) (iv 0)).setCell (qa gg (mn*2+1)) (iv 0))=(((((W.drew.setCell (qa gd mn) (.bool true)).setCell (qa gh (mn*2)) (sv a1 q.frags.length d1)).setCell (qa gh (mn*2+1)) (sv a2 q.defs.length d2)).setCell (qa gg (mn*2)) (iv 0)).setCell (qa gg (mn*2+1)) (iv 0)).setCell (qa b 7) (sv a7 ms.length c7):=by
     rw[show X5.drew=W.drew.setCell (qa b 7) (sv a7 ms.length c7) by rw[HX5.out];rfl]
     rw[setCell_comm W.drew b gd 7 mn _ _ nbd,setCell_comm _ b gh 7 (mn*2) _ _ nbh,setCell_comm _ b gh 7 (mn*2+1) _ _ nbh,setCell_comm _ b gg 7 (mn*2) _ _ nbg,setCell_comm _ b gg 7 (mn*2+1) _ _ nbg]
    have wrB:Wr (((((W.drew.setCell (qa gd mn) (.bool true)).setCell (qa gh (mn*2)) (sv a1 q.frags.length d1)).setCell (qa gh (mn*2+1)) (sv a2 q.defs.length d2)).setCell (qa gg (mn*2)) (iv 0)).setCell (qa gg (mn*2+1)) (iv 0)) (((((X5.drew.setCell (qa gd mn) (.bool true)).setCell (qa gh (mn*2)) (sv a1 q.frags.length d1)).setCell (qa gh (mn*2+1)) (sv a2 q.defs.length d2)).setCell (qa gg (mn*2)) (iv 0)).setCell (qa gg (mn*2+1)) (iv 0)) 29:=by rw[hX6];exact⟨b,_,hS3.blk,grown_set _ _ _ _⟩
    have far:∀ g',g'≠gd→g'≠gh→g'≠gg→(((((X5.drew.setCell (qa gd mn) (.bool true)).setCell (qa gh (mn*2)) (sv a1 q.frags.length d1)).setCell (qa gh (mn*2+1)) (sv a2 q.defs.length d2)).setCell (qa gg (mn*2)) (iv 0)).setCell (qa gg (mn*2+1)) (iv 0)).heap[g']?=X5.heap[g']?:=fun g' h1 h2 h3 =>
     (Below.heap_setCell _ _ _ _ h3).trans ((Below.heap_setCell _ _ _ _ h3).trans ((Below.heap_setCell _ _ _ _ h2).trans ((Below.heap_setCell _ _ _ _ h2).trans (Below.heap_setCell _ _ _ _ h1))))
    have hb6w:=(far b nbd nbh nbg).trans hb5
    have hz6w:=(far (b+2) (fun e=>by rw[e,hcd] at hz5;cases hz5) (fun e=>by rw[e,hch] at hz5;cases hz5) (fun e=>by rw[e,hcg] at hz5;cases hz5)).trans hz5
    have HB6w:Hid (Below B w (((((X5.drew.setCell (qa gd mn) (.bool true)).setCell (qa gh (mn*2)) (sv a1 q.frags.length d1)).setCell (qa gh (mn*2+1)) (sv a2 q.defs.length d2)).setCell (qa gg (mn*2)) (iv 0)).setCell (qa gg (mn*2+1)) (iv 0))):=(((((HB5.out.drew).setCell hged _).setCell hgeh _).setCell hgeh _).setCell hgeg _).setCell hgeg _
    obtain⟨f6,hf6⟩:∃ f6,({ f with done:=f.done.set mn true,got:=f.got.set mn q,grants:=f.grants.set mn M.grt0,net:=ms } : M.Farm)=f6:=⟨_,rfl⟩
    obtain⟨y6,hy6⟩:∃ y6,({ y with n:=a7,nc:=c7 } : Fd)=y6:=⟨_,rfl⟩
    have HF6:Hid (f6=RF):=by rw[Hid,← HTK.out,← hf6,e1]
    have HAT:Hid (∀ X,Kq (((((X5.drew.setCell (qa gd mn) (.bool true)).setCell (qa gh (mn*2)) (sv a1 q.frags.length d1)).setCell (qa gh (mn*2+1)) (sv a2 q.defs.length d2)).setCell (qa gg (mn*2)) (iv 0)).setCell (qa gg (mn*2+1)) (iv 0)) X→FarmAt X f6 y6):=fun X wr=>by
     have:=FmR.withNet (ms:=ms) (a:=a7) (c:=c7) ((hS3.rows.wr wrB).kq wr) ((hNd.wr wrB (by decide) (by decide) (by decide) (by decide) (by decide)).kq wr)
     rw[← hf6,← hy6]
     exact this
    have hb6:(((((X5.drew.setCell (qa gd mn) (.bool true)).setCell (qa gh (mn*2)) (sv a1 q.frags.length d1)).setCell (qa gh (mn*2+1)) (sv a2 q.defs.length d2)).setCell (qa gg (mn*2)) (iv 0)).setCell (qa gg (mn*2+1)) (iv 0)).heap[b]?=some (.cells (qm f6 y6) 29 (0,0)):=by rw[← hf6,← hy6];simp only[qm,List.length_set];exact hb6w
    have hz6:(((((X5.drew.setCell (qa gd mn) (.bool true)).setCell (qa gh (mn*2)) (sv a1 q.frags.length d1)).setCell (qa gh (mn*2+1)) (sv a2 q.defs.length d2)).setCell (qa gg (mn*2)) (iv 0)).setCell (qa gg (mn*2+1)) (iv 0)).heap[b+2]?=some (.cells qz 29 (0,0)):=hz6w
    have HB6:Hid (Below B w (((((X5.drew.setCell (qa gd mn) (.bool true)).setCell (qa gh (mn*2)) (sv a1 q.frags.length d1)).setCell (qa gh (mn*2+1)) (sv a2 q.defs.length d2)).setCell (qa gg (mn*2)) (iv 0)).setCell (qa gg (mn*2+1)) (iv 0))):=HB6w.out
    clear hf6 hy6
    clear HOW HNK hrW5 hrD5 hrH5 hrG5 hS1 hS2 hS3 hcd hch hcg hcD hcH hcG wrd wrh wrg wrB hX6 hgd hgh hgg hdv e1 HX5 HW5 hb5 hz5 HB5 hq5 hm5 hmw hmd hmg hmr hOd hPd hNd far hb6w hz6w HB6w hged hgeh hgeg
    clear csd csh csg csD csH csG o2
    go_upto_region 55 with fail
    clear k0 lq5 c6
    have hstay:∀ (sd:Array Bool) (W:World),(sd.getD 16 false=false→W=X5.drew)∧(sd.getD 16 false=true→sd.getD 18 false=false→W=(X5.drew.setCell (qa gd mn) (.bool true)))∧(sd.getD 18 false=true→W=(((X5.drew.setCell (qa gd mn) (.bool true)).setCell (qa gh (mn*2)) (sv a1 q.frags.length d1)).setCell (qa gh (mn*2+1)) (sv a2 q.defs.length d2)))→(W.cell? (qa b 3)=some (sv (some (qa gd 0)) f.done.length y.dc)∧W.cell? (qa b 4)=some (sv (some (qa gh 0)) f.got.length y.hc)∧W.cell? (qa b 5)=some (sv (some (qa gg 0)) f.grants.length y.gc))∧W.cell? (qa nm 2)=some (iv mn)∧W.cell? (qa nm 3)=some (sv a1 q.frags.length d1)∧W.cell? (qa nm 4)=some (sv a2 q.defs.length d2):=fun sd W hC=>by
     have hB:W.heap[b]?=X5.heap[b]?∧W.heap[nm]?=X5.heap[nm]?:=by
      cases h16:sd.getD 16 false with
      | false=>rw[hC.1 h16];exact⟨rfl,rfl⟩
      | true =>
       cases h18:sd.getD 18 false with
       | false=>rw[hC.2.1 h16 h18];exact⟨Below.heap_setCell _ _ _ _ nbd,Below.heap_setCell _ _ _ _ nmd⟩
       | true=>rw[hC.2.2 h18];exact⟨(Below.heap_setCell _ _ _ _ nbh).trans ((Below.heap_setCell _ _ _ _ nbh).trans (Below.heap_setCell _ _ _ _ nbd)),(Below.heap_setCell _ _ _ _ nmh).trans ((Below.heap_setCell _ _ _ _ nmh).trans (Below.heap_setCell _ _ _ _ nmd))⟩
     exact⟨⟨(World.cell?_of_block (w:=X5) hB.1).trans c3,(World.cell?_of_block (w:=X5) hB.1).trans c4,(World.cell?_of_block (w:=X5) hB.1).trans c5⟩,(World.cell?_of_block (w:=X5) hB.2).trans m2,(World.cell?_of_block (w:=X5) hB.2).trans m3,(World.cell?_of_block (w:=X5) hB.2).trans m4⟩
    refine wp_region_rel 19 (fun sd W=>(sd.getD 16 false=false→W=X5.drew)∧(sd.getD 16 false=true→sd.getD 18 false=false→W=(X5.drew.setCell (qa gd mn) (.bool true)))∧(sd.getD 18 false=true→W=(((X5.drew.setCell (qa gd mn) (.bool true)).setCell (qa gh (mn*2)) (sv a1 q.frags.length d1)).setCell (qa gh (mn*2+1)) (sv a2 q.defs.length d2)))) (fun vv=>⟨#[.agg (qm f x),.agg #[iv 3,iv wk,iv ↑kn],qv b 0,qv (b+1) 0,qv (b+1+1) 0,iv 0,.func (Fn.func 45) #[] #[],.func (Fn.func 46) #[] #[qv b 0],iv wk,undef,undef,undef,undef,undef,undef,qv nm 0,.agg (qm f x),.agg (qm f y),.func (Fn.func 46) #[] #[qv b 0],qv (b+1) 1,iv wk,qv (b+1) 0,iv 3,.bool false,.bool false,.bool false,.bool false,undef,undef,undef,undef,undef,undef,undef,undef,undef,undef,undef,undef,undef,.bool true,.bool true,undef,undef,qv (b+1) 2,iv ↑kn,.bool false,.bool false,qv (b+1) 2,iv ↑kn,qv b 7,sv (some (qa g 0)) f.net.length y.nc,iv ↑f.net.length,.bool false,.bool false,undef,undef,undef,undef,qv (b+1) 0,iv 3,undef,undef,undef,undef,.bool false,.bool false,undef,undef,undef,undef,undef,undef,undef,undef,undef,undef,undef,undef,undef,undef,undef,undef,undef,undef,undef,undef,undef,undef,undef,undef,undef,undef,undef,undef,undef,undef,undef,undef,undef,undef,undef,undef,undef,undef,undef,.bool false,.bool false,undef,undef,undef,undef,undef,undef,undef,undef,undef,undef,undef,undef,undef,undef,undef,undef,undef,undef,undef,undef,undef,undef,undef,undef,undef,undef,undef,undef,undef,undef,undef,undef,undef,undef,undef,undef,undef,undef,undef,undef,undef,undef,undef,undef,undef,undef,undef,undef,undef,undef,undef,undef,undef,undef,undef,undef,undef,undef,undef,undef,undef,undef,undef,undef,undef,undef,undef,undef,.bool false,.bool false,undef,undef,undef,undef,.bool false,.bool false,undef,undef,undef,undef,undef,undef,undef,undef,undef,undef,undef,undef,undef,undef,undef,undef,.bool true,.bool true,undef,qv b 7,sv (some (qa g 0)) f.net.length y.nc,qv (b+1) 2,iv ↑kn,qv g (kn*5),.agg #[iv 2,iv ↑mw,iv ↑mn,sv a1 q.frags.length d1,sv a2 q.defs.length d2],v 0,v 1,v 2,v 3,v 4,v 5,v 6,v 7,v 8,v 9,v 10,v 11,v 12,sv a7 ms.length c7,qv b 7,qv (b+1) 0,iv 3,.bool false,qv nm 0,iv 2,.bool false,.bool false,undef,undef,undef,undef,undef,undef,undef,.bool false,undef,undef,undef,undef,undef,undef,undef,qv nm 0,iv 2,.bool true,.bool true,qv b 3,sv (some (qa gd 0)) f.done.length y.dc,qv nm 2,iv ↑mn,qv gd mn,.bool false,.bool true,.bool true,vv 0,vv 1,vv 2,vv 3,vv 4,vv 5,vv 6,vv 7,vv 8,vv 9,vv 10,vv 11,vv 12,vv 13,vv 14,vv 15,vv 17,undef,undef,undef,undef,undef,undef,undef,undef,undef,undef,undef,undef,undef,undef,undef,undef,undef,undef,undef,undef,undef,undef],[]⟩) (fun j W u=>match j with
      | 0=>u=qv b 3
      | 1=>u=sv (some (qa gd 0)) f.done.length y.dc
      | 2=>u=qv nm 2
      | 3=>u=iv (mn:Nat)
      | 4=>u=qv b 4
      | 5=>u=sv (some (qa gh 0)) f.got.length y.hc
      | 6=>u=qv nm 2
      | 7=>u=iv (mn:Nat)
      | 8=>u=qv b 5
      | 9=>u=sv (some (qa gg 0)) f.grants.length y.gc
      | 10=>u=qv nm 2
      | 11=>u=iv (mn:Nat)
      | 12=>u=qv nm 3
      | 13=>u=.agg #[sv a1 q.frags.length d1,sv a2 q.defs.length d2]
      | 14=>u=.agg #[iv 0,iv 0]
      | 15=>u=qv gd mn
      | 16=>W.cell? (qa gd mn)=some (.bool true)
      | 17=>u=qv gh (mn*2)
      | 18=>W=(((X5.drew.setCell (qa gd mn) (.bool true)).setCell (qa gh (mn*2)) (sv a1 q.frags.length d1)).setCell (qa gh (mn*2+1)) (sv a2 q.defs.length d2))
      | _=>False) (fun _ _ _ _=>True) (by kernel_rfl) (by kernel_rfl) ⟨fun _=>rfl,(fun h=>by rw[getD_replicate_false] at h;cases h),(fun h=>by rw[getD_replicate_false] at h;cases h)⟩ ⟨fun _=>undef,rfl⟩ ?_ ?_
    ·intro j op hj ho'
     rcases (by omega:j=0∨j=1∨j=2∨j=3∨j=4∨j=5∨j=6∨j=7∨j=8∨j=9∨j=10∨j=11∨j=12∨j=13∨j=14∨j=15∨j=16∨j=17∨j=18) with rfl | rfl | rfl | rfl | rfl | rfl | rfl | rfl | rfl | rfl | rfl | rfl | rfl | rfl | rfl | rfl | rfl | rfl | rfl
     all_goals cases ho'
     all_goals refine relStep_of rfl rfl ?_
     all_goals rintro sd vv W hC hin hsd hdep hdz
     all_goals obtain⟨⟨k3,k4,k5⟩,n2,n3,n4⟩:=hstay sd W hC
     ·exact wp_val (qv b 3) (by simp[execOp,Act.eval,go_sem]) ⟨_,rfl,⟨fun h=>hC.1 (by rwa [getD_set_ne false (by decide)] at h),fun h1 h2=>hC.2.1 (by rwa [getD_set_ne false (by decide)] at h1) (by rwa [getD_set_ne false (by decide)] at h2),fun h=>hC.2.2 (by rwa [getD_set_ne false (by decide)] at h)⟩,fun _ _ _ _ h=>h,rfl,fun k hk _ hz=>⟨trivial,trivial⟩⟩
     ·have hv:vv 0=qv b 3:=hdep ⟨0,.data⟩ (by simp) rfl
      exact wp_val (sv (some (qa gd 0)) f.done.length y.dc) (by simp[execOp,Act.eval,go_sem,hv,k3]) ⟨_,rfl,⟨fun h=>hC.1 (by rwa [getD_set_ne false (by decide)] at h),fun h1 h2=>hC.2.1 (by rwa [getD_set_ne false (by decide)] at h1) (by rwa [getD_set_ne false (by decide)] at h2),fun h=>hC.2.2 (by rwa [getD_set_ne false (by decide)] at h)⟩,fun _ _ _ _ h=>h,rfl,fun k hk _ hz=>⟨trivial,trivial⟩⟩
     ·exact wp_val (qv nm 2) (by simp[execOp,Act.eval,go_sem]) ⟨_,rfl,⟨fun h=>hC.1 (by rwa [getD_set_ne false (by decide)] at h),fun h1 h2=>hC.2.1 (by rwa [getD_set_ne false (by decide)] at h1) (by rwa [getD_set_ne false (by decide)] at h2),fun h=>hC.2.2 (by rwa [getD_set_ne false (by decide)] at h)⟩,fun _ _ _ _ h=>h,rfl,fun k hk _ hz=>⟨trivial,trivial⟩⟩
     ·have hv:vv 2=qv nm 2:=hdep ⟨2,.data⟩ (by simp) rfl
      exact wp_val (iv (mn:Nat)) (by simp[execOp,Act.eval,go_sem,hv,n2]) ⟨_,rfl,⟨fun h=>hC.1 (by rwa [getD_set_ne false (by decide)] at h),fun h1 h2=>hC.2.1 (by rwa [getD_set_ne false (by decide)] at h1) (by rwa [getD_set_ne false (by decide)] at h2),fun h=>hC.2.2 (by rwa [getD_set_ne false (by decide)] at h)⟩,fun _ _ _ _ h=>h,rfl,fun k hk _ hz=>⟨trivial,trivial⟩⟩
     ·exact wp_val (qv b 4) (by simp[execOp,Act.eval,go_sem]) ⟨_,rfl,⟨fun h=>hC.1 (by rwa [getD_set_ne false (by decide)] at h),fun h1 h2=>hC.2.1 (by rwa [getD_set_ne false (by decide)] at h1) (by rwa [getD_set_ne false (by decide)] at h2),fun h=>hC.2.2 (by rwa [getD_set_ne false (by decide)] at h)⟩,fun _ _ _ _ h=>h,rfl,fun k hk _ hz=>⟨trivial,trivial⟩⟩
     ·have hv:vv 4=qv b 4:=hdep ⟨4,.data⟩ (by simp) rfl
      exact wp_val (sv (some (qa gh 0)) f.got.length y.hc) (by simp[execOp,Act.eval,go_sem,hv,k4]) ⟨_,rfl,⟨fun h=>hC.1 (by rwa [getD_set_ne false (by decide)] at h),fun h1 h2=>hC.2.1 (by rwa [getD_set_ne false (by decide)] at h1) (by rwa [getD_set_ne false (by decide)] at h2),fun h=>hC.2.2 (by rwa [getD_set_ne false (by decide)] at h)⟩,fun _ _ _ _ h=>h,rfl,fun k hk _ hz=>⟨trivial,trivial⟩⟩
     ·exact wp_val (qv nm 2) (by simp[execOp,Act.eval,go_sem]) ⟨_,rfl,⟨fun h=>hC.1 (by rwa [getD_set_ne false (by decide)] at h),fun h1 h2=>hC.2.1 (by rwa [getD_set_ne false (by decide)] at h1) (by rwa [getD_set_ne false (by decide)] at h2),fun h=>hC.2.2 (by rwa [getD_set_ne false (by decide)] at h)⟩,fun _ _ _ _ h=>h,rfl,fun k hk _ hz=>⟨trivial,trivial⟩⟩
     ·have hv:vv 6=qv nm 2:=hdep ⟨6,.data⟩ (by simp) rfl
      exact wp_val (iv (mn:Nat)) (by simp[execOp,Act.eval,go_sem,hv,n2]) ⟨_,rfl,⟨fun h=>hC.1 (by rwa [getD_set_ne false (by decide)] at h),fun h1 h2=>hC.2.1 (by rwa [getD_set_ne false (by decide)] at h1) (by rwa [getD_set_ne false (by decide)] at h2),fun h=>hC.2.2 (by rwa [getD_set_ne false (by decide)] at h)⟩,fun _ _ _ _ h=>h,rfl,fun k hk _ hz=>⟨trivial,trivial⟩⟩
     ·exact wp_val (qv b 5) (by simp[execOp,Act.eval,go_sem]) ⟨_,rfl,⟨fun h=>hC.1 (by rwa [getD_set_ne false (by decide)] at h),fun h1 h2=>hC.2.1 (by rwa [getD_set_ne false (by decide)] at h1) (by rwa [getD_set_ne false (by decide)] at h2),fun h=>hC.2.2 (by rwa [getD_set_ne false (by decide)] at h)⟩,fun _ _ _ _ h=>h,rfl,fun k hk _ hz=>⟨trivial,trivial⟩⟩
     ·have hv:vv 8=qv b 5:=hdep ⟨8,.data⟩ (by simp) rfl
      exact wp_val (sv (some (qa gg 0)) f.grants.length y.gc) (by simp[execOp,Act.eval,go_sem,hv,k5]) ⟨_,rfl,⟨fun h=>hC.1 (by rwa [getD_set_ne false (by decide)] at h),fun h1 h2=>hC.2.1 (by rwa [getD_set_ne false (by decide)] at h1) (by rwa [getD_set_ne false (by decide)] at h2),fun h=>hC.2.2 (by rwa [getD_set_ne false (by decide)] at h)⟩,fun _ _ _ _ h=>h,rfl,fun k hk _ hz=>⟨trivial,trivial⟩⟩
     ·exact wp_val (qv nm 2) (by simp[execOp,Act.eval,go_sem]) ⟨_,rfl,⟨fun h=>hC.1 (by rwa [getD_set_ne false (by decide)] at h),fun h1 h2=>hC.2.1 (by rwa [getD_set_ne false (by decide)] at h1) (by rwa [getD_set_ne false (by decide)] at h2),fun h=>hC.2.2 (by rwa [getD_set_ne false (by decide)] at h)⟩,fun _ _ _ _ h=>h,rfl,fun k hk _ hz=>⟨trivial,trivial⟩⟩
     ·have hv:vv 10=qv nm 2:=hdep ⟨10,.data⟩ (by simp) rfl
      exact wp_val (iv (mn:Nat)) (by simp[execOp,Act.eval,go_sem,hv,n2]) ⟨_,rfl,⟨fun h=>hC.1 (by rwa [getD_set_ne false (by decide)] at h),fun h1 h2=>hC.2.1 (by rwa [getD_set_ne false (by decide)] at h1) (by rwa [getD_set_ne false (by decide)] at h2),fun h=>hC.2.2 (by rwa [getD_set_ne false (by decide)] at h)⟩,fun _ _ _ _ h=>h,rfl,fun k hk _ hz=>⟨trivial,trivial⟩⟩
     ·exact wp_val (qv nm 3) (by simp[execOp,Act.eval,go_sem]) ⟨_,rfl,⟨fun h=>hC.1 (by rwa [getD_set_ne false (by decide)] at h),fun h1 h2=>hC.2.1 (by rwa [getD_set_ne false (by decide)] at h1) (by rwa [getD_set_ne false (by decide)] at h2),fun h=>hC.2.2 (by rwa [getD_set_ne false (by decide)] at h)⟩,fun _ _ _ _ h=>h,rfl,fun k hk _ hz=>⟨trivial,trivial⟩⟩
     ·have hv:vv 12=qv nm 3:=hdep ⟨12,.data⟩ (by simp) rfl
      exact wp_val (.agg #[sv a1 q.frags.length d1,sv a2 q.defs.length d2]) (by simp[execOp,Act.eval,go_sem,hv,n3,n4]) ⟨_,rfl,⟨fun h=>hC.1 (by rwa [getD_set_ne false (by decide)] at h),fun h1 h2=>hC.2.1 (by rwa [getD_set_ne false (by decide)] at h1) (by rwa [getD_set_ne false (by decide)] at h2),fun h=>hC.2.2 (by rwa [getD_set_ne false (by decide)] at h)⟩,fun _ _ _ _ h=>h,rfl,fun k hk _ hz=>⟨trivial,trivial⟩⟩
     ·exact wp_val (.agg #[iv 0,iv 0]) (by simp[execOp,Act.eval,go_sem]) ⟨_,rfl,⟨fun h=>hC.1 (by rwa [getD_set_ne false (by decide)] at h),fun h1 h2=>hC.2.1 (by rwa [getD_set_ne false (by decide)] at h1) (by rwa [getD_set_ne false (by decide)] at h2),fun h=>hC.2.2 (by rwa [getD_set_ne false (by decide)] at h)⟩,fun _ _ _ _ h=>h,rfl,fun k hk _ hz=>⟨trivial,trivial⟩⟩
     ·have hv:vv 1=sv (some (qa gd 0)) f.done.length y.dc:=hdep ⟨1,.data⟩ (by simp) rfl
      have hv2:vv 3=iv (mn:Nat):=hdep ⟨3,.data⟩ (by simp) rfl
      exact wp_val (qv gd mn) (by simp[execOp,Act.eval,go_sem,hv,hv2,hdI]) ⟨_,rfl,⟨fun h=>hC.1 (by rwa [getD_set_ne false (by decide)] at h),fun h1 h2=>hC.2.1 (by rwa [getD_set_ne false (by decide)] at h1) (by rwa [getD_set_ne false (by decide)] at h2),fun h=>hC.2.2 (by rwa [getD_set_ne false (by decide)] at h)⟩,fun _ _ _ _ h=>h,rfl,fun k hk _ hz=>⟨trivial,trivial⟩⟩
     ·have hv:vv 15=qv gd mn:=hdep ⟨15,.data⟩ (by simp) rfl
      have hW:=hC.1 (getD_both hsd)
      have n18:sd.getD 18 false=false:=by
       cases hh:sd.getD 18 false with
       | false=>rfl
       | true =>
        have:=hin.closed 18 _ rfl hh ⟨16,.chain⟩ (by simp) rfl
        rw[getD_both hsd] at this
        cases this
      have hsz:16<sd.size:=by rw[hin.size];decide
      have hs16:(sd.setIfInBounds 16 true).getD 16 false=true:=by simp[hsz]
      have hs18:(sd.setIfInBounds 16 true).getD 18 false=false:=by rw[getD_set_ne false (by decide)];exact n18
      have ed1:W.cell? (qa gd mn)=some (.bool false):=by rw[hW];exact ed
      have fd1:W.frozen? (qa gd mn)=false:=by rw[hW];exact fd
      have ld1:gd<W.heap.size:=by rw[hW];exact ld
      refine wp_skipW (W.setCell (qa gd mn) (.bool true)) (by simp[execOp,Act.eval,go_sem,hv,ed1,fd1]) ⟨undef,rfl,⟨(fun h=>by rw[hs16] at h;cases h),fun _ _=>by rw[hW],(fun h=>by rw[hs18] at h;cases h)⟩,fun i u hi hs hR=>?_,by show (W.setCell (qa gd mn) (.bool true)).cell? (qa gd mn)=some (.bool true);simp[go_sem,ed1],fun k hk _ hz=>⟨trivial,trivial⟩⟩
      match i,hi,hR with
      | 0,_,h=>exact h
      | 1,_,h=>exact h
      | 2,_,h=>exact h
      | 3,_,h=>exact h
      | 4,_,h=>exact h
      | 5,_,h=>exact h
      | 6,_,h=>exact h
      | 7,_,h=>exact h
      | 8,_,h=>exact h
      | 9,_,h=>exact h
      | 10,_,h=>exact h
      | 11,_,h=>exact h
      | 12,_,h=>exact h
      | 13,_,h=>exact h
      | 14,_,h=>exact h
      | 15,_,h=>exact h
      | 17,_,h=>exact h
      | 18,_,h=>exact absurd (hs.symm.trans n18) (by decide)
     ·have hv:vv 5=sv (some (qa gh 0)) f.got.length y.hc:=hdep ⟨5,.data⟩ (by simp) rfl
      have hv2:vv 7=iv (mn:Nat):=hdep ⟨7,.data⟩ (by simp) rfl
      exact wp_val (qv gh (mn*2)) (by simp[execOp,Act.eval,go_sem,hv,hv2,hgI]) ⟨_,rfl,⟨fun h=>hC.1 (by rwa [getD_set_ne false (by decide)] at h),fun h1 h2=>hC.2.1 (by rwa [getD_set_ne false (by decide)] at h1) (by rwa [getD_set_ne false (by decide)] at h2),fun h=>hC.2.2 (by rwa [getD_set_ne false (by decide)] at h)⟩,fun _ _ _ _ h=>h,rfl,fun k hk _ hz=>⟨trivial,trivial⟩⟩
     ·have hv:vv 17=qv gh (mn*2):=hdep ⟨17,.data⟩ (by simp) rfl
      have hv13:vv 13=.agg #[sv a1 q.frags.length d1,sv a2 q.defs.length d2]:=hdep ⟨13,.data⟩ (by simp) rfl
      have hm16:W.cell? (qa gd mn)=some (.bool true):=hdep ⟨16,.chain⟩ (by simp) rfl
      have hsz16:sd.getD 16 false=true:=by
       cases hh:sd.getD 16 false with
       | true=>rfl
       | false =>
        have hW:=hC.1 hh
        rw[hW] at hm16
        have:X5.cell? (qa gd mn)=some (.bool true):=hm16
        rw[ed] at this
        cases this
      have hW:=hC.2.1 hsz16 (getD_both hsd)
      have hsz:18<sd.size:=by rw[hin.size];decide
      have hs18:(sd.setIfInBounds 18 true).getD 18 false=true:=by simp[hsz]
      have hs16:(sd.setIfInBounds 18 true).getD 16 false=true:=by rw[getD_set_ne false (by decide)];exact hsz16
      have hbl:W.heap[gh]?=X5.heap[gh]?:=by rw[hW];exact Below.heap_setCell _ _ _ _ (Ne.symm ndh)
      have j0:W.cell? (qa gh (mn*2))=some u1:=(World.cell?_of_block (w:=X5) hbl).trans h0
      have j1:W.cell? (qa gh (mn*2+1))=some u2:=(World.cell?_of_block (w:=X5) hbl).trans h1
      have jf:∀ i,W.frozen? (qa gh i)=false:=fun i=>(World.frozen?_of_block (w:=X5) hbl).trans (fh i)
      have jl:gh<W.heap.size:=World.block_lt_of_cell? _ _ j0
      refine wp_skipW ((W.setCell (qa gh (mn*2)) (sv a1 q.frags.length d1)).setCell (qa gh (mn*2+1)) (sv a2 q.defs.length d2)) (by simp[execOp,Act.eval,go_sem,hv,hv13,j0,j1,jf]) ⟨undef,rfl,⟨(fun h=>by rw[hs16] at h;cases h),(fun _ h=>by rw[hs18] at h;cases h),fun _=>by rw[hW]⟩,fun i u hi hs hR=>?_,by show (W.setCell (qa gh (mn*2)) (sv a1 q.frags.length d1)).setCell (qa gh (mn*2+1)) (sv a2 q.defs.length d2)=(((X5.drew.setCell (qa gd mn) (.bool true)).setCell (qa gh (mn*2)) (sv a1 q.frags.length d1)).setCell (qa gh (mn*2+1)) (sv a2 q.defs.length d2));rw[hW],fun k hk _ hz=>⟨trivial,trivial⟩⟩
      match i,hi,hR with
      | 0,_,h=>exact h
      | 1,_,h=>exact h
      | 2,_,h=>exact h
      | 3,_,h=>exact h
      | 4,_,h=>exact h
      | 5,_,h=>exact h
      | 6,_,h=>exact h
      | 7,_,h=>exact h
      | 8,_,h=>exact h
      | 9,_,h=>exact h
      | 10,_,h=>exact h
      | 11,_,h=>exact h
      | 12,_,h=>exact h
      | 13,_,h=>exact h
      | 14,_,h=>exact h
      | 15,_,h=>exact h
      | 16,_,h=>exact (World.cell?_of_block (w:=W) ((Below.heap_setCell _ _ _ _ ndh).trans (Below.heap_setCell _ _ _ _ ndh))).trans h
      | 17,_,h=>exact h
      | 18,h,_=>exact absurd rfl h
    ·intro sd vv W hC hR hZ
     have h9:vv 9=sv (some (qa gg 0)) f.grants.length y.gc:=hR 9 (by decide)
     have h11:vv 11=iv (mn:Nat):=hR 11 (by decide)
     have h14:vv 14=.agg #[iv 0,iv 0]:=hR 14 (by decide)
     have hW:W=(((X5.drew.setCell (qa gd mn) (.bool true)).setCell (qa gh (mn*2)) (sv a1 q.frags.length d1)).setCell (qa gh (mn*2+1)) (sv a2 q.defs.length d2)):=hR 18 (by decide)
     have hbl:W.heap[gg]?=X5.heap[gg]?:=by rw[hW];exact (Below.heap_setCell _ _ _ _ (Ne.symm nhg)).trans ((Below.heap_setCell _ _ _ _ (Ne.symm nhg)).trans (Below.heap_setCell _ _ _ _ (Ne.symm ndg)))
     have j0:W.cell? (qa gg (mn*2))=some u3:=(World.cell?_of_block (w:=X5) hbl).trans g0
     have j1:W.cell? (qa gg (mn*2+1))=some u4:=(World.cell?_of_block (w:=X5) hbl).trans g1
     have jf:∀ i,W.frozen? (qa gg i)=false:=fun i=>(World.frozen?_of_block (w:=X5) hbl).trans (fg i)
     have jl:gg<W.heap.size:=World.block_lt_of_cell? _ _ j0
     simp only[List.drop_succ_cons,List.drop_zero]
     rw[h9,h11,h14]
     rw[← hW] at HAT hb6 hz6 HB6
     clear hR hZ h9 h11 h14 hW hbl hC hstay m0 m1 m2 m3 m4 lm5 lb5 c3 c4 c5 ed fd ld h0 h1 fh lh g0 g1 fg lg nbd nbh nbg nmd nmh nmg ndh ndg nhg
     go_upto_region 62 with fail
     clear j0 j1 jf jl hwI hdI hgI hrI
     generalize (W.setCell (qa gg (mn*2)) (iv 0)).setCell (qa gg (mn*2+1)) (iv 0)=X6 at *
     have hbk6:=hb6
     obtain⟨e0,e1,e2,e3,e4,e5,e6,e7⟩:=cell8 hbk6
     obtain⟨r0,r1,r2,r3,r4,r5,r6,r7⟩:=cell8 hz6
     have rf:=frozenB hz6
     have rl:=lt1 hz6
     have rb:=lt1 hbk6
     have HZ6:Hid (_=_):=hz6
     clear hbk6 hz6
     go_wp2_with fail
     obtain⟨X7,hX7,hs1,hs2⟩:=store8e HZ6.out (sv y6.p f6.parts.length y6.pc) (sv y6.l f6.plan.length y6.lc) (iv f6.now) (sv y6.d f6.done.length y6.dc) (sv y6.h f6.got.length y6.hc) (sv y6.g f6.grants.length y6.gc) (sv y6.k f6.work.length y6.kc) (sv y6.n f6.net.length y6.nc)
     rw[← hX7]
     rw[← HRE.out,← HF6.out]
     exact fin_step rfl rfl rfl hs1 (by rw[← HBB.out.1];exact HB6.out.grown hs2 (by have:=HB6.out.size;rw[HBB.out.1];exact this) (fun k hk=>by cases hk;omega)) (fun X k=>HAT.out X ((Kq.of_wr ⟨b+2,_,HZ6.out,hs2⟩).trans k))
end Go.Proofs.YtebippbakbihiaaGreatDoor
