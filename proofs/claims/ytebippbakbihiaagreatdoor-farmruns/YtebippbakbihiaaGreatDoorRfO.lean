/-
  Farms that can be copied: how long their rows may be. The reference's OwnFarm: the closure that copies a list of parts. 'append' onto a slice that has no room left: a new row, or nothing at all. The contract of the reference's OwnFarm: a farm in memory of its own.
-/
import Derived.Test.YtebippbakbihiaaGreatDoorRefMo
import Derived.Test.YtebippbakbihiaaGreatDoorFmCp
import Derived.ArgAppend
namespace Go.Proofs.YtebippbakbihiaaGreatDoor
open Go Go.RowKit
set_option linter.unusedVariables false
structure FarmRoom (f:M.Farm):Prop where
 parts:f.parts.length*48≤140737488355328
 partsR:∀ p∈f.parts,Room p
 plan:f.plan.length*24≤140737488355328
 done:f.done.length≤140737488355328
 got:f.got.length*48≤140737488355328
 gotR:∀ p∈f.got,Room p
 grants:f.grants.length*16≤140737488355328
 work:f.work.length*8≤140737488355328
 net:f.net.length*72≤140737488355328
 netR:∀ m∈f.net,Room m.p
theorem room_of {p:M.Prt} (h:M.checkPart p=0):Room p:=room_ok ((M.ok_iff p).1 h)
theorem farmRoom_ok {f:M.Farm} (h:M.FarmOk f):FarmRoom f:=by
 obtain⟨h1,h2⟩:=farm_small h
 have h3:=h.done;have h4:=h.got;have h5:=h.grants;have h6:=h.work4;have h7:=h.net
 exact⟨by omega,fun p hp=>room_of (each_ok _ h.parts p hp),by omega,by omega,by omega,fun p hp=>room_of (each_ok _ h.gots p hp),by omega,by omega,by omega,fun m hm=>room_of (h.nets m hm).2⟩
theorem ownPart_v (q:M.Prt) (a1 a2:Option Addr) (c1 c2:Nat) (w:World) (hf:FragsAt w (sv a1 q.frags.length c1) q.frags) (hd:DefsAt w (sv a2 q.defs.length c2) q.defs) (hr:Room q) :
  Calls Tryz.prog 21 #[.agg #[sv a1 q.frags.length c1,sv a2 q.defs.length c2]] w fun e w' =>
   Below w.heap.size w w'∧∃ x1 y1 x2 y2,e=.returned (.agg #[sv x1 q.frags.length y1,sv x2 q.defs.length y2])∧POwn w' w.heap.size ⟨q,sv x1 q.frags.length y1,sv x2 q.defs.length y2⟩:=by
 refine (ownPart_any q a1 a2 c1 c2 w hf hd hr).mono ?_
 rintro e w' ⟨hb,es,vF,vD,rfl,hP,hes,_⟩
 have hF:=hP.fragsAt
 rw[hes] at hF
 obtain⟨x1,y1,rfl⟩:=hF.form
 obtain⟨x2,y2,rfl⟩:=hP.defsAt.form
 exact⟨hb,x1,y1,x2,y2,rfl,es,hP,hes⟩
set_option maxHeartbeats 4000000 in
set_option maxRecDepth 100000 in
theorem ownParts_any (parts:List M.Prt) (a:Option Addr) (c:Nat) (w:World) (hp:PartsAt w (sv a parts.length c) parts) (hl:parts.length*48≤140737488355328) (hok:∀ p∈parts,Room p) :
  Calls Tryz.prog 20 #[sv a parts.length c] w fun e w'=>∃ v,e=.returned v∧EvOut w w' v parts:=by
 obtain⟨i0,hi0,hz0,hz1,hz2⟩:=info_parts (P:=Tryz.prog) (e:=39) (z:=.agg #[sv none 0 0,sv none 0 0]) (size:=2) (bytes:=48) (by kernel_rfl)
 have HP:Hid (∀ W,Below w.heap.size w W→PartsAt W (sv a parts.length c) parts):=fun W hW=>hp.later hW
 have HO:Hid (∀ p∈parts,Room p):=hok
 clear hp hok
 go_enter Tryz.func20,Tryz.ntmps20
 go_wp2_with fail
 go_loopw [3,8] (fun s3 s8 wr=>∃ (k:Nat) (es:List PEnt),k≤parts.length∧s8=iv k∧Hid (es.length=k)∧Hid (EvI w wr s3 es)∧Hid (es.map (·.p)=parts.take k)) (fun _ s8 _=>parts.length - (intOf s8).toNat)
 case atStart=>exact⟨0,[],Nat.zero_le _,rfl,rfl,⟨Below.refl _ _,World.ownsRow_nil _ _ _ _,fun e he=>by cases he⟩,rfl⟩
 case round =>
  obtain⟨k,es,hk,rfl,HEl,HI,HM⟩:=hrel
  have hwI:=HI.out.below
  have hw0:w.heap.size≤wr.heap.size:=hwI.size
  obtain⟨ad,nn,cc,rfl⟩:=own_form HI.out.row
  by_cases hlt:k<parts.length
  ·obtain⟨cell,hs,hc⟩:=HP.out wr hwI
   obtain⟨b,off,rfl,hce⟩:=hs.at k hlt
   obtain⟨hF',hD'⟩:=hc k hlt
   have e0:=hce 0 (by decide)
   have e1:=hce 1 (by decide)
   rw[Nat.add_zero] at e0
   obtain⟨x3,y3,hx3⟩:=hF'.form
   obtain⟨x4,y4,hx4⟩:=hD'.form
   rw[hx3] at e0 hF'
   rw[hx4] at e1 hD'
   have hbr:b<wr.heap.size:=World.block_lt_of_cell? _ _ e0
   have hkl:(k:Int)<(parts.length:Int):=by omega
   have hq0:=HO.out _ (getD_mem parts M.nil k hlt)
   have HM2:Hid (∀ e:PEnt,e.p=parts.getD k M.nil→(es ++ [e]).map (·.p)=parts.take (k+1)):=fun e he=>by
    rw[List.map_append,HM.out,List.take_add_one,getElem?_getD parts M.nil k hlt]
    simp[he]
   clear hs hc hce hx3 hx4 HM
   generalize parts.getD k M.nil=q at *
   have hA:Below wr.heap.size wr (wr.alloc (.cells #[sv x3 q.frags.length y3,sv x4 q.defs.length y4] 39)):=(Below.refl _ _).alloc (Nat.le_refl _) _
   have KP:Hid (Calls Tryz.prog 21 #[.agg #[sv x3 q.frags.length y3,sv x4 q.defs.length y4]] (wr.alloc (.cells #[sv x3 q.frags.length y3,sv x4 q.defs.length y4] 39)) fun e w' =>
    ∃ x1 y1 x2 y2,e=.returned (.agg #[sv x1 q.frags.length y1,sv x2 q.defs.length y2])∧EvI w w' (sv ad nn cc) es∧POwn w' w.heap.size ⟨q,sv x1 q.frags.length y1,sv x2 q.defs.length y2⟩):=by
    refine (ownPart_v q _ _ _ _ _ (hF'.later hA) (hD'.later hA) hq0).mono ?_
    rintro e w' ⟨hb,x1,y1,x2,y2,rfl,hP⟩
    have hb':=hA.trans (hb.mono hA.size)
    exact⟨x1,y1,x2,y2,rfl,HI.out.later hb',hP.base (Nat.le_trans hw0 hA.size)⟩
   clear hF' hD' hA hq0
   have hnl:es.length*48+48≤140737488355328:=by have:=HEl.out;omega
   clear HI
   go_upto_region 5 with fail
   have q0:=heap_alloc_new wr (.cells #[sv x3 q.frags.length y3,sv x4 q.defs.length y4] 39)
   have cc0:=cellC q0 0 rfl
   have cc1:=cellC q0 1 rfl
   have hlw:wr.heap.size<(wr.alloc (.cells #[sv x3 q.frags.length y3,sv x4 q.defs.length y4] 39)).heap.size:=by simp
   clear q0 e0 e1 hwI
   generalize wr.alloc (.cells #[sv x3 q.frags.length y3,sv x4 q.defs.length y4] 39)=Y at *
   generalize wr.heap.size=ny at *
   go_wp2_with (go_at_call 21;refine KP.out.mono ?_;rintro e X6 ⟨z1,u1,z2,u2,rfl,hI6,hP6⟩;refine Hid.out ?_)
   have hrow:=hI6.row
   have hwX:w.heap.size≤X6.heap.size:=hI6.below.size
   have HAp:Hid (∀ v' w3,(X6.alloc (.cells #[sv z1 q.frags.length u1,sv z2 q.defs.length u2] 39)).grownBy w3 (sv ad nn cc).ownBlock→w3.ownsRow w.heap.size 39 2 v' (es.length+1) (es.flatMap pentCells ++ (#[sv z1 q.frags.length u1,sv z2 q.defs.length u2]:Array Value).toList)→EvI w w3 v' (es ++ [⟨q,sv z1 q.frags.length u1,sv z2 q.defs.length u2⟩])):=fun v' w3 hg ho=>by
    have hb:=(Below.refl X6.heap.size X6).alloc (Nat.le_refl _) (.cells #[sv z1 q.frags.length u1,sv z2 q.defs.length u2] 39)
    exact (hI6.later hb).push (hP6.later hb) hg ho
   have hnews:∀ j u,(#[sv z1 q.frags.length u1,sv z2 q.defs.length u2]:Array Value).toList[j]?=some u→(X6.alloc (.cells #[sv z1 q.frags.length u1,sv z2 q.defs.length u2] 39)).cell? ((qa X6.heap.size 0).add j)=some u:=World.news_of_block (heap_alloc_new X6 _)
   clear hI6 hP6 KP cc0 cc1
   refine Lib.hid ?_
   go_wp2_with (at_builtin;refine wpList_append_own _ rfl _ _ 22 rfl w.heap.size 39 i0 (.agg #[sv none 0 0,sv none 0 0]) 2 48 Tryz.underlying22 hi0 hz0 hz1 hz2 rfl (by decide) _ _ _ rfl (hrow.alloc _) ⟨X6.heap.size,0,none⟩ 1 1 (#[sv z1 q.frags.length u1,sv z2 q.defs.length u2]:Array Value).toList rfl rfl hnews (fun u hu=>by simp at hu;rcases hu with rfl | rfl <;> rfl) (by unfold maxLen;omega) (by omega) (by simp;omega) ?_;intro v' w3 hown' hgrow3 hnil3)
   go_roundw
   case rel=>exact⟨k+1,es ++ [(⟨q,sv z1 q.frags.length u1,sv z2 q.defs.length u2⟩:PEnt)],by omega,by go_num,by have:=HEl.out;simp[Hid,this],HAp.out _ _ hgrow3 hown',HM2.out _ rfl⟩
   case measure=>simp[intOf];omega
  ·have hkl:k=parts.length:=by omega
   have HO2:Hid (EvOut w wr (sv ad nn cc) parts):=⟨hwI,es,by rw[HM.out,hkl,List.take_length],HI.out.row,HI.out.parts⟩
   clear HI HM hwI HEl
   subst hkl
   go_wp2
   go_ret
   exact⟨sv ad nn cc,rfl,HO2.out⟩
theorem run_append_none' {P:Program} (w:World) (t ty e:TypeId) (i:TypeInfo) (ht:P.underlying t=some (.slice e)) (hi:P.info? e=some i) (b:Addr) (n cap c:Nat) (hn:n≤cap) :
  (Builtin.append_ #[t,t] ty #[sv (some b) n cap,sv none 0 c]).run P w=.ok (sv (some b) n cap) w:=by
 simp[Builtin.append_,run_underlying ht,sizeOf,typeInfo,hi,Builtin.lenOf,Builtin.firstCells,hn,storeCells]
theorem run_append_zero {P:Program} (w:World) (t ty e:TypeId) (i:TypeInfo) (ht:P.underlying t=some (.slice e)) (hi:P.info? e=some i) (b a:Addr) (n cap c:Nat) (hn:n≤cap) :
  (Builtin.append_ #[t,t] ty #[sv (some b) n cap,sv (some a) 0 c]).run P w=.ok (sv (some b) n cap) w:=by
 have hf:=run_firstCells_some (P:=P) w i.size 0 a 0 c [] (by simp) (by simp)
 simp[Builtin.append_,run_underlying ht,sizeOf,typeInfo,hi,Builtin.lenOf,hf,hn,storeCells]
theorem wp_append_full {P:Program} (w:World) {o:Oper} {a:Act} {K:Act→World→Prop} {Q:Exit→Act→World→Prop} (s x:Operand) (t:TypeId)
  (ho:o.op=.call { callee:=.builtin .append,args:=#[s,x],argTypes:=#[t,t] })
  (e:TypeId) (i:TypeInfo) (z:Value) (size bytes:Nat) (ht:P.underlying t=some (.slice e)) (hi:P.info? e=some i) (hz:i.zero=some z)
  (hsize:i.size=size) (hby:i.bytes=bytes) (hzs:z.cells.size=size) (hsz:0<size)
  (b:Addr) (n:Nat) (olds:List Value) (hs:a.eval s=sv (some b) n n) (hlo:olds.length=n*size) (holds:∀ j u,olds[j]?=some u→w.cell? (b.add j)=some u)
  (u:Value) (m:Nat) (news:List Value) (hx:a.eval x=u) (hsrc:Src w u m news) (hl:news.length=m*size)
  (h63:n+m≤maxLen) (hbytes:(n+m)*bytes≤140737488355328)
  (h0:m=0→K (a.put o.dst (sv (some b) n n)) w)
  (h:0<m→∀ v' w',w'.ownsRow w.heap.size e size v' (n+m) (olds ++ news)→Below w.heap.size w w'→K (a.put o.dst v') w'):o.wp P a w K Q:=by
 obtain⟨ad,c,rfl,hsrc⟩:=hsrc
 have hnone:m=0→(Builtin.append_ #[t,t] o.type #[sv (some b) n n,sv ad m c]).run P w=.ok (sv (some b) n n) w:=fun hm=>by
  subst hm
  rcases ad with _ | ad
  ·exact run_append_none' w t o.type e i ht hi b n n c (Nat.le_refl _)
  ·exact run_append_zero w t o.type e i ht hi b ad n n c (Nat.le_refl _)
 by_cases hm:m=0
 ·have hr:=hnone hm
  unfold Oper.wp execOp
  simp only[ho,resolve,invoke,builtin,Sem.run_bind,Sem.run_pure,Result.andThen_ok,List.map_toArray,List.map_cons,List.map_nil,hs,hx,hr]
  exact h0 hm
 ·rcases hsrc with ⟨_,hm0,_⟩ | ⟨a',rfl,hnews⟩
  ·exact absurd hm0 hm
  ·obtain⟨v',w',hr,r1,r2⟩:=run_append_arg_grows (P:=P) w t o.type e i z size bytes ht hi hz hsize hby hzs hsz b n n olds hlo holds a' m c news hl hnews (by omega) h63 hbytes
   unfold Oper.wp execOp
   simp only[ho,resolve,invoke,builtin,Sem.run_bind,Sem.run_pure,Result.andThen_ok,List.map_toArray,List.map_cons,List.map_nil,hs,hx,hr]
   exact h (by omega) v' w' r1 ((Below.refl _ _).grown r2 (Nat.le_refl _) (fun k hk=>by cases hk))
theorem wp_append_fresh {P:Program} (w:World) {o:Oper} {a:Act} {K:Act→World→Prop} {Q:Exit→Act→World→Prop} (s x:Operand) (t:TypeId)
  (ho:o.op=.call { callee:=.builtin .append,args:=#[s,x],argTypes:=#[t,t] })
  (B:Nat) (e:TypeId) (i:TypeInfo) (z:Value) (size bytes:Nat) (ht:P.underlying t=some (.slice e)) (hi:P.info? e=some i) (hz:i.zero=some z)
  (hsize:i.size=size) (hby:i.bytes=bytes) (hzs:z.cells.size=size) (hsz:0<size)
  (g:Nat) (hs:a.eval s=sv (some (qa g 0)) 0 0) (hg:w.heap[g]?=some (.cells #[] e (0,0))) (hB:B≤g)
  (u:Value) (m:Nat) (news:List Value) (hx:a.eval x=u) (hsrc:Src w u m news) (hl:news.length=m*size)
  (h63:m≤maxLen) (hbytes:m*bytes≤140737488355328)
  (h:∀ v' w',w'.ownsRow B e size v' m news→Below w.heap.size w w'→K (a.put o.dst v') w'):o.wp P a w K Q:=by
 have hlt:=lt1 hg
 refine wp_append_full w s x t ho e i z size bytes ht hi hz hsize hby hzs hsz ⟨g,0,none⟩ 0 [] hs (by simp) (by simp) u m news hx hsrc hl (by omega) (by rw[Nat.zero_add];exact hbytes) (fun hm=>?_) (fun _ v' w' h1 h2=>?_)
 ·subst hm
  obtain rfl:news=[]:=List.eq_nil_of_length_eq_zero (by simpa using hl)
  exact h _ _ (own_empty hg hB) (Below.refl _ _)
 ·rw[Nat.zero_add,List.nil_append] at h1
  exact h v' w' (row_base h1 (by omega)) h2
theorem FmR.setNet {B:Nat} {W X:World} {f:M.Farm} {x:Fd} {o:Fo} (h:FmR B W f x o) (ms:List M.Msg) (eN:List NEnt) (a:Option Addr) (c:Nat) (hw:W.grownBy X (sv x.n f.net.length x.nc).ownBlock)
  (hr:X.ownsRow B 60 5 (sv a ms.length c) ms.length (eN.flatMap nentCells)) (hm:eN.map (·.msg)=ms) (ho:∀ e∈eN,POwn W B e.e) :
  FmR B X { f with net:=ms } { x with n:=a,nc:=c } { o with eN:=eN }:=by
 have kr:∀ (e:TypeId) (k n:Nat) (v:Value) (xs:List Value),W.ownsRow B e k v n xs→e≠60→X.ownsRow B e k v n xs:=fun e k n v xs hx hne=>hx.kept hw (own_apart hx h.rowN hne)
 have kp:∀ e,POwn W B e→POwn X B e:=fun e ⟨en,hP,hm⟩=>⟨en,⟨kr _ _ _ _ _ hP.rowF (by decide),kr _ _ _ _ _ hP.rowD (by decide),fun e he=>kr _ _ _ _ _ (hP.bytes e he) (by decide),hP.small,hP.smallD,fun e he=>kr _ _ _ _ _ (hP.rels e he) (by decide)⟩,hm⟩
 exact⟨kr _ _ _ _ _ h.rowP (by decide),h.mapP,kr _ _ _ _ _ h.rowL (by decide),kr _ _ _ _ _ h.rowD (by decide),kr _ _ _ _ _ h.rowH (by decide),h.mapH,kr _ _ _ _ _ h.rowG (by decide),kr _ _ _ _ _ h.rowW (by decide),hr,hm,
  fun e he=>kp e (h.ownP e he),fun e he=>kp e (h.ownH e he),fun e he=>kp e.e (ho e he),h.apart⟩
def owR (b i k:Nat) (v1 v2:Value) (E1 E2 P1 P2:World→Value→Prop) (j:Nat) (W:World) (u:Value):Prop :=
 match j with
 | 0=>E1 W u
 | 1=>u=qv b i
 | 2=>u=v1
 | 3=>P1 W u
 | 4=>E2 W u
 | 5=>u=qv b k
 | 6=>u=v2
 | 7=>P2 W u
 | 8=>u=qv b i
 | _=>False
theorem owR_later {b i k:Nat} {v1 v2:Value} {E1 E2 P1 P2:World→Value→Prop} {W X:World} (h1:∀ u,E1 W u→E1 X u) (h2:∀ u,E2 W u→E2 X u) (h3:∀ u,P1 W u→P1 X u) (h4:∀ u,P2 W u→P2 X u):∀ j u,owR b i k v1 v2 E1 E2 P1 P2 j W u→owR b i k v1 v2 E1 E2 P1 P2 j X u:=by
 intro j u h
 match j,h with
 | 0,h=>exact h1 u h
 | 1,h=>exact h
 | 2,h=>exact h
 | 3,h=>exact h3 u h
 | 4,h=>exact h2 u h
 | 5,h=>exact h
 | 6,h=>exact h
 | 7,h=>exact h4 u h
 | 8,h=>exact h
def OwPs (B:Nat) (ps:List M.Prt) (W:World) (u:Value):Prop:=∃ es:List PEnt,es.map (·.p)=ps∧W.ownsRow B 39 2 u es.length (es.flatMap pentCells)∧∀ e∈es,POwn W B e
theorem OwPs.later {B:Nat} {ps:List M.Prt} {W X:World} {u:Value} (h:OwPs B ps W u) (hb:Below W.heap.size W X):OwPs B ps X u :=
 let ⟨es,h1,h2,h3⟩:=h
 ⟨es,h1,h2.kept (grown_of_below hb none) own_self,fun e he=>(h3 e he).later hb⟩
def OwE (B:Nat) (t:TypeId) (W:World) (u:Value):Prop:=∃ g,u=sv (some (qa g 0)) 0 0∧B≤g∧W.heap[g]?=some (.cells #[] t (0,0))
theorem OwE.later {B:Nat} {t:TypeId} {W X:World} {u:Value} (h:OwE B t W u) (hb:Below W.heap.size W X):OwE B t X u :=
 let ⟨g,h1,h2,h3⟩:=h
 ⟨g,h1,h2,(hb.block _ (lt1 h3)).trans h3⟩
def owZ (j k:Nat) (u x:Value):Prop:=(j=3∧k=7∨j=7∧k=3)→u.ownBlock=none∨u.ownBlock≠x.ownBlock
theorem ow_apart {W W':World} {B B' n n':Nat} {e e':TypeId} {k k':Nat} {u x:Value} {xs xs':List Value} (h:W.ownsRow B e k u n xs) (h':W'.ownsRow B' e' k' x n' xs') (hB:W.heap.size≤B') :
  (u.ownBlock=none∨u.ownBlock≠x.ownBlock)∧(x.ownBlock=none∨x.ownBlock≠u.ownBlock):=by
 cases hu:u.ownBlock with
 | none=>exact⟨.inl rfl,by cases x.ownBlock <;> simp⟩
 | some g =>
  cases hz:x.ownBlock with
  | none=>exact⟨.inr (by simp),.inl rfl⟩
  | some g2 =>
   have:=(h.lt g hu).2
   have:=(h'.lt g2 hz).1
   exact⟨.inr (by simp;omega),.inr (by simp;omega)⟩
set_option maxHeartbeats 16000000 in
set_option maxRecDepth 100000 in
theorem ownFarm_any (f:M.Farm) (x:Fd) (w:World) (hf:FarmAt w f x) (hroom:FarmRoom f) :
  Calls Tryz.prog 5 #[.agg #[sv x.p f.parts.length x.pc,sv x.l f.plan.length x.lc,iv f.now,sv x.d f.done.length x.dc,sv x.h f.got.length x.hc,sv x.g f.grants.length x.gc,sv x.k f.work.length x.kc,sv x.n f.net.length x.nc]] w fun e w' =>
   Below w.heap.size w w'∧∃ y o,e=.returned (.agg #[sv y.p f.parts.length y.pc,sv y.l f.plan.length y.lc,iv f.now,sv y.d f.done.length y.dc,sv y.h f.got.length y.hc,sv y.g f.grants.length y.gc,sv y.k f.work.length y.kc,sv y.n f.net.length y.nc])∧FmR w.heap.size w' f y o:=by
 obtain⟨i0,hi0,hz0,hz1,hz2⟩:=info_parts (P:=Tryz.prog) (e:=60) (z:=.agg #[iv 0,iv 0,iv 0,sv none 0 0,sv none 0 0]) (size:=5) (bytes:=72) (by kernel_rfl)
 obtain⟨iL,hiL,hL0,hL1,hL2⟩:=info_parts (P:=Tryz.prog) (e:=75) (z:=.agg #[iv 0,iv 0,iv 0]) (size:=3) (bytes:=24) (by kernel_rfl)
 obtain⟨iD,hiD,hD0,hD1,hD2⟩:=info_parts (P:=Tryz.prog) (e:=4) (z:=.bool false) (size:=1) (bytes:=1) (by kernel_rfl)
 obtain⟨iG,hiG,hG0,hG1,hG2⟩:=info_parts (P:=Tryz.prog) (e:=64) (z:=.agg #[iv 0,iv 0]) (size:=2) (bytes:=16) (by kernel_rfl)
 obtain⟨iK,hiK,hK0,hK1,hK2⟩:=info_parts (P:=Tryz.prog) (e:=3) (z:=iv 0) (size:=1) (bytes:=8) (by kernel_rfl)
 have hr1:=hroom.parts;have hr2:=hroom.plan;have hr3:=hroom.done;have hr4:=hroom.got;have hr5:=hroom.grants;have hr6:=hroom.work;have hr7:=hroom.net
 have HRP:Hid (∀ p∈f.parts,Room p):=hroom.partsR
 have HRH:Hid (∀ p∈f.got,Room p):=hroom.gotR
 have HRN:Hid (∀ m∈f.net,Room m.p):=hroom.netR
 have h0:=(heap_alloc_old (w.alloc (.cells #[sv x.p f.parts.length x.pc,sv x.l f.plan.length x.lc,iv f.now,sv x.d f.done.length x.dc,sv x.h f.got.length x.hc,sv x.g f.grants.length x.gc,sv x.k f.work.length x.kc,sv x.n f.net.length x.nc] 29)) (.cells qz 29) (by simp)).trans (heap_alloc_new w (.cells #[sv x.p f.parts.length x.pc,sv x.l f.plan.length x.lc,iv f.now,sv x.d f.done.length x.dc,sv x.h f.got.length x.hc,sv x.g f.grants.length x.gc,sv x.k f.work.length x.kc,sv x.n f.net.length x.nc] 29))
 have h1:=heap_alloc_new (w.alloc (.cells #[sv x.p f.parts.length x.pc,sv x.l f.plan.length x.lc,iv f.now,sv x.d f.done.length x.dc,sv x.h f.got.length x.hc,sv x.g f.grants.length x.gc,sv x.k f.work.length x.kc,sv x.n f.net.length x.nc] 29)) (.cells qz 29)
 rw[show (w.alloc (.cells #[sv x.p f.parts.length x.pc,sv x.l f.plan.length x.lc,iv f.now,sv x.d f.done.length x.dc,sv x.h f.got.length x.hc,sv x.g f.grants.length x.gc,sv x.k f.work.length x.kc,sv x.n f.net.length x.nc] 29)).heap.size=w.heap.size+1 by simp] at h1
 have HB0:Hid (Below w.heap.size w ((w.alloc (.cells #[sv x.p f.parts.length x.pc,sv x.l f.plan.length x.lc,iv f.now,sv x.d f.done.length x.dc,sv x.h f.got.length x.hc,sv x.g f.grants.length x.gc,sv x.k f.work.length x.kc,sv x.n f.net.length x.nc] 29)).alloc (.cells qz 29))):=((Below.refl _ _).alloc (Nat.le_refl _) _).alloc (by simp) _
 have HF0:Hid (∀ W,Below w.heap.size w W→FarmAt W f x):=fun W hW=>hf.later hW
 clear hf hroom
 obtain⟨xp,xpc,xl,xlc,xd,xdc,xh,xhc,xg,xgc,xk,xkc,xn,xnc⟩:=x
 obtain⟨fparts,fplan,fnow,fdone,fgot,fgrants,fwork,fnet⟩:=f
 simp only at h0 h1 HB0 hr1 hr2 hr3 hr4 hr5 hr6 hr7 HRP HRH HRN ⊢
 go_enter Tryz.func5,Tryz.ntmps5
 go_upto_region 2 with fail
 generalize (w.alloc (.cells #[sv xp fparts.length xpc,sv xl fplan.length xlc,iv fnow,sv xd fdone.length xdc,sv xh fgot.length xhc,sv xg fgrants.length xgc,sv xk fwork.length xkc,sv xn fnet.length xnc] 29)).alloc (.cells qz 29)=Y at *
 obtain⟨b,hb⟩:∃ b,b=w.heap.size:=⟨_,rfl⟩
 obtain⟨B,hB⟩:∃ B,B=w.heap.size:=⟨_,rfl⟩
 have HBB:Hid (B=w.heap.size∧b=B):=⟨hB,by rw[hb,hB]⟩
 rw[← hb] at h0 h1 ⊢
 rw[← hB] at HB0 HF0
 have HF:Hid (∀ W,Below B w W→FarmAt W ⟨fparts,fplan,fnow,fdone,fgot,fgrants,fwork,fnet⟩ ⟨xp,xpc,xl,xlc,xd,xdc,xh,xhc,xg,xgc,xk,xkc,xn,xnc⟩):=HF0
 clear HF0 hb hB
 have hBb:B≤b:=by rw[HBB.out.2];exact Nat.le_refl _
 have hYA:∀ W,Below Y.heap.size Y W→FarmAt W ⟨fparts,fplan,fnow,fdone,fgot,fgrants,fwork,fnet⟩ ⟨xp,xpc,xl,xlc,xd,xdc,xh,xhc,xg,xgc,xk,xkc,xn,xnc⟩∧W.heap[b]?=some (.cells #[sv xp fparts.length xpc,sv xl fplan.length xlc,iv fnow,sv xd fdone.length xdc,sv xh fgot.length xhc,sv xg fgrants.length xgc,sv xk fwork.length xkc,sv xn fnet.length xnc] 29 (0,0))∧(B≤W.heap.size∧Y.heap.size≤W.heap.size)∧W.heap[b+1]?=some (.cells qz 29 (0,0)):=fun W hW=>⟨HF.out W (HB0.out.trans (hW.mono (by have:=HB0.out.size;rw[HBB.out.1];exact this))),(hW.block _ (lt1 h0)).trans h0,⟨Nat.le_trans (by have:=HB0.out.size;rw[HBB.out.1];exact this) hW.size,hW.size⟩,(hW.block _ (lt1 h1)).trans h1⟩
 have hlat:∀ W X,Below W.heap.size W X→∀ j u,owR b 0 4 (sv xp fparts.length xpc) (sv xh fgot.length xhc) (fun _ u=>u=.func (.func 20) #[] #[]) (fun _ u=>u=.func (.func 20) #[] #[]) (OwPs B fparts) (OwPs B fgot) j W u→owR b 0 4 (sv xp fparts.length xpc) (sv xh fgot.length xhc) (fun _ u=>u=.func (.func 20) #[] #[]) (fun _ u=>u=.func (.func 20) #[] #[]) (OwPs B fparts) (OwPs B fgot) j X u:=fun W X hb=>owR_later (fun _ h=>h) (fun _ h=>h) (fun _ h=>OwPs.later h hb) (fun _ h=>OwPs.later h hb)
 refine wp_region_rel 9 (fun _ W=>Below Y.heap.size Y W) (fun v=>⟨#[.agg #[sv xp fparts.length xpc,sv xl fplan.length xlc,iv fnow,sv xd fdone.length xdc,sv xh fgot.length xhc,sv xg fgrants.length xgc,sv xk fwork.length xkc,sv xn fnet.length xnc],qv b 0,qv (b+1) 0,.func (.func 20) #[] #[],undef,undef,undef,v 0,v 1,v 2,v 3,v 4,v 5,v 6,v 7,v 8,undef,undef,undef,undef,undef,undef,undef,undef,undef,undef,undef,undef,undef,undef,undef,undef,undef,undef,undef,undef,undef,undef,undef,undef,undef,undef,undef,undef,undef,undef,undef,undef,undef,undef,undef,undef,undef,undef,undef,undef],[]⟩) (owR b 0 4 (sv xp fparts.length xpc) (sv xh fgot.length xhc) (fun _ u=>u=.func (.func 20) #[] #[]) (fun _ u=>u=.func (.func 20) #[] #[]) (OwPs B fparts) (OwPs B fgot)) owZ (by kernel_rfl) (by kernel_rfl) (Below.refl _ _).drew ⟨fun _=>undef,rfl⟩ ?_ ?_
 ·intro j o hj ho
  rcases (by omega:j=0∨j=1∨j=2∨j=3∨j=4∨j=5∨j=6∨j=7∨j=8) with rfl | rfl | rfl | rfl | rfl | rfl | rfl | rfl | rfl
  all_goals cases ho
  all_goals refine relStep_of rfl rfl ?_
  all_goals intro sd v W hC hin hsd hdep hdz
  all_goals obtain⟨hFa,hblk,⟨hBW,hYW⟩,_⟩:=hYA W hC
  ·exact wp_val (.func (.func 20) #[] #[]) (by simp[execOp,Act.eval,go_sem]) ⟨_,rfl,hC,fun _ _ _ _ h=>h,rfl,fun k hk _ hz=>⟨fun h=>absurd h (by omega),fun h=>absurd h (by omega)⟩⟩
  ·exact wp_val (qv b 0) (by simp[execOp,Act.eval,go_sem]) ⟨_,rfl,hC,fun _ _ _ _ h=>h,rfl,fun k hk _ hz=>⟨fun h=>absurd h (by omega),fun h=>absurd h (by omega)⟩⟩
  ·have hv:v 1=qv b 0:=hdep ⟨1,.data⟩ (by simp) rfl
   have hc:=cellC hblk 0 rfl
   exact wp_val (sv xp fparts.length xpc) (by simp[execOp,Act.eval,go_sem,hv,hc]) ⟨_,rfl,hC,fun _ _ _ _ h=>h,rfl,fun k hk _ hz=>⟨fun h=>absurd h (by omega),fun h=>absurd h (by omega)⟩⟩
  ·have hv0:v 0=.func (.func 20) #[] #[]:=hdep ⟨0,.data⟩ (by simp) rfl
   have hv:v 2=sv xp fparts.length xpc:=hdep ⟨2,.data⟩ (by simp) rfl
   refine wp_enter 20 #[sv xp fparts.length xpc] (by simp[Act.eval,go_sem,hv0,hv]) ?_
   refine (ownParts_any fparts _ _ W hFa.parts (by omega) HRP.out).mono ?_
   rintro e W2 ⟨u,rfl,hE⟩
   obtain⟨es,hm,hr,hp⟩:=hE.ex
   refine⟨u,rfl,u,rfl,hC.trans (hE.below.mono hC.size),(fun k x _ _=>hlat _ _ hE.below k x),⟨es,hm,row_base hr hBW,fun e he=>(hp e he).base hBW⟩,fun k hk _ hz=>?_⟩
   have hap:k=7→(u.ownBlock=none∨u.ownBlock≠(v k).ownBlock)∧((v k).ownBlock=none∨(v k).ownBlock≠u.ownBlock):=by
    intro hke
    rw[hke] at hz ⊢
    obtain⟨es2,_,hr2,_⟩:=hz
    have:=ow_apart hr2 hr (Nat.le_refl _)
    exact⟨this.2,this.1⟩
   exact⟨fun h=>(hap (by omega)).1,fun h=>(hap (by omega)).2⟩
  ·exact wp_val (.func (.func 20) #[] #[]) (by simp[execOp,Act.eval,go_sem]) ⟨_,rfl,hC,fun _ _ _ _ h=>h,rfl,fun k hk _ hz=>⟨fun h=>absurd h (by omega),fun h=>absurd h (by omega)⟩⟩
  ·exact wp_val (qv b 4) (by simp[execOp,Act.eval,go_sem]) ⟨_,rfl,hC,fun _ _ _ _ h=>h,rfl,fun k hk _ hz=>⟨fun h=>absurd h (by omega),fun h=>absurd h (by omega)⟩⟩
  ·have hv:v 5=qv b 4:=hdep ⟨5,.data⟩ (by simp) rfl
   have hc:=cellC hblk 4 rfl
   exact wp_val (sv xh fgot.length xhc) (by simp[execOp,Act.eval,go_sem,hv,hc]) ⟨_,rfl,hC,fun _ _ _ _ h=>h,rfl,fun k hk _ hz=>⟨fun h=>absurd h (by omega),fun h=>absurd h (by omega)⟩⟩
  ·have hv0:v 4=.func (.func 20) #[] #[]:=hdep ⟨4,.data⟩ (by simp) rfl
   have hv:v 6=sv xh fgot.length xhc:=hdep ⟨6,.data⟩ (by simp) rfl
   refine wp_enter 20 #[sv xh fgot.length xhc] (by simp[Act.eval,go_sem,hv0,hv]) ?_
   refine (ownParts_any fgot _ _ W hFa.got (by omega) HRH.out).mono ?_
   rintro e W2 ⟨u,rfl,hE⟩
   obtain⟨es,hm,hr,hp⟩:=hE.ex
   refine⟨u,rfl,u,rfl,hC.trans (hE.below.mono hC.size),(fun k x _ _=>hlat _ _ hE.below k x),⟨es,hm,row_base hr hBW,fun e he=>(hp e he).base hBW⟩,fun k hk _ hz=>?_⟩
   have hap:k=3→(u.ownBlock=none∨u.ownBlock≠(v k).ownBlock)∧((v k).ownBlock=none∨(v k).ownBlock≠u.ownBlock):=by
    intro hke
    rw[hke] at hz ⊢
    obtain⟨es2,_,hr2,_⟩:=hz
    have:=ow_apart hr2 hr (Nat.le_refl _)
    exact⟨this.2,this.1⟩
   exact⟨fun h=>(hap (by omega)).1,fun h=>(hap (by omega)).2⟩
  ·exact wp_val (qv b 0) (by simp[execOp,Act.eval,go_sem]) ⟨_,rfl,hC,fun _ _ _ _ h=>h,rfl,fun k hk _ hz=>⟨fun h=>absurd h (by omega),fun h=>absurd h (by omega)⟩⟩
 ·intro sd vr2 W hC hR hZ
  obtain⟨hFa,hblk,⟨hBW,hYW⟩,hres⟩:=hYA W hC
  obtain⟨eP,mP,rP,oP⟩:OwPs B fparts W (vr2 3):=hR 3 (by decide)
  obtain⟨eH,mH,rH,oH⟩:OwPs B fgot W (vr2 7):=hR 7 (by decide)
  have h8:vr2 8=qv b 0:=hR 8 (by decide)
  have hz:owZ 3 7 (vr2 3) (vr2 7):=hZ 3 7 (by decide) (by decide) (by decide)
  have lP:=map_len mP
  have lH:=map_len mH
  rw[← lP] at rP
  rw[← lH] at rH
  obtain⟨yp,ypc,e3⟩:=own_len rP
  obtain⟨yh,yhc,e7⟩:=own_len rH
  rw[e3] at rP
  rw[e7] at rH
  have hz':=hz (.inl ⟨rfl,rfl⟩)
  rw[e3,e7] at hz'
  have hR0:FmR B W ⟨fparts,[],fnow,[],fgot,[],[],[]⟩ ⟨yp,ypc,none,0,none,0,yh,yhc,none,0,none,0,none,0⟩ ⟨eP,eH,[]⟩:=⟨rP,mP,World.ownsRow_nil _ _ _ _,World.ownsRow_nil _ _ _ _,rH,mH,World.ownsRow_nil _ _ _ _,World.ownsRow_nil _ _ _ _,World.ownsRow_nil _ _ _ _,rfl,oP,oH,(fun e he=>by cases he),hz'⟩
  have hs1:(W.setCell (qa b 0) (sv yp fparts.length ypc)).heap[b]?=some (.cells #[sv yp fparts.length ypc,sv xl fplan.length xlc,iv fnow,sv xd fdone.length xdc,sv xh fgot.length xhc,sv xg fgrants.length xgc,sv xk fwork.length xkc,sv xn fnet.length xnc] 29 (0,0)):=setB' hblk _
  have hs2:((W.setCell (qa b 0) (sv yp fparts.length ypc)).setCell (qa b 4) (sv yh fgot.length yhc)).heap[b]?=some (.cells #[sv yp fparts.length ypc,sv xl fplan.length xlc,iv fnow,sv xd fdone.length xdc,sv yh fgot.length yhc,sv xg fgrants.length xgc,sv xk fwork.length xkc,sv xn fnet.length xnc] 29 (0,0)):=setB' hs1 _
  have hgr:W.grownBy ((W.setCell (qa b 0) (sv yp fparts.length ypc)).setCell (qa b 4) (sv yh fgot.length yhc)) (some b):=grown_trans (grown_set _ _ _ _) (grown_set _ _ _ _)
  have HR1:Hid (FmR B ((W.setCell (qa b 0) (sv yp fparts.length ypc)).setCell (qa b 4) (sv yh fgot.length yhc)) ⟨fparts,[],fnow,[],fgot,[],[],[]⟩ ⟨yp,ypc,none,0,none,0,yh,yhc,none,0,none,0,none,0⟩ ⟨eP,eH,[]⟩):=hR0.wr ⟨b,_,hblk,hgr⟩
  have hrs:((W.setCell (qa b 0) (sv yp fparts.length ypc)).setCell (qa b 4) (sv yh fgot.length yhc)).heap[b+1]?=some (.cells qz 29 (0,0)):=(hgr.block (b+1) (lt1 hres) (by simp)).trans hres
  have HB1:Hid (Below B w ((W.setCell (qa b 0) (sv yp fparts.length ypc)).setCell (qa b 4) (sv yh fgot.length yhc))):=((HB0.out.trans (hC.mono (by have:=HB0.out.size;rw[HBB.out.1];exact this))).setCell hBb _).setCell hBb _
  have k0:=cellC hblk 0 rfl
  have k1:=cellC hblk 4 rfl
  have kf:=frozenB hblk
  have kl:=lt1 hblk
  simp only[List.drop_succ_cons,List.drop_zero]
  rw[e3,e7,h8]
  clear hR hZ h8 e3 e7 hYA hFa hblk hres hs1 hgr hC hR0 h0 h1 hlat lP lH rP rH mP mH oP oH hz hz'
  clear HB0
  go_upto_region 3 with fail
  generalize ((W.setCell (qa b 0) (sv yp fparts.length ypc)).setCell (qa b 4) (sv yh fgot.length yhc))=Y2 at *
  clear k0 k1 kf kl hBW hYW
  clear Y
  obtain⟨Y,hY⟩:∃ Y,Y=Y2:=⟨_,rfl⟩
  rw[← hY] at hs2 HR1 hrs HB1 ⊢
  clear hY Y2
  have h0:=hs2
  have h1:=hrs
  have HR0:=HR1
  have HB0:=HB1
  clear hs2 hrs HR1 HB1
  have hYA:∀ W,Below Y.heap.size Y W→FarmAt W ⟨fparts,fplan,fnow,fdone,fgot,fgrants,fwork,fnet⟩ ⟨xp,xpc,xl,xlc,xd,xdc,xh,xhc,xg,xgc,xk,xkc,xn,xnc⟩∧W.heap[b]?=some (.cells #[sv yp fparts.length ypc,sv xl fplan.length xlc,iv fnow,sv xd fdone.length xdc,sv yh fgot.length yhc,sv xg fgrants.length xgc,sv xk fwork.length xkc,sv xn fnet.length xnc] 29 (0,0))∧(B≤W.heap.size∧Y.heap.size≤W.heap.size)∧W.heap[b+1]?=some (.cells qz 29 (0,0)):=fun W hW=>⟨HF.out W (HB0.out.trans (hW.mono (by have:=HB0.out.size;rw[HBB.out.1];exact this))),(hW.block _ (lt1 h0)).trans h0,⟨Nat.le_trans (by have:=HB0.out.size;rw[HBB.out.1];exact this) hW.size,hW.size⟩,(hW.block _ (lt1 h1)).trans h1⟩
  have hlat:∀ W X,Below W.heap.size W X→∀ j u,owR b 1 3 (sv xl fplan.length xlc) (sv xd fdone.length xdc) (OwE B 75) (OwE B 4) (fun W u=>W.ownsRow B 75 3 u fplan.length (fplan.flatMap encNd)) (fun W u=>W.ownsRow B 4 1 u fdone.length (fdone.flatMap encB)) j W u→owR b 1 3 (sv xl fplan.length xlc) (sv xd fdone.length xdc) (OwE B 75) (OwE B 4) (fun W u=>W.ownsRow B 75 3 u fplan.length (fplan.flatMap encNd)) (fun W u=>W.ownsRow B 4 1 u fdone.length (fdone.flatMap encB)) j X u:=fun W X hb=>owR_later (fun _ h=>OwE.later h hb) (fun _ h=>OwE.later h hb) (fun _ h=>World.ownsRow.kept h (grown_of_below hb none) own_self) (fun _ h=>World.ownsRow.kept h (grown_of_below hb none) own_self)
  refine wp_region_rel 9 (fun _ W=>Below Y.heap.size Y W) (fun v=>⟨#[.agg #[sv xp fparts.length xpc,sv xl fplan.length xlc,iv fnow,sv xd fdone.length xdc,sv xh fgot.length xhc,sv xg fgrants.length xgc,sv xk fwork.length xkc,sv xn fnet.length xnc],qv b 0,qv (b+1) 0,.func (.func 20) #[] #[],undef,undef,undef,vr2 0,vr2 1,vr2 2,sv yp fparts.length ypc,vr2 4,vr2 5,vr2 6,sv yh fgot.length yhc,qv b 0,qv b 4,v 0,v 1,v 2,v 3,v 4,v 5,v 6,v 7,v 8,undef,undef,undef,undef,undef,undef,undef,undef,undef,undef,undef,undef,undef,undef,undef,undef,undef,undef,undef,undef,undef,undef,undef,undef,undef,undef,undef,undef,undef,undef],[]⟩) (owR b 1 3 (sv xl fplan.length xlc) (sv xd fdone.length xdc) (OwE B 75) (OwE B 4) (fun W u=>W.ownsRow B 75 3 u fplan.length (fplan.flatMap encNd)) (fun W u=>W.ownsRow B 4 1 u fdone.length (fdone.flatMap encB))) (fun _ _ _ _=>True) (by kernel_rfl) (by kernel_rfl) (Below.refl _ _).drew ⟨fun _=>undef,rfl⟩ ?_ ?_
  ·intro j o hj ho
   rcases (by omega:j=0∨j=1∨j=2∨j=3∨j=4∨j=5∨j=6∨j=7∨j=8) with rfl | rfl | rfl | rfl | rfl | rfl | rfl | rfl | rfl
   all_goals cases ho
   all_goals refine relStep_of rfl rfl ?_
   all_goals intro sd v W hC hin hsd hdep hdz
   all_goals obtain⟨hFa,hblk,⟨hBW,hYW⟩,_⟩:=hYA W hC
   ·have hA:=(Below.refl W.heap.size W).alloc (Nat.le_refl _) (.cells #[] 75)
    exact wp_valW (sv (some (qa W.heap.size 0)) 0 0) (W.alloc (.cells #[] 75)) (by simp[execOp,Act.eval,go_sem]) ⟨_,rfl,hC.trans (hA.mono hC.size),(fun k x _ _=>hlat _ _ hA k x),⟨W.heap.size,rfl,hBW,heap_alloc_new W _⟩,fun k hk _ hz=>⟨trivial,trivial⟩⟩
   ·exact wp_val (qv b 1) (by simp[execOp,Act.eval,go_sem]) ⟨_,rfl,hC,fun _ _ _ _ h=>h,rfl,fun k hk _ hz=>⟨trivial,trivial⟩⟩
   ·have hv:v 1=qv b 1:=hdep ⟨1,.data⟩ (by simp) rfl
    have hc:=cellC hblk 1 rfl
    exact wp_val (sv xl fplan.length xlc) (by simp[execOp,Act.eval,go_sem,hv,hc]) ⟨_,rfl,hC,fun _ _ _ _ h=>h,rfl,fun k hk _ hz=>⟨trivial,trivial⟩⟩
   ·obtain⟨g,hv0,hBg,hg⟩:OwE B 75 W (v 0):=hdep ⟨0,.data⟩ (by simp) rfl
    have hv:v 2=sv xl fplan.length xlc:=hdep ⟨2,.data⟩ (by simp) rfl
    refine wp_append_fresh W _ _ 23 rfl B 75 iL (.agg #[iv 0,iv 0,iv 0]) 3 24 Tryz.underlying23 hiL hL0 hL1 hL2 rfl (by decide) g hv0 hg hBg (sv xl fplan.length xlc) fplan.length (fplan.flatMap encNd) hv hFa.plan.src (flat_len' 3 encNd (fun _=>rfl) _) (by unfold maxLen;omega) (by omega) ?_
    intro u W2 hr hb2
    exact⟨u,rfl,hC.trans (hb2.mono hC.size),(fun k x _ _=>hlat _ _ hb2 k x),hr,fun k hk _ hz=>⟨trivial,trivial⟩⟩
   ·have hA:=(Below.refl W.heap.size W).alloc (Nat.le_refl _) (.cells #[] 4)
    exact wp_valW (sv (some (qa W.heap.size 0)) 0 0) (W.alloc (.cells #[] 4)) (by simp[execOp,Act.eval,go_sem]) ⟨_,rfl,hC.trans (hA.mono hC.size),(fun k x _ _=>hlat _ _ hA k x),⟨W.heap.size,rfl,hBW,heap_alloc_new W _⟩,fun k hk _ hz=>⟨trivial,trivial⟩⟩
   ·exact wp_val (qv b 3) (by simp[execOp,Act.eval,go_sem]) ⟨_,rfl,hC,fun _ _ _ _ h=>h,rfl,fun k hk _ hz=>⟨trivial,trivial⟩⟩
   ·have hv:v 5=qv b 3:=hdep ⟨5,.data⟩ (by simp) rfl
    have hc:=cellC hblk 3 rfl
    exact wp_val (sv xd fdone.length xdc) (by simp[execOp,Act.eval,go_sem,hv,hc]) ⟨_,rfl,hC,fun _ _ _ _ h=>h,rfl,fun k hk _ hz=>⟨trivial,trivial⟩⟩
   ·obtain⟨g,hv0,hBg,hg⟩:OwE B 4 W (v 4):=hdep ⟨4,.data⟩ (by simp) rfl
    have hv:v 6=sv xd fdone.length xdc:=hdep ⟨6,.data⟩ (by simp) rfl
    refine wp_append_fresh W _ _ 24 rfl B 4 iD (.bool false) 1 1 Tryz.underlying24 hiD hD0 hD1 hD2 rfl (by decide) g hv0 hg hBg (sv xd fdone.length xdc) fdone.length (fdone.flatMap encB) hv hFa.done.src (flat_len' 1 encB (fun _=>rfl) _) (by unfold maxLen;omega) (by omega) ?_
    intro u W2 hr hb2
    exact⟨u,rfl,hC.trans (hb2.mono hC.size),(fun k x _ _=>hlat _ _ hb2 k x),hr,fun k hk _ hz=>⟨trivial,trivial⟩⟩
   ·exact wp_val (qv b 1) (by simp[execOp,Act.eval,go_sem]) ⟨_,rfl,hC,fun _ _ _ _ h=>h,rfl,fun k hk _ hz=>⟨trivial,trivial⟩⟩
  ·intro sd vr3 W hC hR hZ
   obtain⟨hFa,hblk,⟨hBW,hYW⟩,hres⟩:=hYA W hC
   have r3:W.ownsRow B 75 3 (vr3 3) fplan.length (fplan.flatMap encNd):=hR 3 (by decide)
   have r7:W.ownsRow B 4 1 (vr3 7) fdone.length (fdone.flatMap encB):=hR 7 (by decide)
   have h8:vr3 8=qv b 1:=hR 8 (by decide)
   obtain⟨yl,ylc,e3⟩:=own_len r3
   obtain⟨yd,ydc,e7⟩:=own_len r7
   rw[e3] at r3
   rw[e7] at r7
   have hR1:=HR0.out.later hC
   have hR0:FmR B W ⟨fparts,fplan,fnow,fdone,fgot,[],[],[]⟩ ⟨yp,ypc,yl,ylc,yd,ydc,yh,yhc,none,0,none,0,none,0⟩ ⟨eP,eH,[]⟩:=⟨hR1.rowP,hR1.mapP,r3,r7,hR1.rowH,hR1.mapH,hR1.rowG,hR1.rowW,hR1.rowN,hR1.mapN,hR1.ownP,hR1.ownH,hR1.ownN,hR1.apart⟩
   have hs1:(W.setCell (qa b 1) (sv yl fplan.length ylc)).heap[b]?=some (.cells #[sv yp fparts.length ypc,sv yl fplan.length ylc,iv fnow,sv xd fdone.length xdc,sv yh fgot.length yhc,sv xg fgrants.length xgc,sv xk fwork.length xkc,sv xn fnet.length xnc] 29 (0,0)):=setB' hblk _
   have hs2:((W.setCell (qa b 1) (sv yl fplan.length ylc)).setCell (qa b 3) (sv yd fdone.length ydc)).heap[b]?=some (.cells #[sv yp fparts.length ypc,sv yl fplan.length ylc,iv fnow,sv yd fdone.length ydc,sv yh fgot.length yhc,sv xg fgrants.length xgc,sv xk fwork.length xkc,sv xn fnet.length xnc] 29 (0,0)):=setB' hs1 _
   have hgr:W.grownBy ((W.setCell (qa b 1) (sv yl fplan.length ylc)).setCell (qa b 3) (sv yd fdone.length ydc)) (some b):=grown_trans (grown_set _ _ _ _) (grown_set _ _ _ _)
   have HR1:Hid (FmR B ((W.setCell (qa b 1) (sv yl fplan.length ylc)).setCell (qa b 3) (sv yd fdone.length ydc)) ⟨fparts,fplan,fnow,fdone,fgot,[],[],[]⟩ ⟨yp,ypc,yl,ylc,yd,ydc,yh,yhc,none,0,none,0,none,0⟩ ⟨eP,eH,[]⟩):=hR0.wr ⟨b,_,hblk,hgr⟩
   have hrs:((W.setCell (qa b 1) (sv yl fplan.length ylc)).setCell (qa b 3) (sv yd fdone.length ydc)).heap[b+1]?=some (.cells qz 29 (0,0)):=(hgr.block (b+1) (lt1 hres) (by simp)).trans hres
   have HB1:Hid (Below B w ((W.setCell (qa b 1) (sv yl fplan.length ylc)).setCell (qa b 3) (sv yd fdone.length ydc))):=((HB0.out.trans (hC.mono (by have:=HB0.out.size;rw[HBB.out.1];exact this))).setCell hBb _).setCell hBb _
   have k0:=cellC hblk 1 rfl
   have k1:=cellC hblk 3 rfl
   have kf:=frozenB hblk
   have kl:=lt1 hblk
   simp only[List.drop_succ_cons,List.drop_zero]
   rw[e3,e7,h8]
   clear hR hZ h8 e3 e7 hYA hFa hblk hres hs1 hgr hC hR0 h0 h1 hlat r3 r7 hR1 HR0
   clear HB0
   go_upto_region 4 with fail
   generalize ((W.setCell (qa b 1) (sv yl fplan.length ylc)).setCell (qa b 3) (sv yd fdone.length ydc))=Y2 at *
   clear k0 k1 kf kl hBW hYW
   clear Y
   obtain⟨Y,hY⟩:∃ Y,Y=Y2:=⟨_,rfl⟩
   rw[← hY] at hs2 HR1 hrs HB1 ⊢
   clear hY Y2
   have h0:=hs2
   have h1:=hrs
   have HR0:=HR1
   have HB0:=HB1
   clear hs2 hrs HR1 HB1
   have hYA:∀ W,Below Y.heap.size Y W→FarmAt W ⟨fparts,fplan,fnow,fdone,fgot,fgrants,fwork,fnet⟩ ⟨xp,xpc,xl,xlc,xd,xdc,xh,xhc,xg,xgc,xk,xkc,xn,xnc⟩∧W.heap[b]?=some (.cells #[sv yp fparts.length ypc,sv yl fplan.length ylc,iv fnow,sv yd fdone.length ydc,sv yh fgot.length yhc,sv xg fgrants.length xgc,sv xk fwork.length xkc,sv xn fnet.length xnc] 29 (0,0))∧(B≤W.heap.size∧Y.heap.size≤W.heap.size)∧W.heap[b+1]?=some (.cells qz 29 (0,0)):=fun W hW=>⟨HF.out W (HB0.out.trans (hW.mono (by have:=HB0.out.size;rw[HBB.out.1];exact this))),(hW.block _ (lt1 h0)).trans h0,⟨Nat.le_trans (by have:=HB0.out.size;rw[HBB.out.1];exact this) hW.size,hW.size⟩,(hW.block _ (lt1 h1)).trans h1⟩
   have hlat:∀ W X,Below W.heap.size W X→∀ j u,owR b 5 6 (sv xg fgrants.length xgc) (sv xk fwork.length xkc) (OwE B 64) (OwE B 3) (fun W u=>W.ownsRow B 64 2 u fgrants.length (fgrants.flatMap encGrt)) (fun W u=>W.ownsRow B 3 1 u fwork.length (fwork.flatMap encI)) j W u→owR b 5 6 (sv xg fgrants.length xgc) (sv xk fwork.length xkc) (OwE B 64) (OwE B 3) (fun W u=>W.ownsRow B 64 2 u fgrants.length (fgrants.flatMap encGrt)) (fun W u=>W.ownsRow B 3 1 u fwork.length (fwork.flatMap encI)) j X u:=fun W X hb=>owR_later (fun _ h=>OwE.later h hb) (fun _ h=>OwE.later h hb) (fun _ h=>World.ownsRow.kept h (grown_of_below hb none) own_self) (fun _ h=>World.ownsRow.kept h (grown_of_below hb none) own_self)
   refine wp_region_rel 9 (fun _ W=>Below Y.heap.size Y W) (fun v=>⟨#[.agg #[sv xp fparts.length xpc,sv xl fplan.length xlc,iv fnow,sv xd fdone.length xdc,sv xh fgot.length xhc,sv xg fgrants.length xgc,sv xk fwork.length xkc,sv xn fnet.length xnc],qv b 0,qv (b+1) 0,.func (.func 20) #[] #[],undef,undef,undef,vr2 0,vr2 1,vr2 2,sv yp fparts.length ypc,vr2 4,vr2 5,vr2 6,sv yh fgot.length yhc,qv b 0,qv b 4,vr3 0,vr3 1,vr3 2,sv yl fplan.length ylc,vr3 4,vr3 5,vr3 6,sv yd fdone.length ydc,qv b 1,qv b 3,v 0,v 1,v 2,v 3,v 4,v 5,v 6,v 7,v 8,undef,undef,undef,undef,undef,undef,undef,undef,undef,undef,undef,undef,undef,undef,undef,undef,undef,undef,undef,undef],[]⟩) (owR b 5 6 (sv xg fgrants.length xgc) (sv xk fwork.length xkc) (OwE B 64) (OwE B 3) (fun W u=>W.ownsRow B 64 2 u fgrants.length (fgrants.flatMap encGrt)) (fun W u=>W.ownsRow B 3 1 u fwork.length (fwork.flatMap encI))) (fun _ _ _ _=>True) (by kernel_rfl) (by kernel_rfl) (Below.refl _ _).drew ⟨fun _=>undef,rfl⟩ ?_ ?_
   ·intro j o hj ho
    rcases (by omega:j=0∨j=1∨j=2∨j=3∨j=4∨j=5∨j=6∨j=7∨j=8) with rfl | rfl | rfl | rfl | rfl | rfl | rfl | rfl | rfl
    all_goals cases ho
    all_goals refine relStep_of rfl rfl ?_
    all_goals intro sd v W hC hin hsd hdep hdz
    all_goals obtain⟨hFa,hblk,⟨hBW,hYW⟩,_⟩:=hYA W hC
    ·have hA:=(Below.refl W.heap.size W).alloc (Nat.le_refl _) (.cells #[] 64)
     exact wp_valW (sv (some (qa W.heap.size 0)) 0 0) (W.alloc (.cells #[] 64)) (by simp[execOp,Act.eval,go_sem]) ⟨_,rfl,hC.trans (hA.mono hC.size),(fun k x _ _=>hlat _ _ hA k x),⟨W.heap.size,rfl,hBW,heap_alloc_new W _⟩,fun k hk _ hz=>⟨trivial,trivial⟩⟩
    ·exact wp_val (qv b 5) (by simp[execOp,Act.eval,go_sem]) ⟨_,rfl,hC,fun _ _ _ _ h=>h,rfl,fun k hk _ hz=>⟨trivial,trivial⟩⟩
    ·have hv:v 1=qv b 5:=hdep ⟨1,.data⟩ (by simp) rfl
     have hc:=cellC hblk 5 rfl
     exact wp_val (sv xg fgrants.length xgc) (by simp[execOp,Act.eval,go_sem,hv,hc]) ⟨_,rfl,hC,fun _ _ _ _ h=>h,rfl,fun k hk _ hz=>⟨trivial,trivial⟩⟩
    ·obtain⟨g,hv0,hBg,hg⟩:OwE B 64 W (v 0):=hdep ⟨0,.data⟩ (by simp) rfl
     have hv:v 2=sv xg fgrants.length xgc:=hdep ⟨2,.data⟩ (by simp) rfl
     refine wp_append_fresh W _ _ 25 rfl B 64 iG (.agg #[iv 0,iv 0]) 2 16 Tryz.underlying25 hiG hG0 hG1 hG2 rfl (by decide) g hv0 hg hBg (sv xg fgrants.length xgc) fgrants.length (fgrants.flatMap encGrt) hv hFa.grants.src (flat_len' 2 encGrt (fun _=>rfl) _) (by unfold maxLen;omega) (by omega) ?_
     intro u W2 hr hb2
     exact⟨u,rfl,hC.trans (hb2.mono hC.size),(fun k x _ _=>hlat _ _ hb2 k x),hr,fun k hk _ hz=>⟨trivial,trivial⟩⟩
    ·have hA:=(Below.refl W.heap.size W).alloc (Nat.le_refl _) (.cells #[] 3)
     exact wp_valW (sv (some (qa W.heap.size 0)) 0 0) (W.alloc (.cells #[] 3)) (by simp[execOp,Act.eval,go_sem]) ⟨_,rfl,hC.trans (hA.mono hC.size),(fun k x _ _=>hlat _ _ hA k x),⟨W.heap.size,rfl,hBW,heap_alloc_new W _⟩,fun k hk _ hz=>⟨trivial,trivial⟩⟩
    ·exact wp_val (qv b 6) (by simp[execOp,Act.eval,go_sem]) ⟨_,rfl,hC,fun _ _ _ _ h=>h,rfl,fun k hk _ hz=>⟨trivial,trivial⟩⟩
    ·have hv:v 5=qv b 6:=hdep ⟨5,.data⟩ (by simp) rfl
     have hc:=cellC hblk 6 rfl
     exact wp_val (sv xk fwork.length xkc) (by simp[execOp,Act.eval,go_sem,hv,hc]) ⟨_,rfl,hC,fun _ _ _ _ h=>h,rfl,fun k hk _ hz=>⟨trivial,trivial⟩⟩
    ·obtain⟨g,hv0,hBg,hg⟩:OwE B 3 W (v 4):=hdep ⟨4,.data⟩ (by simp) rfl
     have hv:v 6=sv xk fwork.length xkc:=hdep ⟨6,.data⟩ (by simp) rfl
     refine wp_append_fresh W _ _ 26 rfl B 3 iK (iv 0) 1 8 Tryz.underlying26 hiK hK0 hK1 hK2 rfl (by decide) g hv0 hg hBg (sv xk fwork.length xkc) fwork.length (fwork.flatMap encI) hv hFa.work.src' (flat_len' 1 encI (fun _=>rfl) _) (by unfold maxLen;omega) (by omega) ?_
     intro u W2 hr hb2
     exact⟨u,rfl,hC.trans (hb2.mono hC.size),(fun k x _ _=>hlat _ _ hb2 k x),hr,fun k hk _ hz=>⟨trivial,trivial⟩⟩
    ·exact wp_val (qv b 5) (by simp[execOp,Act.eval,go_sem]) ⟨_,rfl,hC,fun _ _ _ _ h=>h,rfl,fun k hk _ hz=>⟨trivial,trivial⟩⟩
   ·intro sd vr4 W hC hR hZ
    obtain⟨hFa,hblk,⟨hBW,hYW⟩,hres⟩:=hYA W hC
    have r3:W.ownsRow B 64 2 (vr4 3) fgrants.length (fgrants.flatMap encGrt):=hR 3 (by decide)
    have r7:W.ownsRow B 3 1 (vr4 7) fwork.length (fwork.flatMap encI):=hR 7 (by decide)
    have h8:vr4 8=qv b 5:=hR 8 (by decide)
    obtain⟨yg,ygc,e3⟩:=own_len r3
    obtain⟨yk,ykc,e7⟩:=own_len r7
    rw[e3] at r3
    rw[e7] at r7
    have hR1:=HR0.out.later hC
    have hR0:FmR B W ⟨fparts,fplan,fnow,fdone,fgot,fgrants,fwork,[]⟩ ⟨yp,ypc,yl,ylc,yd,ydc,yh,yhc,yg,ygc,yk,ykc,none,0⟩ ⟨eP,eH,[]⟩:=⟨hR1.rowP,hR1.mapP,hR1.rowL,hR1.rowD,hR1.rowH,hR1.mapH,r3,r7,hR1.rowN,hR1.mapN,hR1.ownP,hR1.ownH,hR1.ownN,hR1.apart⟩
    have hs1:(W.setCell (qa b 5) (sv yg fgrants.length ygc)).heap[b]?=some (.cells #[sv yp fparts.length ypc,sv yl fplan.length ylc,iv fnow,sv yd fdone.length ydc,sv yh fgot.length yhc,sv yg fgrants.length ygc,sv xk fwork.length xkc,sv xn fnet.length xnc] 29 (0,0)):=setB' hblk _
    have hs2:((W.setCell (qa b 5) (sv yg fgrants.length ygc)).setCell (qa b 6) (sv yk fwork.length ykc)).heap[b]?=some (.cells #[sv yp fparts.length ypc,sv yl fplan.length ylc,iv fnow,sv yd fdone.length ydc,sv yh fgot.length yhc,sv yg fgrants.length ygc,sv yk fwork.length ykc,sv xn fnet.length xnc] 29 (0,0)):=setB' hs1 _
    have hgr:W.grownBy ((W.setCell (qa b 5) (sv yg fgrants.length ygc)).setCell (qa b 6) (sv yk fwork.length ykc)) (some b):=grown_trans (grown_set _ _ _ _) (grown_set _ _ _ _)
    have HR1:Hid (FmR B ((W.setCell (qa b 5) (sv yg fgrants.length ygc)).setCell (qa b 6) (sv yk fwork.length ykc)) ⟨fparts,fplan,fnow,fdone,fgot,fgrants,fwork,[]⟩ ⟨yp,ypc,yl,ylc,yd,ydc,yh,yhc,yg,ygc,yk,ykc,none,0⟩ ⟨eP,eH,[]⟩):=hR0.wr ⟨b,_,hblk,hgr⟩
    have hrs:((W.setCell (qa b 5) (sv yg fgrants.length ygc)).setCell (qa b 6) (sv yk fwork.length ykc)).heap[b+1]?=some (.cells qz 29 (0,0)):=(hgr.block (b+1) (lt1 hres) (by simp)).trans hres
    have HB1:Hid (Below B w ((W.setCell (qa b 5) (sv yg fgrants.length ygc)).setCell (qa b 6) (sv yk fwork.length ykc))):=((HB0.out.trans (hC.mono (by have:=HB0.out.size;rw[HBB.out.1];exact this))).setCell hBb _).setCell hBb _
    have k0:=cellC hblk 5 rfl
    have k1:=cellC hblk 6 rfl
    have kf:=frozenB hblk
    have kl:=lt1 hblk
    simp only[List.drop_succ_cons,List.drop_zero]
    rw[e3,e7,h8]
    clear hR hZ h8 e3 e7 hYA hFa hblk hres hs1 hgr hC hR0 h0 h1 hlat r3 r7 hR1 HR0
    clear HB0
    go_upto_region 6 with fail
    generalize ((W.setCell (qa b 5) (sv yg fgrants.length ygc)).setCell (qa b 6) (sv yk fwork.length ykc))=Y2 at *
    clear k0 k1 kf kl hBW hYW
    clear Y
    obtain⟨Y,hY⟩:∃ Y,Y=Y2:=⟨_,rfl⟩
    rw[← hY] at hs2 HR1 hrs HB1 ⊢
    clear hY Y2
    have h0:=hs2
    have h1:=hrs
    have HR0:=HR1
    have HB0:=HB1
    clear hs2 hrs HR1 HB1
    have c7:=cellC h0 7 rfl
    have lb:=lt1 h0
    have HNt:Hid (∀ X,Below B w X→NetAt X (sv xn fnet.length xnc) fnet):=fun X hX=>(HF.out X hX).net
    clear HRP HRH
    go_upto_region 7 with fail
    clear c7 lb
    go_loopw [4,40] (fun s4 s40 wr=>∃ (k:Nat) (eN:List NEnt) (a7:Option Addr) (c7:Nat),k≤fnet.length∧s40=iv k∧s4=sv a7 k c7∧Hid (FmR B wr ⟨fparts,fplan,fnow,fdone,fgot,fgrants,fwork,fnet.take k⟩ ⟨yp,ypc,yl,ylc,yd,ydc,yh,yhc,yg,ygc,yk,ykc,a7,c7⟩ ⟨eP,eH,eN⟩)∧Hid (Below B w wr)∧wr.heap[b]?=some (.cells #[sv yp fparts.length ypc,sv yl fplan.length ylc,iv fnow,sv yd fdone.length ydc,sv yh fgot.length yhc,sv yg fgrants.length ygc,sv yk fwork.length ykc,sv xn fnet.length xnc] 29 (0,0))∧wr.heap[b+1]?=some (.cells qz 29 (0,0))) (fun _ s40 _=>fnet.length - (intOf s40).toNat)
    case atStart=>exact⟨0,[],none,0,Nat.zero_le _,rfl,rfl,HR0,HB0,h0,h1⟩
    case round =>
     obtain⟨k,eN,a7,c7,hk,rfl,rfl,HO,HB,hbk,hz⟩:=hrel
     clear h0 h1 HR0 HB0
     have hsw:B≤wr.heap.size:=by have:=HB.out.size;rw[HBB.out.1];exact this
     have hlk:(fnet.take k).length=k:=by rw[List.length_take];omega
     have hrow:wr.ownsRow B 60 5 (sv a7 k c7) k (eN.flatMap nentCells):=by have:=HO.out.rowN;simp only at this;rw[hlk] at this;exact this
     have Hlk:Hid ((fnet.take k).length=k):=hlk
     clear hlk
     by_cases hlt:k<fnet.length
     ·obtain⟨b2,off,x1,y1,x2,y2,rfl,e0,e1,e2,e3,e4,hF',hD'⟩:=(HNt.out wr HB.out).cells k hlt
      have hbr:b2<wr.heap.size:=World.block_lt_of_cell? _ _ e0
      have hkl:(k:Int)<(fnet.length:Int):=by omega
      have hqo:=HRN.out _ (getD_mem fnet M.msg0 k hlt)
      have HT:Hid (fnet.take (k+1)=fnet.take k ++ [fnet.getD k M.msg0]):=by rw[Hid,List.take_add_one,getElem?_getD fnet M.msg0 k hlt];rfl
      have hl1:(fnet.take (k+1)).length=k+1:=by rw[List.length_take];omega
      have Hl1:Hid ((fnet.take (k+1)).length=k+1):=hl1
      clear hl1
      generalize fnet.getD k M.msg0=m at *
      obtain⟨mk,mw,mn,q⟩:=m
      simp only at e0 e1 e2 e3 e4 hF' hD' hqo
      go_upto_region 9 with fail
      have hA:Below wr.heap.size wr (wr.alloc (.cells #[iv mk,iv mw,iv mn,sv x1 q.frags.length y1,sv x2 q.defs.length y2] 60)):=(Below.refl _ _).alloc (Nat.le_refl _) _
      have hm0:=heap_alloc_new wr (.cells #[iv mk,iv mw,iv mn,sv x1 q.frags.length y1,sv x2 q.defs.length y2] 60)
      obtain⟨nz,hnz⟩:∃ nz,nz=wr.heap.size:=⟨_,rfl⟩
      rw[← hnz] at hm0
      have KC:Hid (Calls Tryz.prog 21 #[.agg #[sv x1 q.frags.length y1,sv x2 q.defs.length y2]] (wr.alloc (.cells #[iv mk,iv mw,iv mn,sv x1 q.frags.length y1,sv x2 q.defs.length y2] 60)) fun e X1 =>
        ∃ z1 u1 z2 u2,e=.returned (.agg #[sv z1 q.frags.length u1,sv z2 q.defs.length u2])∧Below wr.heap.size wr X1∧X1.heap[nz]?=some (.cells #[iv mk,iv mw,iv mn,sv x1 q.frags.length y1,sv x2 q.defs.length y2] 60 (0,0))∧POwn X1 B ⟨q,sv z1 q.frags.length u1,sv z2 q.defs.length u2⟩):=by
       refine (ownPart_v q _ _ _ _ _ (hF'.later hA) (hD'.later hA) hqo).mono ?_
       rintro e X1 ⟨hb1,z1,u1,z2,u2,rfl,hP⟩
       exact⟨z1,u1,z2,u2,rfl,hA.trans (hb1.mono hA.size),(hb1.block _ (lt1 hm0)).trans hm0,hP.base (Nat.le_trans hsw hA.size)⟩
      rw[← hnz]
      clear e0 e1 e2 e3 e4 hA hF' hD' hqo
      generalize wr.alloc (.cells #[iv mk,iv mw,iv mn,sv x1 q.frags.length y1,sv x2 q.defs.length y2] 60)=Z1 at *
      have m3:=cellC hm0 3 rfl
      have m4:=cellC hm0 4 rfl
      have lz:=lt1 hm0
      have Hnz:Hid (nz=wr.heap.size):=hnz
      clear hnz hm0
      go_wp2_with (go_at_call 21;refine KC.out.mono ?_;rintro e X1 ⟨z1,u1,z2,u2,rfl,hb1,hm1,hP1⟩;refine Hid.out ?_)
      have lx:=lt1 hm1
      have d3:=cellC hm1 3 rfl
      have d4:=cellC hm1 4 rfl
      have ff:=frozenB hm1
      have hm2:((X1.setCell (qa nz 3) (sv z1 q.frags.length u1)).setCell (qa nz 4) (sv z2 q.defs.length u2)).heap[nz]?=some (.cells #[iv mk,iv mw,iv mn,sv z1 q.frags.length u1,sv z2 q.defs.length u2] 60 (0,0)):=setB' (setB' hm1 _) _
      have hb2:Below wr.heap.size wr ((X1.setCell (qa nz 3) (sv z1 q.frags.length u1)).setCell (qa nz 4) (sv z2 q.defs.length u2)):=(hb1.setCell (by show wr.heap.size≤nz;rw[Hnz.out];exact Nat.le_refl _) _).setCell (by show wr.heap.size≤nz;rw[Hnz.out];exact Nat.le_refl _) _
      have wr1:Wr X1 ((X1.setCell (qa nz 3) (sv z1 q.frags.length u1)).setCell (qa nz 4) (sv z2 q.defs.length u2)) 60:=⟨nz,_,hm1,grown_trans (grown_set _ _ _ _) (grown_set _ _ _ _)⟩
      have hP2:=wr1.pw hP1 rfl
      clear KC m3 m4 hb1 hP1 wr1 lz
      refine Lib.hid ?_
      go_upto_region 10 with fail
      clear d3 d4 ff hm1 lx
      generalize (X1.setCell (qa nz 3) (sv z1 q.frags.length u1)).setCell (qa nz 4) (sv z2 q.defs.length u2)=X2 at *
      have HO2:=HO.out.later hb2
      have hg2:=(hb2.block _ (lt1 hbk)).trans hbk
      have hz2':=(hb2.block _ (lt1 hz)).trans hz
      have hrow2:=hrow.kept (grown_of_below hb2 Option.none) own_self
      have HB2:Hid (Below B w X2):=HB.out.trans (hb2.mono hsw)
      have hs2:B≤X2.heap.size:=Nat.le_trans hsw hb2.size
      have k0:=cellC hm2 0 rfl
      have k1:=cellC hm2 1 rfl
      have k2:=cellC hm2 2 rfl
      have k3:=cellC hm2 3 rfl
      have k4:=cellC hm2 4 rfl
      have kz:=lt1 hm2
      have hnews:∀ j u,(#[iv mk,iv mw,iv mn,sv z1 q.frags.length u1,sv z2 q.defs.length u2]:Array Value).toList[j]?=some u→(X2.alloc (.cells #[iv mk,iv mw,iv mn,sv z1 q.frags.length u1,sv z2 q.defs.length u2] 60)).cell? ((qa X2.heap.size 0).add j)=some u:=World.news_of_block (heap_alloc_new X2 _)
      have HAp:Hid (∀ v' w3,(X2.alloc (.cells #[iv mk,iv mw,iv mn,sv z1 q.frags.length u1,sv z2 q.defs.length u2] 60)).grownBy w3 (sv a7 k c7).ownBlock→w3.ownsRow B 60 5 v' (k+1) (eN.flatMap nentCells ++ (#[iv mk,iv mw,iv mn,sv z1 q.frags.length u1,sv z2 q.defs.length u2]:Array Value).toList)→∃ a8 c8,v'=sv a8 (k+1) c8 ∧
        FmR B w3 ⟨fparts,fplan,fnow,fdone,fgot,fgrants,fwork,fnet.take (k+1)⟩ ⟨yp,ypc,yl,ylc,yd,ydc,yh,yhc,yg,ygc,yk,ykc,a8,c8⟩ ⟨eP,eH,eN ++ [⟨mk,mw,mn,⟨q,sv z1 q.frags.length u1,sv z2 q.defs.length u2⟩⟩]⟩∧Below B w w3∧w3.heap[b]?=some (.cells #[sv yp fparts.length ypc,sv yl fplan.length ylc,iv fnow,sv yd fdone.length ydc,sv yh fgot.length yhc,sv yg fgrants.length ygc,sv yk fwork.length ykc,sv (some (qa b2 off)) fnet.length xnc] 29 (0,0))∧w3.heap[b+1]?=some (.cells qz 29 (0,0))):=fun v' w3 hgr ho=>by
       have hb3:=(Below.refl X2.heap.size X2).alloc (Nat.le_refl _) (.cells #[iv mk,iv mw,iv mn,sv z1 q.frags.length u1,sv z2 q.defs.length u2] 60)
       have hO3:=HO2.later hb3
       have hrow3:=hrow2.alloc (.cells #[iv mk,iv mw,iv mn,sv z1 q.frags.length u1,sv z2 q.defs.length u2] 60)
       have hg3:=block_keptP hrow3 hgr ((hb3.block _ (lt1 hg2)).trans hg2) (by decide)
       have hz3:=block_keptP hrow3 hgr ((hb3.block _ (lt1 hz2')).trans hz2') (by decide)
       obtain⟨a8,c8,rfl⟩:=own_len ho
       refine⟨a8,c8,rfl,?_,?_,hg3,hz3⟩
       ·exact hO3.setNet (fnet.take (k+1)) (eN ++ [⟨mk,mw,mn,⟨q,sv z1 q.frags.length u1,sv z2 q.defs.length u2⟩⟩]) a8 c8 (X:=w3) (by simp only[Hlk.out];exact hgr) (by rw[Hl1.out,List.flatMap_append];simpa [List.flatMap_cons,nentCells] using ho) (by rw[List.map_append,HT.out];exact congrArg (· ++ _) hO3.mapN) (fun e he=>by
         rcases List.mem_append.1 he with he | he
         ·exact hO3.ownN e he
         ·rw[List.mem_singleton.1 he];exact hP2.later hb3)
       ·exact (HB2.out.trans (hb3.mono hs2)).grown hgr (Nat.le_trans hs2 hb3.size) (fun k hk=>(hrow3.lt k hk).1)
      clear hb2 hP2 HO2 hg2 hz2' hm2 HB hz hbk hrow HB2 HO
      go_wp2_with (at_builtin;refine wpList_append_own _ rfl _ _ 27 rfl B 60 i0 (.agg #[iv 0,iv 0,iv 0,sv none 0 0,sv none 0 0]) 5 72 Tryz.underlying27 hi0 hz0 hz1 hz2 rfl (by decide) _ _ _ rfl (hrow2.alloc _) ⟨X2.heap.size,0,none⟩ 1 1 (#[iv mk,iv mw,iv mn,sv z1 q.frags.length u1,sv z2 q.defs.length u2]:Array Value).toList rfl rfl hnews (fun u hu=>by simp at hu;rcases hu with rfl | rfl | rfl | rfl | rfl <;> rfl) (by unfold maxLen;omega) (by omega) (by simp;omega) ?_;intro v' w3 hown' hgrow3 hnil3;obtain⟨a8,c8,rfl,q4,q5,q6,q7⟩:=HAp.out _ _ hgrow3 hown';refine Hid.out ?_)
      have Q4:Hid (FmR B w3 ⟨fparts,fplan,fnow,fdone,fgot,fgrants,fwork,fnet.take (k+1)⟩ ⟨yp,ypc,yl,ylc,yd,ydc,yh,yhc,yg,ygc,yk,ykc,a8,c8⟩ ⟨eP,eH,eN ++ [⟨mk,mw,mn,⟨q,sv z1 q.frags.length u1,sv z2 q.defs.length u2⟩⟩]⟩):=q4
      have Q6:Hid (w3.heap[b]?=some (.cells #[sv yp fparts.length ypc,sv yl fplan.length ylc,iv fnow,sv yd fdone.length ydc,sv yh fgot.length yhc,sv yg fgrants.length ygc,sv yk fwork.length ykc,sv (some (qa b2 off)) fnet.length xnc] 29 (0,0))∧w3.heap[b+1]?=some (.cells qz 29 (0,0))):=⟨q6,q7⟩
      clear hown' hgrow3 hnil3 hrow2 hnews k0 k1 k2 k3 k4 HAp q4 q6 q7
      refine Lib.hid ?_
      go_wp2_with fail
      go_roundw
      case rel=>exact⟨k+1,_,a8,c8,by omega,by go_num,rfl,Q4,q5,Q6.out.1,Q6.out.2⟩
      case measure=>simp[intOf];omega
     ·have hkl:k=fnet.length:=by omega
      have hO:=HO.out
      rw[hkl,List.take_length] at hO
      have hbk2:(wr.setCell (qa b 7) (sv a7 fnet.length c7)).heap[b]?=some (.cells #[sv yp fparts.length ypc,sv yl fplan.length ylc,iv fnow,sv yd fdone.length ydc,sv yh fgot.length yhc,sv yg fgrants.length ygc,sv yk fwork.length ykc,sv a7 fnet.length c7] 29 (0,0)):=setB' hbk _
      have hgr:wr.grownBy (wr.setCell (qa b 7) (sv a7 fnet.length c7)) (some b):=grown_set _ _ _ _
      have hz2:(wr.setCell (qa b 7) (sv a7 fnet.length c7)).heap[b+1]?=some (.cells qz 29 (0,0)):=(hgr.block _ (lt1 hz) (by simp)).trans hz
      have hO2:=hO.wr ⟨b,_,hbk,hgr⟩
      have HB2:Hid (Below B w (wr.setCell (qa b 7) (sv a7 fnet.length c7))):=HB.out.setCell hBb _
      have c7':=cellC hbk 7 rfl
      have kf:=frozenB hbk 7
      have kl:=lt1 hbk
      have HO3:Hid (FmR B (wr.setCell (qa b 7) (sv a7 fnet.length c7)) ⟨fparts,fplan,fnow,fdone,fgot,fgrants,fwork,fnet⟩ ⟨yp,ypc,yl,ylc,yd,ydc,yh,yhc,yg,ygc,yk,ykc,a7,c7⟩ ⟨eP,eH,eN⟩):=hO2
      clear hO HO hgr HB hrow Hlk hbk hz HRN hO2
      subst hkl
      go_upto_region 13 with fail
      clear c7' kf kl
      generalize (wr.setCell (qa b 7) (sv a7 fnet.length c7))=X at *
      obtain⟨hs1,hs2⟩:=store8 X (b+1) (sv none 0 0) (sv none 0 0) (iv 0) (sv none 0 0) (sv none 0 0) (sv none 0 0) (sv none 0 0) (sv none 0 0) (sv yp fparts.length ypc) (sv yl fplan.length ylc) (iv fnow) (sv yd fdone.length ydc) (sv yh fgot.length yhc) (sv yg fgrants.length ygc) (sv yk fwork.length ykc) (sv a7 fnet.length c7) 29 hz2
      have HRw:Hid (FmR B ((((((((X.setCell (qa (b+1) 0) (sv yp fparts.length ypc)).setCell (qa (b+1) 1) (sv yl fplan.length ylc)).setCell (qa (b+1) 2) (iv fnow)).setCell (qa (b+1) 3) (sv yd fdone.length ydc)).setCell (qa (b+1) 4) (sv yh fgot.length yhc)).setCell (qa (b+1) 5) (sv yg fgrants.length ygc)).setCell (qa (b+1) 6) (sv yk fwork.length ykc)).setCell (qa (b+1) 7) (sv a7 fnet.length c7)) ⟨fparts,fplan,fnow,fdone,fgot,fgrants,fwork,fnet⟩ ⟨yp,ypc,yl,ylc,yd,ydc,yh,yhc,yg,ygc,yk,ykc,a7,c7⟩ ⟨eP,eH,eN⟩):=HO3.out.wr ⟨b+1,_,hz2,hs2⟩
      have HBf:Hid (Below B w ((((((((X.setCell (qa (b+1) 0) (sv yp fparts.length ypc)).setCell (qa (b+1) 1) (sv yl fplan.length ylc)).setCell (qa (b+1) 2) (iv fnow)).setCell (qa (b+1) 3) (sv yd fdone.length ydc)).setCell (qa (b+1) 4) (sv yh fgot.length yhc)).setCell (qa (b+1) 5) (sv yg fgrants.length ygc)).setCell (qa (b+1) 6) (sv yk fwork.length ykc)).setCell (qa (b+1) 7) (sv a7 fnet.length c7))):=HB2.out.grown hs2 (by have:=HB2.out.size;rw[HBB.out.1];exact this) (fun k hk=>by cases hk;omega)
      obtain⟨dd0,dd1,dd2,dd3,dd4,dd5,dd6,dd7⟩:=cell8 hbk2
      obtain⟨r0,r1,r2,r3,r4,r5,r6,r7⟩:=cell8 hz2
      have rf:=frozenB hz2
      have lg2:=lt1 hbk2
      have lr2:=lt1 hz2
      clear hbk2 hz2 hs2 HO3 HB2
      go_wp2_with fail
      obtain⟨t0,t1,t2,t3,t4,t5,t6,t7⟩:=cell8 hs1
      refine bodyPost_ret (v:=.agg #[sv yp fparts.length ypc,sv yl fplan.length ylc,iv fnow,sv yd fdone.length ydc,sv yh fgot.length yhc,sv yg fgrants.length ygc,sv yk fwork.length ykc,sv a7 fnet.length c7]) (by simp[results,Tryz.results5,go_sem,t0,t1,t2,t3,t4,t5,t6,t7]) rfl ?_
      refine⟨by rw[← HBB.out.1];exact HBf.out,⟨yp,ypc,yl,ylc,yd,ydc,yh,yhc,yg,ygc,yk,ykc,a7,c7⟩,⟨eP,eH,eN⟩,rfl,?_⟩
      rw[← HBB.out.1]
      exact HRw.out
end Go.Proofs.YtebippbakbihiaaGreatDoor
