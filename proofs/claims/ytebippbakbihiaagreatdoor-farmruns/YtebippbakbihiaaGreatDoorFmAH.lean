/-
  The contracts of farm.finish and farm.happenAt. The contract of slices.Delete at messages, of one of them, in a row of one's own. The contract of farm.arrive. The contract of farm.happenTo. The contract of farm.happen.
-/
import Derived.Test.YtebippbakbihiaaGreatDoorFmMd
import Derived.Deep.DeepAppendRoom
namespace Go.Proofs.YtebippbakbihiaaGreatDoor
open Go Go.RowKit
set_option linter.unusedVariables false
attribute [local go_sem] lat_cell
theorem IntsAt.own {W:World} {B c:Nat} {a:Option Addr} {l:List Int} (h:W.ownsRow B 3 1 (sv a l.length c) l.length (l.flatMap encI)) (k:Nat) (hk:k<l.length):∃ g,a=some (qa g 0)∧W.cell? (qa g k)=some (iv (l.getD k 0))∧W.frozen? (qa g k)=false∧g<W.heap.size:=by
 obtain⟨g,rfl⟩:=own_blk h (by omega)
 obtain⟨b,off,e,h1,h2⟩:=(row_works h).cell k hk
 cases e
 rw[Nat.zero_add] at h1
 exact⟨g,rfl,h1,h.frozenAt k,h2⟩
set_option maxHeartbeats 8000000 in
set_option maxRecDepth 100000 in
theorem finish_any {B b p0:Nat} {f:M.Farm} {x:Fd} {o:Fo} (w:World) (hO:FmO B w b f x o) (hB:B≤w.heap.size) (hp0:w.heap[p0]?=some (.cells #[.pointer (some (qa b 0))] 62 (0,0))) (hok:M.FarmOk f) (wk:Nat) (hwk:wk<f.work.length) :
  Calls Tryz.prog 82 #[.pointer (some (qa b 0)),iv wk,.func (.func 80) #[] #[.pointer (some (qa p0 0))]] w fun e w'=>e=.returned (iv (M.finish f wk).2)∧Below B w w'∧KeepE w w'∧∃ x' o',FmO B w' b (M.finish f wk).1 x' o':=by
 obtain⟨g,hg,e0,fz,lg⟩:=IntsAt.own hO.rowW wk hwk
 have hwo:=hok.works _ (getD_mem f.work 0 wk hwk)
 have HFin:Hid (M.finish f wk=if f.work.getD wk 0=-1 then (f,11) else (if (M.madeP f (f.work.getD wk 0).toNat).2=true then M.send (M.idled f wk) ⟨2,wk,f.work.getD wk 0,(M.madeP f (f.work.getD wk 0).toNat).1⟩ else M.idled f wk,0)):=rfl
 generalize f.work.getD wk 0=t at *
 obtain⟨hS1,hS2,hS3⟩:=hO.setWork g wk hg hwk (-1)
 have c6:w.cell? (qa b 6)=some (sv (some (qa g 0)) f.work.length x.kc):=by rw[← hg];exact cellB hO.blk 6
 have lb:=lt1 hO.blk
 have hwI:(wk:Int)<(f.work.length:Int):=by omega
 by_cases ht:t=-1
 ·have HR:Hid (M.finish f wk=(f,11)):=by rw[Hid,HFin.out,if_pos ht]
  have htb:(t==-1)=true:=by simpa using ht
  have HO:Hid (FmO B w b f x o):=hO
  clear HFin hS1 hS2 hS3 hO hwo ht
  go_enter Tryz.func82,Tryz.ntmps82
  go_wp2_with fail
  go_ret
  exact⟨by rw[HR.out];rfl,Below.refl _ _,keepE_below (Below.refl _ _),x,o,by rw[HR.out];exact HO.out⟩
 ·have htb:(t==-1)=false:=by simpa using ht
  have hn:0≤t∧t≤(f.plan.length:Int) - 1:=by
   unfold M.workOk at hwo
   rw[htb,Bool.false_or] at hwo
   exact (M.inR_iff _ _ _).1 hwo
  obtain⟨n,rfl⟩:∃ n:Nat,t=n:=⟨t.toNat,by omega⟩
  have hnl:n<f.plan.length:=by omega
  have HFin2:Hid (M.finish f wk=(if (M.madeP f n).2=true then M.send (M.idled f wk) ⟨2,wk,n,(M.madeP f n).1⟩ else M.idled f wk,0)):=by rw[Hid,HFin.out,if_neg ht];rfl
  have hS1':FmO B (w.setCell (qa g wk) (iv (-1))) b (M.idled f wk) x o:=hS1
  have hB1:B≤(w.setCell (qa g wk) (iv (-1))).heap.size:=by simp;exact hB
  have KM:Hid (Calls Tryz.prog 120 #[.pointer (some (qa b 0)),iv n] (w.setCell (qa g wk) (iv (-1))) fun e w'=>Below (w.setCell (qa g wk) (iv (-1))).heap.size (w.setCell (qa g wk) (iv (-1))) w'∧∃ x1 y1 x2 y2,e=.returned (.tuple #[.agg #[sv x1 (M.madeP f n).1.frags.length y1,sv x2 (M.madeP f n).1.defs.length y2],.bool (M.madeP f n).2])∧POwn w' B ⟨(M.madeP f n).1,sv x1 (M.madeP f n).1.frags.length y1,sv x2 (M.madeP f n).1.defs.length y2⟩):=made_any _ hS1' hB1 (M.idled_ok hok wk) n hnl
  obtain⟨cs,hcs⟩:∃ cs,w.heap[g]?=some (.cells cs 3 (0,0)):=by
   have h:=hO.rowW
   rw[hg] at h
   rcases h.2 with ⟨h1,_⟩ | ⟨g',cap,cur,h1,hb,h2,_⟩
   ·cases h1
   ·cases h1;exact⟨cur,h2⟩
  have wr:Wr w (w.setCell (qa g wk) (iv (-1))) 3:=⟨g,cs,hcs,grown_set _ _ _ _⟩
  have hp1:=wr.block hp0 (by decide)
  have HS:Hid (FmO B (w.setCell (qa g wk) (iv (-1))) b (M.idled f wk) x o):=hS1'
  have HS2:Hid (Below B w (w.setCell (qa g wk) (iv (-1)))):=hS2
  have HS3:Hid (KeepE w (w.setCell (qa g wk) (iv (-1)))):=hS3
  have hnet:=hok.net
  have Hp1:Hid ((w.setCell (qa g wk) (iv (-1))).heap[p0]?=some (.cells #[.pointer (some (qa b 0))] 62 (0,0))):=hp1
  clear HFin hS1 hS2 hS3 hS1' hO hwo wr hcs hp0 hn hp1
  clear cs
  generalize M.madeP f n=mp at *
  obtain⟨q,okb⟩:=mp
  simp only at KM HFin2
  go_enter Tryz.func82,Tryz.ntmps82
  go_upto_region 5 with fail
  clear e0 fz c6
  generalize w.setCell (qa g wk) (iv (-1))=Y at *
  go_upto_region 6 with (go_at_call 120;refine KM.out.mono ?_;rintro e X ⟨hbX,z1,u1,z2,u2,rfl,hP⟩)
  have hAl:=(Below.refl X.heap.size X).alloc (Nat.le_refl _) (.cells #[sv z1 q.frags.length u1,sv z2 q.defs.length u2] 39)
  have h8:=heap_alloc_new X (.cells #[sv z1 q.frags.length u1,sv z2 q.defs.length u2] 39)
  have hYX:=hbX.trans (hAl.mono hbX.size)
  have hO2:=HS.out.later hYX
  have hP2:=hP.later hAl
  have hp2:=(hYX.block _ (lt1 Hp1.out)).trans Hp1.out
  have hB2:=Nat.le_trans hB1 hYX.size
  have HB2:Hid (Below B w (X.alloc (.cells #[sv z1 q.frags.length u1,sv z2 q.defs.length u2] 39))):=HS2.out.trans (hYX.mono hB1)
  have HK2:Hid (KeepE w (X.alloc (.cells #[sv z1 q.frags.length u1,sv z2 q.defs.length u2] 39))):=HS3.out.trans (keepE_below hYX)
  obtain⟨np,hnp⟩:∃ np,np=X.heap.size:=⟨_,rfl⟩
  rw[← hnp] at h8 ⊢
  clear hnp hAl hP hbX
  generalize X.alloc (.cells #[sv z1 q.frags.length u1,sv z2 q.defs.length u2] 39)=X2 at *
  have k0:=cellC h8 0 rfl
  have k1:=cellC h8 1 rfl
  have lnp:=lt1 h8
  cases okb
  ·have HR:Hid (M.finish f wk=(M.idled f wk,0)):=by rw[Hid,HFin2.out];rfl
   have HO2:Hid (FmO B X2 b (M.idled f wk) x o):=hO2
   clear HFin2 hO2 hP2 hp2 h8 hYX KM
   go_wp2_with fail
   go_ret
   exact⟨by rw[HR.out];rfl,HB2.out,HK2.out,x,o,by rw[HR.out];exact HO2.out⟩
  ·have HR:Hid (M.finish f wk=(M.send (M.idled f wk) ⟨2,wk,n,q⟩,0)):=by rw[Hid,HFin2.out];rfl
   have KS:Hid (Calls Tryz.prog 80 #[.agg #[iv 2,iv wk,iv n,sv z1 q.frags.length u1,sv z2 q.defs.length u2],.pointer (some (qa p0 0))] X2 fun e w'=>e=.returned (.tuple #[])∧Below B X2 w'∧KeepE X2 w'∧∃ x' o',FmO B w' b (M.send (M.idled f wk) ⟨2,wk,n,q⟩) x' o'):=send_any X2 hO2 hB2 hp2 hnet 2 wk n q z1 z2 u1 u2 hP2
   clear HFin2 hO2 hP2 hp2 h8 hYX KM
   go_wp2_with (go_at_call 80;refine KS.out.mono ?_;rintro e w5 ⟨rfl,j1,j2,x',o',j3⟩)
   go_ret
   exact⟨by rw[HR.out];rfl,HB2.out.trans j1,HK2.out.trans j2,x',o',by rw[HR.out];exact j3⟩
set_option maxHeartbeats 8000000 in
set_option maxRecDepth 100000 in
theorem happenAt_any {B b:Nat} {f:M.Farm} {x:Fd} {o:Fo} (w:World) (hO:FmO B w b f x o) (hB:B≤w.heap.size) (hok:M.FarmOk f) (kd wk kk:Int) :
  Calls Tryz.prog 57 #[.pointer (some (qa b 0)),.agg #[iv kd,iv wk,iv kk]] w fun e w'=>e=.returned (iv (M.happenAt f ⟨kd,wk,kk⟩).2)∧Below B w w'∧KeepE w w'∧∃ x' o',FmO B w' b (M.happenAt f ⟨kd,wk,kk⟩).1 x' o':=by
 have hA:Below w.heap.size w ((w.alloc (.cells #[.pointer (some (qa b 0))] 62)).alloc (.cells #[iv kd,iv wk,iv kk] 31)):=((Below.refl _ _).alloc (Nat.le_refl _) _).alloc (by simp) _
 have HA:Hid (Below w.heap.size w ((w.alloc (.cells #[.pointer (some (qa b 0))] 62)).alloc (.cells #[iv kd,iv wk,iv kk] 31))):=hA
 have hp:=(heap_alloc_old (w.alloc (.cells #[.pointer (some (qa b 0))] 62)) (.cells #[iv kd,iv wk,iv kk] 31) (by simp)).trans (heap_alloc_new w (.cells #[.pointer (some (qa b 0))] 62))
 have hh:=heap_alloc_new (w.alloc (.cells #[.pointer (some (qa b 0))] 62)) (.cells #[iv kd,iv wk,iv kk] 31)
 rw[show (w.alloc (.cells #[.pointer (some (qa b 0))] 62)).heap.size=w.heap.size+1 by simp] at hh
 have hO1:=hO.later hA
 have HH:Hid (M.happenAt f ⟨kd,wk,kk⟩=bif M.inR wk 0 ((f.work.length:Int) - 1) then (if kd=1 then M.give f wk else if kd=2 then M.finish f wk else (M.idled f wk,0)) else (f,5)):=rfl
 generalize M.happenAt f ⟨kd,wk,kk⟩=R at *
 have hw4:=hok.work4
 clear hO hA
 go_enter Tryz.func57,Tryz.ntmps57
 go_upto_region 1 with fail
 obtain⟨p,hpe⟩:∃ p,p=w.heap.size:=⟨_,rfl⟩
 obtain⟨q,hqe⟩:∃ q,q=w.heap.size+1:=⟨_,rfl⟩
 rw[← hqe] at hh ⊢
 rw[← hpe] at hp ⊢
 clear hpe hqe
 generalize (w.alloc (.cells #[.pointer (some (qa b 0))] 62)).alloc (.cells #[iv kd,iv wk,iv kk] 31)=Z at *
 have cp:=cellC hp 0 rfl
 have q0:=cellC hh 0 rfl
 have q1:=cellC hh 1 rfl
 have c6:Z.cell? (qa b 6)=some (sv x.k f.work.length x.kc):=cellB hO1.blk 6
 have lb:=lt1 hO1.blk
 have lp:=lt1 hp
 have lq:=lt1 hh
 have KW:Hid (∀ W,Calls Tryz.prog 33 #[sv x.k f.work.length x.kc,iv wk] W fun e w'=>e=.returned (.bool (M.inR wk 0 ((f.work.length:Int) - 1)))∧w'=W):=fun W=>standsW_any x.k f.work.length x.kc wk W (by omega)
 cases hin:M.inR wk 0 ((f.work.length:Int) - 1)
 ·rw[hin] at KW
  have HR:Hid (R=(f,5)):=by rw[Hid,HH.out,hin];rfl
  have HO1:Hid (FmO B Z b f x o):=hO1
  clear HH hO1 hp hh hin
  refine wp_region_lat (by kernel_rfl) (by kernel_rfl) ?_
  intro hne
  repeat (go_big_quiet_step ((go_at_call 33;exact lat_of_same (KW.out _))))
  refine wpQuiet_nil ?_
  intro X hX
  have hX:=lat_out hX
  go_wp2_with fail
  go_ret
  exact⟨by rw[HR.out];rfl,(HA.out.mono hB).trans (hX.mono (Nat.le_trans hB HA.out.size)),(keepE_below HA.out).trans (keepE_below hX),x,o,by rw[HR.out];exact HO1.out.later hX⟩
 ·have hin':=(M.inR_iff _ _ _).1 hin
  obtain⟨wk,rfl⟩:∃ m:Nat,wk=m:=⟨wk.toNat,by omega⟩
  have hwl:wk<f.work.length:=by omega
  rw[hin] at KW
  have HH2:Hid (R=if kd=1 then M.give f wk else if kd=2 then M.finish f wk else (M.idled f wk,0)):=by rw[Hid,HH.out,hin];rfl
  have HO1:Hid (FmO B Z b f x o):=hO1
  have Hp:Hid (Z.heap[p]?=some (.cells #[.pointer (some (qa b 0))] 62 (0,0))):=hp
  have hB1:=Nat.le_trans hB HA.out.size
  clear HH hO1 hp hh hin hin'
  refine wp_region_lat (by kernel_rfl) (by kernel_rfl) ?_
  intro hne
  repeat (go_big_quiet_step ((go_at_call 33;exact lat_of_same (KW.out _))))
  refine wpQuiet_nil ?_
  intro X hX
  have hX:=lat_out hX
  have hO2:=HO1.out.later hX
  have hp2:=(hX.block _ lp).trans Hp.out
  have hB2:=Nat.le_trans hB1 hX.size
  have HB2:Hid (Below B w X):=(HA.out.mono hB).trans (hX.mono hB1)
  have HK2:Hid (KeepE w X):=(keepE_below HA.out).trans (keepE_below hX)
  have cp':=cell_later hX cp
  have q0':=cell_later hX q0
  have q1':=cell_later hX q1
  have c6':=cell_later hX c6
  have lb':=Nat.lt_of_lt_of_le lb hX.size
  have lp':=Nat.lt_of_lt_of_le lp hX.size
  have lq':=Nat.lt_of_lt_of_le lq hX.size
  clear hne hX cp q0 q1 c6 lb lp lq KW HO1 Hp
  by_cases k1:kd=1
  ·have HR:Hid (R=M.give f wk):=by rw[Hid,HH2.out,if_pos k1]
   have k1b:(kd==1)=true:=by simpa using k1
   have KG:Hid (Calls Tryz.prog 81 #[.pointer (some (qa b 0)),iv wk,.func (.func 80) #[] #[.pointer (some (qa p 0))]] X fun e w'=>e=.returned (iv (M.give f wk).2)∧Below B X w'∧KeepE X w'∧∃ x' o',FmO B w' b (M.give f wk).1 x' o'):=give_any X hO2 hB2 hp2 hok wk
   clear HH2 hO2 hp2 k1 c6'
   go_wp2_with (go_at_call 81;refine KG.out.mono ?_;rintro e w5 ⟨rfl,j1,j2,x',o',j3⟩)
   go_ret
   exact⟨by rw[HR.out];rfl,HB2.out.trans j1,HK2.out.trans j2,x',o',by rw[HR.out];exact j3⟩
  ·have k1b:(kd==1)=false:=by simpa using k1
   by_cases k2:kd=2
   ·have HR:Hid (R=M.finish f wk):=by rw[Hid,HH2.out,if_neg k1,if_pos k2]
    have k2b:(kd==2)=true:=by simpa using k2
    have KG:Hid (Calls Tryz.prog 82 #[.pointer (some (qa b 0)),iv wk,.func (.func 80) #[] #[.pointer (some (qa p 0))]] X fun e w'=>e=.returned (iv (M.finish f wk).2)∧Below B X w'∧KeepE X w'∧∃ x' o',FmO B w' b (M.finish f wk).1 x' o'):=finish_any X hO2 hB2 hp2 hok wk hwl
    clear HH2 hO2 hp2 k1 k2 c6'
    go_wp2_with (go_at_call 82;refine KG.out.mono ?_;rintro e w5 ⟨rfl,j1,j2,x',o',j3⟩)
    go_ret
    exact⟨by rw[HR.out];rfl,HB2.out.trans j1,HK2.out.trans j2,x',o',by rw[HR.out];exact j3⟩
   ·have HR:Hid (R=(M.idled f wk,0)):=by rw[Hid,HH2.out,if_neg k1,if_neg k2]
    have k2b:(kd==2)=false:=by simpa using k2
    obtain⟨g,hg,e0,fz,lg⟩:=IntsAt.own hO2.rowW wk hwl
    rw[hg] at c6'
    have HO2:Hid (FmO B X b f x o):=hO2
    have Hfz:Hid (X.frozen? (qa g wk)=false):=fz
    have hwI:(wk:Int)<(f.work.length:Int):=by omega
    clear HH2 hO2 hp2 k1 k2 fz
    go_upto_region 9 with fail
    refine wp_region_tail 6 (by kernel_rfl) (by kernel_rfl) ?_
    intro hne
    simp only[List.take_succ_cons,List.take_zero,List.drop_succ_cons,List.drop_zero]
    repeat (go_big_quiet_step (fail))
    refine wpQuiet_nil ?_
    intro Y hY
    have hY:=lat_out hY
    have e0':=cell_later hY e0
    have fz':Y.frozen? (qa g wk)=false:=(hY.frozen (p:=⟨g,wk,none⟩) lg).trans Hfz.out
    have lgY:=Nat.lt_of_lt_of_le lg hY.size
    obtain⟨hS1,hS2,hS3⟩:=(HO2.out.later hY).setWork g wk hg hwl (-1)
    have HS:Hid (FmO B (Y.setCell (qa g wk) (iv (-1))) b (M.idled f wk) x o∧Below B w (Y.setCell (qa g wk) (iv (-1)))∧KeepE w (Y.setCell (qa g wk) (iv (-1)))):=⟨hS1,(HB2.out.trans (hY.mono hB2)).trans hS2,(HK2.out.trans (keepE_below hY)).trans hS3⟩
    clear hne hY hS1 hS2 hS3 e0 cp' q0' q1' c6'
    go_wp2_with fail
    go_ret
    exact⟨by rw[HR.out];rfl,HS.out.2.1,HS.out.2.2,x,o,by rw[HR.out];exact HS.out.1⟩
end Go.Proofs.YtebippbakbihiaaGreatDoor
namespace Go.Proofs.YtebippbakbihiaaGreatDoor
open Go Go.RowKit
set_option linter.unusedVariables false
attribute [local go_sem] lat_cell
theorem run_clear_at {P:Program} (w:World) (t e ty:TypeId) (z:Value) (ht:P.underlying t=some (.slice e)) (hv:∀ w,(zeroValue e).run P w=.ok z w) (g o n c:Nat) (hn:0<n) (cur:Array Value) (hg:w.heap[g]?=some (.cells cur e (0,0)))
  (zs:List Value) (hzs:(Builtin.zeroCells z.cells n).toList=zs) (hfit:o+zs.length≤cur.size) (h1:∀ u∈zs,u.oneCell'=true) :
  (Builtin.clear_ #[t] ty #[sv (some (qa g o)) n c]).run P w=.ok (.tuple #[]) (w.setRow g (cur.toList.take o ++ (zs ++ cur.toList.drop (o+zs.length))).toArray):=by
 have hst:=run_storeCells_at P g o e zs 0 cur w hg (by simpa using hfit) h1
 simp only[Nat.add_zero,List.append_assoc] at hst
 obtain⟨m,rfl⟩:∃ m,n=m+1:=⟨n - 1,by omega⟩
 simp[Builtin.clear_,run_underlying ht,hv,hzs,hst]
theorem wpList_clear {P:Program} {w:World} {ops:Array Oper} {rest:List Oper} {o:Oper} {a:Act} {Q:Exit→Act→World→Prop} (hgd:o.guard=none) (s:Operand) (t e:TypeId) (ho:o.op=.call { callee:=.builtin .clear,args:=#[s],argTypes:=#[t] })
  (z:Value) (ht:P.underlying t=some (.slice e)) (hv:∀ w,(zeroValue e).run P w=.ok z w) (g of n c:Nat) (hs:a.eval s=sv (some (qa g of)) n c) (hn:0<n) (cur:Array Value) (hg:w.heap[g]?=some (.cells cur e (0,0)))
  (zs:List Value) (hzs:(Builtin.zeroCells z.cells n).toList=zs) (hfit:of+zs.length≤cur.size) (h1:∀ u∈zs,u.oneCell'=true)
  (h:wpList P ops Q rest (a.put o.dst (.tuple #[])) (w.setRow g (cur.toList.take of ++ (zs ++ cur.toList.drop (of+zs.length))).toArray)):wpList P ops Q (o :: rest) a w :=
 wpList_plain hgd fun K hK=>by
  have hr:=run_clear_at (P:=P) w t e o.type z ht hv g of n c hn cur hg zs hzs hfit h1
  unfold Oper.wp execOp
  simp only[ho,resolve,invoke,builtin,Sem.run_bind,Sem.run_pure,Result.andThen_ok,List.map_toArray,List.map_cons,List.map_nil,hs,hr]
  exact hK _ _ h
def zMsg:List Value:=[iv 0,iv 0,iv 0,sv none 0 0,sv none 0 0]
theorem zMsg_eq:(Builtin.zeroCells (Value.cells (.agg #[iv 0,iv 0,iv 0,sv none 0 0,sv none 0 0])) 1).toList=zMsg:=by kernel_rfl
theorem zMsg_one:∀ u∈zMsg,u.oneCell'=true:=by
 intro u hu
 simp only[zMsg,List.mem_cons,List.not_mem_nil,or_false] at hu
 rcases hu with rfl | rfl | rfl | rfl | rfl <;> rfl
theorem erase_flat (es:List NEnt) (k:Nat):(es.take k).flatMap nentCells ++ (es.drop (k+1)).flatMap nentCells=(es.eraseIdx k).flatMap nentCells:=by
 rw[List.eraseIdx_eq_take_drop_succ,List.flatMap_append]
set_option maxHeartbeats 8000000 in
set_option maxRecDepth 100000 in
theorem delete_any {B g n cap k:Nat} {es:List NEnt} (w:World) (hr:w.ownsRow B 60 5 (sv (some (qa g 0)) n cap) n (es.flatMap nentCells)) (hl:es.length=n) (hk:k<n) (h1:∀ e∈es,e.e.vF.oneCell'=true∧e.e.vD.oneCell'=true) :
  Calls Tryz.prog 84 #[sv (some (qa g 0)) n cap,iv k,iv ((k:Int)+1)] w fun e w'=>e=.returned (sv (some (qa g 0)) (n - 1) cap)∧w.grownBy w' (some g)∧w'.ownsRow B 60 5 (sv (some (qa g 0)) (n - 1) cap) (n - 1) ((es.eraseIdx k).flatMap nentCells):=by
 obtain⟨cur,hB,hcur,hnc,hcm,hcs,hct⟩:∃ cur:Array Value,B≤g∧w.heap[g]?=some (.cells cur 60 (0,0))∧n≤cap∧cap≤maxLen∧cur.size=cap*5∧cur.toList.take (n*5)=es.flatMap nentCells:=by
  rcases hr.2 with ⟨h1,_⟩ | ⟨g',cap',cur,h1,h2,h3,h4,h5,h6,h7⟩
  ·cases h1
  ·cases h1;exact⟨cur,h2,h3,h4,h5,h6,h7⟩
 unfold maxLen at hcm
 have b1:(k:Int)+1≤(n:Int):=by omega
 have b2:(n:Int)≤(cap:Int):=by omega
 have b3:((k:Int)==(k:Int)+1)=false:=by simp;omega
 obtain⟨i0,hi0,hz0,hz1,hz2⟩:=info_parts (P:=Tryz.prog) (e:=60) (z:=.agg #[iv 0,iv 0,iv 0,sv none 0 0,sv none 0 0]) (size:=5) (bytes:=72) (by kernel_rfl)
 have lk:((es.take k).flatMap nentCells).length=k*5:=by rw[flat_len' 5 nentCells (fun _=>rfl),List.length_take,hl,Nat.min_eq_left (by omega)]
 have ld:((es.drop (k+1)).flatMap nentCells).length=(n - (k+1))*5:=by rw[flat_len' 5 nentCells (fun _=>rfl),List.length_drop,hl]
 have hsplit:es.flatMap nentCells=(es.take k).flatMap nentCells ++ ((es.drop k).flatMap nentCells):=by rw[← List.flatMap_append,List.take_append_drop]
 obtain⟨A,hA,hsrc⟩:∃ A:Addr,(if cap=k+1 then some (qa g 0) else some (qa g ((k+1)*5)))=some A∧Hid (∀ j u,((es.drop (k+1)).flatMap nentCells)[j]?=some u→w.cell? (A.add j)=some u):=by
  by_cases h:cap=k+1
  ·refine⟨⟨g,0,none⟩,by rw[if_pos h],fun j u hu=>?_⟩
   have:=(List.getElem?_eq_some_iff.1 hu).1
   rw[ld] at this
   omega
  ·refine⟨⟨g,(k+1)*5,none⟩,by rw[if_neg h],fun j u hu=>?_⟩
   have hj:=(List.getElem?_eq_some_iff.1 hu).1
   rw[ld] at hj
   rw[Addr.add_lit,hr.cellAt ((k+1)*5+j) (by omega)]
   have e1:es.flatMap nentCells=(es.take (k+1)).flatMap nentCells ++ (es.drop (k+1)).flatMap nentCells:=by rw[← List.flatMap_append,List.take_append_drop]
   have l1:((es.take (k+1)).flatMap nentCells).length=(k+1)*5:=by rw[flat_len' 5 nentCells (fun _=>rfl),List.length_take,hl,Nat.min_eq_left (by omega)]
   rw[e1,List.getElem?_append_right (by omega),l1,Nat.add_sub_cancel_left]
   exact hu
 have hrk:w.ownsRow B 60 5 (sv (some (qa g 0)) k cap) k ((es.take k).flatMap nentCells):=by
  refine⟨lk,.inr ⟨g,cap,cur,rfl,hB,hcur,by omega,by unfold maxLen;omega,hcs,?_⟩⟩
  have e1:cur.toList.take (k*5)=(cur.toList.take (n*5)).take (k*5):=by rw[List.take_take,Nat.min_eq_left (by omega)]
  rw[e1,hct,hsplit,← lk,List.take_left]
 have Hrk:Hid (∀ Y,Below w.heap.size w Y→Y.ownsRow B 60 5 (sv (some (qa g 0)) k cap) k ((es.take k).flatMap nentCells)∧(∀ j u,((es.drop (k+1)).flatMap nentCells)[j]?=some u→Y.cell? (A.add j)=some u)):=fun Y hY=>⟨hrk.kept (grown_of_below hY Option.none) own_self,fun j u hu=>cell_later hY (hsrc.out j u hu)⟩
 have Hct:Hid (cur.toList.take (n*5)=es.flatMap nentCells):=hct
 have Hld:Hid (((es.drop (k+1)).flatMap nentCells).length=(n - (k+1))*5):=ld
 have H1:Hid (∀ u∈(es.drop (k+1)).flatMap nentCells,u.oneCell'=true):=fun u hu=>by
  obtain⟨q,hq,hu⟩:=List.mem_flatMap.1 hu
  have h2:=h1 q (List.mem_of_mem_drop hq)
  simp only[nentCells,List.mem_cons,List.not_mem_nil,or_false] at hu
  rcases hu with rfl | rfl | rfl | rfl | rfl
  ·rfl
  ·rfl
  ·rfl
  ·exact h2.1
  ·exact h2.2
 clear h1
 clear hr hct hrk hsrc hsplit lk ld
 go_enter Tryz.func84,Tryz.ntmps84
 go_upto_region 5 with fail
 refine wp_region_tail 6 (by kernel_rfl) (by kernel_rfl) ?_
 intro hne
 simp only[List.take_succ_cons,List.take_zero,List.drop_succ_cons,List.drop_zero]
 repeat (go_big_quiet_step (fail))
 refine wpQuiet_nil ?_
 intro Y hY
 have hY:=lat_out hY
 obtain⟨hrY,hsY⟩:=Hrk.out Y hY
 have HgY:Hid (w.grownBy Y (some g)):=grown_of_below hY _
 have hkm:k+(n - (k+1))=n - 1:=by omega
 have hcn:¬ cap=n - 1:=by omega
 clear hY hne hA Hrk
 go_wp2_with (at_builtin;refine wpList_append_own_spare _ rfl _ _ 27 rfl B 60 i0 5 Tryz.underlying27 hi0 hz1 g k cap _ rfl hrY A (n - (k+1)) (cap - (k+1)) ((es.drop (k+1)).flatMap nentCells) rfl Hld.out hsY H1.out (by omega) ?_;intro w3 hown3 hgrow3;rw[hkm] at hown3 ⊢;refine Hid.out ?_)
 rw[erase_flat] at hown3
 obtain⟨cur3,hg3,hs3,ht3⟩:∃ cur3:Array Value,w3.heap[g]?=some (.cells cur3 60 (0,0))∧cur3.size=cap*5∧cur3.toList.take ((n - 1)*5)=(es.eraseIdx k).flatMap nentCells:=by
  rcases hown3.2 with ⟨h1,_⟩ | ⟨g',cap',cur,h1,h2,h3,h4,h5,h6,h7⟩
  ·cases h1
  ·cases h1;exact⟨cur,h3,h6,h7⟩
 have hel:=hown3.1
 have HG3:Hid (w.grownBy w3 (some g)):=grown_trans HgY.out hgrow3
 have hn1:n - (n - 1)=1:=by omega
 have hn2:((n:Int) - 1).toNat=n - 1:=by omega
 have hfit:(n - 1)*5+zMsg.length≤cur3.size:=by rw[hs3];show (n - 1)*5+5≤cap*5;omega
 have HEnd:Hid (w.grownBy (w3.setRow g (cur3.toList.take ((n - 1)*5) ++ (zMsg ++ cur3.toList.drop ((n - 1)*5+zMsg.length))).toArray) (some g)∧(w3.setRow g (cur3.toList.take ((n - 1)*5) ++ (zMsg ++ cur3.toList.drop ((n - 1)*5+zMsg.length))).toArray).ownsRow B 60 5 (sv (some (qa g 0)) (n - 1) cap) (n - 1) ((es.eraseIdx k).flatMap nentCells)):=by
  have lt3:(cur3.toList.take ((n - 1)*5)).length=(n - 1)*5:=by rw[ht3];exact hel
  have lz:zMsg.length=5:=rfl
  refine⟨grown_trans HG3.out ⟨rfl,rfl,rfl,by simp,fun i hi hne=>setRow_other _ _ _ _ (fun e=>hne (by rw[e]))⟩,hel,.inr ⟨g,cap,_,rfl,hB,setRow_heap _ _ _ _ _ _ hg3,by omega,by unfold maxLen;omega,?_,?_⟩⟩
  ·simp only[List.size_toArray,List.length_append,lt3,lz,List.length_drop,Array.length_toList]
   omega
  ·rw[List.take_append_of_le_length (by rw[lt3];exact Nat.le_refl _),List.take_of_length_le (by rw[lt3];exact Nat.le_refl _)];exact ht3
 clear hown3 hgrow3 hrY hsY hel ht3
 refine Lib.hid ?_
 go_upto_region 6 with fail
 go_wp2_with (refine wpList_clear rfl _ 27 60 rfl (.agg #[iv 0,iv 0,iv 0,sv none 0 0,sv none 0 0]) Tryz.underlying27 (fun w=>by kernel_rfl) g ((n - 1)*5) 1 (cap - (n - 1)) rfl (by decide) cur3 hg3 zMsg zMsg_eq hfit zMsg_one ?_;refine Hid.out ?_)
 generalize w3.setRow g (cur3.toList.take ((n - 1)*5) ++ (zMsg ++ cur3.toList.drop ((n - 1)*5+zMsg.length))).toArray=W9 at *
 refine Lib.hid ?_
 go_wp2_with fail
 go_ret
 exact⟨rfl,HEnd.out.1,HEnd.out.2⟩
end Go.Proofs.YtebippbakbihiaaGreatDoor
namespace Go.Proofs.YtebippbakbihiaaGreatDoor
open Go Go.RowKit
set_option linter.unusedVariables false
attribute [local go_sem] lat_cell
theorem BoolsAt.own {W:World} {B c:Nat} {a:Option Addr} {l:List Bool} (h:W.ownsRow B 4 1 (sv a l.length c) l.length (l.flatMap encB)) (k:Nat) (hk:k<l.length):∃ g,a=some (qa g 0)∧W.cell? (qa g k)=some (.bool (l.getD k false))∧W.frozen? (qa g k)=false∧g<W.heap.size:=by
 obtain⟨g,rfl⟩:=own_blk h (by omega)
 obtain⟨b,off,e,h1,h2⟩:=(row_bools h).cell k hk
 cases e
 rw[Nat.zero_add] at h1
 exact⟨g,rfl,h1,h.frozenAt k,h2⟩
theorem GrantsAt.own {W:World} {B c:Nat} {a:Option Addr} {l:List M.Grt} (h:W.ownsRow B 64 2 (sv a l.length c) l.length (l.flatMap encGrt)) (k:Nat) (hk:k<l.length):∃ g u1 u2,a=some (qa g 0)∧W.cell? (qa g (k*2))=some u1∧W.cell? (qa g (k*2+1))=some u2∧(∀ i,W.frozen? (qa g i)=false)∧g<W.heap.size:=by
 obtain⟨g,rfl⟩:=own_blk h (by omega)
 obtain⟨b,off,e,h1,h2⟩:=(row_grants h).cells k hk
 cases e
 rw[Nat.zero_add] at h1 h2
 exact⟨g,_,_,rfl,h1,h2,h.frozenAt,World.block_lt_of_cell? _ _ h1⟩
theorem gots_own {W:World} {B c n:Nat} {a:Option Addr} {es:List PEnt} (h:W.ownsRow B 39 2 (sv a n c) n (es.flatMap pentCells)) (hl:es.length=n) (k:Nat) (hk:k<n):∃ g u1 u2,a=some (qa g 0)∧W.cell? (qa g (k*2))=some u1∧W.cell? (qa g (k*2+1))=some u2∧(∀ i,W.frozen? (qa g i)=false)∧g<W.heap.size:=by
 obtain⟨g,rfl⟩:=own_blk h (by omega)
 have h1:=h.cellAt (k*2) (by omega)
 have h2:=h.cellAt (k*2+1) (by omega)
 have e0:=flat_get 2 pentCells (fun _=>rfl) es k 0 (by decide)
 have e1:=flat_get 2 pentCells (fun _=>rfl) es k 1 (by decide)
 rw[Nat.add_zero,getElem?_getD es pent0 k (by omega)] at e0
 rw[getElem?_getD es pent0 k (by omega)] at e1
 rw[e0] at h1
 rw[e1] at h2
 exact⟨g,_,_,rfl,h1,h2,h.frozenAt,World.block_lt_of_cell? _ _ h1⟩
structure ArI (B b nz:Nat) (w W:World) (f:M.Farm) (x:Fd) (o:Fo) (msg:Array Value) (e:PEnt):Prop where
 own:FmO B W b f x o
 part:POwn W B e
 msg:W.heap[nz]?=some (.cells msg 60 (0,0))
 below:Below B w W
 keep:KeepE w W
 base:B≤W.heap.size
theorem ArI.later {B b nz:Nat} {w W X:World} {f:M.Farm} {x:Fd} {o:Fo} {msg:Array Value} {e:PEnt} (h:ArI B b nz w W f x o msg e) (hb:Below W.heap.size W X):ArI B b nz w X f x o msg e :=
 ⟨h.own.later hb,h.part.later hb,(hb.block _ (lt1 h.msg)).trans h.msg,h.below.trans (hb.mono h.base),h.keep.trans (keepE_below hb),Nat.le_trans h.base hb.size⟩
theorem row_typed {W:World} {B g n c k:Nat} {e:TypeId} {xs:List Value} (h:W.ownsRow B e k (sv (some (qa g 0)) n c) n xs):∃ cs,W.heap[g]?=some (.cells cs e (0,0)):=by
 rcases h.2 with ⟨h1,_⟩ | ⟨g',cap,cur,h1,hb,h2,_⟩
 ·cases h1
 ·cases h1;exact⟨cur,h2⟩
theorem ArI.done {B b nz:Nat} {w W:World} {f:M.Farm} {x:Fd} {o:Fo} {msg:Array Value} {e:PEnt} (h:ArI B b nz w W f x o msg e) (g n:Nat) (hg:x.d=some (qa g 0)) (hn:n<f.done.length):ArI B b nz w (W.setCell (qa g n) (.bool true)) { f with done:=f.done.set n true } x o msg e:=by
 obtain⟨h1,h2,h3⟩:=h.own.setDone g n hg hn true
 have hr:=h.own.rowD
 rw[hg] at hr
 obtain⟨cs,hcs⟩:=row_typed hr
 have wr:Wr W (W.setCell (qa g n) (.bool true)) 4:=⟨g,cs,hcs,grown_set _ _ _ _⟩
 exact⟨h1,wr.pw h.part rfl,wr.block h.msg (by decide),h.below.trans h2,h.keep.trans h3,by simp;exact h.base⟩
theorem ArI.got {B b nz:Nat} {w W:World} {f:M.Farm} {x:Fd} {o:Fo} {msg:Array Value} {e:PEnt} (h:ArI B b nz w W f x o msg e) (g n:Nat) (hg:x.h=some (qa g 0)) (hn:n<f.got.length):∃ o',ArI B b nz w ((W.setCell (qa g (n*2)) e.vF).setCell (qa g (n*2+1)) e.vD) { f with got:=f.got.set n e.p } x o' msg e:=by
 obtain⟨o',h1,h2,h3⟩:=h.own.setGot g n hg hn e h.part
 have hr:=h.own.rowH
 rw[hg] at hr
 obtain⟨cs,hcs⟩:=row_typed hr
 have wr:Wr W ((W.setCell (qa g (n*2)) e.vF).setCell (qa g (n*2+1)) e.vD) 39:=⟨g,cs,hcs,grown_trans (grown_set _ _ _ _) (grown_set _ _ _ _)⟩
 exact⟨o',h1,wr.pw h.part rfl,wr.block h.msg (by decide),h.below.trans h2,h.keep.trans h3,by simp;exact h.base⟩
set_option maxHeartbeats 16000000 in
set_option maxRecDepth 100000 in
theorem arrive_any {B b:Nat} {f:M.Farm} {x:Fd} {o:Fo} (w:World) (hO:FmO B w b f x o) (hB:B≤w.heap.size) (hok:M.FarmOk f) (kd:Int) (wk n:Nat) (hwk:wk<f.work.length) (hn:n<f.plan.length) (q:M.Prt) (x1 x2:Option Addr) (y1 y2:Nat)
  (hq:POwn w B ⟨q,sv x1 q.frags.length y1,sv x2 q.defs.length y2⟩) :
  Calls Tryz.prog 85 #[.pointer (some (qa b 0)),.agg #[iv kd,iv wk,iv n,sv x1 q.frags.length y1,sv x2 q.defs.length y2]] w fun e w'=>e=.returned (.tuple #[])∧Below B w w'∧KeepE w w'∧∃ x' o',FmO B w' b (M.arriveM f ⟨kd,wk,n,q⟩) x' o':=by
 have hA:=(Below.refl w.heap.size w).alloc (Nat.le_refl _) (.cells #[iv kd,iv wk,iv n,sv x1 q.frags.length y1,sv x2 q.defs.length y2] 60)
 have HA:Hid (Below w.heap.size w (w.alloc (.cells #[iv kd,iv wk,iv n,sv x1 q.frags.length y1,sv x2 q.defs.length y2] 60))):=hA
 have h0:=heap_alloc_new w (.cells #[iv kd,iv wk,iv n,sv x1 q.frags.length y1,sv x2 q.defs.length y2] 60)
 have hO1:=hO.later hA
 have hq1:=hq.later hA
 have hB1:=Nat.le_trans hB hA.size
 have HH:Hid (M.arriveM f ⟨kd,wk,n,q⟩=if kd=1 then (if f.work.getD wk 0=-1 then { f with work:=f.work.set wk n } else f) else if kd=2 then (if f.done.getD n false=false then { f with done:=f.done.set n true,got:=f.got.set n q,grants:=f.grants.set n M.grt0 } else f) else f):=rfl
 generalize M.arriveM f ⟨kd,wk,n,q⟩=R at *
 clear hO hq hA
 go_enter Tryz.func85,Tryz.ntmps85
 go_upto_region 1 with fail
 obtain⟨nz,hnz⟩:∃ nz,nz=w.heap.size:=⟨_,rfl⟩
 rw[← hnz] at h0 ⊢
 clear hnz
 generalize w.alloc (.cells #[iv kd,iv wk,iv n,sv x1 q.frags.length y1,sv x2 q.defs.length y2] 60)=Z at *
 have m0:=cellC h0 0 rfl
 have m1:=cellC h0 1 rfl
 have m2:=cellC h0 2 rfl
 have lz:=lt1 h0
 have lb:=lt1 hO1.blk
 obtain⟨gw,hgw,ew,fw,lgw⟩:=IntsAt.own hO1.rowW wk hwk
 have hdl:=hok.done
 have hgl:=hok.got
 have hrl:=hok.grants
 obtain⟨gd,hgd,ed,fd,lgd⟩:=BoolsAt.own hO1.rowD n (by omega)
 have c6:Z.cell? (qa b 6)=some (sv (some (qa gw 0)) f.work.length x.kc):=by rw[← hgw];exact cellB hO1.blk 6
 have c3:Z.cell? (qa b 3)=some (sv (some (qa gd 0)) f.done.length x.dc):=by rw[← hgd];exact cellB hO1.blk 3
 have hwI:(wk:Int)<(f.work.length:Int):=by omega
 have hnI:(n:Int)<(f.done.length:Int):=by omega
 have HdL:Hid (f.done.length=f.plan.length∧f.got.length=f.plan.length∧f.grants.length=f.plan.length):=⟨hdl,hgl,hrl⟩
 clear hdl hgl hrl
 have HO1:Hid (FmO B Z b f x o):=hO1
 have Hq1:Hid (POwn Z B ⟨q,sv x1 q.frags.length y1,sv x2 q.defs.length y2⟩):=hq1
 have Hh0:Hid (Z.heap[nz]?=some (.cells #[iv kd,iv wk,iv n,sv x1 q.frags.length y1,sv x2 q.defs.length y2] 60 (0,0))):=h0
 have HEnd:Hid (∀ Y,Below Z.heap.size Z Y→Below B w Y∧KeepE w Y∧FmO B Y b f x o):=fun Y hY=>⟨(HA.out.mono hB).trans (hY.mono hB1),(keepE_below HA.out).trans (keepE_below hY),HO1.out.later hY⟩
 clear hO1 hq1 h0
 generalize f.work.getD wk 0=wv at *
 generalize f.done.getD n false=dv at *
 by_cases k1:kd=1
 ·have k1b:(kd==1)=true:=by simpa using k1
  have k2b:(kd==2)=false:=by simp;omega
  by_cases hwv:wv=-1
  ·have hwvb:(wv==-1)=true:=by simpa using hwv
   have HR:Hid (R={ f with work:=f.work.set wk n }):=by rw[Hid,HH.out,if_pos k1,if_pos hwv]
   clear HH k1 hwv c3 ed fd hgd
   go_quiet (fail)
   go_upto_region 2 with fail
   have hq:Below Z.heap.size Z (Z.drewN nq):=below_drewN' _ _ nq
   have HOq:Hid (FmO B (Z.drewN nq) b f x o):=HO1.out.later hq
   have HBq:Hid (Below B w (Z.drewN nq)∧KeepE w (Z.drewN nq)):=⟨(HEnd.out _ hq).1,(HEnd.out _ hq).2.1⟩
   replace m1:=cell_later hq m1
   replace m2:=cell_later hq m2
   replace c6:=cell_later hq c6
   replace ew:=cell_later hq ew
   have fw':(Z.drewN nq).frozen? (qa gw wk)=false:=(hq.frozen (p:=⟨gw,wk,none⟩) lgw).trans fw
   have hBq:=Nat.le_trans hB1 hq.size
   replace lgw:=Nat.lt_of_lt_of_le lgw hq.size
   replace lz:=Nat.lt_of_lt_of_le lz hq.size
   replace lb:=Nat.lt_of_lt_of_le lb hq.size
   clear m0 fw hq HO1 Hq1 Hh0 HEnd
   generalize Z.drewN nq=Zq at *
   refine wp_region_tail 8 (by kernel_rfl) (by kernel_rfl) ?_
   intro hne
   simp only[List.take_succ_cons,List.take_zero,List.drop_succ_cons,List.drop_zero]
   repeat (go_big_quiet_step (fail))
   refine wpQuiet_nil ?_
   intro Y hY
   have hY:=lat_out hY
   have e0':=cell_later hY ew
   have fz':Y.frozen? (qa gw wk)=false:=(hY.frozen (p:=⟨gw,wk,none⟩) lgw).trans fw'
   have lgY:=Nat.lt_of_lt_of_le lgw hY.size
   obtain⟨hS1,hS2,hS3⟩:=(HOq.out.later hY).setWork gw wk hgw hwk n
   have HS:Hid (FmO B (Y.setCell (qa gw wk) (iv n)) b { f with work:=f.work.set wk n } x o∧Below B w (Y.setCell (qa gw wk) (iv n))∧KeepE w (Y.setCell (qa gw wk) (iv n))):=⟨hS1,(HBq.out.1.trans (hY.mono hBq)).trans hS2,(HBq.out.2.trans (keepE_below hY)).trans hS3⟩
   clear hne hY hS1 hS2 hS3 ew fw' m1 m2 c6 hgw
   go_wp2_with fail
   refine bodyPost_end (v:=.tuple #[]) (by simp[results,Tryz.results85,go_sem]) rfl ?_
   exact⟨rfl,HS.out.2.1,HS.out.2.2,x,o,by rw[HR.out];exact HS.out.1⟩
  ·have hwvb:(wv==-1)=false:=by simpa using hwv
   have HR:Hid (R=f):=by rw[Hid,HH.out,if_pos k1,if_neg hwv]
   clear HH k1 hwv ed fd hgd
   go_quiet (fail)
   go_upto_region 3 with fail
   have hq:Below Z.heap.size Z (Z.drewN nq):=below_drewN' _ _ nq
   replace m0:=cell_later hq m0
   replace c3:=cell_later hq c3
   have HEq:Hid (∀ Y,Below (Z.drewN nq).heap.size (Z.drewN nq) Y→Below B w Y∧KeepE w Y∧FmO B Y b f x o):=fun Y hY=>HEnd.out Y (hq.trans (hY.mono hq.size))
   replace lz:=Nat.lt_of_lt_of_le lz hq.size
   replace lb:=Nat.lt_of_lt_of_le lb hq.size
   clear m1 m2 c6 ew fw lgw hgw HO1 Hq1 Hh0 HEnd hq
   generalize Z.drewN nq=Zq at *
   go_quiet (fail)
   have hq:Below Zq.heap.size Zq (Zq.drewN nq):=below_drewN' _ _ nq
   obtain⟨j1,j2,j3⟩:=HEq.out _ hq
   have J:Hid (Below B w (Zq.drewN nq)∧KeepE w (Zq.drewN nq)∧FmO B (Zq.drewN nq) b f x o):=⟨j1,j2,j3⟩
   clear j1 j2 j3 hq
   go_wp2_with fail
   refine bodyPost_end (v:=.tuple #[]) (by simp[results,Tryz.results85,go_sem]) rfl ?_
   exact⟨rfl,J.out.1,J.out.2.1,x,o,by rw[HR.out];exact J.out.2.2⟩
 ·have k1b:(kd==1)=false:=by simpa using k1
  clear c6 ew fw lgw hgw
  go_quiet (fail)
  go_upto_region 3 with fail
  have hq:Below Z.heap.size Z (Z.drewN nq):=below_drewN' _ _ nq
  replace m0:=cell_later hq m0
  replace m2:=cell_later hq m2
  replace c3:=cell_later hq c3
  replace ed:=cell_later hq ed
  have fd':(Z.drewN nq).frozen? (qa gd n)=false:=(hq.frozen (p:=⟨gd,n,none⟩) lgd).trans fd
  have HEq:Hid (∀ Y,Below (Z.drewN nq).heap.size (Z.drewN nq) Y→Below B w Y∧KeepE w Y∧FmO B Y b f x o):=fun Y hY=>HEnd.out Y (hq.trans (hY.mono hq.size))
  have HOq:Hid (FmO B (Z.drewN nq) b f x o):=HO1.out.later hq
  have Hqq:Hid (POwn (Z.drewN nq) B ⟨q,sv x1 q.frags.length y1,sv x2 q.defs.length y2⟩):=Hq1.out.later hq
  have Hhq:Hid ((Z.drewN nq).heap[nz]?=some (.cells #[iv kd,iv wk,iv n,sv x1 q.frags.length y1,sv x2 q.defs.length y2] 60 (0,0))):=(hq.block _ lz).trans Hh0.out
  have hBq:=Nat.le_trans hB1 hq.size
  replace lz:=Nat.lt_of_lt_of_le lz hq.size
  replace lb:=Nat.lt_of_lt_of_le lb hq.size
  replace lgd:=Nat.lt_of_lt_of_le lgd hq.size
  clear m1 fd HO1 Hq1 Hh0 HEnd hq
  generalize Z.drewN nq=Zq at *
  by_cases k2:kd=2
  ·have k2b:(kd==2)=true:=by simpa using k2
   cases dv
   ·have HR:Hid (R={ f with done:=f.done.set n true,got:=f.got.set n q,grants:=f.grants.set n M.grt0 }):=by rw[Hid,HH.out,if_neg k1,if_pos k2,if_pos rfl]
    clear HH k1 k2
    go_quiet (fail)
    go_upto_region 4 with fail
    have hq:Below Zq.heap.size Zq (Zq.drewN nq):=below_drewN' _ _ nq
    obtain⟨j1,j2,j3⟩:=HEq.out _ hq
    have HI:Hid (ArI B b nz w (Zq.drewN nq) f x o #[iv kd,iv wk,iv n,sv x1 q.frags.length y1,sv x2 q.defs.length y2] ⟨q,sv x1 q.frags.length y1,sv x2 q.defs.length y2⟩):=⟨j3,Hqq.out.later hq,(hq.block _ lz).trans Hhq.out,j1,j2,Nat.le_trans hBq hq.size⟩
    replace m2:=cell_later hq m2
    replace c3:=cell_later hq c3
    replace ed:=cell_later hq ed
    have fd2:(Zq.drewN nq).frozen? (qa gd n)=false:=(hq.frozen (p:=⟨gd,n,none⟩) lgd).trans fd'
    replace lz:=Nat.lt_of_lt_of_le lz hq.size
    replace lb:=Nat.lt_of_lt_of_le lb hq.size
    replace lgd:=Nat.lt_of_lt_of_le lgd hq.size
    clear j1 j2 j3 hq m0 fd' HEq HOq Hqq Hhq
    generalize Zq.drewN nq=Z4 at *
    refine wp_region_tail 6 (by kernel_rfl) (by kernel_rfl) ?_
    intro hne
    simp only[List.take_succ_cons,List.take_zero,List.drop_succ_cons,List.drop_zero]
    repeat (go_big_quiet_step (fail))
    refine wpQuiet_nil ?_
    intro Y hY
    have hY:=lat_out hY
    have e0':=cell_later hY ed
    have fz':Y.frozen? (qa gd n)=false:=(hY.frozen (p:=⟨gd,n,none⟩) lgd).trans fd2
    have lgY:=Nat.lt_of_lt_of_le lgd hY.size
    have HI2:Hid (ArI B b nz w (Y.setCell (qa gd n) (.bool true)) { f with done:=f.done.set n true } x o #[iv kd,iv wk,iv n,sv x1 q.frags.length y1,sv x2 q.defs.length y2] ⟨q,sv x1 q.frags.length y1,sv x2 q.defs.length y2⟩):=(HI.out.later hY).done gd n hgd (by have:=HdL.out;omega)
    clear hne hY ed fd2 m2 c3 hgd HI
    go_upto_region 5 with fail
    clear e0' fz' lgY
    generalize Y.setCell (qa gd n) (.bool true)=Z5 at *
    obtain⟨gh,t1,t2,hgh,eh0,eh1,fh,lgh⟩:=gots_own HI2.out.own.rowH (map_len HI2.out.own.mapH).symm n (by have:=HdL.out;show n<f.got.length;omega)
    have c4:Z5.cell? (qa b 4)=some (sv (some (qa gh 0)) f.got.length x.hc):=by rw[← hgh];exact cellB HI2.out.own.blk 4
    have m2:Z5.cell? (qa nz 2)=some (iv n):=cellB HI2.out.msg 2
    have m3:Z5.cell? (qa nz 3)=some (sv x1 q.frags.length y1):=cellB HI2.out.msg 3
    have m4:Z5.cell? (qa nz 4)=some (sv x2 q.defs.length y2):=cellB HI2.out.msg 4
    have lz5:=lt1 HI2.out.msg
    have lb5:=lt1 HI2.out.own.blk
    have hnG:(n:Int)<(f.got.length:Int):=by have:=HdL.out;omega
    have Hfh:Hid (∀ i,Z5.frozen? (qa gh i)=false):=fh
    clear fh
    refine wp_region_tail 8 (by kernel_rfl) (by kernel_rfl) ?_
    intro hne
    simp only[List.take_succ_cons,List.take_zero,List.drop_succ_cons,List.drop_zero]
    repeat (go_big_quiet_step (fail))
    refine wpQuiet_nil ?_
    intro Y5 hY
    have hY:=lat_out hY
    have e0':=cell_later hY eh0
    have e1':=cell_later hY eh1
    have fz':Y5.frozen? (qa gh (n*2))=false:=(hY.frozen (p:=⟨gh,n*2,none⟩) lgh).trans (Hfh.out _)
    have fz1':Y5.frozen? (qa gh (n*2+1))=false:=(hY.frozen (p:=⟨gh,n*2+1,none⟩) lgh).trans (Hfh.out _)
    have lgY:=Nat.lt_of_lt_of_le lgh hY.size
    obtain⟨o6,hI6⟩:=(HI2.out.later hY).got gh n hgh (by have:=HdL.out;show n<f.got.length;omega)
    have HI6:Hid (ArI B b nz w ((Y5.setCell (qa gh (n*2)) (sv x1 q.frags.length y1)).setCell (qa gh (n*2+1)) (sv x2 q.defs.length y2)) { f with done:=f.done.set n true,got:=f.got.set n q } x o6 #[iv kd,iv wk,iv n,sv x1 q.frags.length y1,sv x2 q.defs.length y2] ⟨q,sv x1 q.frags.length y1,sv x2 q.defs.length y2⟩):=hI6
    clear hne hY eh0 eh1 m2 m3 m4 c4 hgh HI2 hI6 Hfh
    go_upto_region 6 with fail
    clear e0' e1' fz' fz1' lgY
    generalize (Y5.setCell (qa gh (n*2)) (sv x1 q.frags.length y1)).setCell (qa gh (n*2+1)) (sv x2 q.defs.length y2)=Z6 at *
    obtain⟨gg,t3,t4,hgg,eg0,eg1,fg,lgg⟩:=GrantsAt.own HI6.out.own.rowG n (by have:=HdL.out;show n<f.grants.length;omega)
    have c5:Z6.cell? (qa b 5)=some (sv (some (qa gg 0)) f.grants.length x.gc):=by rw[← hgg];exact cellB HI6.out.own.blk 5
    have m2:Z6.cell? (qa nz 2)=some (iv n):=cellB HI6.out.msg 2
    have lz6:=lt1 HI6.out.msg
    have lb6:=lt1 HI6.out.own.blk
    have hnR:(n:Int)<(f.grants.length:Int):=by have:=HdL.out;omega
    have Hfg:Hid (∀ i,Z6.frozen? (qa gg i)=false):=fg
    clear fg
    refine wp_region_tail 7 (by kernel_rfl) (by kernel_rfl) ?_
    intro hne
    simp only[List.take_succ_cons,List.take_zero,List.drop_succ_cons,List.drop_zero]
    repeat (go_big_quiet_step (fail))
    refine wpQuiet_nil ?_
    intro Y6 hY
    have hY:=lat_out hY
    have e0':=cell_later hY eg0
    have e1':=cell_later hY eg1
    have fz':Y6.frozen? (qa gg (n*2))=false:=(hY.frozen (p:=⟨gg,n*2,none⟩) lgg).trans (Hfg.out _)
    have fz1':Y6.frozen? (qa gg (n*2+1))=false:=(hY.frozen (p:=⟨gg,n*2+1,none⟩) lgg).trans (Hfg.out _)
    have lgY:=Nat.lt_of_lt_of_le lgg hY.size
    have hI7:=HI6.out.later hY
    obtain⟨g1,g2,g3⟩:=hI7.own.setGrant gg n hgg (by have:=HdL.out;show n<f.grants.length;omega) 0 0
    have J:Hid (Below B w ((Y6.setCell (qa gg (n*2)) (iv 0)).setCell (qa gg (n*2+1)) (iv 0))∧KeepE w ((Y6.setCell (qa gg (n*2)) (iv 0)).setCell (qa gg (n*2+1)) (iv 0))∧FmO B ((Y6.setCell (qa gg (n*2)) (iv 0)).setCell (qa gg (n*2+1)) (iv 0)) b { f with done:=f.done.set n true,got:=f.got.set n q,grants:=f.grants.set n M.grt0 } x o6):=⟨hI7.below.trans g2,hI7.keep.trans g3,g1⟩
    clear hne hY eg0 eg1 m2 c5 hgg HI6 hI7 g1 g2 g3 Hfg
    go_wp2_with fail
    refine bodyPost_end (v:=.tuple #[]) (by simp[results,Tryz.results85,go_sem]) rfl ?_
    exact⟨rfl,J.out.1,J.out.2.1,x,o6,by rw[HR.out];exact J.out.2.2⟩
   ·have HR:Hid (R=f):=by rw[Hid,HH.out,if_neg k1,if_pos k2,if_neg (by decide)]
    clear HH k1 k2
    go_quiet (fail)
    have hq:Below Zq.heap.size Zq (Zq.drewN nq):=below_drewN' _ _ nq
    obtain⟨j1,j2,j3⟩:=HEq.out _ hq
    have J:Hid (Below B w (Zq.drewN nq)∧KeepE w (Zq.drewN nq)∧FmO B (Zq.drewN nq) b f x o):=⟨j1,j2,j3⟩
    clear j1 j2 j3 hq
    go_wp2_with fail
    refine bodyPost_end (v:=.tuple #[]) (by simp[results,Tryz.results85,go_sem]) rfl ?_
    exact⟨rfl,J.out.1,J.out.2.1,x,o,by rw[HR.out];exact J.out.2.2⟩
  ·have k2b:(kd==2)=false:=by simpa using k2
   have HR:Hid (R=f):=by rw[Hid,HH.out,if_neg k1,if_neg k2]
   clear HH k1 k2
   go_quiet (fail)
   have hq:Below Zq.heap.size Zq (Zq.drewN nq):=below_drewN' _ _ nq
   obtain⟨j1,j2,j3⟩:=HEq.out _ hq
   have J:Hid (Below B w (Zq.drewN nq)∧KeepE w (Zq.drewN nq)∧FmO B (Zq.drewN nq) b f x o):=⟨j1,j2,j3⟩
   clear j1 j2 j3 hq
   go_wp2_with fail
   refine bodyPost_end (v:=.tuple #[]) (by simp[results,Tryz.results85,go_sem]) rfl ?_
   exact⟨rfl,J.out.1,J.out.2.1,x,o,by rw[HR.out];exact J.out.2.2⟩
end Go.Proofs.YtebippbakbihiaaGreatDoor
namespace Go.Proofs.YtebippbakbihiaaGreatDoor
open Go Go.RowKit
set_option linter.unusedVariables false
attribute [local go_sem] lat_cell
theorem store5 (W:World) (g:Nat) (c0 c1 c2 c3 c4 a0 a1 a2 a3 a4:Value) (t:TypeId) (h:W.heap[g]?=some (.cells #[c0,c1,c2,c3,c4] t (0,0))) :
  (((((W.setCell (qa g 0) a0).setCell (qa g 1) a1).setCell (qa g 2) a2).setCell (qa g 3) a3).setCell (qa g 4) a4).heap[g]?=some (.cells #[a0,a1,a2,a3,a4] t (0,0)):=by
 have h0:(W.setCell (qa g 0) a0).heap[g]?=some (.cells #[a0,c1,c2,c3,c4] t (0,0)):=setB' h a0
 have h1:((W.setCell (qa g 0) a0).setCell (qa g 1) a1).heap[g]?=some (.cells #[a0,a1,c2,c3,c4] t (0,0)):=setB' h0 a1
 have h2:(((W.setCell (qa g 0) a0).setCell (qa g 1) a1).setCell (qa g 2) a2).heap[g]?=some (.cells #[a0,a1,a2,c3,c4] t (0,0)):=setB' h1 a2
 have h3:((((W.setCell (qa g 0) a0).setCell (qa g 1) a1).setCell (qa g 2) a2).setCell (qa g 3) a3).heap[g]?=some (.cells #[a0,a1,a2,a3,c4] t (0,0)):=setB' h2 a3
 exact setB' h3 a4
theorem FmO.msgAt {B b:Nat} {W:World} {f:M.Farm} {x:Fd} {o:Fo} (h:FmO B W b f x o) (k:Nat) (hk:k<f.net.length) :
  ∃ g en,x.n=some (qa g 0)∧en∈o.eN∧en.msg=f.net.getD k M.msg0∧W.cell? (qa g (k*5))=some (iv en.kind)∧W.cell? (qa g (k*5+1))=some (iv en.worker)∧W.cell? (qa g (k*5+2))=some (iv en.n)∧W.cell? (qa g (k*5+3))=some en.e.vF∧W.cell? (qa g (k*5+4))=some en.e.vD:=by
 have hl:=map_len h.mapN
 have hr:=h.rowN
 obtain⟨g,hg⟩:=own_blk hr (by omega)
 rw[hg] at hr
 have key:∀ i,i<5→W.cell? (qa g (k*5+i))=(nentCells (o.eN.getD k nent0))[i]?:=fun i hi=>by
  rw[hr.cellAt (k*5+i) (by omega),flat_get 5 nentCells (fun _=>rfl) o.eN k i hi,getElem?_getD o.eN nent0 k (by omega)];rfl
 exact⟨g,o.eN.getD k nent0,hg,getD_mem _ _ _ (by omega),(map_getD (a:=nent0) (b:=M.msg0) h.mapN hk).symm,key 0 (by decide),key 1 (by decide),key 2 (by decide),key 3 (by decide),key 4 (by decide)⟩
def toR (N b q nb kk:Nat) (f:M.Farm) (x:Fd) (msg:Array Value) (j:Nat) (W:World) (u:Value):Prop :=
 match j with
 | 0=>u=.pointer (some (qa b 0))
 | 1=>u=.pointer (some (qa b 0))
 | 2=>u=.pointer (some (qa b 7))
 | 3=>u=sv (some (qa nb 0)) f.net.length x.nc
 | 4=>u=.pointer (some (qa q 2))
 | 5=>u=iv (kk:Nat)
 | 6=>u=.pointer (some (qa nb (kk*5)))
 | 7=>u=.agg msg
 | 8=>∃ g,u=.pointer (some (qa g 0))∧N≤g∧W.heap[g]?=some (.cells #[iv 0,iv 0,iv 0,sv none 0 0,sv none 0 0] 60 (0,0))
 | _=>False
theorem toR_later {N b q nb kk:Nat} {f:M.Farm} {x:Fd} {msg:Array Value} {W X:World} (hbl:Below W.heap.size W X):∀ j u,toR N b q nb kk f x msg j W u→toR N b q nb kk f x msg j X u:=by
 intro j u h
 match j,h with
 | 0,h=>exact h
 | 1,h=>exact h
 | 2,h=>exact h
 | 3,h=>exact h
 | 4,h=>exact h
 | 5,h=>exact h
 | 6,h=>exact h
 | 7,h=>exact h
 | 8,h=>obtain⟨g,h1,h2,h3⟩:=h;exact⟨g,h1,h2,(hbl.block _ (lt1 h3)).trans h3⟩
theorem erase_map {α β:Type} (g:α→β) (l:List α) (k:Nat):(l.eraseIdx k).map g=(l.map g).eraseIdx k:=by
 rw[List.eraseIdx_eq_take_drop_succ,List.eraseIdx_eq_take_drop_succ,List.map_append,List.map_take,List.map_drop]
theorem FmO.other {B b g:Nat} {W X:World} {f:M.Farm} {x:Fd} {o:Fo} {cs:Array Value} (h:FmO B W b f x o) (hg:W.heap[g]?=some (.cells cs 60 (0,0))) (hgr:W.grownBy X (some g)) (hne:(sv x.n f.net.length x.nc).ownBlock≠some g):FmO B X b f x o :=
 have wr:Wr W X 60:=⟨g,cs,hg,hgr⟩
 ⟨wr.block h.blk (by decide),h.bge,wr.row h.rowP (by decide),h.mapP,wr.row h.rowL (by decide),wr.row h.rowD (by decide),wr.row h.rowH (by decide),h.mapH,wr.row h.rowG (by decide),wr.row h.rowW (by decide),h.rowN.kept hgr (.inr hne),h.mapN,
  fun e he=>wr.pw (h.ownP e he) rfl,fun e he=>wr.pw (h.ownH e he) rfl,fun e he=>wr.pw (h.ownN e he) rfl,h.apart⟩
structure ddC (B b nz N:Nat) (w:World) (f:M.Farm) (x:Fd) (msg:Array Value) (W:World):Prop where
 c7:W.cell? (qa b 7)=some (sv x.n f.net.length x.nc)
 hm:W.heap[nz]?=some (.cells msg 60 (0,0))
 base:B≤W.heap.size
 below:Below B w W
 keep:KeepE w W
 above:N≤W.heap.size
structure dlC (B b q g:Nat) (w:World) (f:M.Farm) (x:Fd) (hap msg:Array Value) (e:PEnt) (W:World):Prop where
 hq:W.heap[q]?=some (.cells hap 31 (0,0))
 c7:W.cell? (qa b 7)=some (sv x.n f.net.length x.nc)
 hm:W.heap[g]?=some (.cells msg 60 (0,0))
 part:POwn W B e
 base:B≤W.heap.size
 below:Below B w W
 keep:KeepE w W
def dlR (B b q nb kk:Nat) (f:M.Farm) (x:Fd) (j:Nat) (W:World) (u:Value):Prop :=
 match j with
 | 0=>u=.pointer (some (qa b 0))
 | 1=>u=.pointer (some (qa b 0))
 | 2=>u=.pointer (some (qa b 0))
 | 3=>u=.pointer (some (qa b 7))
 | 4=>u=sv (some (qa nb 0)) f.net.length x.nc
 | 5=>u=.pointer (some (qa q 2))
 | 6=>u=iv (kk:Nat)
 | 7=>u=.pointer (some (qa q 2))
 | 8=>u=iv (kk:Nat)
 | 9=>u=iv ((kk:Int)+1)
 | 10=>∃ x' o',u=sv (some (qa nb 0)) (f.net.length - 1) x.nc∧b<W.heap.size∧B≤b∧(∃ cs,W.heap[b]?=some (.cells cs 29 (0,0)))∧W.frozen? (qa b 7)=false∧FmO B (W.setCell (qa b 7) (sv (some (qa nb 0)) (f.net.length - 1) x.nc)) b (M.taken f kk) x' o'
 | _=>False
theorem dlR_none {B b q nb kk:Nat} {f:M.Farm} {x:Fd} {W:World} {j:Nat} {u:Value} (h:10<j) (hR:dlR B b q nb kk f x j W u):False:=by
 unfold dlR at hR
 split at hR
 all_goals first | omega | exact hR
set_option maxHeartbeats 16000000 in
set_option maxRecDepth 100000 in
theorem happenTo_any {B b:Nat} {f:M.Farm} {x:Fd} {o:Fo} (w:World) (hO:FmO B w b f x o) (hB:B≤w.heap.size) (hok:M.FarmOk f) (kd wk kk:Int) :
  Calls Tryz.prog 58 #[.pointer (some (qa b 0)),.agg #[iv kd,iv wk,iv kk]] w fun e w'=>e=.returned (iv (M.happenTo f ⟨kd,wk,kk⟩).2)∧Below B w w'∧KeepE w w'∧∃ x' o',FmO B w' b (M.happenTo f ⟨kd,wk,kk⟩).1 x' o':=by
 obtain⟨i0,hi0,hz0,hz1,hz2⟩:=info_parts (P:=Tryz.prog) (e:=60) (z:=.agg #[iv 0,iv 0,iv 0,sv none 0 0,sv none 0 0]) (size:=5) (bytes:=72) (by kernel_rfl)
 have hA:=(Below.refl w.heap.size w).alloc (Nat.le_refl _) (.cells #[iv kd,iv wk,iv kk] 31)
 have HA:Hid (Below w.heap.size w (w.alloc (.cells #[iv kd,iv wk,iv kk] 31))):=hA
 have hh:=heap_alloc_new w (.cells #[iv kd,iv wk,iv kk] 31)
 have hO1:=hO.later hA
 have HH:Hid (M.happenTo f ⟨kd,wk,kk⟩=bif M.inR kk 0 ((f.net.length:Int) - 1) then
  (if kd=5 then (if 20≤f.net.length then (f,10) else ({ f with net:=f.net ++ [f.net.getD kk.toNat M.msg0] },0))
   else if kd=3 then (M.arriveM (M.taken f kk.toNat) (f.net.getD kk.toNat M.msg0),0)
   else (M.taken f kk.toNat,0))
  else (f,5)):=rfl
 generalize M.happenTo f ⟨kd,wk,kk⟩=R at *
 have hnet:=hok.net
 clear hO hA
 go_enter Tryz.func58,Tryz.ntmps58
 go_upto_region 1 with fail
 obtain⟨q,hqe⟩:∃ q,q=w.heap.size:=⟨_,rfl⟩
 rw[← hqe] at hh ⊢
 clear hqe
 generalize w.alloc (.cells #[iv kd,iv wk,iv kk] 31)=Z at *
 have q2:=cellC hh 2 rfl
 have c7:Z.cell? (qa b 7)=some (sv x.n f.net.length x.nc):=cellB hO1.blk 7
 have lb:=lt1 hO1.blk
 have lq:=lt1 hh
 have KW:Hid (∀ W,Calls Tryz.prog 83 #[sv x.n f.net.length x.nc,iv kk] W fun e w'=>e=.returned (.bool (M.inR kk 0 ((f.net.length:Int) - 1)))∧w'=W):=fun W=>standsM_any x.n f.net.length x.nc kk W (by omega)
 have HO1:Hid (FmO B Z b f x o):=hO1
 have Hhh:Hid (Z.heap[q]?=some (.cells #[iv kd,iv wk,iv kk] 31 (0,0))):=hh
 have hB1:=Nat.le_trans hB HA.out.size
 clear hO1 hh
 cases hin:M.inR kk 0 ((f.net.length:Int) - 1)
 ·rw[hin] at KW
  have HR:Hid (R=(f,5)):=by rw[Hid,HH.out,hin];rfl
  clear HH hin
  refine wp_region_lat (by kernel_rfl) (by kernel_rfl) ?_
  intro hne
  repeat (go_big_quiet_step ((go_at_call 83;exact lat_of_same (KW.out _))))
  refine wpQuiet_nil ?_
  intro X hX
  have hX:=lat_out hX
  go_wp2_with fail
  go_ret
  exact⟨by rw[HR.out];rfl,(HA.out.mono hB).trans (hX.mono hB1),(keepE_below HA.out).trans (keepE_below hX),x,o,by rw[HR.out];exact HO1.out.later hX⟩
 ·have hin':=(M.inR_iff _ _ _).1 hin
  obtain⟨kk,rfl⟩:∃ m:Nat,kk=m:=⟨kk.toNat,by omega⟩
  have hkl:kk<f.net.length:=by omega
  rw[hin] at KW
  have HH2:Hid (R=if kd=5 then (if 20≤f.net.length then (f,10) else ({ f with net:=f.net ++ [f.net.getD kk M.msg0] },0)) else if kd=3 then (M.arriveM (M.taken f kk) (f.net.getD kk M.msg0),0) else (M.taken f kk,0)):=by rw[Hid,HH.out,hin];rfl
  clear HH hin hin'
  refine wp_region_lat (by kernel_rfl) (by kernel_rfl) ?_
  intro hne
  repeat (go_big_quiet_step ((go_at_call 83;exact lat_of_same (KW.out _))))
  refine wpQuiet_nil ?_
  intro X hX
  have hX:=lat_out hX
  have hO2:=HO1.out.later hX
  have hh2:=(hX.block _ lq).trans Hhh.out
  have hB2:=Nat.le_trans hB1 hX.size
  have HB2:Hid (Below B w X):=(HA.out.mono hB).trans (hX.mono hB1)
  have HK2:Hid (KeepE w X):=(keepE_below HA.out).trans (keepE_below hX)
  clear hne hX q2 c7 lb lq KW HO1 Hhh
  go_upto_region 3 with fail
  obtain⟨nb,en,hxn,hen,hmm,e0,e1,e2,e3,e4⟩:=hO2.msgAt kk hkl
  have hmok:=hok.nets _ (getD_mem f.net M.msg0 kk hkl)
  have hPm:=hO2.ownN en hen
  obtain⟨x1,y1,x2,y2,hv1,hv2,hF',hD'⟩:=hPm.at
  rw[← hmm] at hmok HH2
  obtain⟨mk,mw,mn,⟨qp,eF,eD⟩⟩:=en
  simp only[NEnt.msg] at e0 e1 e2 e3 e4 hPm hv1 hv2 hF' hD' hmok HH2 hmm
  subst hv1 hv2
  have Hmm:Hid (f.net.getD kk M.msg0=⟨mk,mw,mn,qp⟩):=hmm.symm
  clear hmm hen
  have c7:X.cell? (qa b 7)=some (sv (some (qa nb 0)) f.net.length x.nc):=by rw[← hxn];exact cellB hO2.blk 7
  have q2:=cellC hh2 2 rfl
  have hkI:(kk:Int)<(f.net.length:Int):=by omega
  have hstay:∀ W,Below X.heap.size X W→(W.cell? (qa b 7)=some (sv (some (qa nb 0)) f.net.length x.nc)∧W.cell? (qa q 2)=some (iv kk))∧W.cell? (qa nb (kk*5))=some (iv mk)∧W.cell? (qa nb (kk*5+1))=some (iv mw)∧W.cell? (qa nb (kk*5+2))=some (iv mn)∧W.cell? (qa nb (kk*5+3))=some (sv x1 qp.frags.length y1)∧W.cell? (qa nb (kk*5+4))=some (sv x2 qp.defs.length y2):=fun W hW=>⟨⟨cell_later hW c7,cell_later hW q2⟩,cell_later hW e0,cell_later hW e1,cell_later hW e2,cell_later hW e3,cell_later hW e4⟩
  clear e0 e1 e2 e3 e4 c7 q2 hF' hD'
  refine wp_region_rel 9 (fun _ W=>Below X.heap.size X W) (fun v=>⟨#[.pointer (some (qa b 0)),.agg #[iv kd,iv wk,iv kk],undef,.pointer (some (qa q 0)),iv 0,v 8,.pointer (some (qa b 0)),.pointer (some (qa b 0)),.pointer (some (qa b 7)),sv x.n f.net.length x.nc,.pointer (some (qa q 2)),iv kk,.bool true,.bool false,v 0,v 1,v 2,v 3,v 4,v 5,v 6,v 7,undef,undef,undef,undef,undef,undef,undef,undef,undef,undef,undef,undef,undef,undef,undef,undef,undef,undef,undef,undef,undef,undef,undef,undef,undef,undef,undef,undef,undef,undef,undef,undef,undef,undef,undef,undef,undef,undef,undef,undef,undef,undef],[]⟩) (toR X.heap.size b q nb kk f x #[iv mk,iv mw,iv mn,sv x1 qp.frags.length y1,sv x2 qp.defs.length y2]) (fun _ _ _ _=>True) (by kernel_rfl) (by kernel_rfl) (Below.refl _ _).drew ⟨fun _=>undef,rfl⟩ ?_ ?_
  ·intro j op hj ho
   rcases (by omega:j=0∨j=1∨j=2∨j=3∨j=4∨j=5∨j=6∨j=7∨j=8) with rfl | rfl | rfl | rfl | rfl | rfl | rfl | rfl | rfl
   all_goals cases ho
   all_goals refine relStep_of rfl rfl ?_
   all_goals rintro sd v W hC hin hsd hdep hdz
   all_goals obtain⟨⟨c7,q2⟩,e0,e1,e2,e3,e4⟩:=hstay W hC
   ·exact wp_val (.pointer (some (qa b 0))) (by simp[execOp,Act.eval,go_sem]) ⟨_,rfl,hC,fun _ _ _ _ h=>h,rfl,fun k hk _ hz=>⟨trivial,trivial⟩⟩
   ·have hv:v 0=.pointer (some (qa b 0)):=hdep ⟨0,.data⟩ (by simp) rfl
    exact wp_val (.pointer (some (qa b 0))) (by simp[execOp,Act.eval,go_sem,hv]) ⟨_,rfl,hC,fun _ _ _ _ h=>h,rfl,fun k hk _ hz=>⟨trivial,trivial⟩⟩
   ·have hv:v 1=.pointer (some (qa b 0)):=hdep ⟨1,.data⟩ (by simp) rfl
    exact wp_val (.pointer (some (qa b 7))) (by simp[execOp,Act.eval,go_sem,hv]) ⟨_,rfl,hC,fun _ _ _ _ h=>h,rfl,fun k hk _ hz=>⟨trivial,trivial⟩⟩
   ·have hv:v 2=.pointer (some (qa b 7)):=hdep ⟨2,.data⟩ (by simp) rfl
    exact wp_val (sv (some (qa nb 0)) f.net.length x.nc) (by simp[execOp,Act.eval,go_sem,hv,c7]) ⟨_,rfl,hC,fun _ _ _ _ h=>h,rfl,fun k hk _ hz=>⟨trivial,trivial⟩⟩
   ·exact wp_val (.pointer (some (qa q 2))) (by simp[execOp,Act.eval,go_sem]) ⟨_,rfl,hC,fun _ _ _ _ h=>h,rfl,fun k hk _ hz=>⟨trivial,trivial⟩⟩
   ·have hv:v 4=.pointer (some (qa q 2)):=hdep ⟨4,.data⟩ (by simp) rfl
    exact wp_val (iv (kk:Nat)) (by simp[execOp,Act.eval,go_sem,hv,q2]) ⟨_,rfl,hC,fun _ _ _ _ h=>h,rfl,fun k hk _ hz=>⟨trivial,trivial⟩⟩
   ·have hv:v 3=sv (some (qa nb 0)) f.net.length x.nc:=hdep ⟨3,.data⟩ (by simp) rfl
    have hv2:v 5=iv (kk:Nat):=hdep ⟨5,.data⟩ (by simp) rfl
    exact wp_val (.pointer (some (qa nb (kk*5)))) (by simp[execOp,Act.eval,go_sem,hv,hv2,hkI]) ⟨_,rfl,hC,fun _ _ _ _ h=>h,rfl,fun k hk _ hz=>⟨trivial,trivial⟩⟩
   ·have hv:v 6=.pointer (some (qa nb (kk*5))):=hdep ⟨6,.data⟩ (by simp) rfl
    exact wp_val (.agg #[iv mk,iv mw,iv mn,sv x1 qp.frags.length y1,sv x2 qp.defs.length y2]) (by simp[execOp,Act.eval,go_sem,hv,e0,e1,e2,e3,e4]) ⟨_,rfl,hC,fun _ _ _ _ h=>h,rfl,fun k hk _ hz=>⟨trivial,trivial⟩⟩
   ·have hA:=(Below.refl W.heap.size W).alloc (Nat.le_refl _) (.cells #[iv 0,iv 0,iv 0,sv none 0 0,sv none 0 0] 60)
    exact wp_valW (.pointer (some (qa W.heap.size 0))) (W.alloc (.cells #[iv 0,iv 0,iv 0,sv none 0 0,sv none 0 0] 60)) (by simp[execOp,go_sem]) ⟨_,rfl,hC.trans (hA.mono hC.size),fun k z _ _=>toR_later hA k z,⟨W.heap.size,rfl,hC.size,heap_alloc_new W _⟩,fun k hk _ hz=>⟨trivial,trivial⟩⟩
  ·rintro sd v W hC hR hZ
   have h7:v 7=.agg #[iv mk,iv mw,iv mn,sv x1 qp.frags.length y1,sv x2 qp.defs.length y2]:=hR 7 (by decide)
   obtain⟨g,h8,hNg,hg⟩:toR X.heap.size b q nb kk f x #[iv mk,iv mw,iv mn,sv x1 qp.frags.length y1,sv x2 qp.defs.length y2] 8 W (v 8):=hR 8 (by decide)
   simp only[List.drop_succ_cons,List.drop_zero]
   rw[h7,h8]
   have g0:=cellC hg 0 rfl
   have g1:=cellC hg 1 rfl
   have g2:=cellC hg 2 rfl
   have g3:=cellC hg 3 rfl
   have g4:=cellC hg 4 rfl
   have gf:=frozenB hg
   have lg:=lt1 hg
   have hX5:Below X.heap.size X (((((W.setCell (qa g 0) (iv mk)).setCell (qa g 1) (iv mw)).setCell (qa g 2) (iv mn)).setCell (qa g 3) (sv x1 qp.frags.length y1)).setCell (qa g 4) (sv x2 qp.defs.length y2)):=((((hC.setCell hNg _).setCell hNg _).setCell hNg _).setCell hNg _).setCell hNg _
   have hg5:=store5 W g (iv 0) (iv 0) (iv 0) (sv none 0 0) (sv none 0 0) (iv mk) (iv mw) (iv mn) (sv x1 qp.frags.length y1) (sv x2 qp.defs.length y2) 60 hg
   have hO5:=hO2.later hX5
   have hP5:=hPm.later hX5
   have hh5:=(hX5.block _ (lt1 hh2)).trans hh2
   have hB5:=Nat.le_trans hB2 hX5.size
   have HB5:Hid (Below B w (((((W.setCell (qa g 0) (iv mk)).setCell (qa g 1) (iv mw)).setCell (qa g 2) (iv mn)).setCell (qa g 3) (sv x1 qp.frags.length y1)).setCell (qa g 4) (sv x2 qp.defs.length y2))):=HB2.out.trans (hX5.mono hB2)
   have HK5:Hid (KeepE w (((((W.setCell (qa g 0) (iv mk)).setCell (qa g 1) (iv mw)).setCell (qa g 2) (iv mn)).setCell (qa g 3) (sv x1 qp.frags.length y1)).setCell (qa g 4) (sv x2 qp.defs.length y2))):=HK2.out.trans (keepE_below hX5)
   have hgN:(sv x.n f.net.length x.nc).ownBlock≠some g:=fun e=>by
    have:=(hO2.rowN.lt g e).2
    omega
   clear hR hZ h7 h8 hC hg hX5 hstay hO2 hPm hh2
   go_upto_region 4 with fail
   clear g0 g1 g2 g3 g4 gf lg
   generalize (((((W.setCell (qa g 0) (iv mk)).setCell (qa g 1) (iv mw)).setCell (qa g 2) (iv mn)).setCell (qa g 3) (sv x1 qp.frags.length y1)).setCell (qa g 4) (sv x2 qp.defs.length y2))=Y at *
   have q0:=cellC hh5 0 rfl
   have lq:=lt1 hh5
   have lb:=lt1 hO5.blk
   by_cases k5:kd=5
   ·have k5b:(kd==5)=true:=by simpa using k5
    have c7:Y.cell? (qa b 7)=some (sv x.n f.net.length x.nc):=cellB hO5.blk 7
    by_cases h20:20≤f.net.length
    ·have h20I:(20:Int)≤(f.net.length:Int):=by omega
     have HR:Hid (R=(f,10)):=by rw[Hid,HH2.out,if_pos k5,if_pos h20]
     have HO5:Hid (FmO B Y b f x o):=hO5
     clear HH2 hO5 hP5 hh5 hg5
     go_wp2_with fail
     go_ret
     exact⟨by rw[HR.out];rfl,HB5.out,HK5.out,x,o,by rw[HR.out];exact HO5.out⟩
    ·have h20I:¬ (20:Int)≤(f.net.length:Int):=by omega
     have HR:Hid (R=({ f with net:=f.net ++ [⟨mk,mw,mn,qp⟩] },0)):=by rw[Hid,HH2.out,if_pos k5,if_neg h20]
     have KC:Hid (Calls Tryz.prog 24 #[.agg #[sv x1 qp.frags.length y1,sv x2 qp.defs.length y2]] Y fun e X1 =>
       ∃ z1 u1 z2 u2,e=.returned (.agg #[sv z1 qp.frags.length u1,sv z2 qp.defs.length u2])∧Below Y.heap.size Y X1∧POwn X1 B ⟨qp,sv z1 qp.frags.length u1,sv z2 qp.defs.length u2⟩):=by
      obtain⟨a1,k1,a2,k2,ea,eb,hFm,hDm⟩:=hP5.at
      simp only at ea eb hFm hDm
      cases ea
      cases eb
      refine (copyPart_any qp _ _ _ _ _ hFm hDm hmok.2).mono ?_
      rintro e X1 ⟨hb1,z1,u1,z2,u2,rfl,hP⟩
      exact⟨z1,u1,z2,u2,rfl,hb1,hP.base hB5⟩
     have m3:=cellC hg5 3 rfl
     have m4:=cellC hg5 4 rfl
     have lg:=lt1 hg5
     have HO5:Hid (FmO B Y b f x o):=hO5
     have Hg5:Hid (Y.heap[g]?=some (.cells #[iv mk,iv mw,iv mn,sv x1 qp.frags.length y1,sv x2 qp.defs.length y2] 60 (0,0))):=hg5
     have hBg:B≤g:=Nat.le_trans hB2 hNg
     clear HH2 hO5 hP5 hh5 hg5 k5
     go_wp2_with (go_at_call 24;refine KC.out.mono ?_;rintro e X1 ⟨z1,u1,z2,u2,rfl,hb1,hP1⟩;refine Hid.out ?_)
     have hm1:=(hb1.block _ lg).trans Hg5.out
     have d3:=cellC hm1 3 rfl
     have d4:=cellC hm1 4 rfl
     have ff:=frozenB hm1
     have lx:=lt1 hm1
     have hgr1:X1.grownBy ((X1.setCell (qa g 3) (sv z1 qp.frags.length u1)).setCell (qa g 4) (sv z2 qp.defs.length u2)) (some g):=grown_trans (grown_set _ _ _ _) (grown_set _ _ _ _)
     have wr1:Wr X1 ((X1.setCell (qa g 3) (sv z1 qp.frags.length u1)).setCell (qa g 4) (sv z2 qp.defs.length u2)) 60:=⟨g,_,hm1,hgr1⟩
     have hP2:=wr1.pw hP1 rfl
     have hO6:=(HO5.out.later hb1).other hm1 hgr1 hgN
     have hm2:((X1.setCell (qa g 3) (sv z1 qp.frags.length u1)).setCell (qa g 4) (sv z2 qp.defs.length u2)).heap[g]?=some (.cells #[iv mk,iv mw,iv mn,sv z1 qp.frags.length u1,sv z2 qp.defs.length u2] 60 (0,0)):=setB' (setB' hm1 _) _
     have HB6:Below B w ((X1.setCell (qa g 3) (sv z1 qp.frags.length u1)).setCell (qa g 4) (sv z2 qp.defs.length u2)):=((HB5.out.trans (hb1.mono hB5)).setCell hBg _).setCell hBg _
     have HK6:KeepE w ((X1.setCell (qa g 3) (sv z1 qp.frags.length u1)).setCell (qa g 4) (sv z2 qp.defs.length u2)):=(HK5.out.trans (keepE_below hb1)).trans (wr1.keepE (by decide))
     have hB6:B≤((X1.setCell (qa g 3) (sv z1 qp.frags.length u1)).setCell (qa g 4) (sv z2 qp.defs.length u2)).heap.size:=by simp;exact Nat.le_trans hB5 hb1.size
     have hNn:∀ i,(sv x.n f.net.length x.nc).ownBlock=some i→i<((X1.setCell (qa g 3) (sv z1 qp.frags.length u1)).setCell (qa g 4) (sv z2 qp.defs.length u2)).heap.size:=fun i hi=>(hO6.rowN.lt i hi).2
     clear KC m3 m4 hb1 hP1 wr1 hgr1 hm1 HO5 Hg5
     refine Lib.hid ?_
     go_upto_region 8 with fail
     clear d3 d4 ff lx
     generalize ((X1.setCell (qa g 3) (sv z1 qp.frags.length u1)).setCell (qa g 4) (sv z2 qp.defs.length u2))=Y2 at *
     have hC0:ddC B b g Y2.heap.size w f x #[iv mk,iv mw,iv mn,sv z1 qp.frags.length u1,sv z2 qp.defs.length u2] Y2.drew:=⟨cellB hO6.blk 7,hm2,hB6,HB6.drew,HK6,Nat.le_refl _⟩
     have HO6:Hid (FmO B Y2.drew b f x o∧POwn Y2.drew B ⟨qp,sv z1 qp.frags.length u1,sv z2 qp.defs.length u2⟩):=⟨hO6.later (Below.refl _ _).drew,hP2.later (Below.refl _ _).drew⟩
     clear hO6 hP2 hm2 HB6 HK6
     refine wp_region_rel 8 (fun s W=>ddC B b g Y2.heap.size w f x #[iv mk,iv mw,iv mn,sv z1 qp.frags.length u1,sv z2 qp.defs.length u2] W∧(s.getD 7 false=false→FmO B W b f x o∧POwn W B ⟨qp,sv z1 qp.frags.length u1,sv z2 qp.defs.length u2⟩)) (fun t=>⟨#[.pointer (some (qa b 0)),.agg #[iv kd,iv wk,iv kk],undef,.pointer (some (qa q 0)),iv 0,.pointer (some (qa g 0)),.pointer (some (qa b 0)),.pointer (some (qa b 0)),.pointer (some (qa b 7)),sv (some (qa nb 0)) f.net.length x.nc,.pointer (some (qa q 2)),iv kk,.bool true,.bool false,v 0,v 1,v 2,v 3,v 4,v 5,v 6,.agg #[iv mk,iv mw,iv mn,sv x1 qp.frags.length y1,sv x2 qp.defs.length y2],.pointer (some (qa q 0)),iv kd,.bool true,.pointer (some (qa b 0)),.pointer (some (qa b 0)),.pointer (some (qa b 7)),sv (some (qa nb 0)) f.net.length x.nc,iv f.net.length,.bool false,.pointer (some (qa g 3)),.agg #[sv x1 qp.frags.length y1,sv x2 qp.defs.length y2],.agg #[sv z1 qp.frags.length u1,sv z2 qp.defs.length u2],.pointer (some (qa g 3)),t 0,t 1,t 2,t 3,t 4,t 5,t 6,t 7,undef,undef,undef,undef,undef,undef,undef,undef,undef,undef,undef,undef,undef,undef,undef,undef,undef,undef,undef,undef,undef],[]⟩) (sdR B b Y2.heap.size w f x o #[iv mk,iv mw,iv mn,sv z1 qp.frags.length u1,sv z2 qp.defs.length u2] mk mw mn qp) (fun _ _ _ _=>True) (by kernel_rfl) (by kernel_rfl) ⟨hC0,fun _=>HO6.out⟩ ⟨fun _=>undef,rfl⟩ ?_ ?_
     ·intro j op hj ho
      rcases (by omega:j=0∨j=1∨j=2∨j=3∨j=4∨j=5∨j=6∨j=7) with rfl | rfl | rfl | rfl | rfl | rfl | rfl | rfl
      all_goals cases ho
      all_goals refine relStep_of rfl rfl ?_
      all_goals rintro sd v W ⟨hC,hF⟩ hin hsd hdep hdz
      ·exact wp_val (.pointer (some (qa b 0))) (by simp[execOp,Act.eval,go_sem]) ⟨_,rfl,⟨hC,fun h=>hF (by rwa [getD_set_ne false (by decide)] at h)⟩,fun _ _ _ _ h=>h,rfl,fun k hk _ hz=>⟨trivial,trivial⟩⟩
      ·exact wp_val (.pointer (some (qa b 0))) (by simp[execOp,Act.eval,go_sem]) ⟨_,rfl,⟨hC,fun h=>hF (by rwa [getD_set_ne false (by decide)] at h)⟩,fun _ _ _ _ h=>h,rfl,fun k hk _ hz=>⟨trivial,trivial⟩⟩
      ·have hv:v 1=.pointer (some (qa b 0)):=hdep ⟨1,.data⟩ (by simp) rfl
       exact wp_val (.pointer (some (qa b 0))) (by simp[execOp,Act.eval,go_sem,hv]) ⟨_,rfl,⟨hC,fun h=>hF (by rwa [getD_set_ne false (by decide)] at h)⟩,fun _ _ _ _ h=>h,rfl,fun k hk _ hz=>⟨trivial,trivial⟩⟩
      ·have hv:v 2=.pointer (some (qa b 0)):=hdep ⟨2,.data⟩ (by simp) rfl
       exact wp_val (.pointer (some (qa b 7))) (by simp[execOp,Act.eval,go_sem,hv]) ⟨_,rfl,⟨hC,fun h=>hF (by rwa [getD_set_ne false (by decide)] at h)⟩,fun _ _ _ _ h=>h,rfl,fun k hk _ hz=>⟨trivial,trivial⟩⟩
      ·have hv:v 3=.pointer (some (qa b 7)):=hdep ⟨3,.data⟩ (by simp) rfl
       exact wp_val (sv x.n f.net.length x.nc) (by simp[execOp,Act.eval,go_sem,hv,hC.c7]) ⟨_,rfl,⟨hC,fun h=>hF (by rwa [getD_set_ne false (by decide)] at h)⟩,fun _ _ _ _ h=>h,rfl,fun k hk _ hz=>⟨trivial,trivial⟩⟩
      ·have e0:W.cell? (qa g 0)=some (iv mk):=cellB hC.hm 0
       have e1:W.cell? (qa g 1)=some (iv mw):=cellB hC.hm 1
       have e2:W.cell? (qa g 2)=some (iv mn):=cellB hC.hm 2
       have e3:W.cell? (qa g 3)=some (sv z1 qp.frags.length u1):=cellB hC.hm 3
       have e4:W.cell? (qa g 4)=some (sv z2 qp.defs.length u2):=cellB hC.hm 4
       exact wp_val (.agg #[iv mk,iv mw,iv mn,sv z1 qp.frags.length u1,sv z2 qp.defs.length u2]) (by simp[execOp,Act.eval,go_sem,e0,e1,e2,e3,e4]) ⟨_,rfl,⟨hC,fun h=>hF (by rwa [getD_set_ne false (by decide)] at h)⟩,fun _ _ _ _ h=>h,rfl,fun k hk _ hz=>⟨trivial,trivial⟩⟩
      ·have hv:v 5=.agg #[iv mk,iv mw,iv mn,sv z1 qp.frags.length u1,sv z2 qp.defs.length u2]:=hdep ⟨5,.data⟩ (by simp) rfl
       have hA:=(Below.refl W.heap.size W).alloc (Nat.le_refl _) (.cells #[iv mk,iv mw,iv mn,sv z1 qp.frags.length u1,sv z2 qp.defs.length u2] 60)
       have h7:sd.getD 7 false=false:=by
        cases h:sd.getD 7 false
        ·rfl
        ·have:=hin.closed 7 _ rfl h ⟨6,.data⟩ (by simp) rfl
         rw[getD_both hsd] at this
         cases this
       refine wp_valW (sv (some (qa W.heap.size 0)) 1 1) (W.alloc (.cells #[iv mk,iv mw,iv mn,sv z1 qp.frags.length u1,sv z2 qp.defs.length u2] 60)) (by simp[Act.eval,go_sem,hv]) ⟨_,rfl,⟨⟨cell_later hA hC.c7,(hA.block _ (lt1 hC.hm)).trans hC.hm,Nat.le_trans hC.base hA.size,hC.below.trans (hA.mono hC.base),hC.keep.trans (keepE_below hA),Nat.le_trans hC.above hA.size⟩,fun _=>⟨(hF h7).1.later hA,(hF h7).2.later hA⟩⟩,?_,⟨W.heap.size,rfl,hC.above,by simp,World.news_of_block (heap_alloc_new W _)⟩,fun k hk _ hz=>⟨trivial,trivial⟩⟩
       intro i u hi hs hR
       rcases (by omega:i=0∨i=1∨i=2∨i=3∨i=4∨i=5∨i=7∨7<i) with rfl | rfl | rfl | rfl | rfl | rfl | rfl | h8
       ·exact hR
       ·exact hR
       ·exact hR
       ·exact hR
       ·exact hR
       ·exact hR
       ·rw[h7] at hs;cases hs
       ·exact (sdR_none h8 hR).elim
      ·have hv4:v 4=sv x.n f.net.length x.nc:=hdep ⟨4,.data⟩ (by simp) rfl
       obtain⟨g2,hv6,hNg,hgW,hnews⟩:sdR B b Y2.heap.size w f x o #[iv mk,iv mw,iv mn,sv z1 qp.frags.length u1,sv z2 qp.defs.length u2] mk mw mn qp 6 W (v 6):=hdep ⟨6,.data⟩ (by simp) rfl
       obtain⟨hO,hq⟩:=hF (getD_both hsd)
       refine wp_append_own W _ _ 27 rfl B 60 i0 (.agg #[iv 0,iv 0,iv 0,sv none 0 0,sv none 0 0]) 5 72 Tryz.underlying27 hi0 hz0 hz1 hz2 rfl (by decide) _ f.net.length _ hv4 hO.rowN ⟨g2,0,none⟩ 1 1 (#[iv mk,iv mw,iv mn,sv z1 qp.frags.length u1,sv z2 qp.defs.length u2]:Array Value).toList hv6 rfl hnews (fun u hu=>by simp at hu;rcases hu with rfl | rfl | rfl | rfl | rfl <;> rfl) (by unfold maxLen;omega) (by omega) hC.base ?_
       intro v' w3 hown' hgrow3 _
       obtain⟨a8,c8,rfl,q1,q2,q3,q4,q5,q6⟩:=hO.push' hC.base mk mw mn ⟨qp,sv z1 qp.frags.length u1,sv z2 qp.defs.length u2⟩ hq v' w3 hgrow3 hown'
       have hne:∀ i,Y2.heap.size≤i→i<W.heap.size→w3.heap[i]?=W.heap[i]?:=fun i h1 h2=>hgrow3.block i h2 (fun e=>by have:=hNn i e.symm;omega)
       refine⟨_,rfl,⟨⟨q2,?_,Nat.le_trans hC.base hgrow3.size,hC.below.grown hgrow3 hC.base (fun k hk=>(hO.rowN.lt k hk).1),hC.keep.trans (row_keepE hO.rowN hgrow3 (by decide)),Nat.le_trans hC.above hgrow3.size⟩,fun h=>?_⟩,?_,⟨a8,c8,_,_,rfl,q1,q3,q4,hC.below.trans q5,hC.keep.trans q6⟩,fun k hk _ hz=>⟨trivial,trivial⟩⟩
       ·exact (hgrow3.block g (lt1 hC.hm) (fun e=>hgN e.symm)).trans hC.hm
       ·have hsz:7<sd.size:=by rw[hin.size];decide
        simp[hsz] at h
       ·intro i u hi hs hR
        rcases (by omega:i=0∨i=1∨i=2∨i=3∨i=4∨i=5∨i=6∨7<i) with rfl | rfl | rfl | rfl | rfl | rfl | rfl | h8
        ·exact hR
        ·exact hR
        ·exact hR
        ·exact hR
        ·exact hR
        ·exact hR
        ·obtain⟨g2,hg1,hg2,hg3,hg4⟩:=hR
         refine⟨g2,hg1,hg2,Nat.lt_of_lt_of_le hg3 hgrow3.size,fun j u hu=>?_⟩
         have:=hg4 j u hu
         rw[Addr.add_lit] at this ⊢
         rw[World.cell?_of_block (w:=W) (hne g2 hg2 hg3)]
         exact this
        ·exact (sdR_none h8 hR).elim
     ·rintro sd v W ⟨hC,_⟩ hR hZ
      obtain⟨a8,c8,x',o',h7,q1,q3,q4,q5,q6⟩:sdR B b Y2.heap.size w f x o #[iv mk,iv mw,iv mn,sv z1 qp.frags.length u1,sv z2 qp.defs.length u2] mk mw mn qp 7 W (v 7):=hR 7 (by decide)
      have h0:v 0=.pointer (some (qa b 0)):=hR 0 (by decide)
      have c7:=hC.c7
      simp only[List.drop_succ_cons,List.drop_zero]
      rw[h0,h7]
      have Q4:Hid (FmO B (W.setCell (qa b 7) (sv a8 (f.net.length+1) c8)) b { f with net:=f.net ++ [⟨mk,mw,mn,qp⟩] } x' o'):=q4
      have Q5:Hid (Below B w (W.setCell (qa b 7) (sv a8 (f.net.length+1) c8))):=q5
      have Q6:Hid (KeepE w (W.setCell (qa b 7) (sv a8 (f.net.length+1) c8))):=q6
      clear hR hZ hC q4 q5 q6 hC0 HO6
      go_wp2_with fail
      go_ret
      exact⟨by rw[HR.out];rfl,Q5.out,Q6.out,x',o',by rw[HR.out];exact Q4.out⟩
   ·have k5b:(kd==5)=false:=by simpa using k5
    have c7:Y.cell? (qa b 7)=some (sv x.n f.net.length x.nc):=cellB hO5.blk 7
    have hC0:dlC B b q g w f x #[iv kd,iv wk,iv kk] #[iv mk,iv mw,iv mn,sv x1 qp.frags.length y1,sv x2 qp.defs.length y2] ⟨qp,sv x1 qp.frags.length y1,sv x2 qp.defs.length y2⟩ Y.drew:=⟨hh5,c7,hg5,hP5.later (Below.refl _ _).drew,hB5,HB5.out.drew,HK5.out⟩
    have HO5:Hid (FmO B Y.drew b f x o):=hO5.later (Below.refl _ _).drew
    have HH3:Hid (R=if kd=3 then (M.arriveM (M.taken f kk) ⟨mk,mw,mn,qp⟩,0) else (M.taken f kk,0)):=by rw[Hid,HH2.out,if_neg k5]
    clear HH2 hO5 hP5 hh5 hg5 c7 k5
    have hwr:IntKind.i64.wrap ((kk:Int)+1)=(kk:Int)+1:=by rw[IntKind.wrap_i64];omega
    go_upto_region 10 with fail
    refine wp_region_rel 11 (fun s W=>dlC B b q g w f x #[iv kd,iv wk,iv kk] #[iv mk,iv mw,iv mn,sv x1 qp.frags.length y1,sv x2 qp.defs.length y2] ⟨qp,sv x1 qp.frags.length y1,sv x2 qp.defs.length y2⟩ W∧(s.getD 10 false=false→FmO B W b f x o)) (fun t=>⟨#[.pointer (some (qa b 0)),.agg #[iv kd,iv wk,iv kk],undef,.pointer (some (qa q 0)),iv 0,.pointer (some (qa g 0)),.pointer (some (qa b 0)),.pointer (some (qa b 0)),.pointer (some (qa b 7)),sv x.n f.net.length x.nc,.pointer (some (qa q 2)),iv kk,.bool true,.bool false,v 0,v 1,v 2,v 3,v 4,v 5,v 6,.agg #[iv mk,iv mw,iv mn,sv x1 qp.frags.length y1,sv x2 qp.defs.length y2],.pointer (some (qa q 0)),iv kd,.bool false,undef,undef,undef,undef,undef,undef,undef,undef,undef,undef,undef,undef,undef,undef,undef,undef,undef,undef,undef,undef,t 0,t 1,t 2,t 3,t 4,t 5,t 6,t 7,t 8,t 9,t 10,undef,undef,undef,undef,undef,undef,undef,undef],[]⟩) (dlR B b q nb kk f x) (fun _ _ _ _=>True) (by kernel_rfl) (by kernel_rfl) ⟨hC0,fun _=>HO5.out⟩ ⟨fun _=>undef,rfl⟩ ?_ ?_
    ·intro j op hj ho
     rcases (by omega:j=0∨j=1∨j=2∨j=3∨j=4∨j=5∨j=6∨j=7∨j=8∨j=9∨j=10) with rfl | rfl | rfl | rfl | rfl | rfl | rfl | rfl | rfl | rfl | rfl
     all_goals cases ho
     all_goals refine relStep_of rfl rfl ?_
     all_goals rintro sd v W ⟨hC,hF⟩ hin hsd hdep hdz
     all_goals have hc7:=hC.c7
     all_goals rw[hxn] at hc7
     all_goals have hq2:W.cell? (qa q 2)=some (iv kk):=cellB hC.hq 2
     ·exact wp_val (.pointer (some (qa b 0))) (by simp[execOp,Act.eval,go_sem]) ⟨_,rfl,⟨hC,fun h=>hF (by rwa [getD_set_ne false (by decide)] at h)⟩,fun _ _ _ _ h=>h,rfl,fun k hk _ hz=>⟨trivial,trivial⟩⟩
     ·exact wp_val (.pointer (some (qa b 0))) (by simp[execOp,Act.eval,go_sem]) ⟨_,rfl,⟨hC,fun h=>hF (by rwa [getD_set_ne false (by decide)] at h)⟩,fun _ _ _ _ h=>h,rfl,fun k hk _ hz=>⟨trivial,trivial⟩⟩
     ·have hv:v 1=.pointer (some (qa b 0)):=hdep ⟨1,.data⟩ (by simp) rfl
      exact wp_val (.pointer (some (qa b 0))) (by simp[execOp,Act.eval,go_sem,hv]) ⟨_,rfl,⟨hC,fun h=>hF (by rwa [getD_set_ne false (by decide)] at h)⟩,fun _ _ _ _ h=>h,rfl,fun k hk _ hz=>⟨trivial,trivial⟩⟩
     ·have hv:v 2=.pointer (some (qa b 0)):=hdep ⟨2,.data⟩ (by simp) rfl
      exact wp_val (.pointer (some (qa b 7))) (by simp[execOp,Act.eval,go_sem,hv]) ⟨_,rfl,⟨hC,fun h=>hF (by rwa [getD_set_ne false (by decide)] at h)⟩,fun _ _ _ _ h=>h,rfl,fun k hk _ hz=>⟨trivial,trivial⟩⟩
     ·have hv:v 3=.pointer (some (qa b 7)):=hdep ⟨3,.data⟩ (by simp) rfl
      exact wp_val (sv (some (qa nb 0)) f.net.length x.nc) (by simp[execOp,Act.eval,go_sem,hv,hc7]) ⟨_,rfl,⟨hC,fun h=>hF (by rwa [getD_set_ne false (by decide)] at h)⟩,fun _ _ _ _ h=>h,rfl,fun k hk _ hz=>⟨trivial,trivial⟩⟩
     ·exact wp_val (.pointer (some (qa q 2))) (by simp[execOp,Act.eval,go_sem]) ⟨_,rfl,⟨hC,fun h=>hF (by rwa [getD_set_ne false (by decide)] at h)⟩,fun _ _ _ _ h=>h,rfl,fun k hk _ hz=>⟨trivial,trivial⟩⟩
     ·have hv:v 5=.pointer (some (qa q 2)):=hdep ⟨5,.data⟩ (by simp) rfl
      exact wp_val (iv (kk:Nat)) (by simp[execOp,Act.eval,go_sem,hv,hq2]) ⟨_,rfl,⟨hC,fun h=>hF (by rwa [getD_set_ne false (by decide)] at h)⟩,fun _ _ _ _ h=>h,rfl,fun k hk _ hz=>⟨trivial,trivial⟩⟩
     ·exact wp_val (.pointer (some (qa q 2))) (by simp[execOp,Act.eval,go_sem]) ⟨_,rfl,⟨hC,fun h=>hF (by rwa [getD_set_ne false (by decide)] at h)⟩,fun _ _ _ _ h=>h,rfl,fun k hk _ hz=>⟨trivial,trivial⟩⟩
     ·have hv:v 7=.pointer (some (qa q 2)):=hdep ⟨7,.data⟩ (by simp) rfl
      exact wp_val (iv (kk:Nat)) (by simp[execOp,Act.eval,go_sem,hv,hq2]) ⟨_,rfl,⟨hC,fun h=>hF (by rwa [getD_set_ne false (by decide)] at h)⟩,fun _ _ _ _ h=>h,rfl,fun k hk _ hz=>⟨trivial,trivial⟩⟩
     ·have hv:v 8=iv (kk:Nat):=hdep ⟨8,.data⟩ (by simp) rfl
      exact wp_val (iv ((kk:Int)+1)) (by simp[execOp,Act.eval,go_sem,hv,hwr]) ⟨_,rfl,⟨hC,fun h=>hF (by rwa [getD_set_ne false (by decide)] at h)⟩,fun _ _ _ _ h=>h,rfl,fun k hk _ hz=>⟨trivial,trivial⟩⟩
     ·have hv4:v 4=sv (some (qa nb 0)) f.net.length x.nc:=hdep ⟨4,.data⟩ (by simp) rfl
      have hv6:v 6=iv (kk:Nat):=hdep ⟨6,.data⟩ (by simp) rfl
      have hv9:v 9=iv ((kk:Int)+1):=hdep ⟨9,.data⟩ (by simp) rfl
      have hO:=hF (getD_both hsd)
      have hr:=hO.rowN
      rw[hxn] at hr
      have hle:=map_len hO.mapN
      refine wp_enter 84 #[sv (some (qa nb 0)) f.net.length x.nc,iv kk,iv ((kk:Int)+1)] (by simp[Act.eval,go_sem,hv4,hv6,hv9]) ?_
      refine (delete_any W hr hle.symm hkl (fun e he=>by
       obtain⟨a1,k1,a2,k2,e1,e2,_,_⟩:=(hO.ownN e he).at
       rw[e1,e2];exact⟨rfl,rfl⟩)).mono ?_
      rintro e W2 ⟨rfl,hgr,hr2⟩
      have hgr':W.grownBy W2 (sv x.n f.net.length x.nc).ownBlock:=by rw[hxn];exact hgr
      have hb2:=block_keptP hO.rowN hgr' hO.blk (by decide)
      have hmsl:(f.net.eraseIdx kk).length=f.net.length - 1:=by rw[List.length_eraseIdx];simp[hkl]
      have hS:=hO.setNet (f.net.eraseIdx kk) (o.eN.eraseIdx kk) (some (qa nb 0)) x.nc (X:=W2) hgr' (by rw[hmsl];exact hr2) (by rw[← hO.mapN];exact erase_map _ _ _) (fun e he=>hO.ownN e (List.mem_of_mem_eraseIdx he))
      rw[hmsl] at hS
      have hkp:∀ (e:PEnt),POwn W B e→POwn W2 B e:=fun e ⟨en,hP,hm⟩=>⟨en,⟨hP.rowF.kept hgr' (own_apart hP.rowF hO.rowN (by decide)),hP.rowD.kept hgr' (own_apart hP.rowD hO.rowN (by decide)),fun e he=>(hP.bytes e he).kept hgr' (own_apart (hP.bytes e he) hO.rowN (by decide)),hP.small,hP.smallD,fun e he=>(hP.rels e he).kept hgr' (own_apart (hP.rels e he) hO.rowN (by decide))⟩,hm⟩
      refine⟨_,rfl,_,rfl,⟨⟨block_keptP hO.rowN hgr' hC.hq (by decide),cellB hb2 7,(hgr'.block g (lt1 hC.hm) (fun e=>hgN e.symm)).trans hC.hm,hkp _ hC.part,Nat.le_trans hC.base hgr.size,hC.below.grown hgr' hC.base (fun k hk=>(hO.rowN.lt k hk).1),hC.keep.trans (row_keepE hO.rowN hgr' (by decide))⟩,fun h=>?_⟩,?_,⟨_,_,rfl,(lt1 hb2),hO.bge,⟨_,hb2⟩,frozenB hb2 7,hS⟩,fun k hk _ hz=>⟨trivial,trivial⟩⟩
      ·have hsz:10<sd.size:=by rw[hin.size];decide
       simp[hsz] at h
      ·intro i u hi hs hR
       rcases (by omega:i=0∨i=1∨i=2∨i=3∨i=4∨i=5∨i=6∨i=7∨i=8∨i=9∨10<i) with rfl | rfl | rfl | rfl | rfl | rfl | rfl | rfl | rfl | rfl | h8
       ·exact hR
       ·exact hR
       ·exact hR
       ·exact hR
       ·exact hR
       ·exact hR
       ·exact hR
       ·exact hR
       ·exact hR
       ·exact hR
       ·exact (dlR_none h8 hR).elim
    ·rintro sd v W ⟨hC,_⟩ hR hZ
     have h0:v 0=.pointer (some (qa b 0)):=hR 0 (by decide)
     obtain⟨x',o',h10,lb',hbb,⟨cs,hcs⟩,fz,hO9⟩:dlR B b q nb kk f x 10 W (v 10):=hR 10 (by decide)
     have c7:=hC.c7
     have wrF:Wr W (W.setCell (qa b 7) (sv (some (qa nb 0)) (f.net.length - 1) x.nc)) 29:=⟨b,cs,hcs,grown_set _ _ _ _⟩
     have hP9:=wrF.pw hC.part rfl
     have hq9:=wrF.block hC.hq (by decide)
     have hg9:=wrF.block hC.hm (by decide)
     have HB9:Hid (Below B w (W.setCell (qa b 7) (sv (some (qa nb 0)) (f.net.length - 1) x.nc))):=hC.below.setCell hbb _
     have HK9:Hid (KeepE w (W.setCell (qa b 7) (sv (some (qa nb 0)) (f.net.length - 1) x.nc))):=hC.keep.trans (wrF.keepE (by decide))
     have hB9:B≤(W.setCell (qa b 7) (sv (some (qa nb 0)) (f.net.length - 1) x.nc)).heap.size:=by simp;exact hC.base
     simp only[List.drop_succ_cons,List.drop_zero]
     rw[h0,h10]
     clear hR hZ h0 h10 hC hcs wrF hC0 HO5
     go_upto_region 11 with fail
     clear c7 fz lb'
     generalize W.setCell (qa b 7) (sv (some (qa nb 0)) (f.net.length - 1) x.nc)=Y9 at *
     have q0':=cellC hq9 0 rfl
     have lq':=lt1 hq9
     by_cases k3:kd=3
     ·have k3b:(kd==3)=true:=by simpa using k3
      have HR:Hid (R=(M.arriveM (M.taken f kk) ⟨mk,mw,mn,qp⟩,0)):=by rw[Hid,HH3.out,if_pos k3]
      have m0:=cellC hg9 0 rfl
      have m1:=cellC hg9 1 rfl
      have m2:=cellC hg9 2 rfl
      have m3:=cellC hg9 3 rfl
      have m4:=cellC hg9 4 rfl
      have lg9:=lt1 hg9
      have hmo:=hmok.1
      unfold M.msgOk at hmo
      simp only[Bool.and_eq_true,M.inR_iff] at hmo
      obtain⟨mw,rfl⟩:∃ m:Nat,mw=m:=⟨mw.toNat,by omega⟩
      obtain⟨mn,rfl⟩:∃ m:Nat,mn=m:=⟨mn.toNat,by omega⟩
      have KA:Hid (Calls Tryz.prog 85 #[.pointer (some (qa b 0)),.agg #[iv mk,iv mw,iv mn,sv x1 qp.frags.length y1,sv x2 qp.defs.length y2]] Y9 fun e w'=>e=.returned (.tuple #[])∧Below B Y9 w'∧KeepE Y9 w'∧∃ x' o',FmO B w' b (M.arriveM (M.taken f kk) ⟨mk,mw,mn,qp⟩) x' o'):=arrive_any Y9 hO9 hB9 (M.taken_ok hok kk) mk mw mn (by show mw<f.work.length;omega) (by show mn<f.plan.length;omega) qp x1 x2 y1 y2 hP9
      clear HH3 hO9 hP9 hq9 hg9 hmo k3
      go_wp2_with (go_at_call 85;refine KA.out.mono ?_;rintro e w5 ⟨rfl,j1,j2,x9,o9,j3⟩)
      go_ret
      exact⟨by rw[HR.out];rfl,HB9.out.trans j1,HK9.out.trans j2,x9,o9,by rw[HR.out];exact j3⟩
     ·have k3b:(kd==3)=false:=by simpa using k3
      have HR:Hid (R=(M.taken f kk,0)):=by rw[Hid,HH3.out,if_neg k3]
      have HO9:Hid (FmO B Y9 b (M.taken f kk) x' o'):=hO9
      clear HH3 hO9 hP9 hq9 hg9 k3
      go_wp2_with fail
      go_ret
      exact⟨by rw[HR.out];rfl,HB9.out,HK9.out,x',o',by rw[HR.out];exact HO9.out⟩
end Go.Proofs.YtebippbakbihiaaGreatDoor
namespace Go.Proofs.YtebippbakbihiaaGreatDoor
open Go Go.RowKit
set_option linter.unusedVariables false
theorem zeroGrants (n:Nat):(Builtin.zeroCells (Value.cells (.agg #[iv 0,iv 0])) n).toList=(List.replicate n M.grt0).flatMap encGrt:=by
 have hl:=flat_len' 2 encGrt (fun _=>rfl) (List.replicate n M.grt0)
 rw[List.length_replicate] at hl
 apply List.ext_getElem
 ·rw[hl];simp[Builtin.zeroCells,Value.cells]
 ·intro i h1 h2
  rw[hl] at h2
  have e:i=i / 2*2+i % 2:=by omega
  have h3:=flat_cell 2 encGrt (fun _=>rfl) M.grt0 (List.replicate n M.grt0) (i / 2) (i % 2) (by rw[List.length_replicate];omega) (by omega)
  rw[← e] at h3
  have h4:(List.replicate n M.grt0).getD (i / 2) M.grt0=M.grt0:=by rw[List.getD_eq_getElem?_getD,List.getElem?_replicate];split <;> rfl
  rw[h4] at h3
  have h5:=List.getElem?_eq_some_iff.1 h3
  obtain⟨_,h5⟩:=h5
  rw[h5]
  rcases (by omega:i % 2=0∨i % 2=1) with h | h
  ·simp[Builtin.zeroCells,Value.cells,h,encGrt,M.grt0]
  ·simp[Builtin.zeroCells,Value.cells,h,encGrt,M.grt0]
theorem FmO.clearG {B b:Nat} {W:World} {f:M.Farm} {x:Fd} {o:Fo} (h:FmO B W b f x o) (g:Nat) (hg:x.g=some (qa g 0)) (cur:Array Value) (hcur:W.heap[g]?=some (.cells cur 64 (0,0))) (hfit:f.grants.length*2≤cur.size) (zs:List Value) (hzs:zs=(List.replicate f.grants.length M.grt0).flatMap encGrt) :
  FmO B (W.setRow g (cur.toList.take 0 ++ (zs ++ cur.toList.drop (0+zs.length))).toArray) b { f with grants:=List.replicate f.grants.length M.grt0 } x o∧Below B W (W.setRow g (cur.toList.take 0 ++ (zs ++ cur.toList.drop (0+zs.length))).toArray)∧KeepE W (W.setRow g (cur.toList.take 0 ++ (zs ++ cur.toList.drop (0+zs.length))).toArray):=by
 have hl:zs.length=f.grants.length*2:=by rw[hzs,flat_len' 2 encGrt (fun _=>rfl),List.length_replicate]
 have hr:=h.rowG
 rw[hg] at hr
 obtain⟨hge,hle,hcm,hcs⟩:B≤g∧f.grants.length≤x.gc∧x.gc≤maxLen∧cur.size=x.gc*2:=by
  rcases hr.2 with ⟨h1,_⟩ | ⟨g',cap,cur',h1,h2,h3,h4,h5,h6,_⟩
  ·cases h1
  ·cases h1
   rw[hcur] at h3
   cases h3
   exact⟨h2,h4,h5,h6⟩
 have hgr:W.grownBy (W.setRow g (cur.toList.take 0 ++ (zs ++ cur.toList.drop (0+zs.length))).toArray) (some g):=⟨rfl,rfl,rfl,by simp,fun i hi hne=>setRow_other _ _ _ _ (fun e=>hne (by rw[e]))⟩
 have wr:Wr W (W.setRow g (cur.toList.take 0 ++ (zs ++ cur.toList.drop (0+zs.length))).toArray) 64:=⟨g,cur,hcur,hgr⟩
 refine⟨h.setGrants _ (by simp) wr ?_,(Below.refl _ _).grown hgr ?_ (fun k hk=>by cases hk;exact hge),wr.keepE (by decide)⟩
 ·rw[hg]
  refine⟨by rw[flat_len' 2 encGrt (fun _=>rfl),List.length_replicate],.inr ⟨g,x.gc,_,rfl,hge,setRow_heap _ _ _ _ _ _ hcur,hle,hcm,?_,?_⟩⟩
  ·simp only[List.size_toArray,List.take_zero,List.nil_append,List.length_append,List.length_drop,Array.length_toList,hl]
   omega
  ·rw[List.take_zero,List.nil_append,← hl,List.take_left,hzs]
 ·exact Nat.le_trans hge (Nat.le_of_lt (lt1 hcur))
set_option maxHeartbeats 16000000 in
set_option maxRecDepth 100000 in
theorem happen_any {B b:Nat} {f:M.Farm} {x:Fd} {o:Fo} (w:World) (hO:FmO B w b f x o) (hB:B≤w.heap.size) (hok:M.FarmOk f) (kd wk kk:Int) :
  Calls Tryz.prog 23 #[.pointer (some (qa b 0)),.agg #[iv kd,iv wk,iv kk]] w fun e w'=>e=.returned (iv (M.happen f ⟨kd,wk,kk⟩).2)∧Below B w w'∧KeepE w w'∧∃ x' o',FmO B w' b (M.happen f ⟨kd,wk,kk⟩).1 x' o':=by
 have hA:=(Below.refl w.heap.size w).alloc (Nat.le_refl _) (.cells #[iv kd,iv wk,iv kk] 31)
 have HB1:Hid (Below B w (w.alloc (.cells #[iv kd,iv wk,iv kk] 31))∧KeepE w (w.alloc (.cells #[iv kd,iv wk,iv kk] 31))):=⟨hA.mono hB,keepE_below hA⟩
 have hh:=heap_alloc_new w (.cells #[iv kd,iv wk,iv kk] 31)
 have hO1:=hO.later hA
 have hB1:=Nat.le_trans hB hA.size
 have HH:Hid (M.happen f ⟨kd,wk,kk⟩=if kd=1∨kd=2∨kd=7 then M.happenAt f ⟨kd,wk,kk⟩ else if kd=3∨kd=4∨kd=5 then M.happenTo f ⟨kd,wk,kk⟩ else if kd=6 then (if f.now=65536 then (f,10) else ({ f with now:=f.now+1 },0)) else if kd=8 then ({ f with grants:=List.replicate f.grants.length M.grt0 },0) else (f,4)):=rfl
 generalize M.happen f ⟨kd,wk,kk⟩=R at *
 clear hO hA
 go_enter Tryz.func23,Tryz.ntmps23
 go_upto_region 1 with fail
 obtain⟨q,hqe⟩:∃ q,q=w.heap.size:=⟨_,rfl⟩
 rw[← hqe] at hh ⊢
 clear hqe
 generalize w.alloc (.cells #[iv kd,iv wk,iv kk] 31)=Z at *
 have q0:=cellC hh 0 rfl
 have q1:=cellC hh 1 rfl
 have q2:=cellC hh 2 rfl
 have lq:=lt1 hh
 have lb:=lt1 hO1.blk
 have hd:kd=1∨kd=2∨kd=7∨¬ (kd=1∨kd=2∨kd=7):=by omega
 have KA:Hid (Calls Tryz.prog 57 #[.pointer (some (qa b 0)),.agg #[iv kd,iv wk,iv kk]] Z fun e w'=>e=.returned (iv (M.happenAt f ⟨kd,wk,kk⟩).2)∧Below B Z w'∧KeepE Z w'∧∃ x' o',FmO B w' b (M.happenAt f ⟨kd,wk,kk⟩).1 x' o'):=happenAt_any Z hO1 hB1 hok kd wk kk
 have KT:Hid (Calls Tryz.prog 58 #[.pointer (some (qa b 0)),.agg #[iv kd,iv wk,iv kk]] Z fun e w'=>e=.returned (iv (M.happenTo f ⟨kd,wk,kk⟩).2)∧Below B Z w'∧KeepE Z w'∧∃ x' o',FmO B w' b (M.happenTo f ⟨kd,wk,kk⟩).1 x' o'):=happenTo_any Z hO1 hB1 hok kd wk kk
 have HO1:Hid (FmO B Z b f x o):=hO1
 clear hh hO1
 rcases hd with hk | hk | hk | hk
 ·have HR:Hid (R=M.happenAt f ⟨kd,wk,kk⟩):=by rw[Hid,HH.out,if_pos (.inl hk)]
  have b1:(kd==1)=true:=by simpa using hk
  clear HH KT hk
  generalize M.happenAt f ⟨kd,wk,kk⟩=R2 at *
  go_wp2_with (go_at_call 57;refine KA.out.mono ?_;rintro e w5 ⟨rfl,j1,j2,x',o',j3⟩)
  go_ret
  exact⟨by rw[HR.out];rfl,HB1.out.1.trans j1,HB1.out.2.trans j2,x',o',by rw[HR.out];exact j3⟩
 ·have HR:Hid (R=M.happenAt f ⟨kd,wk,kk⟩):=by rw[Hid,HH.out,if_pos (.inr (.inl hk))]
  have b1:(kd==1)=false:=by simp;omega
  have b2:(kd==2)=true:=by simpa using hk
  clear HH KT hk
  generalize M.happenAt f ⟨kd,wk,kk⟩=R2 at *
  go_wp2_with (go_at_call 57;refine KA.out.mono ?_;rintro e w5 ⟨rfl,j1,j2,x',o',j3⟩)
  go_ret
  exact⟨by rw[HR.out];rfl,HB1.out.1.trans j1,HB1.out.2.trans j2,x',o',by rw[HR.out];exact j3⟩
 ·have HR:Hid (R=M.happenAt f ⟨kd,wk,kk⟩):=by rw[Hid,HH.out,if_pos (.inr (.inr hk))]
  have b1:(kd==1)=false:=by simp;omega
  have b2:(kd==2)=false:=by simp;omega
  have b7:(kd==7)=true:=by simpa using hk
  clear HH KT hk
  generalize M.happenAt f ⟨kd,wk,kk⟩=R2 at *
  go_wp2_with (go_at_call 57;refine KA.out.mono ?_;rintro e w5 ⟨rfl,j1,j2,x',o',j3⟩)
  go_ret
  exact⟨by rw[HR.out];rfl,HB1.out.1.trans j1,HB1.out.2.trans j2,x',o',by rw[HR.out];exact j3⟩
 ·have HH2:Hid (R=if kd=3∨kd=4∨kd=5 then M.happenTo f ⟨kd,wk,kk⟩ else if kd=6 then (if f.now=65536 then (f,10) else ({ f with now:=f.now+1 },0)) else if kd=8 then ({ f with grants:=List.replicate f.grants.length M.grt0 },0) else (f,4)):=by rw[Hid,HH.out,if_neg hk]
  have b1:(kd==1)=false:=by simp;omega
  have b2:(kd==2)=false:=by simp;omega
  have b7:(kd==7)=false:=by simp;omega
  clear HH KA
  have hd:kd=3∨kd=4∨kd=5∨¬ (kd=3∨kd=4∨kd=5):=by omega
  clear hk
  rcases hd with hk | hk | hk | hk
  ·have HR:Hid (R=M.happenTo f ⟨kd,wk,kk⟩):=by rw[Hid,HH2.out,if_pos (.inl hk)]
   have b3:(kd==3)=true:=by simpa using hk
   clear HH2 hk
   generalize M.happenTo f ⟨kd,wk,kk⟩=R2 at *
   go_wp2_with (go_at_call 58;refine KT.out.mono ?_;rintro e w5 ⟨rfl,j1,j2,x',o',j3⟩)
   go_ret
   exact⟨by rw[HR.out];rfl,HB1.out.1.trans j1,HB1.out.2.trans j2,x',o',by rw[HR.out];exact j3⟩
  ·have HR:Hid (R=M.happenTo f ⟨kd,wk,kk⟩):=by rw[Hid,HH2.out,if_pos (.inr (.inl hk))]
   have b3:(kd==3)=false:=by simp;omega
   have b4:(kd==4)=true:=by simpa using hk
   clear HH2 hk
   generalize M.happenTo f ⟨kd,wk,kk⟩=R2 at *
   go_wp2_with (go_at_call 58;refine KT.out.mono ?_;rintro e w5 ⟨rfl,j1,j2,x',o',j3⟩)
   go_ret
   exact⟨by rw[HR.out];rfl,HB1.out.1.trans j1,HB1.out.2.trans j2,x',o',by rw[HR.out];exact j3⟩
  ·have HR:Hid (R=M.happenTo f ⟨kd,wk,kk⟩):=by rw[Hid,HH2.out,if_pos (.inr (.inr hk))]
   have b3:(kd==3)=false:=by simp;omega
   have b4:(kd==4)=false:=by simp;omega
   have b5:(kd==5)=true:=by simpa using hk
   clear HH2 hk
   generalize M.happenTo f ⟨kd,wk,kk⟩=R2 at *
   go_wp2_with (go_at_call 58;refine KT.out.mono ?_;rintro e w5 ⟨rfl,j1,j2,x',o',j3⟩)
   go_ret
   exact⟨by rw[HR.out];rfl,HB1.out.1.trans j1,HB1.out.2.trans j2,x',o',by rw[HR.out];exact j3⟩
  ·have HH3:Hid (R=if kd=6 then (if f.now=65536 then (f,10) else ({ f with now:=f.now+1 },0)) else if kd=8 then ({ f with grants:=List.replicate f.grants.length M.grt0 },0) else (f,4)):=by rw[Hid,HH2.out,if_neg hk]
   have b3:(kd==3)=false:=by simp;omega
   have b4:(kd==4)=false:=by simp;omega
   have b5:(kd==5)=false:=by simp;omega
   clear HH2 KT hk
   by_cases k6:kd=6
   ·have b6:(kd==6)=true:=by simpa using k6
    have c2:Z.cell? (qa b 2)=some (iv f.now):=cellB HO1.out.blk 2
    have fz:Z.frozen? (qa b 2)=false:=frozenB HO1.out.blk 2
    have hn0:=hok.now0
    have hn1:=hok.now1
    by_cases hnow:f.now=65536
    ·have HR:Hid (R=(f,10)):=by rw[Hid,HH3.out,if_pos k6,if_pos hnow]
     have bn:(f.now==65536)=true:=by simpa using hnow
     clear HH3 k6 hnow
     go_wp2_with fail
     go_ret
     exact⟨by rw[HR.out];rfl,HB1.out.1,HB1.out.2,x,o,by rw[HR.out];exact HO1.out⟩
    ·have HR:Hid (R=({ f with now:=f.now+1 },0)):=by rw[Hid,HH3.out,if_pos k6,if_neg hnow]
     have bn:(f.now==65536)=false:=by simpa using hnow
     have hS:=HO1.out.setNow (f.now+1)
     have HS:Hid (FmO B (Z.setCell (qa b 2) (iv (f.now+1))) b { f with now:=f.now+1 } x o):=hS
     have HBS:Hid (Below B w (Z.setCell (qa b 2) (iv (f.now+1)))∧KeepE w (Z.setCell (qa b 2) (iv (f.now+1)))):=⟨HB1.out.1.setCell HO1.out.bge _,HB1.out.2.trans ((⟨b,_,HO1.out.blk,grown_set _ _ _ _⟩:Wr Z (Z.setCell (qa b 2) (iv (f.now+1))) 29).keepE (by decide))⟩
     clear HH3 k6 hnow hS
     go_wp2_with fail
     go_ret
     exact⟨by rw[HR.out];rfl,HBS.out.1,HBS.out.2,x,o,by rw[HR.out];exact HS.out⟩
   ·have b6:(kd==6)=false:=by simpa using k6
    by_cases k8:kd=8
    ·have b8:(kd==8)=true:=by simpa using k8
     have HR:Hid (R=({ f with grants:=List.replicate f.grants.length M.grt0 },0)):=by rw[Hid,HH3.out,if_neg k6,if_pos k8]
     obtain⟨_,_,hl0,_⟩:=check_ok hok.plan
     have hgl:=hok.grants
     have hgp:0<f.grants.length:=by omega
     obtain⟨g,hg⟩:=own_blk HO1.out.rowG hgp
     have hr:=HO1.out.rowG
     rw[hg] at hr
     obtain⟨cur,hcur,hcs,hle⟩:∃ cur:Array Value,Z.heap[g]?=some (.cells cur 64 (0,0))∧cur.size=x.gc*2∧f.grants.length≤x.gc:=by
      rcases hr.2 with ⟨h1,_⟩ | ⟨g',cap,cur',h1,h2,h3,h4,h5,h6,_⟩
      ·cases h1
      ·cases h1;exact⟨cur',h3,h6,h4⟩
     have c5:Z.cell? (qa b 5)=some (sv (some (qa g 0)) f.grants.length x.gc):=by rw[← hg];exact cellB HO1.out.blk 5
     obtain⟨zs,hzs⟩:∃ zs,zs=(List.replicate f.grants.length M.grt0).flatMap encGrt:=⟨_,rfl⟩
     have hzl:zs.length=f.grants.length*2:=by rw[hzs,flat_len' 2 encGrt (fun _=>rfl),List.length_replicate]
     obtain⟨hS1,hS2,hS3⟩:=HO1.out.clearG g hg cur hcur (by omega) zs hzs
     have hze:=(zeroGrants f.grants.length).trans hzs.symm
     have hz1:∀ u∈zs,u.oneCell'=true:=fun u hu=>by
      rw[hzs] at hu
      obtain⟨t,_,hu⟩:=List.mem_flatMap.1 hu
      simp only[encGrt,List.mem_cons,List.not_mem_nil,or_false] at hu
      rcases hu with rfl | rfl <;> rfl
     have hfit:0+zs.length≤cur.size:=by omega
     obtain⟨W9,hW9⟩:∃ W9,W9=Z.setRow g (cur.toList.take 0 ++ (zs ++ cur.toList.drop (0+zs.length))).toArray:=⟨_,rfl⟩
     rw[← hW9] at hS1 hS2 hS3
     have HS:Hid (FmO B W9 b { f with grants:=List.replicate f.grants.length M.grt0 } x o∧Below B w W9∧KeepE w W9):=⟨hS1,HB1.out.1.trans hS2,HB1.out.2.trans hS3⟩
     have HW9:Hid (W9=Z.setRow g (cur.toList.take 0 ++ (zs ++ cur.toList.drop (0+zs.length))).toArray):=hW9
     have Hze:Hid ((Builtin.zeroCells (Value.cells (.agg #[iv 0,iv 0])) f.grants.length).toList=zs):=hze
     clear HH3 k6 k8 hr hS1 hS2 hS3 hzs hgl hg hcs hzl hW9 hze hl0
     go_wp2_with (refine wpList_clear rfl _ 25 64 rfl (.agg #[iv 0,iv 0]) Tryz.underlying25 (fun w=>by kernel_rfl) g 0 f.grants.length x.gc rfl hgp cur hcur zs Hze.out hfit hz1 ?_;rw[← HW9.out];refine Hid.out ?_)
     refine Lib.hid ?_
     go_wp2_with fail
     go_ret
     exact⟨by rw[HR.out];rfl,HS.out.2.1,HS.out.2.2,x,o,by rw[HR.out];exact HS.out.1⟩
    ·have b8:(kd==8)=false:=by simpa using k8
     have HR:Hid (R=(f,4)):=by rw[Hid,HH3.out,if_neg k6,if_neg k8]
     clear HH3 k6 k8
     go_wp2_with fail
     go_ret
     exact⟨by rw[HR.out];rfl,HB1.out.1,HB1.out.2,x,o,by rw[HR.out];exact HO1.out⟩
end Go.Proofs.YtebippbakbihiaaGreatDoor
