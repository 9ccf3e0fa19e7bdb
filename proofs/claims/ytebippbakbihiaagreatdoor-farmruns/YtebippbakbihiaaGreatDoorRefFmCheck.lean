/-
  The reference's CheckFarm.
-/
import Derived.Test.YtebippbakbihiaaGreatDoorFmMd
import Derived.Test.YtebippbakbihiaaGreatDoorFmEq
import Derived.Test.YtebippbakbihiaaGreatDoorRfO
import Derived.Test.YtebippbakbihiaaGreatDoorRefCk
import Derived.Test.YtebippbakbihiaaGreatDoorPlSo
set_option maxHeartbeats 16000000
set_option maxRecDepth 100000
namespace Go.Proofs.YtebippbakbihiaaGreatDoor
open Go Go.RowKit
set_option linter.unusedVariables false
theorem each_append:∀ (a b:List M.Prt),M.checkEach (a ++ b)=M.orE (M.checkEach a) (M.checkEach b)
 | [],b=>rfl
 | p :: a,b=>by
  show (if M.checkPart p=0 then M.checkEach (a ++ b) else M.checkPart p)=M.orE (if M.checkPart p=0 then M.checkEach a else M.checkPart p) (M.checkEach b)
  by_cases h:M.checkPart p=0
  ·rw[if_pos h,if_pos h,each_append a b]
  ·rw[if_neg h,if_neg h,M.orE,if_neg h]
theorem orE_assoc (a b c:Int):M.orE (M.orE a b) c=M.orE a (M.orE b c):=by
 unfold M.orE
 by_cases h:a=0
 ·rw[if_pos h,if_pos h]
 ·rw[if_neg h,if_neg h,if_neg h]
theorem each_stepR {ps:List M.Prt} {k:Nat} (hk:k<ps.length):M.checkEach (ps.drop k)=if M.checkPart (ps.getD k M.nil)=0 then M.checkEach (ps.drop (k+1)) else M.checkPart (ps.getD k M.nil):=by
 rw[drop_getD ps M.nil k hk];rfl
theorem parts_ents {w:World} {v:Value} {ps:List M.Prt} (h:PartsAt w v ps):∃ es:List PEnt,es.map (·.p)=ps∧Src w v ps.length (es.flatMap pentCells)∧∀ e∈es,FragsAt w e.vF e.p.frags∧DefsAt w e.vD e.p.defs:=by
 obtain⟨cell,hs,hc⟩:=h
 obtain⟨es,hes⟩:∃ es:List PEnt,es=(List.range ps.length).map fun j=>⟨ps.getD j M.nil,cell j 0,cell j 1⟩:=⟨_,rfl⟩
 have hel:es.length=ps.length:=by rw[hes];simp
 have heg:∀ j,j<ps.length→es[j]?=some ⟨ps.getD j M.nil,cell j 0,cell j 1⟩:=fun j hj=>by rw[hes,List.getElem?_map,List.getElem?_range hj];rfl
 refine⟨es,?_,?_,?_⟩
 ·apply List.ext_getElem?
  intro j
  by_cases hj:j<ps.length
  ·rw[List.getElem?_map,heg j hj,List.getElem?_eq_getElem hj,List.getD_eq_getElem?_getD,List.getElem?_eq_getElem hj];rfl
  ·rw[List.getElem?_eq_none (by rw[List.length_map,hel];omega),List.getElem?_eq_none (by omega)]
 ·refine hs.src (by decide) _ (by rw[flat_len' 2 pentCells (fun _=>rfl),hel]) (fun j i hj hi=>?_)
  rw[flat_get 2 pentCells (fun _=>rfl) es j i hi,heg j hj]
  match i,hi with
  | 0,_=>rfl
  | 1,_=>rfl
 ·intro e he
  rw[hes] at he
  obtain⟨j,hj,rfl⟩:=List.mem_map.1 he
  exact hc j (List.mem_range.1 hj)
theorem ents_parts {W:World} {B:Nat} {v:Value} {es:List PEnt} {n:Nat} (hn:es.length=n) (hr:W.ownsRow B 39 2 v n (es.flatMap pentCells)) (ho:∀ e∈es,FragsAt W e.vF e.p.frags∧DefsAt W e.vD e.p.defs):PartsAt W v (es.map (·.p)):=by
 rw[← hn] at hr
 have hs:=row_slice (k:=2) pent0 pentCells (fun _=>rfl) es hr
 refine⟨_,by rw[List.length_map];exact hs,fun j hj=>?_⟩
 rw[List.length_map] at hj
 rw[map_getD (f:=fun e:PEnt=>e.p) (a:=pent0) rfl (by rw[List.length_map];exact hj)]
 exact ho _ (getD_mem es pent0 j hj)
def ckR (B b np nh:Nat) (xp xh:Option Addr) (xpc xhc:Nat) (eP eH:List PEnt) (s:Array Bool) (j:Nat) (W:World) (u:Value):Prop :=
 match j with
 | 0=>s.getD 3 false=false→OwE B 39 W u
 | 1=>u=qv b 0
 | 2=>u=sv xp np xpc
 | 3=>s.getD 3 false=true∧(s.getD 6 false=false→W.ownsRow B 39 2 u np (eP.flatMap pentCells))
 | 4=>u=qv b 4
 | 5=>u=sv xh nh xhc
 | 6=>W.ownsRow B 39 2 u (np+nh) (eP.flatMap pentCells ++ eH.flatMap pentCells)
 | 7=>u=iv ((np+nh:Nat):Int)
 | 8=>u=iv 0
 | _=>False
theorem ckR_later {B b np nh j0:Nat} {xp xh:Option Addr} {xpc xhc:Nat} {eP eH:List PEnt} {s:Array Bool} {W X:World} (hj3:j0≠3) (hj6:j0≠6) (hb:Below W.heap.size W X):∀ j u,ckR B b np nh xp xh xpc xhc eP eH s j W u→ckR B b np nh xp xh xpc xhc eP eH (s.setIfInBounds j0 true) j X u:=by
 intro j u h
 have hg:=grown_of_below hb Option.none
 match j,h with
 | 0,h=>exact fun hs=>OwE.later (h (by rwa [getD_set_ne false hj3] at hs)) hb
 | 1,h=>exact h
 | 2,h=>exact h
 | 3,h=>exact⟨by rw[getD_set_ne false hj3];exact h.1,fun hs=>World.ownsRow.kept (h.2 (by rwa [getD_set_ne false hj6] at hs)) hg own_self⟩
 | 4,h=>exact h
 | 5,h=>exact h
 | 6,h=>exact World.ownsRow.kept h hg own_self
 | 7,h=>exact h
 | 8,h=>exact h
theorem rcheckFarm_any (f:M.Farm) (x:Fd) (w:World) (hf:FarmAt w f x) :
  Calls Tryz.prog 8 #[.agg #[sv x.p f.parts.length x.pc,sv x.l f.plan.length x.lc,iv f.now,sv x.d f.done.length x.dc,sv x.h f.got.length x.hc,sv x.g f.grants.length x.gc,sv x.k f.work.length x.kc,sv x.n f.net.length x.nc]] w fun e w'=>e=.returned (iv (M.checkFarm f))∧Below w.heap.size w w':=by
 obtain⟨i0,hi0,hz0,hz1,hz2⟩:=info_parts (P:=Tryz.prog) (e:=39) (z:=.agg #[sv none 0 0,sv none 0 0]) (size:=2) (bytes:=48) (by kernel_rfl)
 have hnl:f.net.length≤maxLen:=by obtain⟨_,h,_⟩:=hf.net;obtain⟨_,_,_,h⟩:=h.form;exact h
 have hwl:f.work.length≤maxLen:=by obtain⟨_,_,_,h⟩:=SlAt.form hf.work;exact h
 have hll:f.plan.length≤maxLen:=by obtain⟨_,_,_,h⟩:=SlAt.form hf.plan;exact h
 have hdl:f.done.length≤maxLen:=by obtain⟨_,_,_,h⟩:=SlAt.form hf.done;exact h
 have hgl:f.grants.length≤maxLen:=by obtain⟨_,_,_,h⟩:=SlAt.form hf.grants;exact h
 have hpl:f.parts.length≤maxLen:=by obtain⟨_,h,_⟩:=hf.parts;obtain⟨_,_,_,h⟩:=h.form;exact h
 have hhl:f.got.length≤maxLen:=by obtain⟨_,h,_⟩:=hf.got;obtain⟨_,_,_,h⟩:=h.form;exact h
 unfold maxLen at hnl hwl hll hdl hgl hpl hhl
 have KPl:Hid (∀ W,Below w.heap.size w W→Calls Tryz.prog 16 #[sv x.l f.plan.length x.lc,iv f.parts.length] W fun e w'=>e=.returned (iv (M.checkPlan f.plan f.parts.length))∧Below W.heap.size W w'):=fun W hW=>rcheckPlan_any f.plan f.parts.length _ _ W (hf.plan.later hW)
 have KC:Hid (∀ (q:M.Prt) (a1 a2:Option Addr) (c1 c2:Nat) (W:World),FragsAt W (sv a1 q.frags.length c1) q.frags→DefsAt W (sv a2 q.defs.length c2) q.defs→Calls Tryz.prog 17 #[.agg #[sv a1 q.frags.length c1,sv a2 q.defs.length c2]] W fun e w'=>e=.returned (iv (M.checkPart q))∧Below W.heap.size W w'):=fun q a1 a2 c1 c2 W h1 h2=>rcheck_any q.frags q.defs a1 a2 c1 c2 W h1 h2
 have HFA:Hid (∀ W,Below w.heap.size w W→FarmAt W f x):=fun W hW=>hf.later hW
 have HSm:Hid (M.checkPlan f.plan f.parts.length=0→f.parts.length≤12∧f.plan.length≤23):=fun h=>by
  obtain⟨h1,h2,_⟩:=check_ok h
  have:=(M.fewParts_iff _).1 h1
  omega
 have h0:=heap_alloc_new w (.cells #[sv x.p f.parts.length x.pc,sv x.l f.plan.length x.lc,iv f.now,sv x.d f.done.length x.dc,sv x.h f.got.length x.hc,sv x.g f.grants.length x.gc,sv x.k f.work.length x.kc,sv x.n f.net.length x.nc] 29)
 have HB0:Hid (Below w.heap.size w (w.alloc (.cells #[sv x.p f.parts.length x.pc,sv x.l f.plan.length x.lc,iv f.now,sv x.d f.done.length x.dc,sv x.h f.got.length x.hc,sv x.g f.grants.length x.gc,sv x.k f.work.length x.kc,sv x.n f.net.length x.nc] 29))):=(Below.refl _ _).alloc (Nat.le_refl _) _
 obtain⟨R,hR⟩:∃ R,M.checkFarm f=R:=⟨_,rfl⟩
 have HR:Hid (M.checkFarm f=R):=hR
 rw[hR]
 clear hf hR
 obtain⟨xp,xpc,xl,xlc,xd,xdc,xh,xhc,xg,xgc,xk,xkc,xn,xnc⟩:=x
 obtain⟨fparts,fplan,fnow,fdone,fgot,fgrants,fwork,fnet⟩:=f
 simp only[M.checkFarm,M.lens,M.ranges,M.checkRest] at HR KPl h0 HB0 HSm hnl hwl hll hdl hgl hpl hhl ⊢
 have HIW:Hid (∀ W,Below w.heap.size w W→IntsAt W (sv xk fwork.length xkc) fwork):=fun W hW=>(HFA.out W hW).work
 have HIG:Hid (∀ W,Below w.heap.size w W→GrantsAt W (sv xg fgrants.length xgc) fgrants):=fun W hW=>(HFA.out W hW).grants
 have HIN:Hid (∀ W,Below w.heap.size w W→NetAt W (sv xn fnet.length xnc) fnet):=fun W hW=>(HFA.out W hW).net
 have HIP:Hid (∀ W,Below w.heap.size w W→PartsAt W (sv xp fparts.length xpc) fparts∧PartsAt W (sv xh fgot.length xhc) fgot):=fun W hW=>⟨(HFA.out W hW).parts,(HFA.out W hW).got⟩
 clear HFA
 generalize M.checkPlan fplan fparts.length=eP at *
 generalize fplan.length=nl at *
 generalize fdone.length=nd at *
 obtain⟨b,hb⟩:∃ b,b=w.heap.size:=⟨_,rfl⟩
 go_enter Tryz.func8,Tryz.ntmps8
 go_upto_region 1 with fail
 generalize w.alloc (.cells #[sv xp fparts.length xpc,sv xl nl xlc,iv fnow,sv xd nd xdc,sv xh fgot.length xhc,sv xg fgrants.length xgc,sv xk fwork.length xkc,sv xn fnet.length xnc] 29)=Y at *
 have KPl1:Hid (Calls Tryz.prog 16 #[sv xl nl xlc,iv fparts.length] Y fun e w'=>e=.returned (iv eP)∧Below Y.heap.size Y w'):=KPl.out Y HB0.out
 have HbE:Hid (b=w.heap.size):=hb
 rw[← hb] at h0 ⊢
 clear KPl hb
 have c0:=cellC h0 0 rfl
 have c1:=cellC h0 1 rfl
 have hl0:=lt1 h0
 by_cases hP:eP=0
 ·subst hP
  obtain⟨hp12,hl23⟩:=HSm.out rfl
  clear HSm
  go_upto_region 4 with (go_at_call 16;refine KPl1.out.mono ?_;rintro e x1 ⟨rfl,hx1⟩)
  have h1:=(hx1.block _ hl0).trans h0
  have HB1:Hid (Below w.heap.size w x1):=HB0.out.trans (hx1.mono HB0.out.size)
  clear KPl1 HB0 h0 hl0 c0 c1 hx1
  clear Y
  obtain⟨c0,c1,c2,c3,c4,c5,c6,c7⟩:=cell8 h1
  have hl1:=lt1 h1
  have HR1:Hid ((bif (nd==nl&&(fgot.length==nl&&fgrants.length==nl)) then (bif (M.inR fwork.length 1 4&&M.inR fnow 0 65536) then (bif decide (20<fnet.length) then 2 else M.orE (M.checkEach fparts) (M.orE (M.checkEach fgot) (M.orE (M.checkWork nl fwork) (M.orE (M.checkGrants fwork.length fgrants) (M.checkNet fwork.length nl fnet))))) else 3) else 4)=R):=HR
  clear HR
  by_cases g1:nd=nl
  ·by_cases g2:fgot.length=nl
   ·by_cases g3:fgrants.length=nl
    ·have HR2:Hid ((bif (M.inR fwork.length 1 4&&M.inR fnow 0 65536) then (bif decide (20<fnet.length) then 2 else M.orE (M.checkEach fparts) (M.orE (M.checkEach fgot) (M.orE (M.checkWork nl fwork) (M.orE (M.checkGrants fwork.length fgrants) (M.checkNet fwork.length nl fnet))))) else 3)=R):=by
      have:=HR1.out
      rw[show (nd==nl&&(fgot.length==nl&&fgrants.length==nl))=true by simp[g1,g2,g3],cond_true] at this
      exact this
     have hg1:((nd:Int) !=(nl:Int))=false:=by simp[g1]
     have hg2:((fgot.length:Int) !=(nl:Int))=false:=by simp[g2]
     have hg3:((fgrants.length:Int) !=(nl:Int))=false:=by simp[g3]
     have Hg:Hid (nd=nl∧fgot.length=nl∧fgrants.length=nl):=⟨g1,g2,g3⟩
     have hh23:fgot.length≤23:=by omega
     clear HR1 g1 g2 g3
     by_cases r0:fwork.length=0
     ·have HR3:Hid (R=3):=by rw[Hid,← HR2.out,r0];rfl
      have r0':((fwork.length:Int)==0)=true:=by simp[r0]
      clear HR2 r0
      go_wp2_with fail
      go_ret
      exact⟨by rw[HR3.out];rfl,HB1.out⟩
     have r0':((fwork.length:Int)==0)=false:=by simp;exact fun h=>r0 (by rw[h];rfl)
     by_cases r1:4<fwork.length
     ·have HR3:Hid (R=3):=by rw[Hid,← HR2.out,show M.inR fwork.length 1 4=false by simp[M.inR];omega];rfl
      have r1':(4:Int)<(fwork.length:Int):=by omega
      clear HR2 r0 r1
      go_wp2_with fail
      go_ret
      exact⟨by rw[HR3.out];rfl,HB1.out⟩
     have r1':¬ (4:Int)<(fwork.length:Int):=by omega
     by_cases r2:fnow<0
     ·have HR3:Hid (R=3):=by rw[Hid,← HR2.out,show M.inR fnow 0 65536=false by simp[M.inR];omega,Bool.and_false];rfl
      clear HR2 r0 r1
      go_wp2_with fail
      go_ret
      exact⟨by rw[HR3.out];rfl,HB1.out⟩
     by_cases r3:65536<fnow
     ·have HR3:Hid (R=3):=by rw[Hid,← HR2.out,show M.inR fnow 0 65536=false by simp[M.inR];omega,Bool.and_false];rfl
      clear HR2 r0 r1
      go_wp2_with fail
      go_ret
      exact⟨by rw[HR3.out];rfl,HB1.out⟩
     by_cases r4:20<fnet.length
     ·have HR3:Hid (R=2):=by rw[Hid,← HR2.out,show M.inR fnow 0 65536=true by simp[M.inR];omega,show M.inR fwork.length 1 4=true by simp[M.inR];omega];simp[r4]
      have r4':(20:Int)<(fnet.length:Int):=by omega
      clear HR2 r0 r1 r4
      go_wp2_with fail
      go_ret
      exact⟨by rw[HR3.out];rfl,HB1.out⟩
     have r4':¬ (20:Int)<(fnet.length:Int):=by omega
     have HR3:Hid (M.orE (M.checkEach (fparts ++ fgot)) (M.orE (M.checkWork nl fwork) (M.orE (M.checkGrants fwork.length fgrants) (M.checkNet fwork.length nl fnet)))=R):=by
      have:=HR2.out
      rw[show M.inR fnow 0 65536=true by simp[M.inR];omega,show M.inR fwork.length 1 4=true by simp[M.inR];omega] at this
      simp[r4] at this
      rw[Hid,each_append,orE_assoc];exact this
     clear HR2 r0 r1 r4
     go_upto_region 11 with fail
     obtain⟨eP,mP,sP,oP⟩:=parts_ents (HIP.out x1 HB1.out).1
     obtain⟨eH,mH,sH,oH⟩:=parts_ents (HIP.out x1 HB1.out).2
     have hlP:eP.length=fparts.length:=(map_len mP).symm
     have hlH:eH.length=fgot.length:=(map_len mH).symm
     have h1H:∀ u∈eH.flatMap pentCells,u.oneCell'=true:=fun u hu=>by
      obtain⟨e,he,hu⟩:=List.mem_flatMap.1 hu
      obtain⟨_,_,e1⟩:=(oH e he).1.form
      obtain⟨_,_,e2⟩:=(oH e he).2.form
      simp[pentCells] at hu
      rcases hu with rfl | rfl
      ·rw[e1];rfl
      ·rw[e2];rfl
     have hstay:∀ W,Below x1.heap.size x1 W→W.cell? (qa b 0)=some (sv xp fparts.length xpc)∧W.cell? (qa b 4)=some (sv xh fgot.length xhc)∧w.heap.size≤W.heap.size:=fun W hW=>⟨cell_later hW c0,cell_later hW c4,Nat.le_trans HB1.out.size hW.size⟩
     refine wp_region_relS 9 (fun _ W=>Below x1.heap.size x1 W) (fun v=>⟨#[.agg #[sv xp fparts.length xpc,sv xl nl xlc,iv fnow,sv xd nd xdc,sv xh fgot.length xhc,sv xg fgrants.length xgc,sv xk fwork.length xkc,sv xn fnet.length xnc],qv b 0,iv 0,iv 0,iv ↑nl,undef,undef,undef,undef,undef,undef,undef,undef,undef,undef,qv b 1,sv xl nl xlc,qv b 0,sv xp fparts.length xpc,iv ↑fparts.length,iv 0,iv 0,.bool false,undef,qv b 1,sv xl nl xlc,iv ↑nl,qv b 3,sv xd nd xdc,iv ↑nd,iv ↑nl,.bool false,.bool false,qv b 4,sv xh fgot.length xhc,iv ↑fgot.length,iv ↑nl,.bool false,.bool false,.bool false,qv b 5,sv xg fgrants.length xgc,iv ↑fgrants.length,iv ↑nl,.bool false,.bool false,qv b 6,sv xk fwork.length xkc,iv ↑fwork.length,.bool false,.bool false,qv b 6,sv xk fwork.length xkc,iv ↑fwork.length,.bool false,.bool false,.bool false,qv b 2,iv fnow,.bool false,.bool false,.bool false,qv b 2,iv fnow,.bool false,.bool false,qv b 7,sv xn fnet.length xnc,iv ↑fnet.length,.bool false,v 0,v 1,v 2,v 3,v 4,v 5,v 6,v 7,v 8,undef,undef,undef,undef,undef,undef,undef,undef,undef,undef,undef,undef,undef,undef,undef,undef,undef,undef,undef,undef,undef,undef,undef,undef,undef,undef,undef,undef,undef,undef,undef,undef,undef,undef,undef,undef,undef,undef,undef,undef,undef,undef,undef,undef,undef,undef,undef,undef,undef,undef,undef,undef,undef,undef,undef,undef,undef,undef,undef,undef,undef,undef,undef,undef,undef,undef,undef,undef,undef,undef,undef,undef,undef,undef,undef,undef,undef,undef,undef,undef,undef,undef,undef,undef,undef,undef,undef,undef,undef,undef,undef,undef,undef,undef,undef,undef,undef,undef,undef],[]⟩) (ckR x1.heap.size b fparts.length fgot.length xp xh xpc xhc eP eH) (fun _ _ _ _=>True) (by kernel_rfl) (by kernel_rfl) (by kernel_rfl) (Below.refl _ _).drew ⟨fun _=>undef,rfl⟩ ?_ ?_
     ·intro j op hj ho'
      rcases (by omega:j=0∨j=1∨j=2∨j=3∨j=4∨j=5∨j=6∨j=7∨j=8) with rfl | rfl | rfl | rfl | rfl | rfl | rfl | rfl | rfl
      all_goals cases ho'
      all_goals refine relStepS_of rfl rfl ?_
      all_goals rintro sd v W hC hin hsd hdep hdz
      all_goals obtain⟨c0,c4,hBW⟩:=hstay W hC
      ·have hA:=(Below.refl W.heap.size W).alloc (Nat.le_refl _) (.cells #[] 39)
       exact wp_valW (sv (some (qa W.heap.size 0)) 0 0) (W.alloc (.cells #[] 39)) (by simp[execOp,Act.eval,go_sem]) ⟨_,rfl,hC.trans (hA.mono hC.size),(fun k x _ _ h=>ckR_later (by decide) (by decide) hA k x h),fun _=>⟨W.heap.size,rfl,hC.size,heap_alloc_new W _⟩,fun k hk _ hz=>⟨trivial,trivial⟩⟩
      ·exact wp_val (qv b 0) (by simp[execOp,Act.eval,go_sem]) ⟨_,rfl,hC,fun k x _ _ h=>ckR_later (by decide) (by decide) (Below.refl _ _) k x h,rfl,fun k hk _ hz=>⟨trivial,trivial⟩⟩
      ·have hv:v 1=qv b 0:=hdep ⟨1,.data⟩ (by simp) rfl
       exact wp_val (sv xp fparts.length xpc) (by simp[execOp,Act.eval,go_sem,hv,c0]) ⟨_,rfl,hC,fun k x _ _ h=>ckR_later (by decide) (by decide) (Below.refl _ _) k x h,rfl,fun k hk _ hz=>⟨trivial,trivial⟩⟩
      ·obtain⟨g,hv0,hBg,hg⟩:OwE x1.heap.size 39 W (v 0):=(hdep ⟨0,.data⟩ (by simp) rfl:ckR x1.heap.size b fparts.length fgot.length xp xh xpc xhc eP eH sd 0 W (v 0)) (getD_both hsd)
       have hv:v 2=sv xp fparts.length xpc:=hdep ⟨2,.data⟩ (by simp) rfl
       refine wp_append_fresh W _ _ 22 rfl x1.heap.size 39 i0 (.agg #[sv none 0 0,sv none 0 0]) 2 48 Tryz.underlying22 hi0 hz0 hz1 hz2 rfl (by decide) g hv0 hg hBg (sv xp fparts.length xpc) fparts.length (eP.flatMap pentCells) hv (sP.later hC) (by rw[flat_len' 2 pentCells (fun _=>rfl),hlP]) (by unfold maxLen;omega) (by omega) ?_
       intro u W2 hr hb2
       have hsz:3<sd.size:=by rw[hin.size];decide
       have hs3:(sd.setIfInBounds 3 true).getD 3 false=true:=by simp[hsz]
       refine⟨u,rfl,hC.trans (hb2.mono hC.size),fun k x hk _ h=>?_,⟨hs3,fun _=>hr⟩,fun k hk _ hz=>⟨trivial,trivial⟩⟩
       have hg2:=grown_of_below hb2 Option.none
       match k,hk,h with
       | 0,_,h=>exact fun hs=>by rw[hs3] at hs;cases hs
       | 1,_,h=>exact h
       | 2,_,h=>exact h
       | 4,_,h=>exact h
       | 5,_,h=>exact h
       | 6,_,h=>exact World.ownsRow.kept h hg2 own_self
       | 7,_,h=>exact h
       | 8,_,h=>exact h
      ·exact wp_val (qv b 4) (by simp[execOp,Act.eval,go_sem]) ⟨_,rfl,hC,fun k x _ _ h=>ckR_later (by decide) (by decide) (Below.refl _ _) k x h,rfl,fun k hk _ hz=>⟨trivial,trivial⟩⟩
      ·have hv:v 4=qv b 4:=hdep ⟨4,.data⟩ (by simp) rfl
       exact wp_val (sv xh fgot.length xhc) (by simp[execOp,Act.eval,go_sem,hv,c4]) ⟨_,rfl,hC,fun k x _ _ h=>ckR_later (by decide) (by decide) (Below.refl _ _) k x h,rfl,fun k hk _ hz=>⟨trivial,trivial⟩⟩
      ·obtain⟨hd3,hr3⟩:ckR x1.heap.size b fparts.length fgot.length xp xh xpc xhc eP eH sd 3 W (v 3):=hdep ⟨3,.data⟩ (by simp) rfl
       have hr3:=hr3 (getD_both hsd)
       have hv:v 5=sv xh fgot.length xhc:=hdep ⟨5,.data⟩ (by simp) rfl
       refine wp_append_src W _ _ 22 rfl x1.heap.size 39 i0 (.agg #[sv none 0 0,sv none 0 0]) 2 48 Tryz.underlying22 hi0 hz0 hz1 hz2 rfl (by decide) (v 3) fparts.length (eP.flatMap pentCells) rfl hr3 (sv xh fgot.length xhc) fgot.length (eH.flatMap pentCells) hv (sH.later hC) (by rw[flat_len' 2 pentCells (fun _=>rfl),hlH]) h1H (by unfold maxLen;omega) (by omega) hC.size ?_
       intro u W2 hr hg
       have hsz:6<sd.size:=by rw[hin.size];decide
       have hs6:(sd.setIfInBounds 6 true).getD 6 false=true:=by simp[hsz]
       have hs3:(sd.setIfInBounds 6 true).getD 3 false=true:=by rw[getD_set_ne false (by decide)];exact hd3
       refine⟨u,rfl,hC.grown hg hC.size (fun k hk=>(hr3.lt k hk).1),fun k x hk _ h=>?_,hr,fun k hk _ hz=>⟨trivial,trivial⟩⟩
       match k,hk,h with
       | 0,_,h=>exact fun hs=>by rw[hs3] at hs;cases hs
       | 1,_,h=>exact h
       | 2,_,h=>exact h
       | 3,_,h=>exact⟨hs3,fun hs=>by rw[hs6] at hs;cases hs⟩
       | 4,_,h=>exact h
       | 5,_,h=>exact h
       | 7,_,h=>exact h
       | 8,_,h=>exact h
      ·have hr6:W.ownsRow x1.heap.size 39 2 (v 6) (fparts.length+fgot.length) (eP.flatMap pentCells ++ eH.flatMap pentCells):=hdep ⟨6,.data⟩ (by simp) rfl
       obtain⟨a6,c6,e6⟩:=own_len hr6
       exact wp_val (iv ((fparts.length+fgot.length:Nat):Int)) (by simp[Act.eval,go_sem,e6]) ⟨_,rfl,hC,fun k x _ _ h=>ckR_later (by decide) (by decide) (Below.refl _ _) k x h,rfl,fun k hk _ hz=>⟨trivial,trivial⟩⟩
      ·exact wp_val (iv 0) (by simp[execOp,Act.eval,go_sem]) ⟨_,rfl,hC,fun k x _ _ h=>ckR_later (by decide) (by decide) (Below.refl _ _) k x h,rfl,fun k hk _ hz=>⟨trivial,trivial⟩⟩
     ·intro sd v W hC hR hZ
      have hr6:W.ownsRow x1.heap.size 39 2 (v 6) (fparts.length+fgot.length) (eP.flatMap pentCells ++ eH.flatMap pentCells):=hR 6 (by decide)
      have h7:v 7=iv ((fparts.length+fgot.length:Nat):Int):=hR 7 (by decide)
      have h8:v 8=iv 0:=hR 8 (by decide)
      obtain⟨a6,k6,e6⟩:=own_len hr6
      rw[e6,← List.flatMap_append] at hr6
      have hPL:=ents_parts (es:=eP ++ eH) (by rw[List.length_append,hlP,hlH]) hr6 (fun e he=>by
       rcases List.mem_append.1 he with he | he
       ·exact⟨(oP e he).1.later hC,(oP e he).2.later hC⟩
       ·exact⟨(oH e he).1.later hC,(oH e he).2.later hC⟩)
      rw[List.map_append,mP,mH] at hPL
      have HBW:Hid (Below w.heap.size w W):=HB1.out.trans (hC.mono HB1.out.size)
      have hbW:=(hC.block _ hl1).trans h1
      simp only[List.drop_succ_cons,List.drop_zero]
      rw[e6,h7,h8]
      obtain⟨L,hL⟩:∃ L,fparts ++ fgot=L:=⟨_,rfl⟩
      obtain⟨nL,hnL⟩:∃ nL,fparts.length+fgot.length=nL:=⟨_,rfl⟩
      have HLn:Hid (L.length=nL):=by rw[Hid,← hL,List.length_append,hnL]
      have hLs:nL≤9223372036854775807:=by omega
      rw[hL,hnL] at hPL
      rw[hL] at HR3
      rw[hnL]
      have HPL:Hid (∀ X,Below W.heap.size W X→PartsAt X (sv a6 L.length k6) L):=fun X hX=>by rw[HLn.out];exact hPL.later hX
      clear hR hZ hC hr6 h7 h8 e6 hPL hstay sP sH oP oH mP mH hlP hlH h1H HB1 h1 hl1 c0 c1 c2 c3 c4 c5 c6 c7 hg1 hg2 hg3 r0' r1' r2 r3 r4' hL hnL HIP
      clear eP eH
      go_upto_region 12 with fail
      go_loopw [78] (fun s78 wr=>∃ (k:Nat),k≤nL∧s78=iv k∧Hid (M.orE (M.checkEach (L.drop k)) (M.orE (M.checkWork nl fwork) (M.orE (M.checkGrants fwork.length fgrants) (M.checkNet fwork.length nl fnet)))=R)∧Hid (Below W.heap.size W wr)) (fun s78 _=>nL - (intOf s78).toNat)
      case atStart=>exact⟨0,Nat.zero_le _,rfl,HR3,Below.refl _ _⟩
      case round =>
       obtain⟨k,hk,rfl,HE,HBk⟩:=hrel
       clear HR3
       have HBw:Hid (Below w.heap.size w wr):=HBW.out.trans (HBk.out.mono HBW.out.size)
       by_cases hlt:k<nL
       ·obtain⟨b2,off,z1,u1,z2,u2,rfl,e0,e1,hF',hD'⟩:=(HPL.out wr HBk.out).cells k (by rw[HLn.out];exact hlt)
        have hbr:b2<wr.heap.size:=World.block_lt_of_cell? _ _ e0
        have hkl:(k:Int)<(nL:Int):=by omega
        have HE1:=HE.out
        rw[each_stepR (by rw[HLn.out];exact hlt)] at HE1
        generalize L.getD k M.nil=q at *
        have hA:Below wr.heap.size wr (wr.alloc (.cells #[sv z1 q.frags.length u1,sv z2 q.defs.length u2] 39)):=(Below.refl _ _).alloc (Nat.le_refl _) _
        have hp0:=heap_alloc_new wr (.cells #[sv z1 q.frags.length u1,sv z2 q.defs.length u2] 39)
        have KC1:Hid (Calls Tryz.prog 17 #[.agg #[sv z1 q.frags.length u1,sv z2 q.defs.length u2]] (wr.alloc (.cells #[sv z1 q.frags.length u1,sv z2 q.defs.length u2] 39)) fun e w'=>e=.returned (iv (M.checkPart q))∧Below (wr.alloc (.cells #[sv z1 q.frags.length u1,sv z2 q.defs.length u2] 39)).heap.size (wr.alloc (.cells #[sv z1 q.frags.length u1,sv z2 q.defs.length u2] 39)) w'):=KC.out q _ _ _ _ _ (hF'.later hA) (hD'.later hA)
        have HE2:Hid (M.orE (if M.checkPart q=0 then M.checkEach (L.drop (k+1)) else M.checkPart q) (M.orE (M.checkWork nl fwork) (M.orE (M.checkGrants fwork.length fgrants) (M.checkNet fwork.length nl fnet)))=R):=HE1
        have HBX:Hid (Below W.heap.size W (wr.alloc (.cells #[sv z1 q.frags.length u1,sv z2 q.defs.length u2] 39))∧Below w.heap.size w (wr.alloc (.cells #[sv z1 q.frags.length u1,sv z2 q.defs.length u2] 39))):=⟨HBk.out.trans (hA.mono HBk.out.size),HBw.out.trans (hA.mono HBw.out.size)⟩
        clear HE HE1 hF' hD' hA
        generalize M.checkPart q=ek at *
        go_upto_region 14 with fail
        clear e0 e1 hbr
        generalize wr.alloc (.cells #[sv z1 q.frags.length u1,sv z2 q.defs.length u2] 39)=X at *
        generalize wr.heap.size=nz at *
        have p0:=cellC hp0 0 rfl
        have p1:=cellC hp0 1 rfl
        have lp:=lt1 hp0
        by_cases hek:ek=0
        ·subst hek
         have HE3:Hid (M.orE (M.checkEach (L.drop (k+1))) (M.orE (M.checkWork nl fwork) (M.orE (M.checkGrants fwork.length fgrants) (M.checkNet fwork.length nl fnet)))=R):=HE2
         clear HE2 hp0
         go_wp2_with (go_at_call 17;refine KC1.out.mono ?_;rintro e x2 ⟨rfl,hx2⟩)
         go_roundw
         case rel=>exact⟨k+1,by omega,by go_num,HE3,HBX.out.1.trans (hx2.mono HBX.out.1.size)⟩
         case measure=>simp[intOf];omega
        ·have HE3:Hid (R=ek):=by rw[Hid,← HE2.out,if_neg hek,M.orE,if_neg hek]
         have hne:(ek !=0)=true:=by simpa using hek
         clear HE2 hek hp0
         go_wp2_with (go_at_call 17;refine KC1.out.mono ?_;rintro e x2 ⟨rfl,hx2⟩)
         go_ret
         exact⟨by rw[HE3.out];rfl,HBX.out.2.trans (hx2.mono HBX.out.2.size)⟩
       ·have hkl:k=nL:=by omega
        have HE1:Hid ((M.orE (M.checkWork nl fwork) (M.orE (M.checkGrants fwork.length fgrants) (M.checkNet fwork.length nl fnet)))=R):=by rw[Hid,← HE.out,hkl,List.drop_eq_nil_of_le (by rw[HLn.out];exact Nat.le_refl _)];rfl
        have hbr:=(HBk.out.block _ (lt1 hbW)).trans hbW
        have b6:=cellC hbr 6 rfl
        have lbr:=lt1 hbr
        clear HE HPL
        subst hkl
        go_upto_region 19 with fail
        clear b6 lbr
        go_loopw [91] (fun s91 wq=>∃ (k:Nat),k≤fwork.length∧s91=iv k∧Hid (M.orE (M.checkWork nl (fwork.drop k)) (M.orE (M.checkGrants fwork.length fgrants) (M.checkNet fwork.length nl fnet))=R)∧Hid (Below w.heap.size w wq)∧wq.heap[b]?=some (.cells #[sv xp fparts.length xpc,sv xl nl xlc,iv fnow,sv xd nd xdc,sv xh fgot.length xhc,sv xg fgrants.length xgc,sv xk fwork.length xkc,sv xn fnet.length xnc] 29 (0,0))) (fun s91 _=>fwork.length - (intOf s91).toNat)
        case atStart=>exact⟨0,Nat.zero_le _,rfl,HE1,HBw,hbr⟩
        case round =>
         clear HBw hbr HE1 HBk HBW hbW
         obtain⟨k,hk,rfl,HE,HB,hblk⟩:=hrel
         have lbr:=lt1 hblk
         by_cases hlt:k<fwork.length
         ·obtain⟨b2,off,rfl,e0,hbr⟩:=(HIW.out _ HB.out).cell k hlt
          have hkl:(k:Int)<(fwork.length:Int):=by omega
          have HE1:=HE.out
          rw[checkWork_step _ _ _ hlt] at HE1
          generalize fwork.getD k 0=t at *
          have HE2:Hid (M.orE (if M.workOk nl t=true then M.checkWork nl (fwork.drop (k+1)) else 5) (M.orE (M.checkGrants fwork.length fgrants) (M.checkNet fwork.length nl fnet))=R):=HE1
          clear HE HE1
          by_cases ht1:t < -1
          ·have HE3:Hid (R=5):=by rw[Hid,← HE2.out,show M.workOk nl t=false by simp[M.workOk,M.inR];omega];rfl
           clear HE2
           go_wp2_with fail
           go_ret
           exact⟨by rw[HE3.out];rfl,HB.out⟩
          by_cases ht2:(nl:Int)≤t
          ·have HE3:Hid (R=5):=by rw[Hid,← HE2.out,show M.workOk nl t=false by simp[M.workOk,M.inR];omega];rfl
           clear HE2
           go_wp2_with fail
           go_ret
           exact⟨by rw[HE3.out];rfl,HB.out⟩
          have HE3:Hid (M.orE (M.checkWork nl (fwork.drop (k+1))) (M.orE (M.checkGrants fwork.length fgrants) (M.checkNet fwork.length nl fnet))=R):=by rw[Hid,← HE2.out,show M.workOk nl t=true by simp[M.workOk,M.inR];omega];rfl
          clear HE2
          go_wp2_with fail
          go_roundw
          case rel=>exact⟨k+1,by omega,by go_num,HE3,HB,hblk⟩
          case measure=>simp[intOf];omega
         ·have hkl:k=fwork.length:=by omega
          have HE1:Hid ((M.orE (M.checkGrants fwork.length fgrants) (M.checkNet fwork.length nl fnet))=R):=by rw[Hid,← HE.out,hkl,List.drop_eq_nil_of_le (Nat.le_refl _)];rfl
          have b5:=cellC hblk 5 rfl
          clear HE
          subst hkl
          go_upto_region 25 with fail
          clear b5 lbr
          go_loopw [106] (fun s106 wq=>∃ (k:Nat),k≤fgrants.length∧s106=iv k∧Hid (M.orE (M.checkGrants fwork.length (fgrants.drop k)) (M.checkNet fwork.length nl fnet)=R)∧Hid (Below w.heap.size w wq)∧wq.heap[b]?=some (.cells #[sv xp fparts.length xpc,sv xl nl xlc,iv fnow,sv xd nd xdc,sv xh fgot.length xhc,sv xg fgrants.length xgc,sv xk fwork.length xkc,sv xn fnet.length xnc] 29 (0,0))) (fun s106 _=>fgrants.length - (intOf s106).toNat)
          case atStart=>exact⟨0,Nat.zero_le _,rfl,HE1,HB,hblk⟩
          case round =>
           clear HB hblk HE1
           obtain⟨k,hk,rfl,HE,HB,hblk⟩:=hrel
           have hw0:w.heap.size≤wr.heap.size:=HB.out.size
           by_cases hlt:k<fgrants.length
           ·obtain⟨b2,off,rfl,e0,e1⟩:=(HIG.out _ HB.out).cells k hlt
            have hbr:b2<wr.heap.size:=World.block_lt_of_cell? _ _ e0
            have hkl:(k:Int)<(fgrants.length:Int):=by omega
            have HE1:=HE.out
            rw[checkGrants_step _ _ _ hlt] at HE1
            generalize fgrants.getD k M.grt0=t at *
            obtain⟨tw,tt⟩:=t
            simp only[M.grantOk] at HE1 e0 e1
            have HE2:Hid (M.orE (if (M.inR tw 0 ((fwork.length:Int) - 1)&&M.inR tt 0 65541)=true then M.checkGrants fwork.length (fgrants.drop (k+1)) else 3) (M.checkNet fwork.length nl fnet)=R):=HE1
            clear HE HE1
            go_upto_region 27 with fail
            have hA:Below wr.heap.size wr (wr.alloc (.cells #[iv tw,iv tt] 64)):=(Below.refl _ _).alloc (Nat.le_refl _) _
            have hm0:=heap_alloc_new wr (.cells #[iv tw,iv tt] 64)
            have hb0:=(hA.block _ (lt1 hblk)).trans hblk
            have HBY:Hid (Below w.heap.size w (wr.alloc (.cells #[iv tw,iv tt] 64))):=HB.out.trans (hA.mono hw0)
            clear e0 e1 hA hblk HB hbr hw0
            generalize wr.alloc (.cells #[iv tw,iv tt] 64)=Z at *
            generalize wr.heap.size=nz at *
            have m0:=cellC hm0 0 rfl
            have m1:=cellC hm0 1 rfl
            have b6:=cellC hb0 6 rfl
            have lz:=lt1 hm0
            have lb:=lt1 hb0
            by_cases t1:tw<0
            ·have HE3:Hid (R=3):=by rw[Hid,← HE2.out,show M.inR tw 0 ((fwork.length:Int) - 1)=false by simp[M.inR];omega];rfl
             clear HE2
             go_wp2_with fail
             go_ret
             exact⟨by rw[HE3.out];rfl,HBY.out⟩
            by_cases t2:(fwork.length:Int)≤tw
            ·have HE3:Hid (R=3):=by rw[Hid,← HE2.out,show M.inR tw 0 ((fwork.length:Int) - 1)=false by simp[M.inR];omega];rfl
             clear HE2
             go_wp2_with fail
             go_ret
             exact⟨by rw[HE3.out];rfl,HBY.out⟩
            by_cases t3:tt<0
            ·have HE3:Hid (R=3):=by rw[Hid,← HE2.out,show M.inR tt 0 65541=false by simp[M.inR];omega,Bool.and_false];rfl
             clear HE2
             go_wp2_with fail
             go_ret
             exact⟨by rw[HE3.out];rfl,HBY.out⟩
            by_cases t4:65541<tt
            ·have HE3:Hid (R=3):=by rw[Hid,← HE2.out,show M.inR tt 0 65541=false by simp[M.inR];omega,Bool.and_false];rfl
             clear HE2
             go_wp2_with fail
             go_ret
             exact⟨by rw[HE3.out];rfl,HBY.out⟩
            have HE3:Hid (M.orE (M.checkGrants fwork.length (fgrants.drop (k+1))) (M.checkNet fwork.length nl fnet)=R):=by rw[Hid,← HE2.out,show M.inR tw 0 ((fwork.length:Int) - 1)=true by simp[M.inR];omega,show M.inR tt 0 65541=true by simp[M.inR];omega];rfl
            clear HE2
            go_wp2_with fail
            go_roundw
            case rel=>exact⟨k+1,by omega,by go_num,HE3,HBY,hb0⟩
            case measure=>simp[intOf];omega
           ·have hkl:k=fgrants.length:=by omega
            have HE1:Hid (M.checkNet fwork.length nl (fnet.drop 0)=R):=by rw[Hid,← HE.out,hkl,List.drop_eq_nil_of_le (Nat.le_refl _)];rfl
            have b7:=cellC hblk 7 rfl
            have lbr:=lt1 hblk
            clear HE
            subst hkl
            go_upto_region 31 with fail
            clear b7 lbr
            go_loopw [135] (fun s135 wq=>∃ (k:Nat),k≤fnet.length∧s135=iv k∧Hid (M.checkNet fwork.length nl (fnet.drop k)=R)∧Hid (Below w.heap.size w wq)∧wq.heap[b]?=some (.cells #[sv xp fparts.length xpc,sv xl nl xlc,iv fnow,sv xd nd xdc,sv xh fgot.length xhc,sv xg fgrants.length xgc,sv xk fwork.length xkc,sv xn fnet.length xnc] 29 (0,0))) (fun s135 _=>fnet.length - (intOf s135).toNat)
            case atStart=>exact⟨0,Nat.zero_le _,rfl,HE1,HB,hblk⟩
            case round =>
             clear HB hblk HE1 hw0
             obtain⟨k,hk,rfl,HE,HB,hblk⟩:=hrel
             have hw0:w.heap.size≤wr.heap.size:=HB.out.size
             by_cases hlt:k<fnet.length
             ·obtain⟨b2,off,z1,u1,z2,u2,rfl,e0,e1,e2,e3,e4,hF',hD'⟩:=(HIN.out _ HB.out).cells k hlt
              have hbr:b2<wr.heap.size:=World.block_lt_of_cell? _ _ e0
              have hkl:(k:Int)<(fnet.length:Int):=by omega
              have HE1:=HE.out
              rw[checkNet_step _ _ _ _ hlt] at HE1
              generalize fnet.getD k M.msg0=m at *
              obtain⟨mk,mw,mn,q⟩:=m
              simp only[M.msgOk] at HE1 e0 e1 e2 e3 e4 hF' hD'
              have HE2:Hid ((if (M.inR mk 1 2&&(M.inR mw 0 ((fwork.length:Int) - 1)&&M.inR mn 0 ((nl:Int) - 1)))=true then (if M.checkPart q=0 then M.checkNet fwork.length nl (fnet.drop (k+1)) else M.checkPart q) else 3)=R):=HE1
              clear HE HE1
              go_upto_region 33 with fail
              have hA:Below wr.heap.size wr (wr.alloc (.cells #[iv mk,iv mw,iv mn,sv z1 q.frags.length u1,sv z2 q.defs.length u2] 60)):=(Below.refl _ _).alloc (Nat.le_refl _) _
              have hm0:=heap_alloc_new wr (.cells #[iv mk,iv mw,iv mn,sv z1 q.frags.length u1,sv z2 q.defs.length u2] 60)
              have hb0:=(hA.block _ (lt1 hblk)).trans hblk
              have HBY:Hid (Below w.heap.size w (wr.alloc (.cells #[iv mk,iv mw,iv mn,sv z1 q.frags.length u1,sv z2 q.defs.length u2] 60))):=HB.out.trans (hA.mono hw0)
              have KC1:Hid (Calls Tryz.prog 17 #[.agg #[sv z1 q.frags.length u1,sv z2 q.defs.length u2]] (wr.alloc (.cells #[iv mk,iv mw,iv mn,sv z1 q.frags.length u1,sv z2 q.defs.length u2] 60)) fun e w'=>e=.returned (iv (M.checkPart q))∧Below (wr.alloc (.cells #[iv mk,iv mw,iv mn,sv z1 q.frags.length u1,sv z2 q.defs.length u2] 60)).heap.size (wr.alloc (.cells #[iv mk,iv mw,iv mn,sv z1 q.frags.length u1,sv z2 q.defs.length u2] 60)) w'):=KC.out q _ _ _ _ _ (hF'.later hA) (hD'.later hA)
              clear e0 e1 e2 e3 e4 hA hblk HB hbr hw0 hF' hD'
              generalize M.checkPart q=ek at *
              generalize wr.alloc (.cells #[iv mk,iv mw,iv mn,sv z1 q.frags.length u1,sv z2 q.defs.length u2] 60)=Z at *
              generalize wr.heap.size=nz at *
              have m0:=cellC hm0 0 rfl
              have m1:=cellC hm0 1 rfl
              have m2:=cellC hm0 2 rfl
              have m3:=cellC hm0 3 rfl
              have m4:=cellC hm0 4 rfl
              have b6:=cellC hb0 6 rfl
              have lz:=lt1 hm0
              have lb:=lt1 hb0
              by_cases t0:¬ (mk=1∨mk=2)
              ·have HE3:Hid (R=3):=by rw[Hid,← HE2.out,show M.inR mk 1 2=false by simp[M.inR];omega];rfl
               have t01:(mk !=1)=true:=by simp;omega
               have t02:(mk !=2)=true:=by simp;omega
               clear HE2 t0
               go_wp2_with fail
               go_ret
               exact⟨by rw[HE3.out];rfl,HBY.out⟩
              have t0':mk=1∨mk=2:=Classical.not_not.1 t0
              have HK:Hid (M.inR mk 1 2=true):=by rw[Hid];simp[M.inR];omega
              clear t0
              by_cases t1:mw<0
              ·have HE3:Hid (R=3):=by rw[Hid,← HE2.out,show M.inR mw 0 ((fwork.length:Int) - 1)=false by simp[M.inR];omega,Bool.false_and,Bool.and_false];rfl
               clear HE2
               rcases t0' with rfl | rfl
               all_goals
                go_wp2_with fail
                go_ret
                exact⟨by rw[HE3.out];rfl,HBY.out⟩
              by_cases t2:(fwork.length:Int)≤mw
              ·have HE3:Hid (R=3):=by rw[Hid,← HE2.out,show M.inR mw 0 ((fwork.length:Int) - 1)=false by simp[M.inR];omega,Bool.false_and,Bool.and_false];rfl
               clear HE2
               rcases t0' with rfl | rfl
               all_goals
                go_wp2_with fail
                go_ret
                exact⟨by rw[HE3.out];rfl,HBY.out⟩
              by_cases t3:mn<0
              ·have HE3:Hid (R=3):=by rw[Hid,← HE2.out,show M.inR mn 0 ((nl:Int) - 1)=false by simp[M.inR];omega,Bool.and_false,Bool.and_false];rfl
               clear HE2
               rcases t0' with rfl | rfl
               all_goals
                go_wp2_with fail
                go_ret
                exact⟨by rw[HE3.out];rfl,HBY.out⟩
              by_cases t4:(nl:Int)≤mn
              ·have HE3:Hid (R=3):=by rw[Hid,← HE2.out,show M.inR mn 0 ((nl:Int) - 1)=false by simp[M.inR];omega,Bool.and_false,Bool.and_false];rfl
               clear HE2
               rcases t0' with rfl | rfl
               all_goals
                go_wp2_with fail
                go_ret
                exact⟨by rw[HE3.out];rfl,HBY.out⟩
              have HE3:Hid ((if ek=0 then M.checkNet fwork.length nl (fnet.drop (k+1)) else ek)=R):=by rw[Hid,← HE2.out,HK.out,show M.inR mw 0 ((fwork.length:Int) - 1)=true by simp[M.inR];omega,show M.inR mn 0 ((nl:Int) - 1)=true by simp[M.inR];omega];rfl
              clear HE2 HK
              by_cases hek:ek=0
              ·subst hek
               have HE4:Hid (M.checkNet fwork.length nl (fnet.drop (k+1))=R):=HE3
               clear HE3
               rcases t0' with rfl | rfl
               all_goals
                go_wp2_with (go_at_call 17;refine KC1.out.mono ?_;rintro e x2 ⟨rfl,hx2⟩)
                go_roundw
                case rel=>exact⟨k+1,by omega,by go_num,HE4,HBY.out.trans (hx2.mono HBY.out.size),(hx2.block _ lb).trans hb0⟩
                case measure=>simp[intOf];omega
              ·have HE4:Hid (R=ek):=by rw[Hid,← HE3.out,if_neg hek]
               have hne:(ek !=0)=true:=by simpa using hek
               clear HE3 hek
               rcases t0' with rfl | rfl
               all_goals
                go_wp2_with (go_at_call 17;refine KC1.out.mono ?_;rintro e x2 ⟨rfl,hx2⟩)
                go_ret
                exact⟨by rw[HE4.out];rfl,HBY.out.trans (hx2.mono HBY.out.size)⟩
             ·have hkl:k=fnet.length:=by omega
              have HE1:Hid (R=0):=by rw[Hid,← HE.out,hkl,List.drop_eq_nil_of_le (Nat.le_refl _)];rfl
              clear HE
              subst hkl
              go_wp2_with fail
              go_ret
              exact⟨by rw[HE1.out];rfl,HB.out⟩
    ·have HR2:Hid (R=4):=by rw[Hid,← HR1.out,show (nd==nl&&(fgot.length==nl&&fgrants.length==nl))=false by simp[g3]];rfl
     have hg1:((nd:Int) !=(nl:Int))=false:=by simp[g1]
     have hg2:((fgot.length:Int) !=(nl:Int))=false:=by simp[g2]
     have hg3:((fgrants.length:Int) !=(nl:Int))=true:=by simp;omega
     clear HR1 g1 g2 g3
     go_wp2_with fail
     go_ret
     exact⟨by rw[HR2.out];rfl,HB1.out⟩
   ·have HR2:Hid (R=4):=by rw[Hid,← HR1.out,show (nd==nl&&(fgot.length==nl&&fgrants.length==nl))=false by simp[g2]];rfl
    have hg1:((nd:Int) !=(nl:Int))=false:=by simp[g1]
    have hg2:((fgot.length:Int) !=(nl:Int))=true:=by simp;omega
    clear HR1 g1 g2
    go_wp2_with fail
    go_ret
    exact⟨by rw[HR2.out];rfl,HB1.out⟩
  ·have HR2:Hid (R=4):=by rw[Hid,← HR1.out,show (nd==nl&&(fgot.length==nl&&fgrants.length==nl))=false by simp[g1]];rfl
   have hg1:((nd:Int) !=(nl:Int))=true:=by simp;omega
   clear HR1 g1
   go_wp2_with fail
   go_ret
   exact⟨by rw[HR2.out];rfl,HB1.out⟩
 ·have HR1:Hid (R=eP):=by rw[Hid,← HR.out,M.orE,if_neg hP]
  have hne:(eP !=0)=true:=by simpa using hP
  clear HR hP HSm
  go_wp2_with (go_at_call 16;refine KPl1.out.mono ?_;rintro e x1 ⟨rfl,hx1⟩)
  go_ret
  exact⟨by rw[HR1.out];rfl,HB0.out.trans (hx1.mono HB0.out.size)⟩
end Go.Proofs.YtebippbakbihiaaGreatDoor
