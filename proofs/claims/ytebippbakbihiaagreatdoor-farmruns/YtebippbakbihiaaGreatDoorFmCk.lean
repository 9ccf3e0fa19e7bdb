/-
  The contracts of farm's small functions: within, stands, checkParts, copyPart, copyParts. The contract of farm.copyParts. The contracts of farm.checkNet and farm.Check. The contract of farm.Check.
-/
import Derived.Test.YtebippbakbihiaaGreatDoorFmMM
import Derived.Deep.CutBlock
namespace Go.Proofs.YtebippbakbihiaaGreatDoor
open Go Go.RowKit
set_option linter.unusedVariables false
theorem fwithin_any (n a b:Int) (w:World) :
  Calls Tryz.prog 30 #[iv n,iv a,iv b] w fun e w'=>e=.returned (.bool (M.inR n a b))∧w'=w:=by
 by_cases h1:a≤n <;> by_cases h2:n≤b
 all_goals
  go_enter Tryz.func30,Tryz.ntmps30
  go_wp2
  go_ret
  exact⟨ret_bool (by simp[M.inR,h1,h2]),rfl⟩
set_option maxHeartbeats 1000000 in
theorem standsN_any (a:Option Addr) (n c:Nat) (i:Int) (w:World) (hn:n≤9223372036854775807) :
  Calls Tryz.prog 32 #[sv a n c,iv i] w fun e w'=>e=.returned (.bool (M.inR i 0 ((n:Int) - 1)))∧w'=w:=by
 have K:Hid (Calls Tryz.prog 30 #[iv i,iv 0,iv ((n:Int) - 1)] w fun e w'=>e=.returned (.bool (M.inR i 0 ((n:Int) - 1)))∧w'=w):=fwithin_any i 0 _ w
 go_enter Tryz.func32,Tryz.ntmps32
 go_wp2_with (go_at_call 30;refine K.out.mono ?_;rintro e w1 ⟨rfl,rfl⟩)
 go_ret
 exact⟨rfl,rfl⟩
set_option maxHeartbeats 1000000 in
theorem standsW_any (a:Option Addr) (n c:Nat) (i:Int) (w:World) (hn:n≤9223372036854775807) :
  Calls Tryz.prog 33 #[sv a n c,iv i] w fun e w'=>e=.returned (.bool (M.inR i 0 ((n:Int) - 1)))∧w'=w:=by
 have K:Hid (Calls Tryz.prog 30 #[iv i,iv 0,iv ((n:Int) - 1)] w fun e w'=>e=.returned (.bool (M.inR i 0 ((n:Int) - 1)))∧w'=w):=fwithin_any i 0 _ w
 go_enter Tryz.func33,Tryz.ntmps33
 go_wp2_with (go_at_call 30;refine K.out.mono ?_;rintro e w1 ⟨rfl,rfl⟩)
 go_ret
 exact⟨rfl,rfl⟩
set_option maxHeartbeats 1000000 in
theorem standsM_any (a:Option Addr) (n c:Nat) (i:Int) (w:World) (hn:n≤9223372036854775807) :
  Calls Tryz.prog 83 #[sv a n c,iv i] w fun e w'=>e=.returned (.bool (M.inR i 0 ((n:Int) - 1)))∧w'=w:=by
 have K:Hid (Calls Tryz.prog 30 #[iv i,iv 0,iv ((n:Int) - 1)] w fun e w'=>e=.returned (.bool (M.inR i 0 ((n:Int) - 1)))∧w'=w):=fwithin_any i 0 _ w
 go_enter Tryz.func83,Tryz.ntmps83
 go_wp2_with (go_at_call 30;refine K.out.mono ?_;rintro e w1 ⟨rfl,rfl⟩)
 go_ret
 exact⟨rfl,rfl⟩
set_option maxHeartbeats 2000000 in
set_option maxRecDepth 100000 in
theorem checkParts_any (parts:List M.Prt) (a:Option Addr) (c:Nat) (w:World) (hp:PartsAt w (sv a parts.length c) parts) :
  Calls Tryz.prog 31 #[sv a parts.length c] w fun e w'=>e=.returned (iv (M.checkEach parts))∧Below w.heap.size w w':=by
 have hpl:parts.length≤maxLen:=by obtain⟨_,h,_⟩:=hp;obtain⟨_,_,_,h⟩:=h.form;exact h
 unfold maxLen at hpl
 have HP:Hid (∀ W,Below w.heap.size w W→PartsAt W (sv a parts.length c) parts):=fun W hW=>hp.later hW
 clear hp
 obtain⟨R,hR⟩:∃ R,M.checkEach parts=R:=⟨_,rfl⟩
 have HR:Hid (M.checkEach parts=R):=hR
 rw[hR]
 clear hR
 go_enter Tryz.func31,Tryz.ntmps31
 go_wp2_with fail
 go_loopw [8] (fun s8 wr=>∃ (k:Nat),k≤parts.length∧s8=iv k∧Hid (R=M.checkEach (parts.drop k))∧Hid (Below w.heap.size w wr)) (fun s8 _=>parts.length - (intOf s8).toNat)
 case atStart=>exact⟨0,Nat.zero_le _,rfl,HR.out.symm,Below.refl _ _⟩
 case round =>
  obtain⟨k,hk,rfl,HE,HB⟩:=hrel
  have hw0:w.heap.size≤wr.heap.size:=HB.out.size
  by_cases hlt:k<parts.length
  ·obtain⟨cell,hs,hc⟩:=HP.out wr HB.out
   obtain⟨b,off,rfl,hce⟩:=hs.at k hlt
   obtain⟨hF',hD'⟩:=hc k hlt
   have e0:=hce 0 (by decide)
   have e1:=hce 1 (by decide)
   rw[Nat.add_zero] at e0
   obtain⟨x3,y3,hx3⟩:=hF'.form
   obtain⟨x4,y4,hx4⟩:=hD'.form
   rw[hx3] at e0 hF'
   rw[hx4] at e1 hD'
   have hbr:b<wr.heap.size:=World.block_lt_of_cell? _ _ e0
   have hkl:(k:Int)<(parts.length:Int):=by omega
   have HE1:Hid (R=if M.checkPart (parts.getD k M.nil)=0 then M.checkEach (parts.drop (k+1)) else M.checkPart (parts.getD k M.nil)):=by rw[Hid,HE.out,checkEach_step parts k hlt]
   clear HE hs hc hce hx3 hx4
   generalize parts.getD k M.nil=q at *
   have HA:Hid (Below wr.heap.size wr (wr.alloc (.cells #[sv x3 q.frags.length y3,sv x4 q.defs.length y4] 39))):=(Below.refl _ _).alloc (Nat.le_refl _) _
   have HBA:Hid (Below w.heap.size w (wr.alloc (.cells #[sv x3 q.frags.length y3,sv x4 q.defs.length y4] 39))):=HB.out.trans (HA.out.mono hw0)
   have KP:Hid (Calls Tryz.prog 63 #[.agg #[sv x3 q.frags.length y3,sv x4 q.defs.length y4]] (wr.alloc (.cells #[sv x3 q.frags.length y3,sv x4 q.defs.length y4] 39)) fun e w'=>e=.returned (iv (M.checkPart q))∧Below (wr.alloc (.cells #[sv x3 q.frags.length y3,sv x4 q.defs.length y4] 39)).heap.size (wr.alloc (.cells #[sv x3 q.frags.length y3,sv x4 q.defs.length y4] 39)) w'):=check_any q.frags q.defs _ _ _ _ _ (hF'.later HA.out) (hD'.later HA.out)
   by_cases hq:M.checkPart q=0
   ·have HE2:Hid (R=M.checkEach (parts.drop (k+1))):=by rw[Hid,HE1.out,if_pos hq]
    rw[hq] at KP
    clear HE1 hF' hD' hq
    go_wp2_with (go_at_call 63;refine KP.out.mono ?_;rintro e x1 ⟨rfl,hx1⟩)
    go_roundw
    case rel=>exact⟨k+1,by omega,by go_num,HE2,HBA.out.trans (hx1.mono HBA.out.size)⟩
    case measure=>simp[intOf];omega
   ·have HRq:Hid (R=M.checkPart q):=by rw[Hid,HE1.out,if_neg hq]
    have hne:(M.checkPart q !=0)=true:=by simpa using hq
    clear HE1 hF' hD' hq
    generalize M.checkPart q=er at *
    go_wp2_with (go_at_call 63;refine KP.out.mono ?_;rintro e x1 ⟨rfl,hx1⟩)
    go_ret
    exact⟨by rw[HRq.out];rfl,HBA.out.trans (hx1.mono HBA.out.size)⟩
  ·have hkl:k=parts.length:=by omega
   have HE1:Hid (R=0):=by rw[Hid,HE.out,hkl,List.drop_eq_nil_of_le (Nat.le_refl _)];rfl
   clear HE
   subst hkl
   go_wp2
   go_ret
   exact⟨by rw[HE1.out];rfl,HB.out⟩
theorem copyPart_any (q:M.Prt) (a1 a2:Option Addr) (c1 c2:Nat) (w:World) (hf:FragsAt w (sv a1 q.frags.length c1) q.frags) (hd:DefsAt w (sv a2 q.defs.length c2) q.defs) (hok:M.checkPart q=0) :
  Calls Tryz.prog 24 #[.agg #[sv a1 q.frags.length c1,sv a2 q.defs.length c2]] w fun e w' =>
   Below w.heap.size w w'∧∃ x1 y1 x2 y2,e=.returned (.agg #[sv x1 q.frags.length y1,sv x2 q.defs.length y2])∧POwn w' w.heap.size ⟨q,sv x1 q.frags.length y1,sv x2 q.defs.length y2⟩:=by
 have hj:M.join M.nil q=(q,0):=M.nil_join ((M.ok_iff q).1 hok)
 have HA:Hid (Below w.heap.size w ((w.alloc (.cells #[sv a1 q.frags.length c1,sv a2 q.defs.length c2] 39)).alloc (.cells #[sv none 0 0,sv none 0 0] 39))):=((Below.refl _ _).alloc (Nat.le_refl _) _).alloc (by simp) _
 have hr:((w.alloc (.cells #[sv a1 q.frags.length c1,sv a2 q.defs.length c2] 39)).alloc (.cells #[sv none 0 0,sv none 0 0] 39)).heap[w.heap.size+1]?=some (.cells #[sv none 0 0,sv none 0 0] 39 (0,0)):=by
  have:=heap_alloc_new (w.alloc (.cells #[sv a1 q.frags.length c1,sv a2 q.defs.length c2] 39)) (.cells #[sv none 0 0,sv none 0 0] 39)
  simpa using this
 have KJ:Hid (Calls Tryz.prog 27 #[.agg #[sv none 0 0,sv none 0 0],.agg #[sv a1 q.frags.length c1,sv a2 q.defs.length c2]] ((w.alloc (.cells #[sv a1 q.frags.length c1,sv a2 q.defs.length c2] 39)).alloc (.cells #[sv none 0 0,sv none 0 0] 39)) fun e w' =>
   Below w.heap.size w w'∧Below ((w.alloc (.cells #[sv a1 q.frags.length c1,sv a2 q.defs.length c2] 39)).alloc (.cells #[sv none 0 0,sv none 0 0] 39)).heap.size ((w.alloc (.cells #[sv a1 q.frags.length c1,sv a2 q.defs.length c2] 39)).alloc (.cells #[sv none 0 0,sv none 0 0] 39)) w'∧∃ x1 y1 x2 y2,e=.returned (.tuple #[.agg #[sv x1 q.frags.length y1,sv x2 q.defs.length y2],iv 0])∧POwn w' w.heap.size ⟨q,sv x1 q.frags.length y1,sv x2 q.defs.length y2⟩):=by
  have hN:=PR.nil ((w.alloc (.cells #[sv a1 q.frags.length c1,sv a2 q.defs.length c2] 39)).alloc (.cells #[sv none 0 0,sv none 0 0] 39)) 0
  refine (join_any M.nil q none none a1 a2 0 0 c1 c2 _ hN.fragsAt hN.defsAt (hf.later HA.out) (hd.later HA.out)).mono ?_
  rintro e w' ⟨hb,es,vF,vD,rfl,hP,hes⟩
  rw[hj] at hP hes ⊢
  have hF:=hP.fragsAt
  rw[hes] at hF
  obtain⟨x1,y1,rfl⟩:=hF.form
  obtain⟨x2,y2,rfl⟩:=hP.defsAt.form
  exact⟨HA.out.trans (hb.mono HA.out.size),hb,x1,y1,x2,y2,rfl,es,hP.base HA.out.size,hes⟩
 clear hf hd
 go_enter Tryz.func24,Tryz.ntmps24
 go_upto_region 2 with (go_at_call 27;refine KJ.out.mono ?_;rintro e x1 ⟨hb1,hb2,z1,u1,z2,u2,rfl,hP1⟩)
 have hA1:=(Below.refl x1.heap.size x1).alloc (Nat.le_refl _) (.cells #[sv z1 q.frags.length u1,sv z2 q.defs.length u2] 39)
 have h2:(x1.alloc (.cells #[sv z1 q.frags.length u1,sv z2 q.defs.length u2] 39)).heap[w.heap.size+1]?=some (.cells #[sv none 0 0,sv none 0 0] 39 (0,0)):=(hA1.block _ (by have:=hb2.size;simp at this;omega)).trans ((hb2.block _ (by simp)).trans hr)
 have h3:=heap_alloc_new x1 (.cells #[sv z1 q.frags.length u1,sv z2 q.defs.length u2] 39)
 have HB:Hid (Below w.heap.size w (x1.alloc (.cells #[sv z1 q.frags.length u1,sv z2 q.defs.length u2] 39))):=hb1.trans (hA1.mono hb1.size)
 have HP:Hid (POwn (x1.alloc (.cells #[sv z1 q.frags.length u1,sv z2 q.defs.length u2] 39)) w.heap.size ⟨q,sv z1 q.frags.length u1,sv z2 q.defs.length u2⟩):=hP1.later hA1
 clear hb1 hb2 hP1 hA1 KJ hr HA
 generalize x1.alloc (.cells #[sv z1 q.frags.length u1,sv z2 q.defs.length u2] 39)=X at *
 generalize x1.heap.size=nx at *
 have c0:=cellC h3 0 rfl
 have c1':=cellC h3 1 rfl
 have d0:=cellC h2 0 rfl
 have d1:=cellC h2 1 rfl
 have f0:=frozenB h2 0
 have f1:=frozenB h2 1
 have hlx:=lt1 h3
 have hlr:=lt1 h2
 have wr:Wr X ((X.setCell (qa (w.heap.size+1) 0) (sv z1 q.frags.length u1)).setCell (qa (w.heap.size+1) 1) (sv z2 q.defs.length u2)) 39:=⟨w.heap.size+1,_,h2,grown_trans (grown_set _ _ _ _) (grown_set _ _ _ _)⟩
 have HP2:Hid (POwn ((X.setCell (qa (w.heap.size+1) 0) (sv z1 q.frags.length u1)).setCell (qa (w.heap.size+1) 1) (sv z2 q.defs.length u2)) w.heap.size ⟨q,sv z1 q.frags.length u1,sv z2 q.defs.length u2⟩):=wr.pw HP.out rfl
 have HB2:Hid (Below w.heap.size w ((X.setCell (qa (w.heap.size+1) 0) (sv z1 q.frags.length u1)).setCell (qa (w.heap.size+1) 1) (sv z2 q.defs.length u2))):=(HB.out.setCell (by show w.heap.size≤w.heap.size+1;omega) _).setCell (by show w.heap.size≤w.heap.size+1;omega) _
 have hz2:((X.setCell (qa (w.heap.size+1) 0) (sv z1 q.frags.length u1)).setCell (qa (w.heap.size+1) 1) (sv z2 q.defs.length u2)).heap[w.heap.size+1]?=some (.cells #[sv z1 q.frags.length u1,sv z2 q.defs.length u2] 39 (0,0)):=setB' (setB' h2 _) _
 clear h2 h3 HB HP wr
 go_wp2_with fail
 have r0:=cellC hz2 0 rfl
 have r1:=cellC hz2 1 rfl
 refine bodyPost_ret (v:=.agg #[sv z1 q.frags.length u1,sv z2 q.defs.length u2]) (by simp[results,Tryz.results24,go_sem,r0,r1]) rfl ?_
 exact⟨HB2.out,z1,u1,z2,u2,rfl,HP2.out⟩
theorem each_ok:∀ (l:List M.Prt),M.checkEach l=0→∀ p∈l,M.checkPart p=0
 | [],_,p,hp=>by cases hp
 | q :: l,h,p,hp=>by
  unfold M.checkEach at h
  by_cases hq:M.checkPart q=0
  ·rw[if_pos hq] at h
   rcases List.mem_cons.1 hp with rfl | hp
   ·exact hq
   ·exact each_ok l h p hp
  ·rw[if_neg hq] at h;exact absurd h hq
set_option maxHeartbeats 4000000 in
set_option maxRecDepth 100000 in
theorem copyParts_any (parts:List M.Prt) (a:Option Addr) (c:Nat) (w:World) (hp:PartsAt w (sv a parts.length c) parts) (hl:parts.length≤100) (hok:M.checkEach parts=0) :
  Calls Tryz.prog 49 #[sv a parts.length c] w fun e w'=>∃ v,e=.returned v∧EvOut w w' v parts:=by
 obtain⟨i0,hi0,hz0,hz1,hz2⟩:=info_parts (P:=Tryz.prog) (e:=39) (z:=.agg #[sv none 0 0,sv none 0 0]) (size:=2) (bytes:=48) (by kernel_rfl)
 have HP:Hid (∀ W,Below w.heap.size w W→PartsAt W (sv a parts.length c) parts):=fun W hW=>hp.later hW
 have HO:Hid (∀ p∈parts,M.checkPart p=0):=each_ok parts hok
 clear hp hok
 go_enter Tryz.func49,Tryz.ntmps49
 go_wp2_with fail
 go_loopw [3,8] (fun s3 s8 wr=>∃ (k:Nat) (es:List PEnt),k≤parts.length∧s8=iv k∧Hid (es.length=k)∧Hid (EvI w wr s3 es)∧Hid (es.map (·.p)=parts.take k)) (fun _ s8 _=>parts.length - (intOf s8).toNat)
 case atStart=>exact⟨0,[],Nat.zero_le _,rfl,rfl,⟨Below.refl _ _,World.ownsRow_nil _ _ _ _,fun e he=>by cases he⟩,rfl⟩
 case round =>
  obtain⟨k,es,hk,rfl,HEl,HI,HM⟩:=hrel
  have hwI:=HI.out.below
  have hw0:w.heap.size≤wr.heap.size:=hwI.size
  obtain⟨ad,nn,cc,rfl⟩:=own_form HI.out.row
  by_cases hlt:k<parts.length
  ·obtain⟨cell,hs,hc⟩:=HP.out wr hwI
   obtain⟨b,off,rfl,hce⟩:=hs.at k hlt
   obtain⟨hF',hD'⟩:=hc k hlt
   have e0:=hce 0 (by decide)
   have e1:=hce 1 (by decide)
   rw[Nat.add_zero] at e0
   obtain⟨x3,y3,hx3⟩:=hF'.form
   obtain⟨x4,y4,hx4⟩:=hD'.form
   rw[hx3] at e0 hF'
   rw[hx4] at e1 hD'
   have hbr:b<wr.heap.size:=World.block_lt_of_cell? _ _ e0
   have hkl:(k:Int)<(parts.length:Int):=by omega
   have hq0:=HO.out _ (getD_mem parts M.nil k hlt)
   have HM2:Hid (∀ e:PEnt,e.p=parts.getD k M.nil→(es ++ [e]).map (·.p)=parts.take (k+1)):=fun e he=>by
    rw[List.map_append,HM.out,List.take_add_one,getElem?_getD parts M.nil k hlt]
    simp[he]
   clear hs hc hce hx3 hx4 HM
   generalize parts.getD k M.nil=q at *
   have hA:Below wr.heap.size wr (wr.alloc (.cells #[sv x3 q.frags.length y3,sv x4 q.defs.length y4] 39)):=(Below.refl _ _).alloc (Nat.le_refl _) _
   have KP:Hid (Calls Tryz.prog 24 #[.agg #[sv x3 q.frags.length y3,sv x4 q.defs.length y4]] (wr.alloc (.cells #[sv x3 q.frags.length y3,sv x4 q.defs.length y4] 39)) fun e w' =>
    ∃ x1 y1 x2 y2,e=.returned (.agg #[sv x1 q.frags.length y1,sv x2 q.defs.length y2])∧EvI w w' (sv ad nn cc) es∧POwn w' w.heap.size ⟨q,sv x1 q.frags.length y1,sv x2 q.defs.length y2⟩):=by
    refine (copyPart_any q _ _ _ _ _ (hF'.later hA) (hD'.later hA) hq0).mono ?_
    rintro e w' ⟨hb,x1,y1,x2,y2,rfl,hP⟩
    have hb':=hA.trans (hb.mono hA.size)
    exact⟨x1,y1,x2,y2,rfl,HI.out.later hb',hP.base (Nat.le_trans hw0 hA.size)⟩
   clear hF' hD' hA hq0
   have hnl:es.length≤100:=by have:=HEl.out;omega
   clear HI
   go_upto_region 5 with fail
   have q0:=heap_alloc_new wr (.cells #[sv x3 q.frags.length y3,sv x4 q.defs.length y4] 39)
   have cc0:=cellC q0 0 rfl
   have cc1:=cellC q0 1 rfl
   have hlw:wr.heap.size<(wr.alloc (.cells #[sv x3 q.frags.length y3,sv x4 q.defs.length y4] 39)).heap.size:=by simp
   clear q0 e0 e1 hwI
   generalize wr.alloc (.cells #[sv x3 q.frags.length y3,sv x4 q.defs.length y4] 39)=Y at *
   generalize wr.heap.size=ny at *
   go_wp2_with (go_at_call 24;refine KP.out.mono ?_;rintro e X6 ⟨z1,u1,z2,u2,rfl,hI6,hP6⟩;refine Hid.out ?_)
   have hrow:=hI6.row
   have hwX:w.heap.size≤X6.heap.size:=hI6.below.size
   have HAp:Hid (∀ v' w3,(X6.alloc (.cells #[sv z1 q.frags.length u1,sv z2 q.defs.length u2] 39)).grownBy w3 (sv ad nn cc).ownBlock→w3.ownsRow w.heap.size 39 2 v' (es.length+1) (es.flatMap pentCells ++ (#[sv z1 q.frags.length u1,sv z2 q.defs.length u2]:Array Value).toList)→EvI w w3 v' (es ++ [⟨q,sv z1 q.frags.length u1,sv z2 q.defs.length u2⟩])):=fun v' w3 hg ho=>by
    have hb:=(Below.refl X6.heap.size X6).alloc (Nat.le_refl _) (.cells #[sv z1 q.frags.length u1,sv z2 q.defs.length u2] 39)
    exact (hI6.later hb).push (hP6.later hb) hg ho
   have hnews:∀ j u,(#[sv z1 q.frags.length u1,sv z2 q.defs.length u2]:Array Value).toList[j]?=some u→(X6.alloc (.cells #[sv z1 q.frags.length u1,sv z2 q.defs.length u2] 39)).cell? ((qa X6.heap.size 0).add j)=some u:=World.news_of_block (heap_alloc_new X6 _)
   clear hI6 hP6 KP cc0 cc1
   refine Lib.hid ?_
   go_wp2_with (at_builtin;refine wpList_append_own _ rfl _ _ 22 rfl w.heap.size 39 i0 (.agg #[sv none 0 0,sv none 0 0]) 2 48 Tryz.underlying22 hi0 hz0 hz1 hz2 rfl (by decide) _ _ _ rfl (hrow.alloc _) ⟨X6.heap.size,0,none⟩ 1 1 (#[sv z1 q.frags.length u1,sv z2 q.defs.length u2]:Array Value).toList rfl rfl hnews (fun u hu=>by simp at hu;rcases hu with rfl | rfl <;> rfl) (by unfold maxLen;omega) (by omega) (by simp;omega) ?_;intro v' w3 hown' hgrow3 hnil3)
   go_roundw
   case rel=>exact⟨k+1,es ++ [(⟨q,sv z1 q.frags.length u1,sv z2 q.defs.length u2⟩:PEnt)],by omega,by go_num,by have:=HEl.out;simp[Hid,this],HAp.out _ _ hgrow3 hown',HM2.out _ rfl⟩
   case measure=>simp[intOf];omega
  ·have hkl:k=parts.length:=by omega
   have HO2:Hid (EvOut w wr (sv ad nn cc) parts):=⟨hwI,es,by rw[HM.out,hkl,List.take_length],HI.out.row,HI.out.parts⟩
   clear HI HM hwI HEl
   subst hkl
   go_wp2
   go_ret
   exact⟨sv ad nn cc,rfl,HO2.out⟩
theorem checkNet_step (wk nd:Nat) (l:List M.Msg) (k:Nat) (h:k<l.length):M.checkNet wk nd (l.drop k)=if M.msgOk wk nd (l.getD k M.msg0)=true then (if M.checkPart (l.getD k M.msg0).p=0 then M.checkNet wk nd (l.drop (k+1)) else M.checkPart (l.getD k M.msg0).p) else 3:=by
 rw[drop_getD l M.msg0 k h];rfl
set_option maxHeartbeats 4000000 in
set_option maxRecDepth 100000 in
theorem checkNet_any (f:M.Farm) (x:Fd) (w:World) (hf:FarmAt w f x) :
  Calls Tryz.prog 34 #[.agg #[sv x.p f.parts.length x.pc,sv x.l f.plan.length x.lc,iv f.now,sv x.d f.done.length x.dc,sv x.h f.got.length x.hc,sv x.g f.grants.length x.gc,sv x.k f.work.length x.kc,sv x.n f.net.length x.nc]] w fun e w'=>e=.returned (iv (M.checkNet f.work.length f.plan.length f.net))∧Below w.heap.size w w':=by
 obtain⟨C,hC⟩:∃ C:Array Value,C=#[sv x.p f.parts.length x.pc,sv x.l f.plan.length x.lc,iv f.now,sv x.d f.done.length x.dc,sv x.h f.got.length x.hc,sv x.g f.grants.length x.gc,sv x.k f.work.length x.kc,sv x.n f.net.length x.nc]:=⟨_,rfl⟩
 have hnl:f.net.length≤maxLen:=by obtain⟨_,h,_⟩:=hf.net;obtain⟨_,_,_,h⟩:=h.form;exact h
 have hwl:f.work.length≤maxLen:=by obtain⟨_,_,_,h⟩:=SlAt.form hf.work;exact h
 have hll:f.plan.length≤maxLen:=by obtain⟨_,_,_,h⟩:=SlAt.form hf.plan;exact h
 unfold maxLen at hnl hwl hll
 have HN:Hid (∀ W,Below w.heap.size w W→NetAt W (sv x.n f.net.length x.nc) f.net):=fun W hW=>hf.net.later hW
 have h0:=heap_alloc_new w (.cells #[sv x.p f.parts.length x.pc,sv x.l f.plan.length x.lc,iv f.now,sv x.d f.done.length x.dc,sv x.h f.got.length x.hc,sv x.g f.grants.length x.gc,sv x.k f.work.length x.kc,sv x.n f.net.length x.nc] 29)
 have HB0:Hid (Below w.heap.size w (w.alloc (.cells #[sv x.p f.parts.length x.pc,sv x.l f.plan.length x.lc,iv f.now,sv x.d f.done.length x.dc,sv x.h f.got.length x.hc,sv x.g f.grants.length x.gc,sv x.k f.work.length x.kc,sv x.n f.net.length x.nc] 29))):=(Below.refl _ _).alloc (Nat.le_refl _) _
 clear hf hC
 obtain⟨xp,xpc,xl,xlc,xd,xdc,xh,xhc,xg,xgc,xk,xkc,xn,xnc⟩:=x
 obtain⟨fparts,fplan,fnow,fdone,fgot,fgrants,fwork,fnet⟩:=f
 simp only at HN h0 HB0 hnl hwl hll ⊢
 generalize fparts.length=np at *
 generalize fplan.length=nl at *
 generalize fdone.length=nd at *
 generalize fgot.length=nh at *
 generalize fgrants.length=ng at *
 generalize fwork.length=nk at *
 clear fparts fplan fdone fgot fgrants fwork
 obtain⟨R,hR⟩:∃ R,M.checkNet nk nl fnet=R:=⟨_,rfl⟩
 have HR:Hid (M.checkNet nk nl fnet=R):=hR
 rw[hR]
 clear hR
 have K1:Hid (∀ m W,Calls Tryz.prog 30 #[iv m,iv 1,iv 2] W fun e w'=>e=.returned (.bool (M.inR m 1 2))∧W=w'):=fun m W=>(fwithin_any m 1 2 W).mono fun e w' ⟨h1,h2⟩=>⟨h1,h2.symm⟩
 have K2:Hid (∀ m W,Calls Tryz.prog 33 #[sv xk nk xkc,iv m] W fun e w'=>e=.returned (.bool (M.inR m 0 ((nk:Int) - 1)))∧W=w'):=fun m W=>(standsW_any xk nk xkc m W hwl).mono fun e w' ⟨h1,h2⟩=>⟨h1,h2.symm⟩
 have K3:Hid (∀ m W,Calls Tryz.prog 32 #[sv xl nl xlc,iv m] W fun e w'=>e=.returned (.bool (M.inR m 0 ((nl:Int) - 1)))∧W=w'):=fun m W=>(standsN_any xl nl xlc m W hll).mono fun e w' ⟨h1,h2⟩=>⟨h1,h2.symm⟩
 go_enter Tryz.func34,Tryz.ntmps34
 go_upto_region 1 with fail
 generalize w.alloc (.cells #[sv xp np xpc,sv xl nl xlc,iv fnow,sv xd nd xdc,sv xh nh xhc,sv xg ng xgc,sv xk nk xkc,sv xn fnet.length xnc] 29)=Y at *
 have c7:=cellC h0 7 rfl
 have hl0:=lt1 h0
 go_upto_region 2 with fail
 clear c7
 go_loopw [9] (fun s9 wr=>∃ (k:Nat),k≤fnet.length∧s9=iv k∧Hid (R=M.checkNet nk nl (fnet.drop k))∧Hid (Below w.heap.size w wr)∧wr.heap[w.heap.size]?=some (.cells #[sv xp np xpc,sv xl nl xlc,iv fnow,sv xd nd xdc,sv xh nh xhc,sv xg ng xgc,sv xk nk xkc,sv xn fnet.length xnc] 29 (0,0))) (fun s9 _=>fnet.length - (intOf s9).toNat)
 case atStart=>exact⟨0,Nat.zero_le _,rfl,HR.out.symm,HB0,h0⟩
 case round =>
  obtain⟨k,hk,rfl,HE,HB,hblk⟩:=hrel
  clear HB0 h0 hl0
  have hw0:w.heap.size≤wr.heap.size:=HB.out.size
  by_cases hlt:k<fnet.length
  ·obtain⟨b,off,x1,y1,x2,y2,rfl,e0,e1,e2,e3,e4,hF',hD'⟩:=(HN.out wr HB.out).cells k hlt
   have hbr:b<wr.heap.size:=World.block_lt_of_cell? _ _ e0
   have hkl:(k:Int)<(fnet.length:Int):=by omega
   have HE1:=HE.out
   rw[checkNet_step _ _ _ _ hlt] at HE1
   generalize fnet.getD k M.msg0=m at *
   obtain⟨mk,mw,mn,q⟩:=m
   simp only[M.msgOk] at e0 e1 e2 e3 e4 hF' hD' HE1
   have HE2:Hid (R=if (M.inR mk 1 2&&(M.inR mw 0 ((nk:Int) - 1)&&M.inR mn 0 ((nl:Int) - 1)))=true then (if M.checkPart q=0 then M.checkNet nk nl (fnet.drop (k+1)) else M.checkPart q) else 3):=HE1
   clear HE HE1
   go_upto_region 4 with fail
   have hA:Below wr.heap.size wr (wr.alloc (.cells #[iv mk,iv mw,iv mn,sv x1 q.frags.length y1,sv x2 q.defs.length y2] 60)):=(Below.refl _ _).alloc (Nat.le_refl _) _
   have hm0:=heap_alloc_new wr (.cells #[iv mk,iv mw,iv mn,sv x1 q.frags.length y1,sv x2 q.defs.length y2] 60)
   have hb0:=(hA.block _ (lt1 hblk)).trans hblk
   have HBY:Hid (Below w.heap.size w (wr.alloc (.cells #[iv mk,iv mw,iv mn,sv x1 q.frags.length y1,sv x2 q.defs.length y2] 60))):=HB.out.trans (hA.mono hw0)
   replace hF':=hF'.later hA
   replace hD':=hD'.later hA
   clear e0 e1 e2 e3 e4 hA hblk HB
   generalize wr.alloc (.cells #[iv mk,iv mw,iv mn,sv x1 q.frags.length y1,sv x2 q.defs.length y2] 60)=Z at *
   generalize wr.heap.size=nz at *
   have m0:=cellC hm0 0 rfl
   have m1:=cellC hm0 1 rfl
   have m2:=cellC hm0 2 rfl
   have m3:=cellC hm0 3 rfl
   have m4:=cellC hm0 4 rfl
   have b1:=cellC hb0 1 rfl
   have b6:=cellC hb0 6 rfl
   have lz:=lt1 hm0
   have lb:=lt1 hb0
   have KP:Hid (Calls Tryz.prog 63 #[.agg #[sv x1 q.frags.length y1,sv x2 q.defs.length y2]] Z fun e w'=>e=.returned (iv (M.checkPart q))∧Below Z.heap.size Z w'):=check_any q.frags q.defs _ _ _ _ _ hF' hD'
   clear hF' hD' hm0
   have Hb0:Hid (Z.heap[w.heap.size]?=some (.cells #[sv xp np xpc,sv xl nl xlc,iv fnow,sv xd nd xdc,sv xh nh xhc,sv xg ng xgc,sv xk nk xkc,sv (some (qa b off)) fnet.length xnc] 29 (0,0))):=hb0
   clear hb0
   have KA:=K1.out mk Z
   have KB:=K2.out mw Z
   have KC:=K3.out mn Z
   cases g1:M.inR mk 1 2
   ·have HE3:Hid (R=3):=by rw[Hid,HE2.out,g1];simp
    rw[g1] at KA
    have KA':Hid (Calls Tryz.prog 30 #[iv mk,iv 1,iv 2] Z fun e w'=>e=.returned (.bool false)∧Z=w'):=KA
    clear KA KB KC K1 K2 K3 HE2
    go_wp2_with (go_at_call 30;refine KA'.out.mono ?_;rintro e w1 ⟨rfl,rfl⟩)
    go_ret
    exact⟨by rw[HE3.out];rfl,HBY.out⟩
   ·rw[g1] at KA HE2
    have KA':Hid (Calls Tryz.prog 30 #[iv mk,iv 1,iv 2] Z fun e w'=>e=.returned (.bool true)∧Z=w'):=KA
    clear KA
    cases g2:M.inR mw 0 ((nk:Int) - 1)
    ·have HE3:Hid (R=3):=by rw[Hid,HE2.out,g2];simp
     rw[g2] at KB
     have KB':Hid (Calls Tryz.prog 33 #[sv xk nk xkc,iv mw] Z fun e w'=>e=.returned (.bool false)∧Z=w'):=KB
     clear KB KC K1 K2 K3 HE2
     go_wp2_with (first | (go_at_call 30;refine KA'.out.mono ?_;rintro e w1 ⟨rfl,rfl⟩) | (go_at_call 33;refine KB'.out.mono ?_;rintro e w1 ⟨rfl,rfl⟩))
     go_ret
     exact⟨by rw[HE3.out];rfl,HBY.out⟩
    ·rw[g2] at KB HE2
     have KB':Hid (Calls Tryz.prog 33 #[sv xk nk xkc,iv mw] Z fun e w'=>e=.returned (.bool true)∧Z=w'):=KB
     clear KB
     cases g3:M.inR mn 0 ((nl:Int) - 1)
     ·have HE3:Hid (R=3):=by rw[Hid,HE2.out,g3];simp
      rw[g3] at KC
      have KC':Hid (Calls Tryz.prog 32 #[sv xl nl xlc,iv mn] Z fun e w'=>e=.returned (.bool false)∧Z=w'):=KC
      clear KC K1 K2 K3 HE2
      go_wp2_with (first | (go_at_call 30;refine KA'.out.mono ?_;rintro e w1 ⟨rfl,rfl⟩) | (go_at_call 33;refine KB'.out.mono ?_;rintro e w1 ⟨rfl,rfl⟩) | (go_at_call 32;refine KC'.out.mono ?_;rintro e w1 ⟨rfl,rfl⟩))
      go_ret
      exact⟨by rw[HE3.out];rfl,HBY.out⟩
     ·rw[g3] at KC HE2
      have KC':Hid (Calls Tryz.prog 32 #[sv xl nl xlc,iv mn] Z fun e w'=>e=.returned (.bool true)∧Z=w'):=KC
      clear KC K1 K2 K3
      have HE4:Hid (R=if M.checkPart q=0 then M.checkNet nk nl (fnet.drop (k+1)) else M.checkPart q):=by rw[Hid,HE2.out];simp
      clear HE2
      by_cases hq:M.checkPart q=0
      ·have HE5:Hid (R=M.checkNet nk nl (fnet.drop (k+1))):=by rw[Hid,HE4.out,if_pos hq]
       rw[hq] at KP
       clear HE4 hq
       go_wp2_with (first | (go_at_call 30;refine KA'.out.mono ?_;rintro e w1 ⟨rfl,rfl⟩) | (go_at_call 33;refine KB'.out.mono ?_;rintro e w1 ⟨rfl,rfl⟩) | (go_at_call 32;refine KC'.out.mono ?_;rintro e w1 ⟨rfl,rfl⟩) | (go_at_call 63;refine KP.out.mono ?_;rintro e x5 ⟨rfl,hx5⟩))
       go_roundw
       case rel=>exact⟨k+1,by omega,by go_num,HE5,HBY.out.trans (hx5.mono HBY.out.size),(hx5.block _ lb).trans Hb0.out⟩
       case measure=>simp[intOf];omega
      ·have HE5:Hid (R=M.checkPart q):=by rw[Hid,HE4.out,if_neg hq]
       have hne:(M.checkPart q !=0)=true:=by simpa using hq
       clear HE4 hq
       generalize M.checkPart q=er at *
       go_wp2_with (first | (go_at_call 30;refine KA'.out.mono ?_;rintro e w1 ⟨rfl,rfl⟩) | (go_at_call 33;refine KB'.out.mono ?_;rintro e w1 ⟨rfl,rfl⟩) | (go_at_call 32;refine KC'.out.mono ?_;rintro e w1 ⟨rfl,rfl⟩) | (go_at_call 63;refine KP.out.mono ?_;rintro e x5 ⟨rfl,hx5⟩))
       go_ret
       exact⟨by rw[HE5.out];rfl,HBY.out.trans (hx5.mono HBY.out.size)⟩
  ·have hkl:k=fnet.length:=by omega
   have HE1:Hid (R=0):=by rw[Hid,HE.out,hkl,List.drop_eq_nil_of_le (Nat.le_refl _)];rfl
   clear HE K1 K2 K3 hblk
   subst hkl
   go_wp2
   go_ret
   exact⟨by rw[HE1.out];rfl,HB.out⟩
theorem run_pair0 {w:World} (x y:Option Addr) (n c m d:Nat):(Instr.index 71 (.agg #[sv x n c,sv y m d]) (iv 0)).run Tryz.prog w=.ok (sv x n c) w:=by kernel_rfl
theorem run_pair1 {w:World} (x y:Option Addr) (n c m d:Nat):(Instr.index 71 (.agg #[sv x n c,sv y m d]) (iv 1)).run Tryz.prog w=.ok (sv y m d) w:=by kernel_rfl
attribute [local go_sem] run_pair0 run_pair1
theorem checkWork_step (nd:Nat) (l:List Int) (k:Nat) (h:k<l.length):M.checkWork nd (l.drop k)=if M.workOk nd (l.getD k 0)=true then M.checkWork nd (l.drop (k+1)) else 5:=by
 rw[drop_getD l 0 k h]
 unfold M.checkWork
 rw[List.all_cons]
 cases M.workOk nd (l.getD k 0) <;> simp
theorem checkGrants_step (nk:Nat) (l:List M.Grt) (k:Nat) (h:k<l.length):M.checkGrants nk (l.drop k)=if M.grantOk nk (l.getD k M.grt0)=true then M.checkGrants nk (l.drop (k+1)) else 3:=by
 rw[drop_getD l M.grt0 k h]
 unfold M.checkGrants
 rw[List.all_cons]
 cases M.grantOk nk (l.getD k M.grt0) <;> simp
set_option maxHeartbeats 16000000 in
set_option maxRecDepth 100000 in
theorem farmCheck_any (f:M.Farm) (x:Fd) (w:World) (hf:FarmAt w f x) :
  Calls Tryz.prog 10 #[.agg #[sv x.p f.parts.length x.pc,sv x.l f.plan.length x.lc,iv f.now,sv x.d f.done.length x.dc,sv x.h f.got.length x.hc,sv x.g f.grants.length x.gc,sv x.k f.work.length x.kc,sv x.n f.net.length x.nc]] w fun e w'=>e=.returned (iv (M.checkFarm f))∧Below w.heap.size w w':=by
 have hnl:f.net.length≤maxLen:=by obtain⟨_,h,_⟩:=hf.net;obtain⟨_,_,_,h⟩:=h.form;exact h
 have hwl:f.work.length≤maxLen:=by obtain⟨_,_,_,h⟩:=SlAt.form hf.work;exact h
 have hll:f.plan.length≤maxLen:=by obtain⟨_,_,_,h⟩:=SlAt.form hf.plan;exact h
 have hdl:f.done.length≤maxLen:=by obtain⟨_,_,_,h⟩:=SlAt.form hf.done;exact h
 have hgl:f.grants.length≤maxLen:=by obtain⟨_,_,_,h⟩:=SlAt.form hf.grants;exact h
 have hpl:f.parts.length≤maxLen:=by obtain⟨_,h,_⟩:=hf.parts;obtain⟨_,_,_,h⟩:=h.form;exact h
 have hhl:f.got.length≤maxLen:=by obtain⟨_,h,_⟩:=hf.got;obtain⟨_,_,_,h⟩:=h.form;exact h
 unfold maxLen at hnl hwl hll hdl hgl hpl hhl
 have KPl:Hid (∀ W,Below w.heap.size w W→Calls Tryz.prog 29 #[sv x.l f.plan.length x.lc,iv f.parts.length] W fun e w'=>e=.returned (iv (M.checkPlan f.plan f.parts.length))∧Below W.heap.size W w'):=fun W hW=>planCheck_any f.plan f.parts.length _ _ W (hf.plan.later hW)
 have KPa:Hid (∀ W,Below w.heap.size w W→Calls Tryz.prog 31 #[sv x.p f.parts.length x.pc] W fun e w'=>e=.returned (iv (M.checkEach f.parts))∧Below W.heap.size W w'):=fun W hW=>checkParts_any f.parts _ _ W (hf.parts.later hW)
 have KHa:Hid (∀ W,Below w.heap.size w W→Calls Tryz.prog 31 #[sv x.h f.got.length x.hc] W fun e w'=>e=.returned (iv (M.checkEach f.got))∧Below W.heap.size W w'):=fun W hW=>checkParts_any f.got _ _ W (hf.got.later hW)
 have KNe:Hid (∀ W,Below w.heap.size w W→Calls Tryz.prog 34 #[.agg #[sv x.p f.parts.length x.pc,sv x.l f.plan.length x.lc,iv f.now,sv x.d f.done.length x.dc,sv x.h f.got.length x.hc,sv x.g f.grants.length x.gc,sv x.k f.work.length x.kc,sv x.n f.net.length x.nc]] W fun e w'=>e=.returned (iv (M.checkNet f.work.length f.plan.length f.net))∧Below W.heap.size W w'):=fun W hW=>checkNet_any f x W (hf.later hW)
 have HIW:Hid (∀ W,Below w.heap.size w W→IntsAt W (sv x.k f.work.length x.kc) f.work):=fun W hW=>hf.work.later hW
 have HIG:Hid (∀ W,Below w.heap.size w W→GrantsAt W (sv x.g f.grants.length x.gc) f.grants):=fun W hW=>hf.grants.later hW
 have h0:=heap_alloc_new w (.cells #[sv x.p f.parts.length x.pc,sv x.l f.plan.length x.lc,iv f.now,sv x.d f.done.length x.dc,sv x.h f.got.length x.hc,sv x.g f.grants.length x.gc,sv x.k f.work.length x.kc,sv x.n f.net.length x.nc] 29)
 have HB0:Hid (Below w.heap.size w (w.alloc (.cells #[sv x.p f.parts.length x.pc,sv x.l f.plan.length x.lc,iv f.now,sv x.d f.done.length x.dc,sv x.h f.got.length x.hc,sv x.g f.grants.length x.gc,sv x.k f.work.length x.kc,sv x.n f.net.length x.nc] 29))):=(Below.refl _ _).alloc (Nat.le_refl _) _
 obtain⟨R,hR⟩:∃ R,M.checkFarm f=R:=⟨_,rfl⟩
 have HR:Hid (M.checkFarm f=R):=hR
 rw[hR]
 clear hf hR
 obtain⟨xp,xpc,xl,xlc,xd,xdc,xh,xhc,xg,xgc,xk,xkc,xn,xnc⟩:=x
 obtain⟨fparts,fplan,fnow,fdone,fgot,fgrants,fwork,fnet⟩:=f
 simp only[M.checkFarm,M.lens,M.ranges,M.checkRest] at HR KPl KPa KHa KNe HIW HIG h0 HB0 hnl hwl hll hdl hgl hpl hhl ⊢
 generalize M.checkPlan fplan fparts.length=eP at *
 generalize M.checkEach fparts=eA at *
 generalize M.checkEach fgot=eH at *
 generalize hnN:fnet.length=nn at *
 generalize M.checkNet fwork.length fplan.length fnet=eN at *
 generalize fplan.length=nl at *
 generalize fparts.length=np at *
 generalize fdone.length=nd at *
 generalize fgot.length=nh at *
 clear hnN
 have K1:Hid (∀ m a b W,Calls Tryz.prog 30 #[iv m,iv a,iv b] W fun e w'=>e=.returned (.bool (M.inR m a b))∧W=w'):=fun m a b W=>(fwithin_any m a b W).mono fun e w' ⟨h1,h2⟩=>⟨h1,h2.symm⟩
 have K2:Hid (∀ m W,Calls Tryz.prog 33 #[sv xk fwork.length xkc,iv m] W fun e w'=>e=.returned (.bool (M.inR m 0 ((fwork.length:Int) - 1)))∧W=w'):=fun m W=>(standsW_any xk fwork.length xkc m W hwl).mono fun e w' ⟨h1,h2⟩=>⟨h1,h2.symm⟩
 have K3:Hid (∀ m W,Calls Tryz.prog 32 #[sv xl nl xlc,iv m] W fun e w'=>e=.returned (.bool (M.inR m 0 ((nl:Int) - 1)))∧W=w'):=fun m W=>(standsN_any xl nl xlc m W hll).mono fun e w' ⟨h1,h2⟩=>⟨h1,h2.symm⟩
 go_enter Tryz.func10,Tryz.ntmps10
 go_upto_region 1 with fail
 generalize w.alloc (.cells #[sv xp np xpc,sv xl nl xlc,iv fnow,sv xd nd xdc,sv xh nh xhc,sv xg fgrants.length xgc,sv xk fwork.length xkc,sv xn nn xnc] 29)=Y at *
 have c0:=cellC h0 0 rfl
 have c1:=cellC h0 1 rfl
 have hl0:=lt1 h0
 have KPl1:Hid (Calls Tryz.prog 29 #[sv xl nl xlc,iv np] Y fun e w'=>e=.returned (iv eP)∧Below Y.heap.size Y w'):=KPl.out Y HB0.out
 clear KPl
 by_cases hP:eP=0
 ·subst hP
  have HR1:Hid ((bif (nd==nl&&(nh==nl&&fgrants.length==nl)) then (bif (M.inR fwork.length 1 4&&M.inR fnow 0 65536) then (bif decide (20<nn) then 2 else M.orE eA (M.orE eH (M.orE (M.checkWork nl fwork) (M.orE (M.checkGrants fwork.length fgrants) eN)))) else 3) else 4)=R):=HR
  clear HR
  go_upto_region 4 with (go_at_call 29;refine KPl1.out.mono ?_;rintro e x1 ⟨rfl,hx1⟩)
  have h1:=(hx1.block _ hl0).trans h0
  have HB1:Hid (Below w.heap.size w x1):=HB0.out.trans (hx1.mono HB0.out.size)
  clear KPl1 HB0 h0 hl0 c0 c1 hx1
  clear Y
  obtain⟨c0,c1,c2,c3,c4,c5,c6,c7⟩:=cell8 h1
  have hl1:=lt1 h1
  by_cases g1:nd=nl
  ·subst g1
   by_cases g2:nh=nd
   ·subst g2
    by_cases g3:fgrants.length=nh
    ·have HR2:Hid ((bif (M.inR fwork.length 1 4&&M.inR fnow 0 65536) then (bif decide (20<nn) then 2 else M.orE eA (M.orE eH (M.orE (M.checkWork nh fwork) (M.orE (M.checkGrants fwork.length fgrants) eN)))) else 3)=R):=by
      have:=HR1.out
      rw[show (nh==nh&&(nh==nh&&fgrants.length==nh))=true by simp[g3],cond_true] at this
      exact this
     have hgE:((fgrants.length:Int) !=(nh:Int))=false:=by simp[g3]
     have Hg3:Hid (fgrants.length=nh):=g3
     clear HR1 g3
     cases r1:M.inR fwork.length 1 4
     ·have HR3:Hid (R=3):=by rw[Hid,← HR2.out,r1];rfl
      clear HR2
      go_wp2_with (go_at_call 30;refine (K1.out _ _ _ _).mono ?_;rintro e w1 ⟨rfl,rfl⟩)
      go_ret
      exact⟨by rw[HR3.out];rfl,HB1.out⟩
     ·cases r2:M.inR fnow 0 65536
      ·have HR3:Hid (R=3):=by rw[Hid,← HR2.out,r1,r2];rfl
       clear HR2
       go_wp2_with (go_at_call 30;refine (K1.out _ _ _ _).mono ?_;rintro e w1 ⟨rfl,rfl⟩)
       go_ret
       exact⟨by rw[HR3.out];rfl,HB1.out⟩
      ·by_cases r3:20<nn
       ·have HR3:Hid (R=2):=by rw[Hid,← HR2.out,r1,r2];simp[r3]
        have r3':(20:Int)<(nn:Int):=by omega
        clear HR2
        go_wp2_with (go_at_call 30;refine (K1.out _ _ _ _).mono ?_;rintro e w1 ⟨rfl,rfl⟩)
        go_ret
        exact⟨by rw[HR3.out];rfl,HB1.out⟩
       ·have HR3:Hid (M.orE eA (M.orE eH (M.orE (M.checkWork nh fwork) (M.orE (M.checkGrants fwork.length fgrants) eN)))=R):=by rw[Hid,← HR2.out,r1,r2];simp[r3]
        have r3':¬ (20:Int)<(nn:Int):=by omega
        clear HR2
        go_upto_region 12 with (go_at_call 30;refine (K1.out _ _ _ _).mono ?_;rintro e w1 ⟨rfl,rfl⟩)
        clear r1 r2 r3' r3 hgE c0 c1 c2 c3 c4 c5 c6 c7
        go_loopw [66] (fun s66 wr=>∃ (k:Nat),k≤2∧s66=iv k∧Hid ((if k=0 then M.orE eA (M.orE eH (M.orE (M.checkWork nh fwork) (M.orE (M.checkGrants fwork.length fgrants) eN))) else if k=1 then M.orE eH (M.orE (M.checkWork nh fwork) (M.orE (M.checkGrants fwork.length fgrants) eN)) else (M.orE (M.checkWork nh fwork) (M.orE (M.checkGrants fwork.length fgrants) eN)))=R)∧Hid (Below w.heap.size w wr)∧wr.heap[w.heap.size]?=some (.cells #[sv xp np xpc,sv xl nh xlc,iv fnow,sv xd nh xdc,sv xh nh xhc,sv xg fgrants.length xgc,sv xk fwork.length xkc,sv xn nn xnc] 29 (0,0))) (fun s66 _=>2 - (intOf s66).toNat)
        case atStart=>exact⟨0,Nat.zero_le _,rfl,HR3,HB1,h1⟩
        case round =>
         obtain⟨k,hk,rfl,HE,HB,hblk⟩:=hrel
         clear HR3 HB1 h1 hl1
         have hlr:=lt1 hblk
         rcases (by omega:k=0∨k=1∨k=2) with rfl | rfl | rfl
         ·have HE0:Hid (M.orE eA (M.orE eH (M.orE (M.checkWork nh fwork) (M.orE (M.checkGrants fwork.length fgrants) eN)))=R):=HE
          have KPa1:Hid (Calls Tryz.prog 31 #[sv xp np xpc] wr fun e w'=>e=.returned (iv eA)∧Below wr.heap.size wr w'):=KPa.out wr HB.out
          clear HE
          by_cases hA:eA=0
          ·subst hA
           rw[show ((0:Nat):Int)=0 from rfl]
           go_wp2_with (go_at_call 31;refine KPa1.out.mono ?_;rintro e x2 ⟨rfl,hx2⟩)
           go_roundw
           case rel=>exact⟨1,by omega,by go_num,HE0,HB.out.trans (hx2.mono HB.out.size),(hx2.block _ hlr).trans hblk⟩
           case measure=>simp[intOf]
          ·have HE1:Hid (R=eA):=by rw[Hid,← HE0.out,M.orE,if_neg hA]
           have hne:(eA !=0)=true:=by simpa using hA
           rw[show ((0:Nat):Int)=0 from rfl]
           clear hA
           go_wp2_with (go_at_call 31;refine KPa1.out.mono ?_;rintro e x2 ⟨rfl,hx2⟩)
           go_ret
           exact⟨by rw[HE1.out];rfl,HB.out.trans (hx2.mono HB.out.size)⟩
         ·have HE0:Hid (M.orE eH (M.orE (M.checkWork nh fwork) (M.orE (M.checkGrants fwork.length fgrants) eN))=R):=HE
          have KPa1:Hid (Calls Tryz.prog 31 #[sv xh nh xhc] wr fun e w'=>e=.returned (iv eH)∧Below wr.heap.size wr w'):=KHa.out wr HB.out
          clear HE
          by_cases hA:eH=0
          ·subst hA
           rw[show ((1:Nat):Int)=1 from rfl]
           go_wp2_with (go_at_call 31;refine KPa1.out.mono ?_;rintro e x2 ⟨rfl,hx2⟩)
           go_roundw
           case rel=>exact⟨2,by omega,by go_num,HE0,HB.out.trans (hx2.mono HB.out.size),(hx2.block _ hlr).trans hblk⟩
           case measure=>simp[intOf]
          ·have HE1:Hid (R=eH):=by rw[Hid,← HE0.out,M.orE,if_neg hA]
           have hne:(eH !=0)=true:=by simpa using hA
           rw[show ((1:Nat):Int)=1 from rfl]
           clear hA
           go_wp2_with (go_at_call 31;refine KPa1.out.mono ?_;rintro e x2 ⟨rfl,hx2⟩)
           go_ret
           exact⟨by rw[HE1.out];rfl,HB.out.trans (hx2.mono HB.out.size)⟩
         ·have HE0:Hid (M.orE (M.checkWork nh fwork) (M.orE (M.checkGrants fwork.length fgrants) eN)=R):=HE
          have b6:=cellC hblk 6 rfl
          rw[show ((2:Nat):Int)=2 from rfl]
          clear HE KPa KHa
          go_upto_region 19 with fail
          clear b6
          go_loopw [78] (fun s78 wq=>∃ (k:Nat),k≤fwork.length∧s78=iv k∧Hid (M.orE (M.checkWork nh (fwork.drop k)) (M.orE (M.checkGrants fwork.length fgrants) eN)=R)∧Hid (Below w.heap.size w wq)∧wq.heap[w.heap.size]?=some (.cells #[sv xp np xpc,sv xl nh xlc,iv fnow,sv xd nh xdc,sv xh nh xhc,sv xg fgrants.length xgc,sv xk fwork.length xkc,sv xn nn xnc] 29 (0,0))) (fun s78 _=>fwork.length - (intOf s78).toNat)
          case atStart=>exact⟨0,Nat.zero_le _,rfl,HE0,HB,hblk⟩
          case round =>
           clear HB hblk hlr HE0
           obtain⟨k,hk,rfl,HE,HB,hblk⟩:=hrel
           have hlr:=lt1 hblk
           by_cases hlt:k<fwork.length
           ·obtain⟨b,off,rfl,e0,hbr⟩:=(HIW.out _ HB.out).cell k hlt
            have hkl:(k:Int)<(fwork.length:Int):=by omega
            have b1:=cellB hblk 1
            have HE1:=HE.out
            rw[checkWork_step _ _ _ hlt] at HE1
            generalize fwork.getD k 0=t at *
            have b1':wr.cell? (qa w.heap.size 1)=some (sv xl nh xlc):=b1
            clear b1
            cases ht:(t==-1)
            ·have ht':(t !=-1)=true:=by rw[bne,ht];rfl
             have hw:M.workOk nh t=M.inR t 0 ((nh:Int) - 1):=by rw[M.workOk,ht];rfl
             rw[hw] at HE1
             have HE2:Hid (M.orE (if M.inR t 0 ((nh:Int) - 1)=true then M.checkWork nh (fwork.drop (k+1)) else 5) (M.orE (M.checkGrants fwork.length fgrants) eN)=R):=HE1
             clear HE HE1 ht hw
             cases hi:M.inR t 0 ((nh:Int) - 1)
             ·have HE3:Hid (R=5):=by rw[Hid,← HE2.out,hi];rfl
              clear HE2
              go_wp2_with (go_at_call 32;refine (K3.out _ _).mono ?_;rintro e w1 ⟨rfl,rfl⟩)
              go_ret
              exact⟨by rw[HE3.out];rfl,HB.out⟩
             ·have HE3:Hid (M.orE (M.checkWork nh (fwork.drop (k+1))) (M.orE (M.checkGrants fwork.length fgrants) eN)=R):=by rw[Hid,← HE2.out,hi];rfl
              clear HE2
              go_wp2_with (go_at_call 32;refine (K3.out _ _).mono ?_;rintro e w1 ⟨rfl,rfl⟩)
              go_roundw
              case rel=>exact⟨k+1,by omega,by go_num,HE3,HB,hblk⟩
              case measure=>simp[intOf];omega
            ·have ht':(t !=-1)=false:=by rw[bne,ht];rfl
             have HE3:Hid (M.orE (M.checkWork nh (fwork.drop (k+1))) (M.orE (M.checkGrants fwork.length fgrants) eN)=R):=by
              rw[Hid,← HE1,M.workOk,ht];rfl
             clear HE HE1 ht
             go_wp2_with fail
             go_roundw
             case rel=>exact⟨k+1,by omega,by go_num,HE3,HB,hblk⟩
             case measure=>simp[intOf];omega
           ·have hkl:k=fwork.length:=by omega
            have HE1:Hid (M.orE (M.checkGrants fwork.length fgrants) eN=R):=by rw[Hid,← HE.out,hkl,List.drop_eq_nil_of_le (Nat.le_refl _)];rfl
            have b5:=cellC hblk 5 rfl
            clear HE
            subst hkl
            go_upto_region 25 with fail
            clear b5
            go_loopw [95] (fun s95 wq=>∃ (k:Nat),k≤fgrants.length∧s95=iv k∧Hid (M.orE (M.checkGrants fwork.length (fgrants.drop k)) eN=R)∧Hid (Below w.heap.size w wq)∧wq.heap[w.heap.size]?=some (.cells #[sv xp np xpc,sv xl nh xlc,iv fnow,sv xd nh xdc,sv xh nh xhc,sv xg fgrants.length xgc,sv xk fwork.length xkc,sv xn nn xnc] 29 (0,0))) (fun s95 _=>fgrants.length - (intOf s95).toNat)
            case atStart=>exact⟨0,Nat.zero_le _,rfl,HE1,HB,hblk⟩
            case round =>
             clear HB hblk hlr
             obtain⟨k,hk,rfl,HE,HB,hblk⟩:=hrel
             clear HE1
             have hw0:w.heap.size≤wr.heap.size:=HB.out.size
             by_cases hlt:k<fgrants.length
             ·obtain⟨b,off,rfl,e0,e1⟩:=(HIG.out _ HB.out).cells k hlt
              have hbr:b<wr.heap.size:=World.block_lt_of_cell? _ _ e0
              have hkl:(k:Int)<(fgrants.length:Int):=by omega
              have HE1:=HE.out
              rw[checkGrants_step _ _ _ hlt] at HE1
              generalize fgrants.getD k M.grt0=t at *
              obtain⟨tw,tt⟩:=t
              simp only[M.grantOk] at HE1 e0 e1
              have HE2:Hid (M.orE (if (M.inR tw 0 ((fwork.length:Int) - 1)&&M.inR tt 0 65541)=true then M.checkGrants fwork.length (fgrants.drop (k+1)) else 3) eN=R):=HE1
              clear HE HE1
              go_upto_region 27 with fail
              have hA:Below wr.heap.size wr (wr.alloc (.cells #[iv tw,iv tt] 64)):=(Below.refl _ _).alloc (Nat.le_refl _) _
              have hm0:=heap_alloc_new wr (.cells #[iv tw,iv tt] 64)
              have hb0:=(hA.block _ (lt1 hblk)).trans hblk
              have HBY:Hid (Below w.heap.size w (wr.alloc (.cells #[iv tw,iv tt] 64))):=HB.out.trans (hA.mono hw0)
              clear e0 e1 hA hblk HB
              generalize wr.alloc (.cells #[iv tw,iv tt] 64)=Z at *
              generalize wr.heap.size=nz at *
              have m0:=cellC hm0 0 rfl
              have m1:=cellC hm0 1 rfl
              have b6:=cellC hb0 6 rfl
              have lz:=lt1 hm0
              have lb:=lt1 hb0
              cases g1':M.inR tw 0 ((fwork.length:Int) - 1)
              ·have HE3:Hid (R=3):=by rw[Hid,← HE2.out,g1'];rfl
               clear HE2
               go_wp2_with (go_at_call 33;refine (K2.out _ _).mono ?_;rintro e w1 ⟨rfl,rfl⟩)
               go_ret
               exact⟨by rw[HE3.out];rfl,HBY.out⟩
              ·cases g2':M.inR tt 0 65541
               ·have HE3:Hid (R=3):=by rw[Hid,← HE2.out,g1',g2'];rfl
                clear HE2
                go_wp2_with (first | (go_at_call 33;refine (K2.out _ _).mono ?_;rintro e w1 ⟨rfl,rfl⟩) | (go_at_call 30;refine (K1.out _ _ _ _).mono ?_;rintro e w1 ⟨rfl,rfl⟩))
                go_ret
                exact⟨by rw[HE3.out];rfl,HBY.out⟩
               ·have HE3:Hid (M.orE (M.checkGrants fwork.length (fgrants.drop (k+1))) eN=R):=by rw[Hid,← HE2.out,g1',g2'];rfl
                clear HE2
                go_wp2_with (first | (go_at_call 33;refine (K2.out _ _).mono ?_;rintro e w1 ⟨rfl,rfl⟩) | (go_at_call 30;refine (K1.out _ _ _ _).mono ?_;rintro e w1 ⟨rfl,rfl⟩))
                go_roundw
                case rel=>exact⟨k+1,by omega,by go_num,HE3,HBY,hb0⟩
                case measure=>simp[intOf];omega
             ·have hkl:k=fgrants.length:=by omega
              have HE1:Hid (eN=R):=by rw[Hid,← HE.out,hkl,List.drop_eq_nil_of_le (Nat.le_refl _)];rfl
              have KN1:Hid (Calls Tryz.prog 34 #[.agg #[sv xp np xpc,sv xl nh xlc,iv fnow,sv xd nh xdc,sv xh nh xhc,sv xg fgrants.length xgc,sv xk fwork.length xkc,sv xn nn xnc]] wr fun e w'=>e=.returned (iv eN)∧Below wr.heap.size wr w'):=KNe.out wr HB.out
              obtain⟨b0,b1,b2,b3,b4,b5,b6,b7⟩:=cell8 hblk
              have lb:=lt1 hblk
              clear HE KNe hblk K1 K2 K3
              subst hkl
              go_wp2_with (go_at_call 34;refine KN1.out.mono ?_;rintro e x5 ⟨rfl,hx5⟩)
              go_ret
              exact⟨by rw[HE1.out];rfl,HB.out.trans (hx5.mono HB.out.size)⟩
    ·have HR2:Hid (R=4):=by
      rw[Hid,← HR1.out,show (nh==nh&&(nh==nh&&fgrants.length==nh))=false by simp[g3]];rfl
     have hgE:((fgrants.length:Int) !=(nh:Int))=true:=by simp;omega
     clear HR1 g3
     go_wp2_with fail
     go_ret
     exact⟨by rw[HR2.out];rfl,HB1.out⟩
   ·have HR2:Hid (R=4):=by
     rw[Hid,← HR1.out,show (nd==nd&&(nh==nd&&fgrants.length==nd))=false by simp[g2]];rfl
    have hgE:((nh:Int) !=(nd:Int))=true:=by simp;omega
    clear HR1 g2
    go_wp2_with fail
    go_ret
    exact⟨by rw[HR2.out];rfl,HB1.out⟩
  ·have HR2:Hid (R=4):=by
    rw[Hid,← HR1.out,show (nd==nl&&(nh==nl&&fgrants.length==nl))=false by simp[g1]];rfl
   have hgE:((nd:Int) !=(nl:Int))=true:=by simp;omega
   clear HR1 g1
   go_wp2_with fail
   go_ret
   exact⟨by rw[HR2.out];rfl,HB1.out⟩
 ·have HR1:Hid (R=eP):=by rw[Hid,← HR.out,M.orE,if_neg hP]
  have hne:(eP !=0)=true:=by simpa using hP
  clear HR hP
  go_wp2_with (go_at_call 29;refine KPl1.out.mono ?_;rintro e x1 ⟨rfl,hx1⟩)
  go_ret
  exact⟨by rw[HR1.out];rfl,HB0.out.trans (hx1.mono HB0.out.size)⟩
end Go.Proofs.YtebippbakbihiaaGreatDoor
