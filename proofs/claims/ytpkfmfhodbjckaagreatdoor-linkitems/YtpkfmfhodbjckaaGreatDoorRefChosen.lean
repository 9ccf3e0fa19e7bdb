/-
  The reference's Chosen, of right items: what Choose takes.
-/
import Derived.Test.YtpkfmfhodbjckaaGreatDoorChA
import Derived.Deep.Cut
import Derived.Laws.ResultCell
namespace Go.Proofs.YtpkfmfhodbjckaaGreatDoor
open Go Go.RowKit Go.Maps
set_option linter.unusedVariables false
def lenOf:Value→Nat
 | .slice _ n _=>n
 | _=>0
set_option maxHeartbeats 16000000 in
set_option maxRecDepth 100000 in
theorem chosen_any(its:List M.Itm)(first:List ByteArray)(a aF:Option Addr)(c cF:Nat)(w:World)(h:ItemsAt w (.slice a its.length c) its)(hf:StrsAt w (.slice aF first.length cF) first)(hck:M.checkItems its=0)(hfl:first.length≤12) :
  Calls Tryz.prog 10 #[.slice a its.length c,.slice aF first.length cF] w fun e w'=>Below w.heap.size w w'∧∃x y v,e=.returned (.tuple #[.slice x (its.foldl M.chooseStep (M.firstAll first,[])).2.length y,v])∧PartsAt w' (.slice x (its.foldl M.chooseStep (M.firstAll first,[])).2.length y) (its.foldl M.chooseStep (M.firstAll first,[])).2:=by
 obtain⟨iP,hiP,hP0,hP1,hP2⟩:=info_parts (P:=Tryz.prog) (e:=43) (z:=.agg #[.slice none 0 0,.slice none 0 0]) (size:=2) (bytes:=48) (by kernel_rfl)
 obtain⟨iR,hiR,hR0,hR1,hR2⟩:=info_parts (P:=Tryz.prog) (e:=69) (z:=.agg #[.int .i64 0,.int .i64 0]) (size:=2) (bytes:=16) (by kernel_rfl)
 obtain⟨h12,hit⟩:=items_ok hck
 have HI:Hid (∀W,Below w.heap.size w W→ItemsAt W (.slice a its.length c) its∧StrsAt W (.slice aF first.length cF) first):=fun W hW=>⟨h.later hW,hf.later hW⟩
 have HIt:Hid (∀it∈its,M.checkItem it=0):=hit
 have hA:Below w.heap.size w ((w.alloc (.cells #[.slice aF first.length cF] 39)).alloc (.cells #[.slice none 0 0] 35)):=(bra _ _).alloc (by simp) _
 have h3:=(heap_alloc_old (w.alloc (.cells #[.slice aF first.length cF] 39)) (.cells #[.slice none 0 0] 35) (by simp)).trans (heap_alloc_new w (.cells #[.slice aF first.length cF] 39))
 have h4:=heap_alloc_new (w.alloc (.cells #[.slice aF first.length cF] 39)) (.cells #[.slice none 0 0] 35)
 rw[show (w.alloc (.cells #[.slice aF first.length cF] 39)).heap.size=w.heap.size+1 by simp] at h4
 clear h hf hit hck
 go_enter Tryz.func10,Tryz.ntmps10
 go_upto_region 2 with fail
 generalize (w.alloc (.cells #[.slice aF first.length cF] 39)).alloc (.cells #[.slice none 0 0] 35)=V0 at *
 obtain⟨b4,hb4⟩:∃b4,b4=w.heap.size+1:=⟨_,rfl⟩
 rw[←hb4] at h4 ⊢
 obtain⟨b3,hb3⟩:∃b3,b3=w.heap.size:=⟨_,rfl⟩
 rw[←hb3] at h3 ⊢
 obtain⟨B,hB⟩:∃B,B=V0.heap.size:=⟨_,rfl⟩
 have HBb:Hid (w.heap.size≤B∧w.heap.size≤b4∧b3≠b4):=by rw[Hid,hB,hb4,hb3];exact⟨hA.size,by omega,by omega⟩
 have HS0:Hid (ChS w B b3 b4 (.slice aF first.length cF) V0 (.slice none 0 0) (.slice none 0 0) (.slice none 0 0) [] []):=⟨hA,by rw[hB];exact Nat.le_refl _,h3,h4,World.ownsRow_nil _ _ _ _,World.ownsRow_nil _ _ _ _,fun e he=>by cases he⟩
 clear hA h3 h4 hb4 hb3 hB
 go_wp2_with fail
 go_loopw [5,18] (fun s5 s18 wr=>∃(i:Nat) (es:List PEnt) (prs:List (Nat × Nat)) (vO:Value),i≤its.length∧s18=.int .i64 i∧Hid (ChS w B b3 b4 (.slice aF first.length cF) wr vO vO s5 es prs)∧Hid (Ch1 first its i es prs)) (fun _ s18 _=>its.length-(intOf s18).toNat)
 case atStart=>exact⟨0,[],[],_,Nat.zero_le _,rfl,HS0,Ch1.start⟩
 case round =>
  obtain⟨i,es,prs,vO,hi,rfl,HS,HC⟩:=hrel
  clear HS0
  by_cases hlt:i<its.length
  ·obtain⟨bI,off,aP,cP,rfl,e0,e1,hP⟩:=item_at (HI.out w (Below.refl _ _)).1 i hlt
   replace e0:=cell_later HS.out.bel e0
   replace e1:=cell_later HS.out.bel e1
   have hbr:bI<wr.heap.size:=wlt e0
   have hil:(i:Int)<(its.length:Int):=by omega
   obtain⟨h8,h1,hpk⟩:=item_ok (HIt.out _ (getD_mem its ⟨false,[]⟩ i hlt))
   have HPl:Hid (∀e:PEnt,(its.getD i ⟨false,[]⟩).arch=false→e.p=(its.getD i ⟨false,[]⟩).parts.getD 0 M.nilP→M.Ok e.p→Ch1 first its (i+1) (es++[e]) (prs++[(i,0)])):=fun e ha he hk=>HC.out.plain hlt ha he hk
   have HCl:Hid (∀s es' prs',ChR first i s es' prs'→(its.getD i ⟨false,[]⟩).arch=true→M.search (its.getD i ⟨false,[]⟩).parts ((its.take i).foldl M.chooseStep (M.firstAll first,[])).1 ((its.take i).foldl M.chooseStep (M.firstAll first,[])).2=s→Ch1 first its (i+1) es' prs'):=fun s es' prs' hR ha hs=>hR.close HC.out hlt ha h8 hs
   have HOp:=HC.out.open
   have hfew:=HC.out.few
   generalize ((its.take i).foldl M.chooseStep (M.firstAll first,[])).1=st0 at *
   generalize ((its.take i).foldl M.chooseStep (M.firstAll first,[])).2=out0 at *
   generalize its.getD i ⟨false,[]⟩=it at *
   obtain⟨ar,ps⟩:=it
   simp only at e0 e1 hP h8 h1 hpk HPl HCl
   have HPk:Hid (∀p∈ps,M.Ok p):=fun p hp=>(M.ok_iff p).1 (hpk p hp)
   have hAl:=bra wr (.cells #[.bool ar,.slice aP ps.length cP] 64)
   have hq:=heap_alloc_new wr (.cells #[.bool ar,.slice aP ps.length cP] 64)
   have HS1:Hid (ChS w B b3 b4 (.slice aF first.length cF) (wr.alloc (.cells #[.bool ar,.slice aP ps.length cP] 64)) vO vO u5 es prs):=HS.out.later hAl
   have HP:Hid (PartsAt w (.slice aP ps.length cP) ps):=hP
   go_upto_region 5 with fail
   obtain⟨n8,hn8⟩:∃n8,n8=wr.heap.size:=⟨_,rfl⟩
   rw[←hn8] at hq ⊢
   clear e0 e1 hbr hP hAl HS hn8 hpk HC
   generalize wr.alloc (.cells #[.bool ar,.slice aP ps.length cP] 64)=X at *
   have Hq:Hid (X.heap[n8]?=some (.cells #[.bool ar,.slice aP ps.length cP] 64 (0,0))):=hq
   have q0:X.cell? ⟨n8,0,none⟩=some (.bool ar):=cellB hq 0
   have ql:n8<X.heap.size:=(Array.getElem?_eq_some_iff.1 hq).1
   clear hq
   cases ar with
   | false =>
    have hl1:ps.length=1:=h1 rfl
    obtain⟨bp,off2,a1,a2,c1,c2,hap,e0,e1,hF,hD⟩:=part_at HP.out 0 (by omega)
    subst hap
    rw[Nat.zero_mul,Nat.add_zero] at e0 e1
    have hpo:=HPk.out _ (getD_mem ps M.nil 0 (by omega))
    have HC1:Hid (Ch1 first its (i+1) (es++[⟨ps.getD 0 M.nil,.slice a1 (ps.getD 0 M.nil).frags.length c1,.slice a2 (ps.getD 0 M.nil).defs.length c2⟩]) (prs++[(i,0)])):=HPl.out ⟨ps.getD 0 M.nil,.slice a1 (ps.getD 0 M.nil).frags.length c1,.slice a2 (ps.getD 0 M.nil).defs.length c2⟩ rfl rfl hpo
    generalize ps.getD 0 M.nil=p at *
    have HFD:Hid (FragsAt w (.slice a1 p.frags.length c1) p.frags∧DefsAt w (.slice a2 p.defs.length c2) p.defs):=⟨hF,hD⟩
    have hsv:=HS1.out
    have hvO:∀k,vO.ownBlock=some k→k<X.heap.size:=fun k hk=>(hsv.rowO.lt k hk).2
    have hvP:∀k,u5.ownBlock=some k→k<X.heap.size:=fun k hk=>(hsv.rowP.lt k hk).2
    have hBX:=hsv.bs
    have hce:=HC1.out.len
    have hcf:=HC1.out.few
    rw[List.length_append,List.length_append] at hce
    rw[List.length_append] at hcf
    simp only[List.length_cons,List.length_nil] at hce hcf
    have hN:es.length≤200∧prs.length≤200:=⟨by omega,by omega⟩
    have hC0:plC w B X.heap.size b3 b4 n8 (.slice aF first.length cF) vO u5 #[.bool false,.slice (some ⟨bp,off2,none⟩) ps.length cP] es prs (Array.replicate 14 false) X:=⟨⟨hsv.bel,Nat.le_refl _,hsv.c3,hsv.c4,Hq.out⟩,fun _=>hsv.rowO,fun _=>hsv.rowP⟩
    clear hF hD hpo HPl HCl HOp hce hcf hfew HPk h8 h1
    go_upto_region 6 with fail
    clear q0 ql
    refine wp_region_rel 12 (plC w B X.heap.size b3 b4 n8 (.slice aF first.length cF) vO u5 #[.bool false,.slice (some ⟨bp,off2,none⟩) ps.length cP] es prs) (fun v=>⟨#[Value.slice (some (qa bI off)) its.length c,Value.slice aF first.length cF,undef,Value.pointer (some { block:=b3,off:=0 }),Value.pointer (some { block:=b4,off:=0 }),u5,Value.func (Fn.func (25:Nat)) #[] #[Value.pointer (some { block:=b3,off:=0 }),Value.pointer (some { block:=b4,off:=0 })],Value.int IntKind.i64 ↑i,Value.pointer (some { block:=n8,off:=0 }),u9,u10,u11,u12,undef,u14,Value.func (Fn.func (25:Nat)) #[] #[Value.pointer (some { block:=b3,off:=0 }),Value.pointer (some { block:=b4,off:=0 })],Value.slice (some (qa bI off)) its.length c,Value.int IntKind.i64 ↑its.length,Value.int IntKind.i64 ↑i,Value.bool true,Value.int IntKind.i64 ↑i,Value.pointer (some { block:=bI,off:=off+i*2 }),Value.agg #[Value.bool false,Value.slice (some { block:=bp,off:=off2 }) ps.length cP],Value.pointer (some { block:=n8,off:=0 }),Value.bool false,Value.bool true,v 0,v 1,v 2,v 3,v 4,v 5,v 6,v 7,v 8,v 9,v 10,v 11,u38,u39,u40,u41,u42,u43,u44,u45,u46,u47,u48,u49,u50,u51,u52,u53,u54,u55,u56,u57,u58,u59,u60,u61,u62,u63,u64,u65,u66,u67,u68,u69,u70,u71,u72,u73,u74,u75,u76,u77,u78,u79,u80,u81,u82,u83,u84,u85,u86,u87,u88,u89,u90,u91,undef,undef],[]⟩) (plR B n8 i bp off2 ps.length cP vO u5 ⟨p,.slice a1 p.frags.length c1,.slice a2 p.defs.length c2⟩ es prs) (fun _ _ _ _=>True) (by kernel_rfl) (by kernel_rfl) (hC0.later (Below.refl _ _).drew) ⟨fun j=>#[u26,u27,u28,u29,u30,u31,u32,u33,u34,u35,u36,u37].getD j undef,rfl⟩ ?_ ?_
    ·intro j op hj ho
     rcases(by omega:j=0∨j=1∨j=2∨j=3∨j=4∨j=5∨j=6∨j=7∨j=8∨j=9∨j=10∨j=11) with rfl|rfl|rfl|rfl|rfl|rfl|rfl|rfl|rfl|rfl|rfl|rfl
     all_goals cases ho
     all_goals refine relStep_of rfl rfl ?_
     all_goals rintro sd v W hC hin hsd hdep hdz
     all_goals obtain⟨cB,cN,cc3,cc4,cc8⟩:=hC.1
     ·have k4:W.cell? ⟨b4,0,none⟩=some vO:=cellB cc4 0
      exact wp_val vO (by simp[execOp,Act.eval,go_sem,k4]) ⟨_,rfl,hC.set 0 (by decide) (by decide),fun _ _ _ _ h=>h,rfl,fun _ _ _ _=>⟨trivial,trivial⟩⟩
     ·exact wp_val (.pointer (some ⟨n8,1,none⟩)) (by simp[execOp,Act.eval,go_sem]) ⟨_,rfl,hC.set 1 (by decide) (by decide),fun _ _ _ _ h=>h,rfl,fun _ _ _ _=>⟨trivial,trivial⟩⟩
     ·have hv:v 1=.pointer (some ⟨n8,1,none⟩):=hdep ⟨1,.data⟩ (by simp) rfl
      have k8:W.cell? ⟨n8,1,none⟩=some (.slice (some ⟨bp,off2,none⟩) ps.length cP):=cellB cc8 1
      exact wp_val (.slice (some ⟨bp,off2,none⟩) ps.length cP) (by simp[execOp,Act.eval,go_sem,hv,k8]) ⟨_,rfl,hC.set 2 (by decide) (by decide),fun _ _ _ _ h=>h,rfl,fun _ _ _ _=>⟨trivial,trivial⟩⟩
     ·have hv:v 2=.slice (some ⟨bp,off2,none⟩) ps.length cP:=hdep ⟨2,.data⟩ (by simp) rfl
      exact wp_val (.pointer (some ⟨bp,off2,none⟩)) (by simp[execOp,Act.eval,go_sem,hv,hl1]) ⟨_,rfl,hC.set 3 (by decide) (by decide),fun _ _ _ _ h=>h,rfl,fun _ _ _ _=>⟨trivial,trivial⟩⟩
     ·have hv:v 3=.pointer (some ⟨bp,off2,none⟩):=hdep ⟨3,.data⟩ (by simp) rfl
      have k0:=cell_later cB e0
      have k1:=cell_later cB e1
      exact wp_val (.agg #[.slice a1 p.frags.length c1,.slice a2 p.defs.length c2]) (by simp[execOp,Act.eval,go_sem,hv,k0,k1]) ⟨_,rfl,hC.set 4 (by decide) (by decide),fun _ _ _ _ h=>h,rfl,fun _ _ _ _=>⟨trivial,trivial⟩⟩
     ·have hv:v 4=.agg #[.slice a1 p.frags.length c1,.slice a2 p.defs.length c2]:=hdep ⟨4,.data⟩ (by simp) rfl
      have hA2:=bra W (.cells #[.slice a1 p.frags.length c1,.slice a2 p.defs.length c2] 43)
      exact wp_valW (.slice (some ⟨W.heap.size,0,none⟩) 1 1) (W.alloc (.cells #[.slice a1 p.frags.length c1,.slice a2 p.defs.length c2] 43)) (by simp[execOp,Act.eval,go_sem,hv]) ⟨_,rfl,(hC.later hA2).set 5 (by decide) (by decide),(fun k x _ _=>plR_later hA2 k x),⟨_,rfl,heap_alloc_new W _,fun e=>by have:=hvO _ e;omega⟩,fun _ _ _ _=>⟨trivial,trivial⟩⟩
     ·have h0:v 0=vO:=hdep ⟨0,.data⟩ (by simp) rfl
      obtain⟨g,h5,hg5,-⟩:plR B n8 i bp off2 ps.length cP vO u5 ⟨p,.slice a1 p.frags.length c1,.slice a2 p.defs.length c2⟩ es prs 5 W (v 5):=hdep ⟨5,.data⟩ (by simp) rfl
      have hrow:=hC.2.1 (getD_both hsd)
      have hnews:∀j u,(#[.slice a1 p.frags.length c1,.slice a2 p.defs.length c2]:Array Value).toList[j]?=some u→W.cell? ((⟨g,0,none⟩:Addr).add j)=some u:=World.news_of_block hg5
      refine wp_append_own W _ _ 35 rfl B 43 iP (.agg #[.slice none 0 0,.slice none 0 0]) 2 48 Tryz.underlying35 hiP hP0 hP1 hP2 rfl (by decide) vO es.length (es.flatMap pentCells) (by simp[Act.eval,h0]) hrow ⟨g,0,none⟩ 1 1 (#[.slice a1 p.frags.length c1,.slice a2 p.defs.length c2]:Array Value).toList (by simp[Act.eval,h5]) rfl hnews (fun u hu=>by simp at hu;rcases hu with rfl|rfl<;>rfl) (by unfold maxLen;omega) (by omega) (by omega) ?_
      intro v' w' h2 h3 _
      exact⟨v',rfl,hC.growO HBb.out.1 hsd hrow h3,(fun k x hk _=>plR_growO hrow h3 k x hk),h2,fun _ _ _ _=>⟨trivial,trivial⟩⟩
     ·exact wp_val u5 (by simp[execOp,Act.eval,go_sem]) ⟨_,rfl,hC.set 7 (by decide) (by decide),fun _ _ _ _ h=>h,rfl,fun _ _ _ _=>⟨trivial,trivial⟩⟩
     ·exact wp_val (.int .i64 (i:Nat)) (by simp[execOp,Act.eval,go_sem]) ⟨_,rfl,hC.set 8 (by decide) (by decide),fun _ _ _ _ h=>h,rfl,fun _ _ _ _=>⟨trivial,trivial⟩⟩
     ·have hv:v 8=.int .i64 (i:Nat):=hdep ⟨8,.data⟩ (by simp) rfl
      exact wp_val (.agg #[.int .i64 (i:Nat),.int .i64 0]) (by simp[execOp,Act.eval,go_sem,hv]) ⟨_,rfl,hC.set 9 (by decide) (by decide),fun _ _ _ _ h=>h,rfl,fun _ _ _ _=>⟨trivial,trivial⟩⟩
     ·have hv:v 9=.agg #[.int .i64 (i:Nat),.int .i64 0]:=hdep ⟨9,.data⟩ (by simp) rfl
      have hA2:=bra W (.cells #[.int .i64 (i:Nat),.int .i64 0] 69)
      exact wp_valW (.slice (some ⟨W.heap.size,0,none⟩) 1 1) (W.alloc (.cells #[.int .i64 (i:Nat),.int .i64 0] 69)) (by simp[execOp,Act.eval,go_sem,hv]) ⟨_,rfl,(hC.later hA2).set 10 (by decide) (by decide),(fun k x _ _=>plR_later hA2 k x),⟨_,rfl,heap_alloc_new W _,fun e=>by have:=hvP _ e;omega⟩,fun _ _ _ _=>⟨trivial,trivial⟩⟩
     ·have h7:v 7=u5:=hdep ⟨7,.data⟩ (by simp) rfl
      obtain⟨g,h10,hg10,-⟩:plR B n8 i bp off2 ps.length cP vO u5 ⟨p,.slice a1 p.frags.length c1,.slice a2 p.defs.length c2⟩ es prs 10 W (v 10):=hdep ⟨10,.data⟩ (by simp) rfl
      have hrow:=hC.2.2 (getD_both hsd)
      have hnews:∀j u,(#[.int .i64 (i:Nat),.int .i64 0]:Array Value).toList[j]?=some u→W.cell? ((⟨g,0,none⟩:Addr).add j)=some u:=World.news_of_block hg10
      refine wp_append_own W _ _ 36 rfl B 69 iR (.agg #[.int .i64 0,.int .i64 0]) 2 16 Tryz.underlying36 hiR hR0 hR1 hR2 rfl (by decide) u5 prs.length (prs.flatMap encPr) (by simp[Act.eval,h7]) hrow ⟨g,0,none⟩ 1 1 (#[.int .i64 (i:Nat),.int .i64 0]:Array Value).toList (by simp[Act.eval,h10]) rfl hnews (fun u hu=>by simp at hu;rcases hu with rfl|rfl<;>rfl) (by unfold maxLen;omega) (by omega) (by omega) ?_
      intro v' w' h2 h3 _
      exact⟨v',rfl,hC.growP HBb.out.1 hsd hrow h3,(fun k x hk _=>plR_growP hrow h3 k x hk),h2,fun _ _ _ _=>⟨trivial,trivial⟩⟩
    ·rintro sd v W hC hR hZ
     have r6:W.ownsRow B 43 2 (v 6) (es.length+1) (es.flatMap pentCells++pentCells ⟨p,.slice a1 p.frags.length c1,.slice a2 p.defs.length c2⟩):=hR 6 (by decide)
     have r11:W.ownsRow B 69 2 (v 11) (prs.length+1) (prs.flatMap encPr++encPr (i,0)):=hR 11 (by decide)
     obtain⟨cB,cN,cc3,cc4,cc8⟩:=hC.1
     obtain⟨z1,y1,h6⟩:=own_len r6
     have hS:ChS w B b3 b4 (.slice aF first.length cF) W vO (v 6) (v 11) (es++[⟨p,.slice a1 p.frags.length c1,.slice a2 p.defs.length c2⟩]) (prs++[(i,0)]):=by
      refine⟨cB,Nat.le_trans hBX cN,cc3,cc4,?_,?_,fun x hx=>?_⟩
      ·rw[List.length_append,List.flatMap_append];simpa [List.flatMap_cons] using r6
      ·rw[List.length_append,List.flatMap_append];simpa [List.flatMap_cons] using r11
      ·rcases List.mem_append.1 hx with hx|hx
       ·exact hsv.ent x hx
       ·rw[List.mem_singleton.1 hx];exact HFD.out
     rw[h6] at hS
     have HS2:Hid (ChS w B b3 b4 (.slice aF first.length cF) (W.setCell ⟨b4,0,none⟩ (.slice z1 (es.length+1) y1)) (.slice z1 (es.length+1) y1) (.slice z1 (es.length+1) y1) (v 11) (es++[⟨p,.slice a1 p.frags.length c1,.slice a2 p.defs.length c2⟩]) (prs++[(i,0)])):=hS.store HBb.out.2.1 HBb.out.2.2 (.slice z1 (es.length+1) y1)
     have k4:W.cell? ⟨b4,0,none⟩=some vO:=cellB cc4 0
     have f4:∀j,W.frozen? ⟨b4,j,none⟩=false:=frozenB cc4
     have l4:b4<W.heap.size:=(Array.getElem?_eq_some_iff.1 cc4).1
     simp only[List.drop_succ_cons,List.drop_zero]
     rw[h6]
     clear hR hZ hC r6 r11 hS cc3 cc4 cc8 h6 hC0 hsv hvO hvP hl1
     generalize v 0=t0 at *
     generalize v 1=t1 at *
     generalize v 2=t2 at *
     generalize v 3=t3 at *
     generalize v 4=t4 at *
     generalize v 5=t5 at *
     generalize v 6=t6 at *
     generalize v 7=t7 at *
     generalize v 8=t8 at *
     generalize v 9=t9 at *
     generalize v 10=t10 at *
     generalize v 11=t11 at *
     go_wp2_with fail
     go_roundw
     case rel=>exact⟨i+1,_,_,.slice z1 (es.length+1) y1,by omega,by go_num,HS2,HC1⟩
     case measure=>simp[intOf];omega
   | true =>
    have HR0:Hid (ChR first i ⟨st0,out0,M.none8⟩ es prs):=HOp
    obtain⟨o,ho⟩:∃o,o=es.length:=⟨_,rfl⟩
    have ho8:o≤96:=by omega
    clear HPl h1 HOp
    go_wp2_with fail
    clear q0 ql
    go_loopw [5,9] (fun s5 s9 wr=>∃(f:Nat) (bf:Int) (s:M.Ars) (es:List PEnt) (prs:List (Nat × Nat)) (vO:Value),s9=.int .i64 bf∧bf<prs.length∧Hid (ChS w B b3 b4 (.slice aF first.length cF) wr vO vO s5 es prs)∧Hid (ChR first i s es prs)∧Hid (M.search ps st0 out0=M.rounds ps f s∧8<f+M.cnt s.tk∧es.length=o+M.cnt s.tk)∧Hid (wr.heap[n8]?=some (.cells #[.bool true,.slice aP ps.length cP] 64 (0,0)))) (fun s5 _ _=>300-lenOf s5)
    case atStart=>exact⟨9,-1,⟨st0,out0,M.none8⟩,es,prs,vO,rfl,by omega,HS1,HR0,⟨rfl,by show 8<9+_;omega,by rw[ho];rfl⟩,Hq⟩
    case round =>
     obtain⟨f,bf,s,es2,prs2,vO2,rfl,hbf,HS2,HR2,HF,Hq2⟩:=hrel
     clear HS1 HR0 Hq hfew ho
     clear es prs vO
     have htl:=HR2.out.tl
     have hcl:=M.cnt_le s.tk
     have hln2:=HR2.out.len
     have hel2:=HF.out.2.2
     have hp200:prs2.length≤200:=by omega
     have Hsl:Hid (s.out.length=o+M.cnt s.tk∧s.tk.length=8):=⟨by rw[←HR2.out.out,List.length_map];exact hel2,htl⟩
     obtain⟨aR,cR,rfl⟩:=own_len HS2.out.rowP
     have q1:wr.cell? ⟨n8,1,none⟩=some (.slice aP ps.length cP):=cellB Hq2.out 1
     have ql:n8<wr.heap.size:=(Array.getElem?_eq_some_iff.1 Hq2.out).1
     clear htl hcl hln2 hel2
     go_wp2_with fail
     clear q1 ql hbf
     go_loopw [5,47] (fun s5 s47 wr=>∃(k:Nat) (es:List PEnt) (prs:List (Nat × Nat)) (vO:Value),k≤ps.length∧s47=.int .i64 k∧Hid (ChS w B b3 b4 (.slice aF first.length cF) wr vO vO s5 es prs)∧Hid (ChR first i (M.roundN ps s k).1 es prs)∧Hid (((M.roundN ps s k).2=false→prs.length=prs2.length)∧((M.roundN ps s k).2=true→prs2.length<prs.length))∧Hid (wr.heap[n8]?=some (.cells #[.bool true,.slice aP ps.length cP] 64 (0,0)))) (fun _ s47 _=>ps.length-(intOf s47).toNat)
     case atStart=>exact⟨0,es2,prs2,vO2,Nat.zero_le _,rfl,HS2,HR2,⟨fun _=>rfl,fun h=>by cases h⟩,Hq2⟩
     case round =>
      obtain⟨k,es3,prs3,vO3,hk,rfl,HS3,HR3,HFl,Hq3⟩:=hrel
      clear HS2 HR2 Hq2
      have hN:es3.length≤104:=by
       have h1:=M.roundN_out (parts:=ps) Hsl.out.1 k (by rw[Hsl.out.2];omega)
       have h2:=M.cnt_le (M.roundN ps s k).1.tk
       rw[M.roundN_len,Hsl.out.2] at h2
       rw[←HR3.out.out,List.length_map] at h1
       omega
      have hN2:prs3.length≤104:=by rw[HR3.out.len];exact hN
      by_cases hkt:k<ps.length
      ·obtain⟨bp,off2,a1,a2,c1,c2,hap,e0,e1,hF,hD⟩:=part_at HP.out k hkt
       subst hap
       replace e0:=cell_later HS3.out.bel e0
       replace e1:=cell_later HS3.out.bel e1
       have hbr:bp<wr.heap.size:=wlt e0
       have hkl:(k:Int)<(ps.length:Int):=by omega
       have hpo:=HPk.out _ (getD_mem ps M.nil k hkt)
       have HSt:Hid (M.roundN ps s (k+1)=if (M.roundN ps s k).1.tk.getD k false=false∧M.partHelps (M.roundN ps s k).1.st (ps.getD k M.nil)=true then ({ M.take (M.roundN ps s k).1 (ps.getD k M.nil) with tk:=(M.roundN ps s k).1.tk.set k true },true) else M.roundN ps s k):=rfl
       generalize M.roundN ps s k=r at *
       obtain⟨s3,fl⟩:=r
       simp only at HR3 HFl HSt
       generalize ps.getD k M.nil=p at *
       have HFD:Hid (FragsAt w (.slice a1 p.frags.length c1) p.frags∧DefsAt w (.slice a2 p.defs.length c2) p.defs):=⟨hF,hD⟩
       have Hpo:Hid (M.Ok p):=hpo
       have hd60:=hpo.nd
       have hAl:=bra wr (.cells #[.slice a1 p.frags.length c1,.slice a2 p.defs.length c2] 43)
       have hqp:=heap_alloc_new wr (.cells #[.slice a1 p.frags.length c1,.slice a2 p.defs.length c2] 43)
       have HS4:Hid (ChS w B b3 b4 (.slice aF first.length cF) (wr.alloc (.cells #[.slice a1 p.frags.length c1,.slice a2 p.defs.length c2] 43)) vO3 vO3 u5 es3 prs3):=HS3.out.later hAl
       have Hq4:Hid ((wr.alloc (.cells #[.slice a1 p.frags.length c1,.slice a2 p.defs.length c2] 43)).heap[n8]?=some (.cells #[.bool true,.slice (some ⟨bp,off2,none⟩) ps.length cP] 64 (0,0))):=(hAl.block _ (Array.getElem?_eq_some_iff.1 Hq3.out).1).trans Hq3.out
       obtain⟨aR3,cR3,rfl⟩:=own_len HS3.out.rowP
       obtain⟨aO,cO,rfl⟩:=own_len HS3.out.rowO
       clear hF hD hpo hAl HS3 Hq3
       go_upto_region 13 with fail
       clear e0 e1 hbr
       obtain⟨n11,hn11⟩:∃n11,n11=wr.heap.size:=⟨_,rfl⟩
       rw[←hn11] at hqp ⊢
       clear hn11
       generalize wr.alloc (.cells #[.slice a1 p.frags.length c1,.slice a2 p.defs.length c2] 43)=Z at *
       have Hqp:Hid (Z.heap[n11]?=some (.cells #[.slice a1 p.frags.length c1,.slice a2 p.defs.length c2] 43 (0,0))):=hqp
       clear hqp
       have KH:Hid (Calls Tryz.prog 28 #[.slice aR3 prs3.length cR3,.agg #[.int .i64 (i:Nat),.int .i64 (k:Nat)]] Z fun e w'=>e=.returned (.bool (decide ((i,k)∈prs3)))∧Below Z.heap.size Z w'):=hasPr_any prs3 i k aR3 cR3 Z (row_prs HS4.out.rowP)
       have hhs:=HR3.out.has k
       by_cases hm:(i,k)∈prs3
       ·have htk:=hhs.1 hm
        rw[decide_eq_true hm] at KH
        have HSt2:Hid (M.roundN ps s (k+1)=(s3,fl)):=by rw[Hid,HSt.out,if_neg (by rw[htk];simp)]
        clear HSt hhs htk hm
        go_wp2_with (go_at_call 28;refine KH.out.mono ?_;rintro e Z1 ⟨rfl,hb1⟩)
        go_roundw
        case rel=>exact⟨k+1,es3,prs3,_,by omega,by go_num,HS4.out.later hb1,by rw[HSt2.out];exact HR3,by rw[HSt2.out];exact HFl,(hb1.block _ (Array.getElem?_eq_some_iff.1 Hq4.out).1).trans Hq4.out⟩
        case measure=>simp[intOf];omega
       ·have htk:s3.tk.getD k false=false:=by
         cases h:s3.tk.getD k false
         ·rfl
         ·exact absurd (hhs.2 h) hm
        rw[decide_eq_false hm] at KH
        have Htk:Hid (s3.tk.getD k false=false):=htk
        have HSt2:Hid (M.roundN ps s (k+1)=if M.partHelps s3.st p=true then ({ M.take s3 p with tk:=s3.tk.set k true },true) else (s3,fl)):=by
         rw[Hid,HSt.out]
         by_cases h:M.partHelps s3.st p=true
         ·rw[if_pos ⟨htk,h⟩,if_pos h]
         ·rw[if_neg (fun hh=>h hh.2),if_neg h]
        clear HSt hhs htk hm
        go_upto_region 14 with (go_at_call 28;refine KH.out.mono ?_;rintro e Z1 ⟨rfl,hb1⟩)
        have HS5:Hid (ChS w B b3 b4 (.slice aF first.length cF) Z1 (.slice aO es3.length cO) (.slice aO es3.length cO) (.slice aR3 prs3.length cR3) es3 prs3):=HS4.out.later hb1
        have Hq5:Hid (Z1.heap[n8]?=some (.cells #[.bool true,.slice (some ⟨bp,off2,none⟩) ps.length cP] 64 (0,0))∧Z1.heap[n11]?=some (.cells #[.slice a1 p.frags.length c1,.slice a2 p.defs.length c2] 43 (0,0))):=⟨(hb1.block _ (Array.getElem?_eq_some_iff.1 Hq4.out).1).trans Hq4.out,(hb1.block _ (Array.getElem?_eq_some_iff.1 Hqp.out).1).trans Hqp.out⟩
        clear KH hb1 HS4 Hq4 Hqp Z
        have KL:Hid (Calls Tryz.prog 25 #[.pointer (some ⟨b3,0,none⟩),.pointer (some ⟨b4,0,none⟩)] Z1 fun e w'=>Below Z1.heap.size Z1 w'∧∃g N,e=.returned (.map (some g))∧BAt w' g N (M.lackSet first (es3.map (·.p)))) :=
         lacking_any first (es3.map (fun e:PEnt=>e.p)) aF aO cF cO b3 b4 Z1 (cellB HS5.out.c3 0) (by rw[List.length_map];exact cellB HS5.out.c4 0) (HI.out Z1 HS5.out.bel).2 (by rw[List.length_map];exact HS5.out.parts) (fun q hq=>by
          obtain⟨e,he,rfl⟩:=List.mem_map.1 hq
          exact HR3.out.ok e he) hfl (by rw[List.length_map];omega)
        have HHp:Hid (∀d,M.helps s3.st d=(d.kind !=3&&M.lackSet first (es3.map (·.p)) d.name.data.toList)):=fun d=>by rw[HR3.out.st,←HR3.out.out];exact M.lackSet_helps first _ d
        generalize M.lackSet first (es3.map (·.p))=S at *
        go_upto_region 15 with (go_at_call 25;refine KL.out.mono ?_;rintro e Z2 ⟨hb2,g,N,rfl,hBt⟩)
        have HS6:Hid (ChS w B b3 b4 (.slice aF first.length cF) Z2 (.slice aO es3.length cO) (.slice aO es3.length cO) (.slice aR3 prs3.length cR3) es3 prs3):=HS5.out.later hb2
        have Hq6:Hid (Z2.heap[n8]?=some (.cells #[.bool true,.slice (some ⟨bp,off2,none⟩) ps.length cP] 64 (0,0))∧Z2.heap[n11]?=some (.cells #[.slice a1 p.frags.length c1,.slice a2 p.defs.length c2] 43 (0,0))):=⟨(hb2.block _ (Array.getElem?_eq_some_iff.1 Hq5.out.1).1).trans Hq5.out.1,(hb2.block _ (Array.getElem?_eq_some_iff.1 Hq5.out.2).1).trans Hq5.out.2⟩
        have HBt:Hid (BAt Z2 g N S):=hBt
        have q1:Z2.cell? ⟨n11,1,none⟩=some (.slice a2 p.defs.length c2):=cellB Hq6.out.2 1
        have ql:n11<Z2.heap.size:=(Array.getElem?_eq_some_iff.1 Hq6.out.2).1
        clear KL hb2 hBt HS5 Hq5 Z1
        go_wp2_with fail
        clear q1 ql
        go_loopw [5,62] (fun s5 s62 wr=>∃(j:Nat),j≤p.defs.length∧s62=.int .i64 j∧s5=.slice aR3 prs3.length cR3∧Hid (∀q,q<j→M.helps s3.st (p.defs.getD q dfn0)=false)∧Hid (Below Z2.heap.size Z2 wr)) (fun _ s62 _=>p.defs.length-(intOf s62).toNat)
        case atStart=>exact⟨0,Nat.zero_le _,rfl,rfl,fun q hq=>absurd hq (Nat.not_lt_zero _),Below.refl _ _⟩
        case round =>
         obtain⟨j,hj,rfl,rfl,HNo,HB⟩:=hrel
         by_cases hjt:j<p.defs.length
         ·have hbw:=HS6.out.bel.trans (HB.out.mono HS6.out.bel.size)
          obtain⟨bd,offd,rfl,d0,d1,d2,d3,d4,d5,hnm⟩:=(HFD.out.2.later hbw).cells j hjt
          have hbd:bd<wr.heap.size:=wlt d0
          have hjl:(j:Int)<(p.defs.length:Int):=by omega
          have HMem:Hid (p.defs.getD j dfn0∈p.defs):=getD_mem p.defs dfn0 j hjt
          have HNo1:Hid (M.helps s3.st (p.defs.getD j dfn0)=false→∀q,q<j+1→M.helps s3.st (p.defs.getD q dfn0)=false):=fun h q hq=>by
           rcases Nat.lt_or_ge q j with h1|h1
           ·exact HNo.out q h1
           ·obtain rfl:q=j:=by omega
            exact h
          have HHj:Hid (M.helps s3.st (p.defs.getD j dfn0)=((p.defs.getD j dfn0).kind !=3&&S (p.defs.getD j dfn0).name.data.toList)):=HHp.out _
          clear HNo hbw
          generalize p.defs.getD j dfn0=d at *
          have HAny:Hid (M.helps s3.st d=true→M.partHelps s3.st p=true):=fun h=>by
           unfold M.partHelps
           exact List.any_eq_true.2 ⟨d,HMem.out,h⟩
          generalize M.helps s3.st d=hd at *
          obtain⟨nm,kd,fg,pos,sz,al⟩:=d
          simp only at d0 d1 d2 d3 d4 d5 hnm HHj
          have hAl:=bra wr (.cells #[.string nm,.int .i64 kd,.int .i64 fg,.int .i64 pos,.int .i64 sz,.int .i64 al] 72)
          have hqd:=heap_alloc_new wr (.cells #[.string nm,.int .i64 kd,.int .i64 fg,.int .i64 pos,.int .i64 sz,.int .i64 al] 72)
          have HBA:Hid (Below Z2.heap.size Z2 (wr.alloc (.cells #[.string nm,.int .i64 kd,.int .i64 fg,.int .i64 pos,.int .i64 sz,.int .i64 al] 72))):=HB.out.trans (hAl.mono HB.out.size)
          go_upto_region 18 with fail
          obtain⟨n14,hn14⟩:∃n14,n14=wr.heap.size:=⟨_,rfl⟩
          rw[←hn14] at hqd ⊢
          clear d0 d1 d2 d3 d4 d5 hbd hAl HB hn14 HMem
          generalize wr.alloc (.cells #[.string nm,.int .i64 kd,.int .i64 fg,.int .i64 pos,.int .i64 sz,.int .i64 al] 72)=Y at *
          have y0:Y.cell? ⟨n14,0,none⟩=some (.string nm):=cellB hqd 0
          have y1:Y.cell? ⟨n14,1,none⟩=some (.int .i64 kd):=cellB hqd 1
          have yl:n14<Y.heap.size:=(Array.getElem?_eq_some_iff.1 hqd).1
          have hlook:=(HBt.out.later HBA.out).look nm hnm
          have HS7:Hid (ChS w B b3 b4 (.slice aF first.length cF) Y (.slice aO es3.length cO) (.slice aO es3.length cO) (.slice aR3 prs3.length cR3) es3 prs3):=HS6.out.later HBA.out
          have Hq7:Hid (Y.heap[n8]?=some (.cells #[.bool true,.slice (some ⟨bp,off2,none⟩) ps.length cP] 64 (0,0))∧Y.heap[n11]?=some (.cells #[.slice a1 p.frags.length c1,.slice (some ⟨bd,offd,none⟩) p.defs.length c2] 43 (0,0))):=⟨(HBA.out.block _ (Array.getElem?_eq_some_iff.1 Hq6.out.1).1).trans Hq6.out.1,(HBA.out.block _ (Array.getElem?_eq_some_iff.1 Hq6.out.2).1).trans Hq6.out.2⟩
          clear hqd
          cases hkd:(kd !=3) with
          | false =>
           have HN2:Hid (∀q,q<j+1→M.helps s3.st (p.defs.getD q dfn0)=false):=HNo1.out (by rw[HHj.out,hkd];rfl)
           clear HNo1 HHj HAny hlook
           go_wp2_with fail
           go_roundw
           case rel=>exact⟨j+1,by omega,by go_num,rfl,HN2,HBA⟩
           case measure=>simp[intOf];omega
          | true =>
           cases hSn:S nm.data.toList with
           | false =>
            rw[hSn] at hlook
            have HN2:Hid (∀q,q<j+1→M.helps s3.st (p.defs.getD q dfn0)=false):=HNo1.out (by rw[HHj.out,hSn,Bool.and_false])
            clear HNo1 HHj HAny
            go_wp2_with fail
            go_roundw
            case rel=>exact⟨j+1,by omega,by go_num,rfl,HN2,HBA⟩
            case measure=>simp[intOf];omega
           | true =>
            rw[hSn] at hlook
            have HSt3:Hid (M.roundN ps s (k+1)=({ M.take s3 p with tk:=s3.tk.set k true },true)):=by
             rw[Hid,HSt2.out,if_pos (HAny.out (by rw[HHj.out,hkd,hSn];rfl))]
            clear HNo1 HHj HAny HSt2
            have hle:prs2.length≤prs3.length:=by
             cases fl with
             | false=>rw[HFl.out.1 rfl];exact Nat.le_refl _
             | true=>exact Nat.le_of_lt (HFl.out.2 rfl)
            have HR4:Hid (ChR first i { M.take s3 p with tk:=s3.tk.set k true } (es3++[⟨p,.slice a1 p.frags.length c1,.slice (some ⟨bd,offd,none⟩) p.defs.length c2⟩]) (prs3++[(i,k)])):=HR3.out.take (e:=⟨p,.slice a1 p.frags.length c1,.slice (some ⟨bd,offd,none⟩) p.defs.length c2⟩) (by omega) Htk.out Hpo.out
            have HFl4:Hid ((true=false→(prs3++[(i,k)]).length=prs2.length)∧(true=true→prs2.length<(prs3++[(i,k)]).length)):=⟨fun h=>(by cases h),fun _=>(by rw[List.length_append];simp;omega)⟩
            have k4:Y.cell? ⟨b4,0,none⟩=some (.slice aO es3.length cO):=cellB HS7.out.c4 0
            have l4:b4<Y.heap.size:=(Array.getElem?_eq_some_iff.1 HS7.out.c4).1
            have p0:Y.cell? ⟨n11,0,none⟩=some (.slice a1 p.frags.length c1):=cellB Hq7.out.2 0
            have p1:Y.cell? ⟨n11,1,none⟩=some (.slice (some ⟨bd,offd,none⟩) p.defs.length c2):=cellB Hq7.out.2 1
            have lp:n11<Y.heap.size:=(Array.getElem?_eq_some_iff.1 Hq7.out.2).1
            have hA1:=bra Y (.cells #[.slice a1 p.frags.length c1,.slice (some ⟨bd,offd,none⟩) p.defs.length c2] 43)
            have hS8:=HS7.out.later hA1
            have hrO:=hS8.rowO
            have HS8:Hid _:=hS8
            have Hq8:Hid ((Y.alloc (.cells #[.slice a1 p.frags.length c1,.slice (some ⟨bd,offd,none⟩) p.defs.length c2] 43)).heap[n8]?=some (.cells #[.bool true,.slice (some ⟨bp,off2,none⟩) ps.length cP] 64 (0,0))):=(hA1.block _ (Array.getElem?_eq_some_iff.1 Hq7.out.1).1).trans Hq7.out.1
            have hnews:∀j u,(#[.slice a1 p.frags.length c1,.slice (some ⟨bd,offd,none⟩) p.defs.length c2]:Array Value).toList[j]?=some u→(Y.alloc (.cells #[.slice a1 p.frags.length c1,.slice (some ⟨bd,offd,none⟩) p.defs.length c2] 43)).cell? ((⟨Y.heap.size,0,none⟩:Addr).add j)=some u:=World.news_of_block (heap_alloc_new Y _)
            have hbsY:B≤Y.heap.size:=HS7.out.bs
            clear hA1 hS8 HS7 Hq7
            go_wp2_with (first
             | (at_builtin;refine wpList_append_own _ rfl _ _ 35 rfl B 43 iP (.agg #[.slice none 0 0,.slice none 0 0]) 2 48 Tryz.underlying35 hiP hP0 hP1 hP2 rfl (by decide) _ _ _ rfl hrO ⟨Y.heap.size,0,none⟩ 1 1 (#[.slice a1 p.frags.length c1,.slice (some ⟨bd,offd,none⟩) p.defs.length c2]:Array Value).toList rfl rfl hnews (fun u hu=>by simp at hu;rcases hu with rfl|rfl<;>rfl) (by unfold maxLen;omega) (by omega) (by simp;omega) ?_;intro v1 w2 hown2 hgr2 hnil2;obtain⟨z1,y1,rfl⟩:=own_len hown2
                have hS9:=HS8.out.growO (e:=⟨p,.slice a1 p.frags.length c1,.slice (some ⟨bd,offd,none⟩) p.defs.length c2⟩) HBb.out.1 hgr2 hown2 HFD.out
                have hq9:=block_kept HS8.out.rowO hgr2 Hq8.out (by decide)
                have hA2:=bra w2 (.cells #[.int .i64 (i:Nat),.int .i64 (k:Nat)] 69)
                have hS10:=hS9.later hA2
                have hq10:=(hA2.block _ (Array.getElem?_eq_some_iff.1 hq9).1).trans hq9
                have hrP:=hS10.rowP
                have HS10:Hid _:=hS10
                have Hq10:Hid _:=hq10
                have hnews2:∀j u,(#[.int .i64 (i:Nat),.int .i64 (k:Nat)]:Array Value).toList[j]?=some u→(w2.alloc (.cells #[.int .i64 (i:Nat),.int .i64 (k:Nat)] 69)).cell? ((⟨w2.heap.size,0,none⟩:Addr).add j)=some u:=World.news_of_block (heap_alloc_new w2 _)
                have hbs2:B≤w2.heap.size:=hS9.bs
                clear hown2 hgr2 hnil2 hS9 hq9 hA2 hS10 hq10 hrO hnews HS8 Hq8 k4 p0 p1)
             | (at_builtin;refine wpList_append_own _ rfl _ _ 36 rfl B 69 iR (.agg #[.int .i64 0,.int .i64 0]) 2 16 Tryz.underlying36 hiR hR0 hR1 hR2 rfl (by decide) _ _ _ rfl hrP ⟨w2.heap.size,0,none⟩ 1 1 (#[.int .i64 (i:Nat),.int .i64 (k:Nat)]:Array Value).toList rfl rfl hnews2 (fun u hu=>by simp at hu;rcases hu with rfl|rfl<;>rfl) (by unfold maxLen;omega) (by omega) (by simp;omega) ?_;intro v2 w4 hown4 hgr4 hnil4
                have hS11:=HS10.out.growP (x:=(i,k)) HBb.out.1 hgr4 hown4
                have hq11:=block_kept HS10.out.rowP hgr4 Hq10.out (by decide)
                have m4:=cellB hS11.c4 0
                have m4:w4.cell? ⟨b4,0,none⟩=some (.slice aO es3.length cO):=cellB hS11.c4 0
                have mf:∀j,w4.frozen? ⟨b4,j,none⟩=false:=frozenB hS11.c4
                have ml:b4<w4.heap.size:=(Array.getElem?_eq_some_iff.1 hS11.c4).1
                have HS12:Hid (ChS w B b3 b4 (.slice aF first.length cF) (w4.setCell ⟨b4,0,none⟩ (.slice z1 (es3.length+1) y1)) (.slice z1 (es3.length+1) y1) (.slice z1 (es3.length+1) y1) v2 (es3++[⟨p,.slice a1 p.frags.length c1,.slice (some ⟨bd,offd,none⟩) p.defs.length c2⟩]) (prs3++[(i,k)])):=hS11.store HBb.out.2.1 HBb.out.2.2 (.slice z1 (es3.length+1) y1)
                have Hq12:Hid ((w4.setCell ⟨b4,0,none⟩ (.slice z1 (es3.length+1) y1)).heap[n8]?=some (.cells #[.bool true,.slice (some ⟨bp,off2,none⟩) ps.length cP] 64 (0,0))):=(Below.heap_setCell _ _ _ _ (fun e=>by rw[e,hS11.c4] at hq11;cases hq11)).trans hq11
                clear hown4 hgr4 hnil4 hS11 hq11 hrP hnews2 HS10 Hq10))
            go_roundw
            case rel=>exact⟨k+1,_,_,.slice z1 (es3.length+1) y1,by omega,by go_num,HS12,by rw[HSt3.out];exact HR4,by rw[HSt3.out];exact HFl4,Hq12⟩
            case measure=>simp[intOf];omega
         ·obtain rfl:j=p.defs.length:=by omega
          have HSt3:Hid (M.roundN ps s (k+1)=(s3,fl)):=by
           rw[Hid,HSt2.out,if_neg]
           intro h
           unfold M.partHelps at h
           obtain⟨d,hd,hh⟩:=List.any_eq_true.1 h
           obtain⟨q,hq,e⟩:=List.mem_iff_getElem.1 hd
           have:=HNo.out q hq
           rw[List.getD_eq_getElem?_getD,List.getElem?_eq_getElem hq,Option.getD_some,e,hh] at this
           cases this
          have HS7:Hid (ChS w B b3 b4 (.slice aF first.length cF) wr (.slice aO es3.length cO) (.slice aO es3.length cO) (.slice aR3 prs3.length cR3) es3 prs3):=HS6.out.later HB.out
          have Hq7:Hid (wr.heap[n8]?=some (.cells #[.bool true,.slice (some ⟨bp,off2,none⟩) ps.length cP] 64 (0,0))):=(HB.out.block _ (Array.getElem?_eq_some_iff.1 Hq6.out.1).1).trans Hq6.out.1
          clear HNo HSt2
          go_wp2_with fail
          go_roundw
          case rel=>exact⟨k+1,es3,prs3,_,by omega,by go_num,HS7,by rw[HSt3.out];exact HR3,by rw[HSt3.out];exact HFl,Hq7⟩
          case measure=>simp[intOf];omega
      ·obtain rfl:k=ps.length:=by omega
       have HRd:Hid (M.rounds ps (f-1+1) s=if (M.round ps s).2 then M.rounds ps (f-1) (M.round ps s).1 else (M.round ps s).1):=rfl
       have hc1:=M.roundN_cnt ps s ps.length (by rw[Hsl.out.2];exact h8)
       have hcl:=M.cnt_le s.tk
       rw[Hsl.out.2] at hcl
       have hf1:f-1+1=f:=by have:=HF.out.2.1;omega
       rw[hf1] at HRd
       have HSe:Hid (M.search ps st0 out0=if (M.round ps s).2 then M.rounds ps (f-1) (M.round ps s).1 else (M.round ps s).1):=HF.out.1.trans HRd.out
       have HRo:Hid ((M.roundN ps s ps.length).1.out.length=o+M.cnt (M.roundN ps s ps.length).1.tk):=M.roundN_out (parts:=ps) Hsl.out.1 ps.length (by rw[Hsl.out.2];exact h8)
       have HFc:Hid ((M.roundN ps s ps.length).2=true→8<(f-1)+M.cnt (M.roundN ps s ps.length).1.tk):=fun h=>by have:=hc1.2 h;have:=HF.out.2.1;omega
       have hR:M.round ps s=M.roundN ps s ps.length:=rfl
       rw[hR] at HSe
       clear HRd hc1 hcl hf1 hR
       obtain⟨aQ,cQ,rfl⟩:=own_len HS3.out.rowP
       generalize M.roundN ps s ps.length=r at *
       obtain⟨s3,fl⟩:=r
       simp only at HR3 HFl HSe HRo HFc
       cases fl with
       | false =>
        have hle:(prs2.length:Int)=(prs3.length:Int):=by rw[HFl.out.1 rfl]
        have hee:((prs2.length:Int)==(prs3.length:Int))=true:=by simpa using hle
        have HC1:Hid (Ch1 first its (i+1) es3 prs3):=HCl.out s3 es3 prs3 HR3.out trivial (by rw[HSe.out];rfl)
        clear hle HFl HRo HFc HSe HR3 HF
        go_wp2_with fail
        go_roundw
        case rel=>exact⟨i+1,es3,prs3,vO3,by omega,by go_num,HS3,HC1⟩
        case measure=>simp[intOf];omega
       | true =>
        have hlt3:=HFl.out.2 rfl
        have hee:((prs2.length:Int)==(prs3.length:Int))=false:=by simp;omega
        have HF2:Hid (M.search ps st0 out0=M.rounds ps (f-1) s3∧8<(f-1)+M.cnt s3.tk∧es3.length=o+M.cnt s3.tk):=⟨by rw[HSe.out];rfl,HFc.out rfl,by rw[←HRo.out,←HR3.out.out,List.length_map]⟩
        have Hlt3:Hid (prs2.length<prs3.length):=hlt3
        clear HFl HRo HFc HSe HF hlt3
        go_wp2_with fail
        go_roundw
        case rel=>exact⟨f-1,_,s3,es3,prs3,vO3,rfl,by have:=Hlt3.out;omega,HS3,HR3,HF2,Hq3⟩
        case measure =>
         have:=Hlt3.out
         simp[lenOf];omega
  ·obtain rfl:i=its.length:=by omega
   have hC:=HC.out.out
   rw[List.take_length] at hC
   have hp:=HS.out.parts
   rw[hC] at hp
   obtain⟨out,hout⟩:∃out,(its.foldl M.chooseStep (M.firstAll first,[])).2=out:=⟨_,rfl⟩
   rw[hout] at hC hp
   have Hout:Hid ((its.foldl M.chooseStep (M.firstAll first,[])).2=out):=hout
   clear hout
   obtain⟨x,y,rfl⟩:=hp.form
   have HE:Hid (PartsAt wr (.slice x out.length y) out∧Below w.heap.size w wr):=⟨hp,HS.out.bel⟩
   have hc4:=HS.out.c4
   have k4:wr.cell? ⟨b4,0,none⟩=some (.slice x out.length y):=cellB hc4 0
   have f4:∀j,wr.frozen? ⟨b4,j,none⟩=false:=frozenB hc4
   have l4:b4<wr.heap.size:=(Array.getElem?_eq_some_iff.1 hc4).1
   have hS2:=HS.out.store HBb.out.2.1 HBb.out.2.2 (.slice x out.length y)
   have HE2:Hid (PartsAt (wr.setCell ⟨b4,0,none⟩ (.slice x out.length y)) (.slice x out.length y) out∧Below w.heap.size w (wr.setCell ⟨b4,0,none⟩ (.slice x out.length y))):=by
    have:=hS2.parts
    rw[hC] at this
    exact⟨this,hS2.bel⟩
   have k5:(wr.setCell ⟨b4,0,none⟩ (.slice x out.length y)).cell? ⟨b4,0,none⟩=some (.slice x out.length y):=cellB hS2.c4 0
   have Hk5:Hid _:=k5
   clear HS HC hC hp HE hc4 hS2 k5
   go_wp2_with fail
   have k5:=Hk5.out
   refine bodyPost_ret (v:=.tuple #[.slice x out.length y,u5]) (by simp[results,Tryz.results10,go_sem,k5]) rfl ?_
   rw[Hout.out]
   exact⟨HE2.out.2,x,y,u5,rfl,HE2.out.1⟩
end Go.Proofs.YtpkfmfhodbjckaaGreatDoor
