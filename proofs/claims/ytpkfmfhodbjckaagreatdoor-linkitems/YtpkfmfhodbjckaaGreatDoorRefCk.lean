/-
  The contract of the reference's checkFrag, whole. The contract of the reference's CheckPart.
-/
import Derived.Test.YtpkfmfhodbjckaaGreatDoorRefFB
set_option maxHeartbeats 2000000
set_option maxRecDepth 100000
set_option linter.unusedVariables false
namespace Go.Proofs.YtpkfmfhodbjckaaGreatDoor
open Go.RowKit
theorem rfrag_any(f:M.Frg)(ab ar:Option Addr)(cb cr:Nat)(many:Nat)(w:World)(hr:RelsAt w (sv ar f.rels.length cr) f.rels)(hg:f.group.size≤maxLen)(hbl:f.bytes.length≤maxLen)(hm:many≤60) :
  Calls Tryz.prog 61 #[.agg #[iv f.sect,iv f.align,.string f.group,sv ab f.bytes.length cb,iv f.size,sv ar f.rels.length cr],iv many] w fun e w' =>
   e=.returned (iv (M.checkFrag f many))∧Below w.heap.size w w':=by
 obtain⟨s,al,g,bs,sz,rs⟩:=f
 simp only at hr hg hbl ⊢
 have hrl:rs.length≤maxLen:=by obtain⟨_,_,_,h⟩:=hr.1.form;exact h
 generalize hR:M.checkFrag ⟨s,al,g,bs,sz,rs⟩ many=R
 unfold M.checkFrag at hR
 simp only at hR
 cases hs:M.within s 1 5
 ·exact rfrag_out s al sz g _ _ ab ar cb cr many w hg R (.inl ⟨by rw[←hR];simp[hs],.inl hs⟩)
 cases ha:M.isAlign al
 ·exact rfrag_out s al sz g _ _ ab ar cb cr many w hg R (.inl ⟨by rw[←hR];simp[hs,ha],.inr ⟨hs,ha⟩⟩)
 by_cases hgr:g.toList.isEmpty=false∧M.isName g=false
 ·exact rfrag_out s al sz g _ _ ab ar cb cr many w hg R (.inr ⟨by rw[←hR];simp[hs,ha,hgr],hs,ha,hgr.1,hgr.2⟩)
 have hgr':g.toList.isEmpty=true∨(g.toList.isEmpty=false∧M.isName g=true):=by
  cases h1:g.toList.isEmpty
  ·cases h2:M.isName g
   ·exact absurd ⟨h1,h2⟩ hgr
   ·exact .inr ⟨rfl,rfl⟩
  ·exact .inl rfl
 rw[if_neg (by simp[hs,ha]),if_neg hgr] at hR
 by_cases hmany:64<bs.length∨8<rs.length
 ·rw[if_pos hmany] at hR
  rw[←hR]
  exact rfrag_many s al sz g _ _ ab ar cb cr many w hg hs ha hgr' (by omega) hbl hrl
 rw[if_neg hmany] at hR
 cases hfo:frm s sz bs.length rs.length
 ·rw[if_pos (show M.formed ⟨s,al,g,bs,sz,rs⟩=false from hfo)] at hR
  rw[←hR]
  exact rfrag_form s al sz g _ _ ab ar cb cr many w hg hs ha hgr' (by omega) (by omega) hfo
 rw[if_neg (by rw[show M.formed ⟨s,al,g,bs,sz,rs⟩=true from hfo];simp)] at hR
 rw[←hR]
 by_cases hz:rs.length=0
 ·have hnil:rs=[]:=List.eq_nil_of_length_eq_zero hz
  subst hnil
  exact rfrag_none s al sz g _ ab ar cb cr many w hg hs ha hgr' (by omega) hfo
 ·have hw:=frm_true hfo
  have h3:¬s=5∧¬s=3∧sz=0:=by omega
  obtain⟨x0,x1,rfl⟩:=h3
  exact rfrag_rels s al g _ rs ab ar cb cr many w hr hg hm hs ha hgr' (by omega) (by omega) x0 x1
attribute [local go_sem] lat_cell
theorem later_old{wr w3:World}{o:Obj}{a:Addr}{v:Value}(hb:Below (wr.alloc o).heap.size (wr.alloc o) w3)(h:wr.cell? a=some v):w3.cell? a=some v :=
 cell_later hb ((World.cell?_alloc_lt _ _ _ (wlt h)).trans h)
theorem later_new{wr w3:World}{c:Array Value}{t:TypeId}(hb:Below (wr.alloc (.cells c t)).heap.size (wr.alloc (.cells c t)) w3)(i:Nat)(v:Value)(h:c[i]?=some v):w3.cell? (qa wr.heap.size i)=some v :=
 cell_later hb ((World.cell?_alloc_at _ _ _ _ rfl).trans h)
theorem rcheck_any(fs:List M.Frg)(ds:List M.Dfn)(a1 a2:Option Addr)(c1 c2:Nat)(w:World)(hf:FragsAt w (sv a1 fs.length c1) fs)(hd:DefsAt w (sv a2 ds.length c2) ds) :
  Calls Tryz.prog 24 #[.agg #[sv a1 fs.length c1,sv a2 ds.length c2]] w fun e w' =>
   e=.returned (iv (M.checkPart ⟨fs,ds⟩))∧Below w.heap.size w w':=by
 have hfl:fs.length≤maxLen:=by obtain⟨cell,hs,_⟩:=hf;obtain⟨_,_,_,h⟩:=hs.form;exact h
 have hdl:ds.length≤maxLen:=by obtain⟨_,_,_,h⟩:=hd.1.form;exact h
 unfold maxLen at hfl hdl
 by_cases h1:60<fs.length
 ·have HX:Hid (M.checkPart ⟨fs,ds⟩=2):=by simp[Hid,M.checkPart,h1]
  generalize M.checkPart ⟨fs,ds⟩=R at *
  clear hf hd
  generalize fs.length=n at *
  generalize ds.length=m at *
  go_enter Tryz.func24,Tryz.ntmps24
  go_wp2
  go_ret
  exact⟨ret_int HX.out.symm,bra _ _⟩
 by_cases h2:60<ds.length
 ·have HX:Hid (M.checkPart ⟨fs,ds⟩=2):=by simp[Hid,M.checkPart,h2]
  generalize M.checkPart ⟨fs,ds⟩=R at *
  clear hf hd
  generalize fs.length=n at *
  generalize ds.length=m at *
  go_enter Tryz.func24,Tryz.ntmps24
  go_wp2
  go_ret
  exact⟨ret_int HX.out.symm,bra _ _⟩
 have hd1:decide (60<(fs.length:Int))=false:=by simp;omega
 have hd2:decide (60<(ds.length:Int))=false:=by simp;omega
 have HX:Hid (M.checkPart ⟨fs,ds⟩=if M.checkFrags fs.length (fs.drop 0)=0 then M.checkDefs fs (ds.drop 0) else M.checkFrags fs.length (fs.drop 0)):=by
  simp only[Hid,M.checkPart]
  rw[if_neg (by omega)]
  rfl
 generalize M.checkPart ⟨fs,ds⟩=R at *
 go_enter Tryz.func24,Tryz.ntmps24
 go_wp2_with fail
 go_loopw [21] (fun s21 wr=>∃(k:Nat),k≤fs.length∧s21=iv k∧Hid (Below w.heap.size w wr)∧w.heap.size<wr.heap.size∧wr.cell? (qa w.heap.size 0)=some (sv a1 fs.length c1)∧wr.cell? (qa w.heap.size 1)=some (sv a2 ds.length c2)
   ∧ Hid (R=if M.checkFrags fs.length (fs.drop k)=0 then M.checkDefs fs (ds.drop 0) else M.checkFrags fs.length (fs.drop k))) (fun s21 _=>fs.length-(intOf s21).toNat)
 case atStart=>exact⟨0,Nat.zero_le _,rfl,bra _ _,by simp,by simp,by simp,HX⟩
 case round =>
  obtain⟨k,hk,rfl,HB,hsz,b0,b1,HR⟩:=hrel
  clear HX
  by_cases hlt:k<fs.length
  ·have hbw:=HB.out
   obtain⟨b,off,ab,cb,ar,cr,har,e0,e1,e2,e3,e4,e5,hBy,hRl,hg,hbl⟩:=(hf.later hbw).cells k hlt
   have HR1:=HR.out
   rw[frags_step hlt] at HR1
   clear HR hBy
   generalize fs.getD k frg0=f at *
   obtain⟨s,al,g,bs,sz,rs⟩:=f
   simp only at e0 e1 e2 e3 e4 e5 hRl hg hbl
   have hbr:b<wr.heap.size:=wlt e0
   have HP:Hid (Calls Tryz.prog 61 #[.agg #[iv s,iv al,.string g,sv ab bs.length cb,iv sz,sv ar rs.length cr],iv fs.length]
     (wr.alloc (.cells #[iv s,iv al,.string g,sv ab bs.length cb,iv sz,sv ar rs.length cr] 87)) fun e w' =>
    e=.returned (iv (M.checkFrag ⟨s,al,g,bs,sz,rs⟩ fs.length))∧Below (wr.alloc (.cells #[iv s,iv al,.string g,sv ab bs.length cb,iv sz,sv ar rs.length cr] 87)).heap.size (wr.alloc (.cells #[iv s,iv al,.string g,sv ab bs.length cb,iv sz,sv ar rs.length cr] 87)) w') :=
    rfrag_any ⟨s,al,g,bs,sz,rs⟩ ab ar cb cr fs.length _ (hRl.later (bra _ _)) hg hbl (by omega)
   clear hRl hg hbl
   generalize M.checkFrag ⟨s,al,g,bs,sz,rs⟩ fs.length=cf at *
   generalize bs.length=n1 at *
   generalize rs.length=m1 at *
   clear hf hd
   subst har
   by_cases hcf:cf=0
   ·subst hcf
    have HR2:Hid (R=if M.checkFrags fs.length (fs.drop (k+1))=0 then M.checkDefs fs (ds.drop 0) else M.checkFrags fs.length (fs.drop (k+1))):=by
     rw[if_pos rfl] at HR1
     exact HR1
    clear HR1
    go_wp2_with (go_at_call 61;refine HP.out.mono ?_;rintro e w2 ⟨rfl,hb2⟩;obtain⟨hc2,hf2⟩:=bcell hb2)
    go_roundw
    case rel =>
     have hs2:=hb2.size
     simp at hs2
     refine⟨k+1,by omega,by go_num,hbw.trans ((bra _ _).trans (hb2.mono (by simp)) |>.mono hbw.size),by omega,?_,?_,HR2⟩
     ·rw[hb2.cell (p:=⟨w.heap.size,0,none⟩) (by simp;omega),World.cell?_alloc_past _ _ _ hsz];exact b0
     ·rw[hb2.cell (p:=⟨w.heap.size,1,none⟩) (by simp;omega),World.cell?_alloc_past _ _ _ hsz];exact b1
    case measure=>simp[intOf];omega
   ·have HR2:Hid (R=cf):=by
     rw[if_neg hcf,if_neg hcf] at HR1
     exact HR1
    have hcn:(cf !=0)=true:=by simpa using hcf
    clear HR1 hcf
    go_wp2_with (go_at_call 61;refine HP.out.mono ?_;rintro e w2 ⟨rfl,hb2⟩;obtain⟨hc2,hf2⟩:=bcell hb2)
    go_ret
    exact⟨ret_int HR2.out.symm,hbw.trans ((bra _ _).trans (hb2.mono (by simp)) |>.mono hbw.size)⟩
  ·have HR0:Hid (R=M.checkDefs fs (ds.drop 0)):=by
    have:=HR.out
    rw[List.drop_of_length_le (by omega)] at this
    exact this
   clear HR
   go_wp2_with fail
   go_loopw [37] (fun s37 wr=>∃(j:Nat),j≤ds.length∧s37=iv j∧Hid (Below w.heap.size w wr)∧w.heap.size<wr.heap.size∧wr.cell? (qa w.heap.size 0)=some (sv a1 fs.length c1)
     ∧ Hid (R=M.checkDefs fs (ds.drop j))) (fun s37 _=>ds.length-(intOf s37).toNat)
   case atStart=>exact⟨0,Nat.zero_le _,rfl,HB,hsz,b0,HR0⟩
   case round =>
    clear HR0 HB hsz b0 b1
    obtain⟨j,hj,rfl,HB,hsz,b0,HR⟩:=hrel
    by_cases hjt:j<ds.length
    ·have hbw:=HB.out
     obtain⟨b,off,har,e0,e1,e2,e3,e4,e5,hnm⟩:=(hd.later hbw).cells j hjt
     have HR1:=HR.out
     rw[defs_step hjt] at HR1
     have hbr:b<wr.heap.size:=wlt e0
     have hfr:=hf.later hbw
     clear HR hf hd
     generalize ds.getD j dfn0=d at *
     obtain⟨name,kind,frag,pos,size,align⟩:=d
     simp only at e0 e1 e2 e3 e4 e5 hnm
     have hHF:Hid (FragsAt wr (sv a1 fs.length c1) fs):=hfr
     clear hfr
     subst har
     generalize hcd:M.checkDef ⟨name,kind,frag,pos,size,align⟩ fs=cd at HR1
     unfold M.checkDef at hcd
     simp only at hcd
     go_wp2_with fail
     refine(isName_any _ _ hnm).mono ?_
     rintro e w3 ⟨rfl,hb3⟩
     have hz3:=lt_of_alloc hb3
     have g0:=later_new hb3 0 _ rfl
     have g1:=later_new hb3 1 _ rfl
     have g2:=later_new hb3 2 _ rfl
     have g3:=later_new hb3 3 _ rfl
     have g4:=later_new hb3 4 _ rfl
     have g5:=later_new hb3 5 _ rfl
     have gb:=later_old hb3 b0
     have HBw:Hid (Below w.heap.size w w3):=hbw.trans ((bra _ _).trans (hb3.mono (by simp)) |>.mono hbw.size)
     have HBr:Hid (Below wr.heap.size wr w3):=(bra _ _).trans (hb3.mono (by simp))
     have hsz3:w.heap.size<w3.heap.size:=by omega
     clear e0 e1 e2 e3 e4 e5 b0 hb3 hbw HB
     cases hI:M.isName name
     ·have hv:cd=1:=by rw[←hcd];simp[hI]
      have HR2:Hid (R=1):=by rw[Hid,HR1,hv];simp
      clear HR1 hcd hv
      go_wp2
      go_ret
      exact⟨ret_int HR2.out.symm,HBw.out⟩
     rw[if_neg (by rw[hI];simp)] at hcd
     by_cases hk1:kind<1
     ·have z1:=tst_lt hk1
      have hv:cd=4:=by rw[←hcd];rw[if_neg (by omega),if_neg (by omega)]
      have HR2:Hid (R=4):=by rw[Hid,HR1,hv];simp
      clear HR1 hcd hv
      go_wp2
      go_ret
      exact⟨ret_int HR2.out.symm,HBw.out⟩
     by_cases hk3:3<kind
     ·have z1:=tst_ge (show (1:Int)≤kind by omega)
      have z2:=tst_lt hk3
      have hv:cd=4:=by rw[←hcd];rw[if_neg (by omega),if_neg (by omega)]
      have HR2:Hid (R=4):=by rw[Hid,HR1,hv];simp
      clear HR1 hcd hv
      go_wp2
      go_ret
      exact⟨ret_int HR2.out.symm,HBw.out⟩
     have z1:=tst_ge (show (1:Int)≤kind by omega)
     have z2:=tst_ge (show kind≤(3:Int) by omega)
     by_cases hkc:kind=3
     ·subst hkc
      rw[if_neg (by omega),if_pos rfl] at hcd
      clear z1 z2 hk1 hk3
      cases hq1:(frag==0)
      ·have y1:=bne_of hq1
       have hv:cd=3:=by rw[←hcd];simp[hq1]
       have HR2:Hid (R=3):=by rw[Hid,HR1,hv];simp
       clear HR1 hcd hv
       go_wp2
       go_ret
       exact⟨ret_int HR2.out.symm,HBw.out⟩
      have y1:=bne_of hq1
      cases hq2:(pos==0)
      ·have y2:=bne_of hq2
       have hv:cd=3:=by rw[←hcd];simp[hq2]
       have HR2:Hid (R=3):=by rw[Hid,HR1,hv];simp
       clear HR1 hcd hv
       clear hq1 hq2
       go_wp2
       go_ret
       exact⟨ret_int HR2.out.symm,HBw.out⟩
      have y2:=bne_of hq2
      by_cases hq3:size<1
      ·have y3:=tst_lt hq3
       have hv:cd=3:=by
        rw[←hcd]
        have:M.within size 1 64=false:=by { simp[M.within];omega }
        simp[this]
       have HR2:Hid (R=3):=by rw[Hid,HR1,hv];simp
       clear HR1 hcd hv
       clear hq1 hq2
       go_wp2
       go_ret
       exact⟨ret_int HR2.out.symm,HBw.out⟩
      have y3:=tst_ge (show (1:Int)≤size by omega)
      by_cases hq4:64<size
      ·have y4:=tst_lt hq4
       have hv:cd=3:=by
        rw[←hcd]
        have:M.within size 1 64=false:=by { simp[M.within];omega }
        simp[this]
       have HR2:Hid (R=3):=by rw[Hid,HR1,hv];simp
       clear HR1 hcd hv
       clear hq1 hq2
       go_wp2
       go_ret
       exact⟨ret_int HR2.out.symm,HBw.out⟩
      have y4:=tst_ge (show size≤(64:Int) by omega)
      have hq5:M.within size 1 64=true:=by simp[M.within];omega
      cases hq6:M.isAlign align
      ·have hv:cd=3:=by rw[←hcd];simp[hq6]
       have HR2:Hid (R=3):=by rw[Hid,HR1,hv];simp
       clear HR1 hcd hv
       clear hq1 hq2
       go_wp2_with (go_at_call 62;refine(isAlign_any _ _).mono ?_;rintro e w4 ⟨rfl,hb4⟩)
       go_ret
       exact⟨ret_int HR2.out.symm,HBw.out.trans (hb4.mono HBw.out.size)⟩
      ·have hv:cd=0:=by rw[←hcd];simp[hq1,hq2,hq5,hq6]
       have HR2:Hid (R=M.checkDefs fs (ds.drop (j+1))):=by rw[Hid,HR1,hv];simp
       clear HR1 hcd hv
       clear hq1 hq2
       go_wp2_with (go_at_call 62;refine(isAlign_any _ _).mono ?_;rintro e w4 ⟨rfl,hb4⟩)
       go_roundw
       case rel =>
        have hs4:=hb4.size
        exact⟨j+1,by omega,by go_num,HBw.out.trans (hb4.mono HBw.out.size),by omega,(hb4.cell (p:=⟨w.heap.size,0,none⟩) hsz3).trans gb,HR2⟩
       case measure=>simp[intOf];omega
     ·have z3:=beq_no hkc
      rw[if_pos (by omega)] at hcd
      clear hk1 hk3 hkc
      by_cases hf1:frag<0
      ·have y1:=tst_lt hf1
       have hv:cd=5:=by
        rw[←hcd]
        simp only[M.defAt]
        rw[if_neg (by simp[M.within];omega)]
       have HR2:Hid (R=5):=by rw[Hid,HR1,hv];simp
       clear HR1 hcd hv
       go_wp2
       go_ret
       exact⟨ret_int HR2.out.symm,HBw.out⟩
      by_cases hf2:(fs.length:Int)≤frag
      ·have y1:=tst_ge (show (0:Int)≤frag by omega)
       have hv:cd=5:=by
        rw[←hcd]
        simp only[M.defAt]
        rw[if_neg (by simp[M.within];omega)]
       have HR2:Hid (R=5):=by rw[Hid,HR1,hv];simp
       clear HR1 hcd hv
       go_wp2
       go_ret
       exact⟨ret_int HR2.out.symm,HBw.out⟩
      obtain⟨i,rfl⟩:=Int.eq_ofNat_of_zero_le (show 0≤frag by omega)
      have hil:i<fs.length:=by omega
      obtain⟨bb,oo,ab,cb,ar,cr,haa,x0,x1,x2,x3,x4,x5,_,_,_,_⟩:=(hHF.out.later HBr.out).cells i hil
      have hdf:M.defAt i pos size align fs=M.inFrag pos size align (fs.getD i frg0):=by
       unfold M.defAt
       rw[if_pos (by simp[M.within];omega),Int.toNat_natCast,getElem?_getD fs frg0 i hil]
      rw[hdf] at hcd
      clear hdf hHF HBr
      generalize fs.getD i frg0=f at *
      obtain⟨s,al,g,bs,sz,rs⟩:=f
      have hlong:M.long ⟨s,al,g,bs,sz,rs⟩=M.lng s sz bs.length:=rfl
      simp only[M.inFrag,hlong] at hcd
      simp only at x0 x1 x2 x3 x4 x5
      clear hlong
      generalize bs.length=n1 at *
      generalize rs.length=m1 at *
      subst haa
      have hi0:(0:Int)≤(i:Int):=Int.natCast_nonneg i
      have hi1:(i:Int)<(fs.length:Int):=by omega
      have y1:=tst_ge hi0
      have y2:decide ((fs.length:Int)≤(i:Int))=false:=decide_eq_false (by omega)
      clear hf1 hf2
      go_wp2_with fail
      by_cases hq1:pos<0
      ·have y3:=tst_lt hq1
       have hv:cd=3:=by
        rw[←hcd]
        have:M.within pos 0 (M.lng s sz n1)=false:=by { simp[M.within];omega }
        simp[this]
       have HR2:Hid (R=3):=by rw[Hid,HR1,hv];simp
       clear HR1 hcd hv
       refine wp_region_lat (by kernel_rfl) (by kernel_rfl) ?_
       intro hne
       repeat (go_big_quiet_step ((go_at_call 63;exact lat_of (longOf_any _ _ _ _ _ _ _ _ _))))
       refine wpQuiet_nil ?_
       intro w4 hb4'
       have hb4:=lat_out hb4'
       clear hne hb4'
       go_wp2
       go_ret
       exact⟨ret_int HR2.out.symm,HBw.out.trans (hb4.mono HBw.out.size)⟩
      have y3:=tst_ge (show (0:Int)≤pos by omega)
      by_cases hq2:M.lng s sz n1<pos
      ·have y4:=tst_lt hq2
       have hv:cd=3:=by
        rw[←hcd]
        have:M.within pos 0 (M.lng s sz n1)=false:=by { simp[M.within];omega }
        simp[this]
       have HR2:Hid (R=3):=by rw[Hid,HR1,hv];simp
       clear HR1 hcd hv
       refine wp_region_lat (by kernel_rfl) (by kernel_rfl) ?_
       intro hne
       repeat (go_big_quiet_step ((go_at_call 63;exact lat_of (longOf_any _ _ _ _ _ _ _ _ _))))
       refine wpQuiet_nil ?_
       intro w4 hb4'
       have hb4:=lat_out hb4'
       clear hne hb4'
       go_wp2
       go_ret
       exact⟨ret_int HR2.out.symm,HBw.out.trans (hb4.mono HBw.out.size)⟩
      have y4:=tst_ge (show pos≤M.lng s sz n1 by omega)
      have hq3:M.within pos 0 (M.lng s sz n1)=true:=by simp[M.within];omega
      cases hq4:(size==0)
      ·have y5:=bne_of hq4
       have hv:cd=3:=by rw[←hcd];simp[hq4]
       have HR2:Hid (R=3):=by rw[Hid,HR1,hv];simp
       clear HR1 hcd hv
       clear hq4
       refine wp_region_lat (by kernel_rfl) (by kernel_rfl) ?_
       intro hne
       repeat (go_big_quiet_step ((go_at_call 63;exact lat_of (longOf_any _ _ _ _ _ _ _ _ _))))
       refine wpQuiet_nil ?_
       intro w4 hb4'
       have hb4:=lat_out hb4'
       clear hne hb4'
       go_wp2
       go_ret
       exact⟨ret_int HR2.out.symm,HBw.out.trans (hb4.mono HBw.out.size)⟩
      have y5:=bne_of hq4
      cases hq5:(align==0)
      ·have y6:=bne_of hq5
       have hv:cd=3:=by rw[←hcd];simp[hq5]
       have HR2:Hid (R=3):=by rw[Hid,HR1,hv];simp
       clear HR1 hcd hv
       clear hq4 hq5
       refine wp_region_lat (by kernel_rfl) (by kernel_rfl) ?_
       intro hne
       repeat (go_big_quiet_step ((go_at_call 63;exact lat_of (longOf_any _ _ _ _ _ _ _ _ _))))
       refine wpQuiet_nil ?_
       intro w4 hb4'
       have hb4:=lat_out hb4'
       clear hne hb4'
       go_wp2
       go_ret
       exact⟨ret_int HR2.out.symm,HBw.out.trans (hb4.mono HBw.out.size)⟩
      ·have y6:=bne_of hq5
       have hv:cd=0:=by rw[←hcd];simp[hq3,hq4,hq5]
       have HR2:Hid (R=M.checkDefs fs (ds.drop (j+1))):=by rw[Hid,HR1,hv];simp
       clear HR1 hcd hv
       clear hq4 hq5
       refine wp_region_lat (by kernel_rfl) (by kernel_rfl) ?_
       intro hne
       repeat (go_big_quiet_step ((go_at_call 63;exact lat_of (longOf_any _ _ _ _ _ _ _ _ _))))
       refine wpQuiet_nil ?_
       intro w4 hb4'
       have hb4:=lat_out hb4'
       clear hne hb4'
       go_wp2
       go_roundw
       case rel =>
        have hs4:=hb4.size
        exact⟨j+1,by omega,by go_num,HBw.out.trans (hb4.mono HBw.out.size),by omega,(hb4.cell (p:=⟨w.heap.size,0,none⟩) hsz3).trans gb,HR2⟩
       case measure=>simp[intOf];omega
    ·have HR0:Hid (R=0):=by
      have:=HR.out
      rw[List.drop_of_length_le (by omega)] at this
      exact this
     clear HR
     go_wp2
     go_ret
     exact⟨ret_int HR0.out.symm,HB.out⟩
end Go.Proofs.YtpkfmfhodbjckaaGreatDoor
