/-
  obj.checkFrag, where all but its places is right: the loop over them. The contract of obj.checkFrag. The contract of obj.Check.
-/
import Derived.Test.YtpkfmfhodbjckaaGreatDoorPlaceA
set_option linter.unusedVariables false
set_option maxHeartbeats 2000000
namespace Go.Proofs.YtpkfmfhodbjckaaGreatDoor
open Go.RowKit
theorem three_lt{w w1:World}{o:Obj}(hb:Below (w.alloc o).heap.size (w.alloc o) w1):w.heap.size<w1.heap.size∧w.heap.size<w1.heap.size+1∧w.heap.size<w1.heap.size+1+1:=by
 have:=hb.size
 simp at this
 omega
theorem box3(w1:World)(x y z:Value)(t:TypeId) :
  Below w1.heap.size w1 (((w1.alloc (.cells #[x] t)).alloc (.cells #[y] t)).alloc (.cells #[z] t))∧w1.heap.size+2<(((w1.alloc (.cells #[x] t)).alloc (.cells #[y] t)).alloc (.cells #[z] t)).heap.size
   ∧ (((w1.alloc (.cells #[x] t)).alloc (.cells #[y] t)).alloc (.cells #[z] t)).cell? (qa w1.heap.size 0)=some x
   ∧ (((w1.alloc (.cells #[x] t)).alloc (.cells #[y] t)).alloc (.cells #[z] t)).cell? (qa (w1.heap.size+1) 0)=some y
   ∧ (((w1.alloc (.cells #[x] t)).alloc (.cells #[y] t)).alloc (.cells #[z] t)).cell? (qa (w1.heap.size+2) 0)=some z
   ∧ (((w1.alloc (.cells #[x] t)).alloc (.cells #[y] t)).alloc (.cells #[z] t)).frozen? (qa (w1.heap.size+2) 0)=false:=by
 refine⟨((bra _ _).alloc (by simp) _).alloc (by simp;omega) _,by simp,?_,?_,?_,?_⟩
 ·rw[World.cell?_alloc_past _ _ _ (by simp;omega),World.cell?_alloc_past _ _ _ (by simp),World.cell?_alloc_at _ _ _ _ rfl];rfl
 ·rw[World.cell?_alloc_past _ _ _ (by simp),World.cell?_alloc_at _ _ _ _ (by simp)];rfl
 ·rw[World.cell?_alloc_at _ _ _ _ (by simp)];rfl
 ·rw[World.frozen?_alloc_at _ _ _ _ (by simp)]
theorem rels_step{len many e:Int}{rs:List M.Rel}{k:Nat}(hk:k<rs.length) :
  M.checkRels len many e (rs.drop k)=(if M.placed (rs.getD k rel0) e len then (if M.target (rs.getD k rel0) many=0 then M.checkRels len many ((rs.getD k rel0).pos+M.wide (rs.getD k rel0).kind) (rs.drop (k+1)) else M.target (rs.getD k rel0) many) else 3):=by
 rw[drop_getD rs rel0 k hk];rfl
theorem frag_rels(s al sz:Int)(g:ByteArray)(n1:Nat)(rs:List M.Rel)(ab ar:Option Addr)(cb cr:Nat)(many:Nat)(w:World)(hr:RelsAt w (sv ar rs.length cr) rs)(hg:g.size≤maxLen)(hm:many≤60)
  (hs:M.within s 1 5=true) (ha:M.isAlign al=true) (hgr':g.toList.isEmpty=true∨(g.toList.isEmpty=false∧M.isName g=true)) (hmany1:n1≤64) (hmany2:rs.length≤8) (hfo:frm s sz n1 rs.length=true) :
  Calls Tryz.prog 78 #[.agg #[iv s,iv al,.string g,sv ab n1 cb,iv sz,sv ar rs.length cr],iv many] w fun e w' =>
   e=.returned (iv (M.checkRels n1 many 0 rs))∧Below w.heap.size w w':=by
 have HX:Hid (M.checkRels n1 many 0 rs=M.checkRels n1 many 0 (rs.drop 0)):=rfl
 generalize M.checkRels n1 many 0 rs=R at *
 have hd1:decide (64<(n1:Int))=false:=by simp;omega
 have hd2:decide (8<(rs.length:Int))=false:=by simp;omega
 rcases hgr' with hgr1|⟨hgr1,hgr2⟩
 all_goals
  go_enter Tryz.func78,Tryz.ntmps78
  go_wp2_with (first|(go_at_call 102;refine(within_any _ _ _ _).mono ?_;rintro e w' ⟨rfl,rfl⟩)|(go_at_call 103;refine(alignment_any _ _).mono ?_;rintro e w' ⟨rfl,rfl⟩)|(go_at_call 14;refine(name_any _ _ hg).mono ?_;rintro e w' ⟨rfl,rfl⟩)|(go_at_call 104;refine(formed_any _ _ _ _ _ _ _ _ _ _ _).mono ?_;rintro e w1 ⟨rfl,hb1⟩;obtain⟨hc1,hf1⟩:=bcell hb1;obtain⟨hz0,hz1,hz2⟩:=three_lt hb1)|(go_at_call 105;refine(checker_any _ _ _).mono ?_;rintro e w2 ⟨rfl,rfl⟩))
  have hw1:w.heap.size+1≤w1.heap.size:=by have:=hb1.size;simpa using this
  have hbw:Below w.heap.size w w1:=(bra _ _).trans (hb1.mono (by simp))
  have HB1:Hid (Below w.heap.size w w1):=hbw
  clear hb1 hbw hc1 hf1 hz0 hz1 hz2
  go_loopw [53] (fun s53 wr=>∃(k:Nat) (e:Int),k≤rs.length∧s53=iv k∧0≤e∧Hid (Below w1.heap.size w1 wr)∧w1.heap.size+2<wr.heap.size∧wr.cell? (qa w1.heap.size 0)=some (iv n1)∧wr.cell? (qa (w1.heap.size+1) 0)=some (iv many)
   ∧ wr.cell? (qa (w1.heap.size+2) 0)=some (iv e)∧wr.frozen? (qa (w1.heap.size+2) 0)=false∧Hid (R=M.checkRels n1 many e (rs.drop k))) (fun s53 _=>rs.length-(intOf s53).toNat)
  case atStart=>exact⟨0,0,Nat.zero_le _,rfl,by omega,(box3 w1 _ _ _ _).1,(box3 w1 _ _ _ _).2.1,(box3 w1 _ _ _ _).2.2.1,(box3 w1 _ _ _ _).2.2.2.1,(box3 w1 _ _ _ _).2.2.2.2.1,(box3 w1 _ _ _ _).2.2.2.2.2,HX⟩
  case round =>
   obtain⟨k,e,hk,rfl,he,HB,hsz,c0,c1,c2,hfz,HR⟩:=hrel
   by_cases hlt:k<rs.length
   ·have hbw:Below w.heap.size w wr:=HB1.out.trans (HB.out.mono (by omega))
    obtain⟨b,off,har,hc⟩:=(hr.1.later hbw).at k hlt
    have hnm:=(hr.2 _ (getD_mem rs rel0 k hlt)).1
    have hst:=rels_step (len:=n1) (many:=many) (e:=e) hlt
    have HR1:=HR.out.trans hst
    clear HR hst HX hr
    generalize rs.getD k rel0=r at *
    obtain⟨pos,kind,name,frag,add⟩:=r
    have e0:=hc 0 (by decide)
    have e1:=hc 1 (by decide)
    have e2:=hc 2 (by decide)
    have e3:=hc 3 (by decide)
    have e4:=hc 4 (by decide)
    simp only[relCell,Nat.add_zero] at e0 e1 e2 e3 e4 hnm
    have hbr:b<wr.heap.size:=wlt e0
    clear hc
    subst har
    have hX0:w1.heap.size<wr.heap.size:=by omega
    have hX1:w1.heap.size+1<wr.heap.size:=by omega
    cases hp:plcB pos kind add e n1
    ·have HR2:Hid (R=3):=by rw[Hid,HR1,←plcB_eq];simp only[hp];rfl
     clear HR1
     go_wp2_with (go_at_call 126;refine(place_no pos kind name frag add w1.heap.size n1 many e _ (by simp;omega) ((World.cell?_alloc_past _ _ _ hX0).trans c0) ((World.cell?_alloc_past _ _ _ hX1).trans c1) ((World.cell?_alloc_past _ _ _ hsz).trans c2) ⟨by omega,by omega⟩ hp).mono ?_;rintro e w2 ⟨rfl,hb2⟩)
     go_ret
     exact⟨ret_int HR2.out.symm,hbw.trans ((bra _ _).trans (hb2.mono (by simp)) |>.mono hbw.size)⟩
    ·have HR2:Hid (R=(if M.target ⟨pos,kind,name,frag,add⟩ many=0 then M.checkRels n1 many (pos+M.wide kind) (rs.drop (k+1)) else M.target ⟨pos,kind,name,frag,add⟩ many)):=by rw[Hid,HR1,←plcB_eq];simp only[hp];rfl
     clear HR1
     have hwd:=wide_bd kind
     have hpos:0≤pos:=by
      simp only[plcB,M.within,Bool.and_eq_true,decide_eq_true_eq] at hp
      omega
     have HN:Hid (0≤pos+M.wide kind):=by show _≤_;omega
     clear hwd hpos
     have HP:Hid (Calls Tryz.prog 126 #[.agg #[iv pos,iv kind,.string name,iv frag,iv add],qv (w1.heap.size+2) 0,qv w1.heap.size 0,qv (w1.heap.size+1) 0]
       (wr.alloc (.cells #[iv pos,iv kind,.string name,iv frag,iv add] 89)) fun r w' =>
      r=.returned (iv (M.target ⟨pos,kind,name,frag,add⟩ many))∧Below (w1.heap.size+2) (wr.alloc (.cells #[iv pos,iv kind,.string name,iv frag,iv add] 89)) w'∧w'.cell? (qa (w1.heap.size+2) 0)=some (iv (pos+M.wide kind))∧w'.frozen? (qa (w1.heap.size+2) 0)=false) :=
      place_yes pos kind name frag add w1.heap.size n1 many e _ (by simp;omega) ((World.cell?_alloc_past _ _ _ hX0).trans c0) ((World.cell?_alloc_past _ _ _ hX1).trans c1) ((World.cell?_alloc_past _ _ _ hsz).trans c2) ((World.frozen?_alloc_past _ _ _ hsz).trans hfz) ⟨by omega,by omega⟩ he ⟨by omega,by omega⟩ hnm hp
     clear hp
     generalize M.target ⟨pos,kind,name,frag,add⟩ many=tg at *
     by_cases ht:tg=0
     ·subst ht
      have HR3:Hid (R=M.checkRels n1 many (pos+M.wide kind) (rs.drop (k+1))):=HR2.out.trans (if_pos rfl)
      clear HR2
      generalize pos+M.wide kind=en at *
      go_wp2_with (go_at_call 126;refine HP.out.mono ?_;rintro e w2 ⟨rfl,hb2,hc2,hf2⟩)
      go_roundw
      case rel =>
       have hs2:=hb2.size
       simp at hs2
       refine⟨k+1,en,by omega,by go_num,HN.out,?_,by omega,?_,?_,hc2,hf2,HR3⟩
       ·exact HB.out.trans ((((Below.refl _ _).alloc (by omega) _)).trans (hb2.mono (by omega)))
       ·rw[hb2.cell (p:=⟨w1.heap.size,0,none⟩) (by simp)]
        exact(World.cell?_alloc_past _ _ _ hX0).trans c0
       ·rw[hb2.cell (p:=⟨w1.heap.size+1,0,none⟩) (by simp)]
        exact(World.cell?_alloc_past _ _ _ hX1).trans c1
      case measure=>simp[intOf];omega
     ·have HR3:Hid (R=tg):=HR2.out.trans (if_neg ht)
      have htn:(tg !=0)=true:=by simpa using ht
      clear HR2 ht
      go_wp2_with (go_at_call 126;refine HP.out.mono ?_;rintro e w2 ⟨rfl,hb2,hc2,hf2⟩)
      go_ret
      exact⟨ret_int HR3.out.symm,hbw.trans (((Below.refl _ _).alloc (by have:=hbw.size;omega) _).trans (hb2.mono (by omega)))⟩
   ·have HR0:Hid (R=0):=by
     have:=HR.out
     rwa [List.drop_of_length_le (by omega)] at this
    clear HR HX
    go_wp2
    go_ret
    exact⟨ret_int HR0.out.symm,HB1.out.trans (HB.out.mono (by omega))⟩
theorem frag_any(f:M.Frg)(ab ar:Option Addr)(cb cr:Nat)(many:Nat)(w:World)(hr:RelsAt w (sv ar f.rels.length cr) f.rels)(hg:f.group.size≤maxLen)(hbl:f.bytes.length≤maxLen)(hm:many≤60) :
  Calls Tryz.prog 78 #[.agg #[iv f.sect,iv f.align,.string f.group,sv ab f.bytes.length cb,iv f.size,sv ar f.rels.length cr],iv many] w fun e w' =>
   e=.returned (iv (M.checkFrag f many))∧Below w.heap.size w w':=by
 obtain⟨s,al,g,bs,sz,rs⟩:=f
 simp only at hr hg hbl ⊢
 have hrl:rs.length≤maxLen:=by obtain⟨_,_,_,h⟩:=hr.1.form;exact h
 unfold maxLen at hbl hrl
 have arm:∀r:Int,M.checkFrag ⟨s,al,g,bs,sz,rs⟩ many=r→Hid (M.checkFrag ⟨s,al,g,bs,sz,rs⟩ many=r):=fun r h=>h
 generalize hR:M.checkFrag ⟨s,al,g,bs,sz,rs⟩ many=R at arm
 unfold M.checkFrag at hR
 simp only at hR
 cases hs:M.within s 1 5
 ·have HX:=arm 3 (by rw[←hR];simp[hs])
  clear hR arm hr
  generalize bs.length=n1 at *
  generalize rs.length=m1 at *
  go_enter Tryz.func78,Tryz.ntmps78
  go_wp2_with (go_at_call 102;refine(within_any _ _ _ _).mono ?_;rintro e w' ⟨rfl,rfl⟩)
  go_ret
  exact⟨ret_int HX.out.symm,bra _ _⟩
 cases ha:M.isAlign al
 ·have HX:=arm 3 (by rw[←hR];simp[hs,ha])
  clear hR arm hr
  generalize bs.length=n1 at *
  generalize rs.length=m1 at *
  go_enter Tryz.func78,Tryz.ntmps78
  go_wp2_with (first|(go_at_call 102;refine(within_any _ _ _ _).mono ?_;rintro e w' ⟨rfl,rfl⟩)|(go_at_call 103;refine(alignment_any _ _).mono ?_;rintro e w' ⟨rfl,rfl⟩))
  go_ret
  exact⟨ret_int HX.out.symm,bra _ _⟩
 by_cases hgr:g.toList.isEmpty=false∧M.isName g=false
 ·have HX:=arm 1 (by rw[←hR];simp[hs,ha,hgr])
  obtain⟨hgr1,hgr2⟩:=hgr
  clear hR arm hr
  generalize bs.length=n1 at *
  generalize rs.length=m1 at *
  go_enter Tryz.func78,Tryz.ntmps78
  go_wp2_with (first|(go_at_call 102;refine(within_any _ _ _ _).mono ?_;rintro e w' ⟨rfl,rfl⟩)|(go_at_call 103;refine(alignment_any _ _).mono ?_;rintro e w' ⟨rfl,rfl⟩)|(go_at_call 14;refine(name_any _ _ hg).mono ?_;rintro e w' ⟨rfl,rfl⟩))
  go_ret
  exact⟨ret_int HX.out.symm,bra _ _⟩
 have hgr':g.toList.isEmpty=true∨(g.toList.isEmpty=false∧M.isName g=true):=by
  cases h1:g.toList.isEmpty
  ·cases h2:M.isName g
   ·exact absurd ⟨h1,h2⟩ hgr
   ·exact .inr ⟨rfl,rfl⟩
  ·exact .inl rfl
 rw[if_neg (by simp[hs,ha]),if_neg hgr] at hR
 by_cases hmany1:64<bs.length
 ·have HX:=arm 2 (by rw[←hR,if_pos (.inl hmany1)])
  clear hR arm hr hgr
  generalize bs.length=n1 at *
  generalize rs.length=m1 at *
  rcases hgr' with hgr1|⟨hgr1,hgr2⟩
  all_goals
   go_enter Tryz.func78,Tryz.ntmps78
   go_wp2_with (first|(go_at_call 102;refine(within_any _ _ _ _).mono ?_;rintro e w' ⟨rfl,rfl⟩)|(go_at_call 103;refine(alignment_any _ _).mono ?_;rintro e w' ⟨rfl,rfl⟩)|(go_at_call 14;refine(name_any _ _ hg).mono ?_;rintro e w' ⟨rfl,rfl⟩))
   go_ret
   exact⟨ret_int HX.out.symm,bra _ _⟩
 by_cases hmany2:8<rs.length
 ·have HX:=arm 2 (by rw[←hR,if_pos (.inr hmany2)])
  clear hR arm hr hgr
  generalize bs.length=n1 at *
  generalize rs.length=m1 at *
  rcases hgr' with hgr1|⟨hgr1,hgr2⟩
  all_goals
   go_enter Tryz.func78,Tryz.ntmps78
   go_wp2_with (first|(go_at_call 102;refine(within_any _ _ _ _).mono ?_;rintro e w' ⟨rfl,rfl⟩)|(go_at_call 103;refine(alignment_any _ _).mono ?_;rintro e w' ⟨rfl,rfl⟩)|(go_at_call 14;refine(name_any _ _ hg).mono ?_;rintro e w' ⟨rfl,rfl⟩))
   go_ret
   exact⟨ret_int HX.out.symm,bra _ _⟩
 cases hfo:frm s sz bs.length rs.length
 ·have HX:=arm 4 (by rw[←hR,if_neg (by omega),if_pos (show M.formed ⟨s,al,g,bs,sz,rs⟩=false from hfo)])
  clear hR arm hr hgr
  generalize bs.length=n1 at *
  generalize rs.length=m1 at *
  rcases hgr' with hgr1|⟨hgr1,hgr2⟩
  all_goals
   go_enter Tryz.func78,Tryz.ntmps78
   go_wp2_with (first|(go_at_call 102;refine(within_any _ _ _ _).mono ?_;rintro e w' ⟨rfl,rfl⟩)|(go_at_call 103;refine(alignment_any _ _).mono ?_;rintro e w' ⟨rfl,rfl⟩)|(go_at_call 14;refine(name_any _ _ hg).mono ?_;rintro e w' ⟨rfl,rfl⟩)|(go_at_call 104;refine(formed_any _ _ _ _ _ _ _ _ _ _ _).mono ?_;rintro e w1 ⟨rfl,hb1⟩))
   go_ret
   exact⟨ret_int HX.out.symm,(bra _ _).trans (hb1.mono (by simp))⟩
 have HX:=arm (M.checkRels bs.length many 0 rs) (by rw[←hR,if_neg (by omega),if_neg (by rw[show M.formed ⟨s,al,g,bs,sz,rs⟩=true from hfo];simp)])
 rw[HX.out]
 exact frag_rels s al sz g bs.length rs ab ar cb cr many w hr hg hm hs ha hgr' (by omega) (by omega) hfo
theorem frags_step{many:Int}{fs:List M.Frg}{k:Nat}(hk:k<fs.length) :
  M.checkFrags many (fs.drop k)=(if M.checkFrag (fs.getD k frg0) many=0 then M.checkFrags many (fs.drop (k+1)) else M.checkFrag (fs.getD k frg0) many):=by
 rw[drop_getD fs frg0 k hk];rfl
theorem defs_step{fs:List M.Frg}{ds:List M.Dfn}{k:Nat}(hk:k<ds.length) :
  M.checkDefs fs (ds.drop k)=(if M.checkDef (ds.getD k dfn0) fs=0 then M.checkDefs fs (ds.drop (k+1)) else M.checkDef (ds.getD k dfn0) fs):=by
 rw[drop_getD ds dfn0 k hk];rfl
theorem FragsAt.cells{w:World}{a:Option Addr}{c:Nat}{fs:List M.Frg}(h:FragsAt w (sv a fs.length c) fs)(k:Nat)(hk:k<fs.length) :
  ∃b off ab cb ar cr,a=some (qa b off)∧w.cell? (qa b (off+k*6))=some (iv (fs.getD k frg0).sect)∧w.cell? (qa b (off+k*6+1))=some (iv (fs.getD k frg0).align)
   ∧ w.cell? (qa b (off+k*6+2))=some (.string (fs.getD k frg0).group)∧w.cell? (qa b (off+k*6+3))=some (sv ab (fs.getD k frg0).bytes.length cb)
   ∧ w.cell? (qa b (off+k*6+4))=some (iv (fs.getD k frg0).size)∧w.cell? (qa b (off+k*6+5))=some (sv ar (fs.getD k frg0).rels.length cr)
   ∧ BytesAt w (sv ab (fs.getD k frg0).bytes.length cb) (fs.getD k frg0).bytes∧RelsAt w (sv ar (fs.getD k frg0).rels.length cr) (fs.getD k frg0).rels∧(fs.getD k frg0).group.size≤maxLen∧(fs.getD k frg0).bytes.length≤maxLen:=by
 obtain⟨cell,hs,hf⟩:=h
 obtain⟨b,off,rfl,hc⟩:=hs.at k hk
 have hfk:=hf k hk
 obtain⟨ab,cb,eb,hbl⟩:=hfk.bytes.1.form
 obtain⟨ar,cr,er,_⟩:=hfk.rels.1.form
 have e0:=hc 0 (by decide)
 have e1:=hc 1 (by decide)
 have e2:=hc 2 (by decide)
 have e3:=hc 3 (by decide)
 have e4:=hc 4 (by decide)
 have e5:=hc 5 (by decide)
 rw[hfk.sect] at e0
 rw[hfk.align] at e1
 rw[hfk.group] at e2
 rw[eb] at e3
 rw[hfk.size] at e4
 rw[er] at e5
 exact⟨b,off,ab,cb,ar,cr,rfl,e0,e1,e2,e3,e4,e5,eb▸hfk.bytes,er▸hfk.rels,hfk.ok,hbl⟩
theorem DefsAt.cells{w:World}{a:Option Addr}{c:Nat}{ds:List M.Dfn}(h:DefsAt w (sv a ds.length c) ds)(k:Nat)(hk:k<ds.length) :
  ∃b off,a=some (qa b off)∧w.cell? (qa b (off+k*6))=some (.string (ds.getD k dfn0).name)∧w.cell? (qa b (off+k*6+1))=some (iv (ds.getD k dfn0).kind)
   ∧ w.cell? (qa b (off+k*6+2))=some (iv (ds.getD k dfn0).frag)∧w.cell? (qa b (off+k*6+3))=some (iv (ds.getD k dfn0).pos)
   ∧ w.cell? (qa b (off+k*6+4))=some (iv (ds.getD k dfn0).size)∧w.cell? (qa b (off+k*6+5))=some (iv (ds.getD k dfn0).align)∧(ds.getD k dfn0).name.size≤maxLen:=by
 obtain⟨b,off,rfl,hc⟩:=h.1.at k hk
 exact⟨b,off,rfl,hc 0 (by decide),hc 1 (by decide),hc 2 (by decide),hc 3 (by decide),hc 4 (by decide),hc 5 (by decide),h.2 _ (getD_mem ds dfn0 k hk)⟩
theorem check_any(fs:List M.Frg)(ds:List M.Dfn)(a1 a2:Option Addr)(c1 c2:Nat)(w:World)(hf:FragsAt w (sv a1 fs.length c1) fs)(hd:DefsAt w (sv a2 ds.length c2) ds) :
  Calls Tryz.prog 46 #[.agg #[sv a1 fs.length c1,sv a2 ds.length c2]] w fun e w' =>
   e=.returned (iv (M.checkPart ⟨fs,ds⟩))∧Below w.heap.size w w':=by
 have hfl:fs.length≤maxLen:=by obtain⟨cell,hs,_⟩:=hf;obtain⟨_,_,_,h⟩:=hs.form;exact h
 have hdl:ds.length≤maxLen:=by obtain⟨_,_,_,h⟩:=hd.1.form;exact h
 unfold maxLen at hfl hdl
 by_cases h1:60<fs.length
 ·have HX:Hid (M.checkPart ⟨fs,ds⟩=2):=by simp[Hid,M.checkPart,h1]
  generalize M.checkPart ⟨fs,ds⟩=R at *
  clear hf hd
  generalize fs.length=n at *
  generalize ds.length=m at *
  go_enter Tryz.func46,Tryz.ntmps46
  go_wp2
  go_ret
  exact⟨ret_int HX.out.symm,bra _ _⟩
 by_cases h2:60<ds.length
 ·have HX:Hid (M.checkPart ⟨fs,ds⟩=2):=by simp[Hid,M.checkPart,h2]
  generalize M.checkPart ⟨fs,ds⟩=R at *
  clear hf hd
  generalize fs.length=n at *
  generalize ds.length=m at *
  go_enter Tryz.func46,Tryz.ntmps46
  go_wp2
  go_ret
  exact⟨ret_int HX.out.symm,bra _ _⟩
 have hd1:decide (60<(fs.length:Int))=false:=by simp;omega
 have hd2:decide (60<(ds.length:Int))=false:=by simp;omega
 have HX:Hid (M.checkPart ⟨fs,ds⟩=if M.checkFrags fs.length (fs.drop 0)=0 then M.checkDefs fs (ds.drop 0) else M.checkFrags fs.length (fs.drop 0)):=by
  simp only[Hid,M.checkPart]
  rw[if_neg (by omega)]
  rfl
 generalize M.checkPart ⟨fs,ds⟩=R at *
 go_enter Tryz.func46,Tryz.ntmps46
 go_wp2_with fail
 go_loopw [22] (fun s22 wr=>∃(k:Nat),k≤fs.length∧s22=iv k∧Hid (Below w.heap.size w wr)∧w.heap.size<wr.heap.size∧wr.cell? (qa w.heap.size 0)=some (sv a1 fs.length c1)∧wr.cell? (qa w.heap.size 1)=some (sv a2 ds.length c2)
   ∧ Hid (R=if M.checkFrags fs.length (fs.drop k)=0 then M.checkDefs fs (ds.drop 0) else M.checkFrags fs.length (fs.drop k))) (fun s22 _=>fs.length-(intOf s22).toNat)
 case atStart=>exact⟨0,Nat.zero_le _,rfl,bra _ _,by simp,by simp,by simp,HX⟩
 case round =>
  obtain⟨k,hk,rfl,HB,hsz,b0,b1,HR⟩:=hrel
  clear HX
  by_cases hlt:k<fs.length
  ·have hbw:=HB.out
   obtain⟨b,off,ab,cb,ar,cr,har,e0,e1,e2,e3,e4,e5,hBy,hRl,hg,hbl⟩:=(hf.later hbw).cells k hlt
   have HR1:=HR.out
   rw[frags_step hlt] at HR1
   clear HR hBy
   generalize fs.getD k frg0=f at *
   obtain⟨s,al,g,bs,sz,rs⟩:=f
   simp only at e0 e1 e2 e3 e4 e5 hRl hg hbl
   have hbr:b<wr.heap.size:=wlt e0
   have HP:Hid (Calls Tryz.prog 78 #[.agg #[iv s,iv al,.string g,sv ab bs.length cb,iv sz,sv ar rs.length cr],iv fs.length]
     (wr.alloc (.cells #[iv s,iv al,.string g,sv ab bs.length cb,iv sz,sv ar rs.length cr] 87)) fun e w' =>
    e=.returned (iv (M.checkFrag ⟨s,al,g,bs,sz,rs⟩ fs.length))∧Below (wr.alloc (.cells #[iv s,iv al,.string g,sv ab bs.length cb,iv sz,sv ar rs.length cr] 87)).heap.size (wr.alloc (.cells #[iv s,iv al,.string g,sv ab bs.length cb,iv sz,sv ar rs.length cr] 87)) w') :=
    frag_any ⟨s,al,g,bs,sz,rs⟩ ab ar cb cr fs.length _ (hRl.later (bra _ _)) hg hbl (by omega)
   clear hRl hg hbl
   generalize M.checkFrag ⟨s,al,g,bs,sz,rs⟩ fs.length=cf at *
   generalize bs.length=n1 at *
   generalize rs.length=m1 at *
   clear hf hd
   subst har
   by_cases hcf:cf=0
   ·subst hcf
    have HR2:Hid (R=if M.checkFrags fs.length (fs.drop (k+1))=0 then M.checkDefs fs (ds.drop 0) else M.checkFrags fs.length (fs.drop (k+1))):=by
     rw[if_pos rfl] at HR1
     exact HR1
    clear HR1
    go_wp2_with (go_at_call 78;refine HP.out.mono ?_;rintro e w2 ⟨rfl,hb2⟩;obtain⟨hc2,hf2⟩:=bcell hb2)
    go_roundw
    case rel =>
     have hs2:=hb2.size
     simp at hs2
     refine⟨k+1,by omega,by go_num,hbw.trans ((bra _ _).trans (hb2.mono (by simp)) |>.mono hbw.size),by omega,?_,?_,HR2⟩
     ·rw[hb2.cell (p:=⟨w.heap.size,0,none⟩) (by simp;omega),World.cell?_alloc_past _ _ _ hsz];exact b0
     ·rw[hb2.cell (p:=⟨w.heap.size,1,none⟩) (by simp;omega),World.cell?_alloc_past _ _ _ hsz];exact b1
    case measure=>simp[intOf];omega
   ·have HR2:Hid (R=cf):=by
     rw[if_neg hcf,if_neg hcf] at HR1
     exact HR1
    have hcn:(cf !=0)=true:=by simpa using hcf
    clear HR1 hcf
    go_wp2_with (go_at_call 78;refine HP.out.mono ?_;rintro e w2 ⟨rfl,hb2⟩;obtain⟨hc2,hf2⟩:=bcell hb2)
    go_ret
    exact⟨ret_int HR2.out.symm,hbw.trans ((bra _ _).trans (hb2.mono (by simp)) |>.mono hbw.size)⟩
  ·have HR0:Hid (R=M.checkDefs fs (ds.drop 0)):=by
    have:=HR.out
    rw[List.drop_of_length_le (by omega)] at this
    exact this
   clear HR
   go_wp2_with fail
   go_loopw [38] (fun s38 wr=>∃(j:Nat),j≤ds.length∧s38=iv j∧Hid (Below w.heap.size w wr)∧w.heap.size<wr.heap.size∧wr.cell? (qa w.heap.size 0)=some (sv a1 fs.length c1)
     ∧ Hid (R=M.checkDefs fs (ds.drop j))) (fun s38 _=>ds.length-(intOf s38).toNat)
   case atStart=>exact⟨0,Nat.zero_le _,rfl,HB,hsz,b0,HR0⟩
   case round =>
    clear HR0 HB hsz b0 b1
    obtain⟨j,hj,rfl,HB,hsz,b0,HR⟩:=hrel
    by_cases hjt:j<ds.length
    ·have hbw:=HB.out
     obtain⟨b,off,har,e0,e1,e2,e3,e4,e5,hnm⟩:=(hd.later hbw).cells j hjt
     have HR1:=HR.out
     rw[defs_step hjt] at HR1
     have hbr:b<wr.heap.size:=wlt e0
     have HP:Hid (Calls Tryz.prog 79 #[.agg #[.string (ds.getD j dfn0).name,iv (ds.getD j dfn0).kind,iv (ds.getD j dfn0).frag,iv (ds.getD j dfn0).pos,iv (ds.getD j dfn0).size,iv (ds.getD j dfn0).align],sv a1 fs.length c1]
       (wr.alloc (.cells #[.string (ds.getD j dfn0).name,iv (ds.getD j dfn0).kind,iv (ds.getD j dfn0).frag,iv (ds.getD j dfn0).pos,iv (ds.getD j dfn0).size,iv (ds.getD j dfn0).align] 72)) fun e w' =>
      e=.returned (iv (M.checkDef (ds.getD j dfn0) fs))∧Below (wr.alloc (.cells #[.string (ds.getD j dfn0).name,iv (ds.getD j dfn0).kind,iv (ds.getD j dfn0).frag,iv (ds.getD j dfn0).pos,iv (ds.getD j dfn0).size,iv (ds.getD j dfn0).align] 72)).heap.size
       (wr.alloc (.cells #[.string (ds.getD j dfn0).name,iv (ds.getD j dfn0).kind,iv (ds.getD j dfn0).frag,iv (ds.getD j dfn0).pos,iv (ds.getD j dfn0).size,iv (ds.getD j dfn0).align] 72)) w') :=
      def_any (ds.getD j dfn0) fs a1 c1 _ ((hf.later hbw).later (bra _ _)) (by omega) hnm
     clear HR hf hd hnm
     generalize M.checkDef (ds.getD j dfn0) fs=cf at *
     generalize ds.getD j dfn0=d at *
     obtain⟨name,kind,frag,pos,size,align⟩:=d
     simp only at e0 e1 e2 e3 e4 e5 HP
     subst har
     by_cases hcf:cf=0
     ·subst hcf
      have HR2:Hid (R=M.checkDefs fs (ds.drop (j+1))):=by
       rw[if_pos rfl] at HR1
       exact HR1
      clear HR1
      go_wp2_with (go_at_call 79;refine HP.out.mono ?_;rintro e w2 ⟨rfl,hb2⟩;obtain⟨hc2,hf2⟩:=bcell hb2)
      go_roundw
      case rel =>
       have hs2:=hb2.size
       simp at hs2
       refine⟨j+1,by omega,by go_num,hbw.trans ((bra _ _).trans (hb2.mono (by simp)) |>.mono hbw.size),by omega,?_,HR2⟩
       rw[hb2.cell (p:=⟨w.heap.size,0,none⟩) (by simp;omega),World.cell?_alloc_past _ _ _ hsz];exact b0
      case measure=>simp[intOf];omega
     ·have HR2:Hid (R=cf):=by
       rw[if_neg hcf] at HR1
       exact HR1
      have hcn:(cf !=0)=true:=by simpa using hcf
      clear HR1 hcf
      go_wp2_with (go_at_call 79;refine HP.out.mono ?_;rintro e w2 ⟨rfl,hb2⟩;obtain⟨hc2,hf2⟩:=bcell hb2)
      go_ret
      exact⟨ret_int HR2.out.symm,hbw.trans ((bra _ _).trans (hb2.mono (by simp)) |>.mono hbw.size)⟩
    ·have HR0:Hid (R=0):=by
      have:=HR.out
      rw[List.drop_of_length_le (by omega)] at this
      exact this
     clear HR
     go_wp2
     go_ret
     exact⟨ret_int HR0.out.symm,HB.out⟩
end Go.Proofs.YtpkfmfhodbjckaaGreatDoor
