/-
  Link and Same as a walk meets them; the contract of the law's closed fact on links: it is true. link.Items: what it gives, plain; its contract. What link.Items answers, way by way (plain).
-/
import Derived.Test.YtpkfmfhodbjckaaGreatDoorLkLink
import Derived.Test.YtpkfmfhodbjckaaGreatDoorSmB
import Derived.Test.YtpkfmfhodbjckaaGreatDoorTwF
import Derived.Test.YtpkfmfhodbjckaaGreatDoorArA
set_option linter.unusedVariables false
set_option maxHeartbeats 8000000
set_option maxRecDepth 100000
namespace Go.Proofs.YtpkfmfhodbjckaaGreatDoor
open Go Go.RowKit
theorem link_vc{p:M.Prt}{base:Int}{s:ByteArray}{a1 a2:Option Addr}{c1 c2:Nat}{w:World}(hf:FragsAt w (sv a1 p.frags.length c1) p.frags)(hd:DefsAt w (sv a2 p.defs.length c2) p.defs)(hsz:s.size≤maxLen)(im:M.Img)(fl:List Flt)(er:Int)(hl:M.link p base s=(im,fl,er)) :
  Calls Tryz.prog 17 #[.agg #[sv a1 p.frags.length c1,sv a2 p.defs.length c2],iv base,.string s] w fun e w' =>
   Below w.heap.size w w'∧∃x1 y1 x2 y2,e=.returned (.tuple #[.agg #[iv im.entry,sv x1 im.segs.length y1],sv x2 fl.length y2,iv er])∧SegsAt w' (sv x1 im.segs.length y1) im.segs∧FltsAt w' (sv x2 fl.length y2) fl∧fl.length≤y2:=by
 refine(link_any p base s a1 a2 c1 c2 w hf hd hsz).mono ?_
 rintro e w' ⟨hb,vs,vf,rfl,h1,h2,h3,_⟩
 rw[hl] at h1 h2 ⊢
 obtain⟨x1,y1,rfl,_⟩:=h1.form
 obtain⟨x2,y2,rfl,_⟩:=SlAt.form h2
 exact⟨hb,x1,y1,x2,y2,rfl,h1,h2,h3 _ _ _ rfl⟩
theorem link_v{p:M.Prt}{base:Int}{s:ByteArray}{a1 a2:Option Addr}{c1 c2:Nat}{w:World}(hf:FragsAt w (sv a1 p.frags.length c1) p.frags)(hd:DefsAt w (sv a2 p.defs.length c2) p.defs)(hsz:s.size≤maxLen)(im:M.Img)(fl:List Flt)(er:Int)(hl:M.link p base s=(im,fl,er)) :
  Calls Tryz.prog 17 #[.agg #[sv a1 p.frags.length c1,sv a2 p.defs.length c2],iv base,.string s] w fun e w' =>
   Below w.heap.size w w'∧∃x1 y1 x2 y2,e=.returned (.tuple #[.agg #[iv im.entry,sv x1 im.segs.length y1],sv x2 fl.length y2,iv er])∧SegsAt w' (sv x1 im.segs.length y1) im.segs∧FltsAt w' (sv x2 fl.length y2) fl :=
 (link_vc hf hd hsz im fl er hl).mono fun e w' ⟨hb,x1,y1,x2,y2,he,h1,h2,_⟩=>⟨hb,x1,y1,x2,y2,he,h1,h2⟩
structure IVar (w:World) (b:Nat) (x:Option Addr) (y:Nat) (im:M.Img):Prop where
 blk:w.heap[b]?=some (.cells #[iv im.entry,sv x im.segs.length y] 25 (0,0))
 segs:SegsAt w (sv x im.segs.length y) im.segs
theorem IVar.later{w w':World}{b:Nat}{x:Option Addr}{y:Nat}{im:M.Img}(h:IVar w b x y im)(hb:Below w.heap.size w w'):IVar w' b x y im :=
 ⟨(hb.block _ (lt1 h.blk)).trans h.blk,h.segs.later hb⟩
theorem ivar_new{w:World}{x:Option Addr}{y:Nat}{im:M.Img}(h:SegsAt w (sv x im.segs.length y) im.segs):IVar (w.alloc (.cells #[iv im.entry,sv x im.segs.length y] 25)) w.heap.size x y im :=
 ⟨heap_alloc_new w _,h.later (bra _ _)⟩
theorem IVar.lt{w:World}{b:Nat}{x:Option Addr}{y:Nat}{im:M.Img}(h:IVar w b x y im):b<w.heap.size:=lt1 h.blk
theorem linked_any(w:World) :
  Calls Tryz.prog 7 #[] w fun e w'=>e=.returned (.bool true)∧Below w.heap.size w w':=by
 go_enter Tryz.func7,Tryz.ntmps7
 go_upto_region 2 with (go_at_call 21;refine(two_any _).mono ?_;rintro e w1 ⟨a1,a2,a3,a4,rfl,hb1,hA,hAd,hB,hBd⟩)
 have v1:Var (w1.alloc (.cells #[sv a1 1 1,sv a2 1 1] 43)) w1.heap.size a1 a2 1 1 kA:=var_new (p:=kA) hA hAd
 have v1:=v1.later (bra _ (.cells #[sv a3 1 1,sv a4 1 1] 43))
 have hbA:Below w1.heap.size w1 (w1.alloc (.cells #[sv a1 1 1,sv a2 1 1] 43)):=bra _ _
 have v2:Var ((w1.alloc (.cells #[sv a1 1 1,sv a2 1 1] 43)).alloc (.cells #[sv a3 1 1,sv a4 1 1] 43)) (w1.heap.size+1) a3 a4 1 1 kB:=by
  have:=var_new (p:=kB) (hB.later hbA) (hBd.later hbA)
  simpa [kB] using this
 have HX:Hid (Below w.heap.size w ((w1.alloc (.cells #[sv a1 1 1,sv a2 1 1] 43)).alloc (.cells #[sv a3 1 1,sv a4 1 1] 43))):=(hb1.alloc hb1.size _).alloc (by simpa using Nat.le_succ_of_le hb1.size) _
 clear hA hAd hB hBd hb1 hbA
 generalize (w1.alloc (.cells #[sv a1 1 1,sv a2 1 1] 43)).alloc (.cells #[sv a3 1 1,sv a4 1 1] 43)=X1 at *
 generalize w1.heap.size=n1 at *
 have V1:Hid (Var X1 n1 a1 a2 1 1 kA):=v1
 have c10:X1.cell? (qa n1 0)=some (sv a1 1 1):=v1.c0
 have c11:X1.cell? (qa n1 1)=some (sv a2 1 1):=v1.c1
 have c20:X1.cell? (qa (n1+1) 0)=some (sv a3 1 1):=v2.c0
 have c21:X1.cell? (qa (n1+1) 1)=some (sv a4 1 1):=v2.c1
 have KJ:Hid (Calls Tryz.prog 22 #[.agg #[sv a1 1 1,sv a2 1 1],.agg #[sv a3 1 1,sv a4 1 1]] X1 _):=join_v v1.fr v1.df v2.fr v2.df kP 0 joinK
 clear v1 v2
 go_upto_region 3 with (go_at_call 22;refine KJ.out.mono ?_;rintro e w2 ⟨hb2,z1,z2,z3,z4,rfl,hF2,hD2⟩)
 have v3:=var_new (p:=kP) hF2 hD2
 have HB2:Hid (Below X1.heap.size X1 (w2.alloc (.cells #[sv z1 kP.frags.length z2,sv z3 kP.defs.length z4] 43))):=hb2.alloc hb2.size _
 clear hF2 hD2 KJ c10 c11 c20 c21 hb2
 generalize w2.alloc (.cells #[sv z1 kP.frags.length z2,sv z3 kP.defs.length z4] 43)=X2 at *
 generalize w2.heap.size=n2 at *
 have HX2:Hid (Below w.heap.size w X2):=HX.out.trans (HB2.out.mono HX.out.size)
 have V12:Hid (Var X2 n1 a1 a2 1 1 kA):=V1.out.later HB2.out
 have c30:=v3.c0
 have c31:=v3.c1
 have KL:Hid (Calls Tryz.prog 17 #[.agg #[sv z1 kP.frags.length z2,sv z3 kP.defs.length z4],iv 32,.string ⟨#[109,97,105,110]⟩] X2 _):=link_v v3.fr v3.df (by unfold maxLen;decide) _ _ _ linkK
 clear v3 V1 HX HB2
 generalize hIM:M.image kP (M.layAll kP 32) tMain=IM at *
 have HIM:Hid _:=hIM
 clear hIM
 have hseg3:IM.segs.length=3:=by rw[←HIM.out];rfl
 have hent:IM.entry=32:=by rw[←HIM.out];exact entryK
 rw[hseg3,hent] at KL
 go_upto_region 4 with (go_at_call 17;refine KL.out.mono ?_;rintro e w3 ⟨hb3,x1,y1,x2,y2,rfl,hS3,hF3⟩)
 have v4:IVar (w3.alloc (.cells #[iv 32,sv x1 3 y1] 25)) w3.heap.size x1 y1 IM:=by
  rw[←hseg3] at hS3
  have:=ivar_new (im:=IM) hS3
  rwa [hseg3,hent] at this
 have HB3:Hid (Below X2.heap.size X2 (w3.alloc (.cells #[iv 32,sv x1 3 y1] 25))):=hb3.alloc hb3.size _
 clear hS3 hF3 KL c30 c31 hb3
 generalize w3.alloc (.cells #[iv 32,sv x1 3 y1] 25)=X3 at *
 generalize w3.heap.size=n3 at *
 have HX3:Hid (Below w.heap.size w X3):=HX2.out.trans (HB3.out.mono HX2.out.size)
 have V13:=V12.out.later HB3.out
 have c10:X3.cell? (qa n1 0)=some (sv a1 1 1):=V13.c0
 have c11:X3.cell? (qa n1 1)=some (sv a2 1 1):=V13.c1
 have KL:Hid (Calls Tryz.prog 17 #[.agg #[sv a1 1 1,sv a2 1 1],iv 32,.string ⟨#[109,97,105,110]⟩] X3 fun e w'=>Below X3.heap.size X3 w'∧∃x1 y1 x2 y2,e=.returned (.tuple #[.agg #[iv 0,sv x1 0 y1],sv x2 1 y2,iv 0])∧SegsAt w' (sv x1 0 y1) []∧FltsAt w' (sv x2 1 y2) [⟨7,tF,0,0⟩]):=link_v V13.fr V13.df (by unfold maxLen;decide) _ _ _ linkKA
 have V4:Hid (IVar X3 n3 x1 y1 IM):=v4
 clear V13 V12 v4 HB3 HX2
 go_upto_region 5 with (go_at_call 17;refine KL.out.mono ?_;rintro e w4 ⟨hb4,u1,v1,u2,v2,rfl,hS4,hF4⟩)
 have hbA:Below w4.heap.size w4 (w4.alloc (.cells #[iv 0,sv u1 0 v1] 25)):=bra _ _
 have v4:=(V4.out.later hb4).later hbA
 have hF5:=hF4.later hbA
 have HX4:Hid (Below w.heap.size w (w4.alloc (.cells #[iv 0,sv u1 0 v1] 25))):=(HX3.out.trans (hb4.mono HX3.out.size)).alloc (Nat.le_trans HX3.out.size hb4.size) _
 clear hS4 hF4 hbA KL c10 c11 hb4 V4
 generalize w4.alloc (.cells #[iv 0,sv u1 0 v1] 25)=X4 at *
 generalize w4.heap.size=n4 at *
 have g0:X4.cell? (qa n3 0)=some (iv 32):=by rw[←hent];exact cellB v4.blk 0
 have g1:X4.cell? (qa n3 1)=some (sv x1 3 y1):=by rw[←hseg3];exact cellB v4.blk 1
 have hl3:=v4.lt
 obtain⟨b,off,ab,cb,rfl,_,e1,_,_,_,hby⟩:=v4.segs.cells 0 (by rw[hseg3];decide)
 have hb0:(IM.segs.getD 0 M.seg0).bytes=[9,36,0,0,7]:=by rw[←HIM.out,bytesK]
 rw[hb0] at e1 hby
 have e1':X4.cell? (qa b (off+1))=some (sv ab 5 cb):=by simpa using e1
 have hbl:b<X4.heap.size:=wlt e1'
 have hbg:Below X4.heap.size X4 (X4.alloc (.cells #[.int .u8 9,.int .u8 36,.int .u8 0,.int .u8 0,.int .u8 7] 5)):=bra _ _
 have hg:BytesAt (X4.alloc (.cells #[.int .u8 9,.int .u8 36,.int .u8 0,.int .u8 0,.int .u8 7] 5)) (sv (some (qa X4.heap.size 0)) 5 5) [9,36,0,0,7]:=bytes_row (bs:=[9,36,0,0,7]) (by decide) (by unfold maxLen;decide) (heap_alloc_new X4 _) 5
 have KE:Hid (Calls Tryz.prog 20 #[sv ab 5 cb,sv (some (qa X4.heap.size 0)) 5 5] (X4.alloc (.cells #[.int .u8 9,.int .u8 36,.int .u8 0,.int .u8 0,.int .u8 7] 5)) fun e w'=>e=.returned (.bool true)∧w'=(X4.alloc (.cells #[.int .u8 9,.int .u8 36,.int .u8 0,.int .u8 0,.int .u8 7] 5))):=bytesEqual_any [9,36,0,0,7] [9,36,0,0,7] ab _ cb 5 _ (hby.later hbg) hg
 have hbh:Below (X4.alloc (.cells #[.int .u8 9,.int .u8 36,.int .u8 0,.int .u8 0,.int .u8 7] 5)).heap.size (X4.alloc (.cells #[.int .u8 9,.int .u8 36,.int .u8 0,.int .u8 0,.int .u8 7] 5)) ((X4.alloc (.cells #[.int .u8 9,.int .u8 36,.int .u8 0,.int .u8 0,.int .u8 7] 5)).alloc (.cells #[iv 7,.string ⟨#[102]⟩,iv 0,iv 0] 49)):=bra _ _
 have hfl:FltsAt ((X4.alloc (.cells #[.int .u8 9,.int .u8 36,.int .u8 0,.int .u8 0,.int .u8 7] 5)).alloc (.cells #[iv 7,.string ⟨#[102]⟩,iv 0,iv 0] 49)) (sv (some (qa (X4.heap.size+1) 0)) 1 1) [⟨7,tF,0,0⟩]:=by
  refine row_flts (B:=0) (l:=[⟨7,tF,0,0⟩]) ⟨rfl,.inr ⟨X4.heap.size+1,1,#[iv 7,.string ⟨#[102]⟩,iv 0,iv 0],rfl,Nat.zero_le _,?_,Nat.le_refl _,by unfold maxLen;decide,rfl,rfl⟩⟩
  have:=heap_alloc_new (X4.alloc (.cells #[.int .u8 9,.int .u8 36,.int .u8 0,.int .u8 0,.int .u8 7] 5)) (.cells #[iv 7,.string ⟨#[102]⟩,iv 0,iv 0] 49)
  simpa using this
 have KQ:Hid (Calls Tryz.prog 13 #[sv u2 1 v2,sv (some (qa (X4.heap.size+1) 0)) 1 1] ((X4.alloc (.cells #[.int .u8 9,.int .u8 36,.int .u8 0,.int .u8 0,.int .u8 7] 5)).alloc (.cells #[iv 7,.string ⟨#[102]⟩,iv 0,iv 0] 49)) fun e w'=>e=.returned (.bool true)∧Below ((X4.alloc (.cells #[.int .u8 9,.int .u8 36,.int .u8 0,.int .u8 0,.int .u8 7] 5)).alloc (.cells #[iv 7,.string ⟨#[102]⟩,iv 0,iv 0] 49)).heap.size ((X4.alloc (.cells #[.int .u8 9,.int .u8 36,.int .u8 0,.int .u8 0,.int .u8 7] 5)).alloc (.cells #[iv 7,.string ⟨#[102]⟩,iv 0,iv 0] 49)) w'):=by
  have:=eqFlts_any [⟨7,tF,0,0⟩] [⟨7,tF,0,0⟩] u2 _ v2 1 _ ((hF5.later hbg).later hbh) hfl
  rwa [show M.allTwo sameFlt [⟨7,tF,0,0⟩] [⟨7,tF,0,0⟩]=true by decide +kernel] at this
 have HBg:Hid _:=hbg
 have HBh:Hid _:=hbh
 clear hby hg hfl hF5 v4 hbg hbh e1
 go_wp2_with (first|(go_at_call 20;refine KE.out.mono ?_;rintro e w5 ⟨rfl,rfl⟩)|(go_at_call 13;refine KQ.out.mono ?_;rintro e w6 ⟨rfl,hb6⟩))
 go_ret
 exact⟨rfl,HX4.out.trans ((HBg.out.trans ((HBh.out.trans (hb6.mono HBh.out.size)).mono HBg.out.size)).mono HX4.out.size)⟩
end Go.Proofs.YtpkfmfhodbjckaaGreatDoor
namespace Go.Proofs.YtpkfmfhodbjckaaGreatDoor.M
open Go
def itemsL (its:List Itm) (base:Int) (s:ByteArray):Img × List Flt × Int :=
 if isName s=true then
  if (choose its [s]).2=0 then
   if (allFrom nil (choose its [s]).1).2=0 then link (allFrom nil (choose its [s]).1).1 base s else (img0,[],(allFrom nil (choose its [s]).1).2)
  else (img0,[],(choose its [s]).2)
 else (img0,[],1)
theorem step_sub{G:Prt→Prop}{parts:List Prt}(hp:∀p∈parts,G p){s:Ars × Bool}(hs:∀p∈s.1.out,G p)(i:Nat):∀p∈(step parts s i).1.out,G p:=fun p h=>by
 unfold step at h
 split at h
 ·rename_i hc
  rcases List.mem_append.1 (show p∈s.1.out++[parts.getD i nilP] from h) with h|h
  ·exact hs p h
  ·obtain rfl:=List.mem_singleton.1 h
   by_cases hi:i<parts.length
   ·exact hp _ (getD_mem parts nilP i hi)
   ·have e:parts.getD i nilP=nilP:=by rw[List.getD_eq_getElem?_getD,List.getElem?_eq_none (by omega)];rfl
    rw[e] at hc
    exact absurd hc.2 (by show ¬(false=true);decide)
 ·exact hs p h
theorem roundN_sub{G:Prt→Prop}{parts:List Prt}(hp:∀p∈parts,G p){s:Ars}(hs:∀p∈s.out,G p):∀i,∀p∈(roundN parts s i).1.out,G p
 | 0=>hs
 | i+1=>step_sub hp (roundN_sub hp hs i) i
theorem rounds_sub{G:Prt→Prop}{parts:List Prt}(hp:∀p∈parts,G p):∀(f:Nat) (s:Ars),(∀p∈s.out,G p)→∀p∈(rounds parts f s).out,G p
 | 0,s,hs=>hs
 | f+1,s,hs=>by
  have h1:=roundN_sub hp hs parts.length
  unfold rounds
  split
  ·exact rounds_sub hp f _ h1
  ·exact h1
theorem fold_good:∀(l:List Itm) (s:St × List Prt),(∀it∈l,checkItem it=0)→(∀p∈s.2,checkPart p=0)→(∀p∈(l.foldl chooseStep s).2,checkPart p=0)∧(l.foldl chooseStep s).2.length≤s.2.length+8*l.length
 | [],s,_,hs=>⟨hs,Nat.le_refl _⟩
 | it::l,s,hl,hs=>by
  obtain⟨h8,h1,hok⟩:=item_ok (hl it (by simp))
  have key:(∀p∈(chooseStep s it).2,checkPart p=0)∧(chooseStep s it).2.length≤s.2.length+8:=by
   unfold chooseStep
   split
   ·exact⟨rounds_sub hok 9 ⟨s.1,s.2,none8⟩ hs,search_out it.parts s.1 s.2 h8⟩
   ·rename_i ha
    have hlen:=h1 (by simpa using ha)
    refine⟨fun p hp=>?_,by show (s.2++[it.parts.getD 0 nilP]).length≤_;simp⟩
    rcases List.mem_append.1 (show p∈s.2++[it.parts.getD 0 nilP] from hp) with hp|hp
    ·exact hs p hp
    ·obtain rfl:=List.mem_singleton.1 hp
     exact hok _ (getD_mem it.parts nilP 0 (by omega))
  have ih:=fold_good l (chooseStep s it) (fun x hx=>hl x (by simp[hx])) key.1
  rw[List.foldl_cons]
  refine⟨ih.1,?_⟩
  have:=ih.2
  have:=key.2
  simp only[List.length_cons]
  omega
theorem choose_good{its:List Itm}{first:List ByteArray}(h:(choose its first).2=0):(∀p∈(choose its first).1,checkPart p=0)∧(choose its first).1.length≤96:=by
 obtain⟨h1,h2,h3⟩:=choose_out h
 obtain⟨h12,hit⟩:=items_ok h1
 have:=fold_good its (firstAll first,[]) hit (fun p hp=>by cases hp)
 rw[h3]
 refine⟨this.1,?_⟩
 have h4:=this.2
 simp only[List.length_nil] at h4
 omega
end Go.Proofs.YtpkfmfhodbjckaaGreatDoor.M
namespace Go.Proofs.YtpkfmfhodbjckaaGreatDoor
open Go Go.RowKit
theorem itemsL_text{its:List M.Itm}{base:Int}{s:ByteArray}(h:M.isName s=false):M.itemsL its base s=(M.img0,[],1):=by
 unfold M.itemsL;rw[if_neg (by rw[h];decide)]
theorem itemsL_choose{its:List M.Itm}{base:Int}{s:ByteArray}(h:M.isName s=true)(h2:¬(M.choose its [s]).2=0):M.itemsL its base s=(M.img0,[],(M.choose its [s]).2):=by
 unfold M.itemsL;rw[if_pos h,if_neg h2]
theorem itemsL_all{its:List M.Itm}{base:Int}{s:ByteArray}(h:M.isName s=true)(h2:(M.choose its [s]).2=0)(h3:¬(M.allFrom M.nil (M.choose its [s]).1).2=0):M.itemsL its base s=(M.img0,[],(M.allFrom M.nil (M.choose its [s]).1).2):=by
 unfold M.itemsL;rw[if_pos h,if_pos h2,if_neg h3]
theorem itemsL_link{its:List M.Itm}{base:Int}{s:ByteArray}(h:M.isName s=true)(h2:(M.choose its [s]).2=0)(h3:(M.allFrom M.nil (M.choose its [s]).1).2=0):M.itemsL its base s=M.link (M.allFrom M.nil (M.choose its [s]).1).1 base s:=by
 unfold M.itemsL;rw[if_pos h,if_pos h2,if_pos h3]
theorem all_v{ps:List M.Prt}{a:Option Addr}{c:Nat}{w:World}(h:PartsAt w (sv a ps.length c) ps)(h96:ps.length≤96)(p:M.Prt)(er:Int)(hj:M.allFrom M.nil ps=(p,er)) :
  Calls Tryz.prog 16 #[sv a ps.length c] w fun e w' =>
   Below w.heap.size w w'∧∃x1 y1 x2 y2,e=.returned (.tuple #[.agg #[sv x1 p.frags.length y1,sv x2 p.defs.length y2],iv er])∧FragsAt w' (sv x1 p.frags.length y1) p.frags∧DefsAt w' (sv x2 p.defs.length y2) p.defs:=by
 refine(all_any ps a c w h h96).mono ?_
 rintro e w' ⟨hb,es,vF,vD,rfl,hP,hes⟩
 rw[hj] at hP hes ⊢
 have hF:=hP.fragsAt
 rw[hes] at hF
 obtain⟨x1,y1,rfl⟩:=hF.form
 obtain⟨x2,y2,rfl⟩:=hP.defsAt.form
 exact⟨hb,x1,y1,x2,y2,rfl,hF,hP.defsAt⟩
theorem items_any(its:List M.Itm)(base:Int)(s:ByteArray)(a:Option Addr)(c:Nat)(w:World)(h:ItemsAt w (sv a its.length c) its)(hsz:s.size≤maxLen) :
  Calls Tryz.prog 4 #[sv a its.length c,iv base,.string s] w fun e w'=>Below w.heap.size w w'∧LkOut w' (M.itemsL its base s) e:=by
 obtain⟨X0,HX0⟩:∃X0,Hid (X0=w.alloc (.cells #[iv 0,sv none 0 0] 25)):=⟨_,rfl⟩
 have q1:X0.heap[w.heap.size]?=some (.cells #[iv 0,sv none 0 0] 25 (0,0)):=by rw[HX0.out];exact heap_alloc_new _ _
 have hX0:Below w.heap.size w X0:=by rw[HX0.out];exact bra _ _
 have hl0:=lt1 q1
 have HB:Hid (∀W,Below X0.heap.size X0 W→Below w.heap.size w W):=fun W hW=>hX0.trans (hW.mono hX0.size)
 have HRb:Hid (∀W,Below X0.heap.size X0 W→W.heap[w.heap.size]?=some (.cells #[iv 0,sv none 0 0] 25 (0,0))):=fun W hW=>(hW.block _ hl0).trans q1
 have HR:Hid (∀W,Below X0.heap.size X0 W→W.cell? (qa w.heap.size 0)=some (iv 0)∧W.cell? (qa w.heap.size 1)=some (sv none 0 0)∧W.frozen? (qa w.heap.size 0)=false∧W.frozen? (qa w.heap.size 1)=false∧w.heap.size<W.heap.size):=fun W hW=>by
  have y:=HRb.out W hW
  exact⟨cellB y 0,cellB y 1,frozenB y 0,frozenB y 1,(lt1 y)⟩
 have KN:Hid (∀W,Calls Tryz.prog 14 #[.string s] W fun e w'=>e=.returned (.bool (M.isName s))∧W=w'):=fun W=>(name_any s W hsz).mono fun e w' ⟨h1,h2⟩=>⟨h1,h2.symm⟩
 have hbB:Below X0.heap.size X0 (X0.alloc (.cells #[.string s] 9)):=bra _ _
 have hst:StrsAt (X0.alloc (.cells #[.string s] 9)) (sv (some (qa X0.heap.size 0)) [s].length 1) [s]:=by
  refine⟨⟨_,_,rfl,by show 1≤maxLen;unfold maxLen;decide,.inr ⟨X0.heap.size,0,rfl,fun j i hj hi=>?_⟩⟩,fun t ht=>by rw[List.mem_singleton.1 ht];exact hsz⟩
  obtain rfl:j=0:=by simpa using hj
  obtain rfl:i=0:=by omega
  exact cellB (heap_alloc_new X0 _) 0
 have KC:Hid (Calls Tryz.prog 15 #[sv a its.length c,sv (some (qa X0.heap.size 0)) 1 1] (X0.alloc (.cells #[.string s] 9)) fun e w'=>∃x y,e=.returned (.tuple #[sv x (M.choose its [s]).1.length y,iv (M.choose its [s]).2])∧Below X0.heap.size X0 w'∧PartsAt w' (sv x (M.choose its [s]).1.length y) (M.choose its [s]).1):=by
  refine(choose_v (h.later (hX0.trans (hbB.mono hX0.size))) hst).mono ?_
  rintro e w' ⟨v,rfl,ho⟩
  have hp:=ChOut.parts ho
  obtain⟨x,y,rfl⟩:=hp.form
  exact⟨x,y,rfl,hbB.trans (ho.1.mono hbB.size),hp⟩
 have L1:Hid _:=@itemsL_text its base s
 have L2:Hid _:=@itemsL_choose its base s
 have L3:Hid _:=@itemsL_all its base s
 have L4:Hid _:=@itemsL_link its base s
 have HG:Hid ((M.choose its [s]).2=0→(M.choose its [s]).1.length≤96):=fun h=>(M.choose_good h).2
 clear h hst hbB
 generalize M.itemsL its base s=RR at *
 generalize M.choose its [s]=CH at *
 obtain⟨ps,er⟩:=CH
 simp only at KC L2 L3 L4 HG
 generalize M.isName s=isn at *
 go_enter Tryz.func4,Tryz.ntmps4
 go_upto_region 1 with fail
 rw[←HX0.out]
 clear HX0 q1 hX0
 cases isn
 ·obtain rfl:RR=(M.img0,[],1):=L1.out (by trivial)
  obtain⟨r0,r1,f0,f1,hlR⟩:=HR.out X0 (Below.refl _ _)
  have HBf:Hid (Below w.heap.size w ((X0.setCell (qa w.heap.size 0) (iv 0)).setCell (qa w.heap.size 1) (sv none 0 0))):=((HB.out X0 (Below.refl _ _)).setCell (by show w.heap.size≤w.heap.size;omega) _).setCell (by show w.heap.size≤w.heap.size;omega) _
  clear L1 L2 L3 L4 HB HR HRb KC HG
  go_wp2_with (go_at_call 14;refine(KN.out _).mono ?_;rintro e w2 ⟨rfl,rfl⟩)
  refine bodyPost_ret (v:=.tuple #[.agg #[iv 0,sv none 0 0],sv none 0 0,iv 1]) (by simp[results,Tryz.results4,go_sem,r0,r1]) rfl ?_
  exact⟨HBf.out,lkOut_err⟩
 ·clear L1
  go_upto_region 4 with (first|(go_at_call 14;refine(KN.out _).mono ?_;rintro e w2 ⟨rfl,rfl⟩)|(go_at_call 15;refine KC.out.mono ?_;rintro e X1 ⟨x,y,rfl,hb1,hPa⟩))
  have H1:Hid _:=hb1
  clear hb1 KC KN
  by_cases her:er=0
  ·subst her
   obtain⟨p,r2,hal⟩:∃p r,M.allFrom M.nil ps=(p,r):=⟨_,_,rfl⟩
   rw[hal] at L3 L4
   simp only at L3 L4
   have KA:Hid (Calls Tryz.prog 16 #[sv x ps.length y] X1 _):=all_v hPa (HG.out (by trivial)) p r2 hal
   clear hal hPa HG L2
   go_upto_region 7 with (go_at_call 16;refine KA.out.mono ?_;rintro e w2 ⟨hb2,x1,y1,x2,y2,rfl,hF2,hD2⟩)
   have V2:Hid (Var (w2.alloc (.cells #[sv x1 p.frags.length y1,sv x2 p.defs.length y2] 43)) w2.heap.size x1 x2 y1 y2 p):=var_new hF2 hD2
   have H2:Hid (Below X0.heap.size X0 (w2.alloc (.cells #[sv x1 p.frags.length y1,sv x2 p.defs.length y2] 43))):=H1.out.trans ((hb2.alloc hb2.size _).mono H1.out.size)
   clear hF2 hD2 KA hb2 H1
   generalize w2.alloc (.cells #[sv x1 p.frags.length y1,sv x2 p.defs.length y2] 43)=X2 at *
   generalize w2.heap.size=np at *
   by_cases hr2:r2=0
   ·subst hr2
    obtain rfl:RR=M.link p base s:=L4.out (by trivial) (by trivial) (by trivial)
    obtain⟨im,fl,e4,hl⟩:∃im fl er,M.link p base s=(im,fl,er):=⟨_,_,_,rfl⟩
    have Hl:Hid _:=hl
    have KL:Hid (Calls Tryz.prog 17 #[.agg #[sv x1 p.frags.length y1,sv x2 p.defs.length y2],iv base,.string s] X2 fun e w'=>Below X2.heap.size X2 w'∧∃u1 v1 u2 v2,e=.returned (.tuple #[.agg #[iv im.entry,sv u1 im.segs.length v1],sv u2 fl.length v2,iv e4])∧fl.length≤v2∧∀W',KeepNI w' W'→SegsAt W' (sv u1 im.segs.length v1) im.segs∧FltsAt W' (sv u2 fl.length v2) fl):=by
     refine(link_any p base s x1 x2 y1 y2 X2 V2.out.fr V2.out.df hsz).mono ?_
     rintro e w' ⟨hb,vs,vf,rfl,h1,h2,h3,h4⟩
     rw[hl] at h1 h2 h4 ⊢
     obtain⟨u1,v1,rfl,_⟩:=h1.form
     obtain⟨u2,v2,rfl,_⟩:=SlAt.form h2
     exact⟨hb,u1,v1,u2,v2,rfl,h3 _ _ _ rfl,h4⟩
    have c0:=V2.out.c0
    have c1:=V2.out.c1
    have hlv:=V2.out.lt
    have HZ:Hid (∀W,Below X2.heap.size X2 W→W.heap[w.heap.size]?=some (.cells #[iv 0,sv none 0 0] 25 (0,0))∧Below w.heap.size w W):=fun W hW=>⟨HRb.out W (H2.out.trans (hW.mono H2.out.size)),HB.out W (H2.out.trans (hW.mono H2.out.size))⟩
    clear L3 L4 hl V2 HB HR HRb H2
    go_wp2_with (go_at_call 17;refine KL.out.mono ?_;rintro e X6 ⟨hb6,u1,v1,u2,v2,rfl,hcp,hkp⟩;obtain⟨y6,hB6⟩:=HZ.out X6 hb6;have r0:=cellC y6 0 rfl;have r1:=cellC y6 1 rfl;have f0:=frozenB y6 0;have f1:=frozenB y6 1;have hlR:w.heap.size<X6.heap.size:=(lt1 y6))
    refine bodyPost_ret (v:=.tuple #[.agg #[iv im.entry,sv u1 im.segs.length v1],sv u2 fl.length v2,iv e4]) (by simp[results,Tryz.results4,go_sem,r0,r1]) rfl ?_
    have y7:=heap_setCell_same X6 w.heap.size 0 _ _ (iv im.entry) y6
    have hk1:KeepNI X6 ((X6.setCell (qa w.heap.size 0) (iv im.entry)).setCell (qa w.heap.size 1) (sv u1 im.segs.length v1)):=fun k cs t hh ht=>image_keep y7 k cs t (image_keep y6 k cs t hh ht) ht
    rw[Hl.out]
    exact⟨(hB6.setCell (by show w.heap.size≤w.heap.size;omega) _).setCell (by show w.heap.size≤w.heap.size;omega) _,_,_,rfl,(hkp _ hk1).1,(hkp _ hk1).2,(fun x n y h=>by cases h;exact hcp),fun W' hk=>hkp W' (fun k cs t hh ht=>hk k cs t (hk1 k cs t hh ht) ht)⟩
   ·obtain rfl:RR=(M.img0,[],r2):=L3.out (by trivial) (by trivial) hr2
    have hr2':(r2 !=0)=true:=by simpa using hr2
    obtain⟨r0,r1,f0,f1,hlR⟩:=HR.out X2 H2.out
    have HBf:Hid (Below w.heap.size w ((X2.setCell (qa w.heap.size 0) (iv 0)).setCell (qa w.heap.size 1) (sv none 0 0))):=((HB.out X2 H2.out).setCell (by show w.heap.size≤w.heap.size;omega) _).setCell (by show w.heap.size≤w.heap.size;omega) _
    clear L3 L4 HB HR HRb V2
    go_wp2
    refine bodyPost_ret (v:=.tuple #[.agg #[iv 0,sv none 0 0],sv none 0 0,iv r2]) (by simp[results,Tryz.results4,go_sem,r0,r1]) rfl ?_
    exact⟨HBf.out,lkOut_err⟩
  ·obtain rfl:RR=(M.img0,[],er):=L2.out (by trivial) her
   have her':(er !=0)=true:=by simpa using her
   obtain⟨r0,r1,f0,f1,hlR⟩:=HR.out X1 H1.out
   have HBf:Hid (Below w.heap.size w ((X1.setCell (qa w.heap.size 0) (iv 0)).setCell (qa w.heap.size 1) (sv none 0 0))):=((HB.out X1 H1.out).setCell (by show w.heap.size≤w.heap.size;omega) _).setCell (by show w.heap.size≤w.heap.size;omega) _
   clear L2 L3 L4 HB HR HRb hPa HG
   go_wp2
   refine bodyPost_ret (v:=.tuple #[.agg #[iv 0,sv none 0 0],sv none 0 0,iv er]) (by simp[results,Tryz.results4,go_sem,r0,r1]) rfl ?_
   exact⟨HBf.out,lkOut_err⟩
theorem items_lk{its:List M.Itm}{base:Int}{s:ByteArray}{vI:Value}{w:World}(h:ItemsAt w vI its)(hsz:s.size≤maxLen)(im:M.Img)(fl:List Flt)(er:Int)(hl:M.itemsL its base s=(im,fl,er)) :
  Calls Tryz.prog 4 #[vI,iv base,.string s] w fun e w' =>
   Below w.heap.size w w'∧∃x1 y1 x2 y2,e=.returned (.tuple #[.agg #[iv im.entry,sv x1 im.segs.length y1],sv x2 fl.length y2,iv er])∧SegsAt w' (sv x1 im.segs.length y1) im.segs∧FltsAt w' (sv x2 fl.length y2) fl:=by
 obtain⟨a,c,rfl⟩:=h.form
 refine(items_any its base s a c w h hsz).mono ?_
 rintro e w' ⟨hb,vs,vf,rfl,h1,h2,_⟩
 rw[hl] at h1 h2 ⊢
 obtain⟨x1,y1,rfl,_⟩:=h1.form
 obtain⟨x2,y2,rfl,_⟩:=SlAt.form h2
 exact⟨hb,x1,y1,x2,y2,rfl,h1,h2⟩
end Go.Proofs.YtpkfmfhodbjckaaGreatDoor
namespace Go.Proofs.YtpkfmfhodbjckaaGreatDoor.M
theorem from_good:∀(ps:List Prt) (A:Prt),Ok A→(allFrom A ps).2=0→Ok (allFrom A ps).1
 | [],A,h,_=>h
 | p::ps,A,h,h0=>by
  unfold allFrom at h0 ⊢
  by_cases hj:(join A p).2=0
  ·rw[if_pos hj] at h0 ⊢
   exact from_good ps _ (join_ok hj).2.2.2.2 h0
  ·rw[if_neg hj] at h0
   exact absurd h0 hj
theorem it_ways{its:List Itm}{base:Int}{s:ByteArray}{im:Img}{fl:List Flt}{er:Int}(h:itemsL its base s=(im,fl,er)) :
  (isName s=false∧(im,fl,er)=(img0,[],1))∨(isName s=true∧¬checkItems its=0∧(im,fl,er)=(img0,[],checkItems its)) ∨
  (isName s=true∧checkItems its=0∧∃(ps:List Prt) (q:Prt) (z:Int),(its.foldl chooseStep (firstAll [s],[])).2=ps∧allFrom nil ps=(q,z)∧ps.length≤96∧(∀p∈ps,Ok p) ∧
    ((¬z=0∧(im,fl,er)=(img0,[],z))∨(z=0∧base<0∧(im,fl,er)=(img0,[],3))∨(z=0∧(0≤base∧65535<base)∧(im,fl,er)=(img0,[],3))∨(z=0∧(0≤base∧base≤65535)∧checkPart q=0∧link q base s=(im,fl,er)))):=by
 cases hn:isName s
 ·exact .inl ⟨rfl,by rw[←h,itemsL_text hn]⟩
 ·by_cases hk:checkItems its=0
  ·have hcf:checkFirst [s]=0:=by unfold checkFirst;rw[if_neg (by simp)];unfold checkFirst1;rw[if_pos hn];rfl
   have hch:choose its [s]=((its.foldl chooseStep (firstAll [s],[])).2,0):=by unfold choose;rw[if_pos hk,if_pos hcf]
   obtain⟨hg,h96⟩:=choose_good (its:=its) (first:=[s]) (by rw[hch])
   have hA:(itemsL its base s=if (allFrom nil (choose its [s]).1).2=0 then link (allFrom nil (choose its [s]).1).1 base s else (img0,[],(allFrom nil (choose its [s]).1).2)):=by unfold itemsL;rw[if_pos hn,if_pos (by rw[hch])]
   rw[h] at hA
   rw[hch] at hg h96 hA
   simp only at hg h96 hA
   refine .inr (.inr ⟨rfl,hk,_,_,_,rfl,rfl,h96,fun p hp=>(ok_iff p).1 (hg p hp),?_⟩)
   generalize (its.foldl chooseStep (firstAll [s],[])).2=ps at *
   by_cases hz:(allFrom nil ps).2=0
   ·rw[if_pos hz] at hA
    have hq:checkPart (allFrom nil ps).1=0:=(ok_iff _).2 (from_good ps nil ok_nil hz)
    by_cases h3:base<0
    ·have hl:(lay (allFrom nil ps).1 base).2=3:=by unfold lay;rw[if_pos hq,if_pos (.inl h3)]
     exact .inr (.inl ⟨hz,h3,by rw[hA,link_lay hq hn (by rw[hl];decide),hl]⟩)
    ·by_cases h4:65535<base
     ·have hl:(lay (allFrom nil ps).1 base).2=3:=by unfold lay;rw[if_pos hq,if_pos (.inr (by omega))]
      exact .inr (.inr (.inl ⟨hz,⟨by omega,h4⟩,by rw[hA,link_lay hq hn (by rw[hl];decide),hl]⟩))
     ·exact .inr (.inr (.inr ⟨hz,⟨by omega,by omega⟩,hq,hA.symm⟩))
   ·rw[if_neg hz] at hA
    exact .inl ⟨hz,hA⟩
  ·have hch:choose its [s]=([],checkItems its):=by unfold choose;rw[if_neg hk]
   exact .inr (.inl ⟨rfl,hk,by rw[←h,itemsL_choose hn (by rw[hch];exact hk),hch]⟩)
end Go.Proofs.YtpkfmfhodbjckaaGreatDoor.M
