/-
  The law LinkItems: whatever the items, the base and the name, it returns true.
-/
import Derived.Test.YtpkfmfhodbjckaaGreatDoorRefLinked
import Derived.Test.YtpkfmfhodbjckaaGreatDoorRefLaid
import Derived.Test.YtpkfmfhodbjckaaGreatDoorRefCk
import Derived.Test.YtpkfmfhodbjckaaGreatDoorRefChosen
import Derived.Test.YtpkfmfhodbjckaaGreatDoorRefDJ
import Derived.Test.YtpkfmfhodbjckaaGreatDoorLkFIt
set_option maxHeartbeats 2000000
set_option maxRecDepth 100000
namespace Go.Proofs.YtpkfmfhodbjckaaGreatDoor
open Go Go.RowKit
set_option linter.unusedVariables false
attribute [local go_sem] lat_cell
theorem fltsTwo_like:∀l:List Flt,M.allTwo sameFlt l l=true
 | []=>rfl
 | x::l=>by show (sameFlt x x&&M.allTwo sameFlt l l)=true;rw[show sameFlt x x=true by unfold sameFlt;simp,fltsTwo_like l];rfl
structure LiS (its:List M.Itm) (im:M.Img) (fl:List Flt) (er:Int) (a x1 x2:Option Addr) (c y1 y2 b7 b8 b9:Nat) (w W:World):Prop where
 bel:Below w.heap.size w W
 p7:W.heap[b7]?=some (.cells #[iv im.entry,sv x1 im.segs.length y1] 25 (0,0))
 p8:W.heap[b8]?=some (.cells #[sv x2 fl.length y2] 26 (0,0))
 p9:W.heap[b9]?=some (.cells #[iv er] 27 (0,0))
 it:ItemsAt W (sv a its.length c) its
 sI:SegsAt W (sv x1 im.segs.length y1) im.segs
 sF:FltsAt W (sv x2 fl.length y2) fl
theorem LiS.later{its:List M.Itm}{im:M.Img}{fl:List Flt}{er:Int}{a x1 x2:Option Addr}{c y1 y2 b7 b8 b9:Nat}{w W X:World}(h:LiS its im fl er a x1 x2 c y1 y2 b7 b8 b9 w W)(hb:Below W.heap.size W X):LiS its im fl er a x1 x2 c y1 y2 b7 b8 b9 w X :=
 have hk:∀ {b:Nat} {cs:Array Value} {t:TypeId},W.heap[b]?=some (.cells cs t (0,0))→X.heap[b]?=some (.cells cs t (0,0)):=fun hx=>blk hb hx
 ⟨h.bel.trans (hb.mono h.bel.size),hk h.p7,hk h.p8,hk h.p9,h.it.later hb,h.sI.later hb,h.sF.later hb⟩
theorem strs_one{W:World}{b:Nat}{s:ByteArray}(hq:W.heap[b]?=some (.cells #[.string s] 9 (0,0)))(hsz:s.size≤maxLen):StrsAt W (sv (some (qa b 0)) [s].length 1) [s]:=by
 refine⟨⟨_,_,rfl,by show 1≤maxLen;unfold maxLen;decide,.inr ⟨b,0,rfl,fun j i hj hi=>?_⟩⟩,fun t ht=>by rw[List.mem_singleton.1 ht];exact hsz⟩
 obtain rfl:j=0:=by simpa using hj
 obtain rfl:i=0:=by omega
 exact cellB hq 0
theorem itFails_any{er:Int}{x1 x2:Option Addr}{y1 y2 b7 b8 b9:Nat}{W:World}(p7:W.heap[b7]?=some (.cells #[iv 0,sv x1 0 y1] 25 (0,0)))(p8:W.heap[b8]?=some (.cells #[sv x2 0 y2] 26 (0,0)))
  (p9:W.heap[b9]?=some (.cells #[iv er] 27 (0,0))) (hs:SegsAt W (sv x1 0 y1) []) :
  Calls Tryz.prog 5 #[iv er,qv b9 0,qv b8 0,qv b7 0] W fun e w'=>e=.returned (.bool true)∧Below W.heap.size W w':=by
 have m0:=cellC p7 0 rfl
 have m1:=cellC p7 1 rfl
 have ml:=lt1 p7
 have n0:=cellC p8 0 rfl
 have nl:=lt1 p8
 have o0:=cellC p9 0 rfl
 have ol:=lt1 p9
 have he:(er==er)=true:=by simp
 have KI:Hid (Calls Tryz.prog 6 #[.agg #[iv 0,sv x1 0 y1],.agg #[iv 0,sv none 0 0]] W fun e w'=>e=.returned (.bool true)∧Below W.heap.size W w'):=rimgSame_any M.img0 M.img0 x1 none y1 0 W hs (segs_nil _)
 clear p7 p8 p9 hs
 go_enter Tryz.func5,Tryz.ntmps5
 go_wp2_with (go_at_call 6;refine KI.out.mono ?_;rintro e V5 ⟨rfl,hb5⟩)
 go_ret
 exact⟨rfl,hb5⟩
theorem itemsl_law(its:List M.Itm)(base:Int)(s:ByteArray)(a:Option Addr)(c:Nat)(w:World)(h:ItemsAt w (sv a its.length c) its)(hs:s.size≤maxLen) :
  Calls Tryz.prog 3 #[sv a its.length c,iv base,.string s] w fun e w'=>e=.returned (.bool true)∧Below w.heap.size w w':=by
 obtain⟨im,fl,er,HLk⟩:∃im fl er,Hid (M.itemsL its base s=(im,fl,er)):=⟨_,_,_,rfl⟩
 have KL:Hid (Calls Tryz.prog 4 #[sv a its.length c,iv base,.string s] w fun e w'=>Below w.heap.size w w'∧∃x1 y1 x2 y2,e=.returned (.tuple #[.agg #[iv im.entry,sv x1 im.segs.length y1],sv x2 fl.length y2,iv er])∧SegsAt w' (sv x1 im.segs.length y1) im.segs∧FltsAt w' (sv x2 fl.length y2) fl):=items_lk h hs im fl er HLk.out
 have KC:Hid (∀W,ItemsAt W (sv a its.length c) its→Calls Tryz.prog 9 #[sv a its.length c] W fun e w'=>e=.returned (iv (M.checkItems its))∧Below W.heap.size W w'):=fun W hW=>rcheckItems_any its a c W hW (fun p a1 a2 c1 c2 V hV hF hD=>rcheck_any p.frags p.defs a1 a2 c1 c2 V hF hD)
 have KN:Hid (∀W,Calls Tryz.prog 8 #[.string s] W fun e w'=>e=.returned (.bool (M.isName s))∧Below W.heap.size W w'):=fun W=>isName_any s W hs
 have KD:Hid (∀W,Calls Tryz.prog 7 #[] W fun e w'=>e=.returned (.bool true)∧Below W.heap.size W w'):=fun W=>linked_any W
 have H3:=M.it_ways HLk.out
 have HC0:Hid (M.checkItems its=0→∀ps,(its.foldl M.chooseStep (M.firstAll [s],[])).2=ps→∀W,ItemsAt W (sv a its.length c) its→∀b,W.heap[b]?=some (.cells #[.string s] 9 (0,0))→Calls Tryz.prog 10 #[sv a its.length c,sv (some (qa b 0)) 1 1] W fun e w'=>Below W.heap.size W w'∧∃x y v,e=.returned (.tuple #[sv x ps.length y,v])∧PartsAt w' (sv x ps.length y) ps):=fun h0 ps hps W hW b hb=>by
  subst hps
  exact chosen_any its [s] a _ c 1 W hW (strs_one hb hs) h0 (by simp)
 have HIn:Hid (ItemsAt w (sv a its.length c) its):=h
 have HSz:Hid (s.size≤maxLen):=hs
 clear h hs HLk
 generalize M.checkItems its=ck at *
 obtain⟨nm,hnm⟩:∃nm,M.isName s=nm:=⟨_,rfl⟩
 rw[hnm] at H3 KN
 have HNm:Hid (M.isName s=nm):=hnm
 clear hnm
 go_enter Tryz.func3,Tryz.ntmps3
 go_upto_region 2 with (go_at_call 4;refine KL.out.mono ?_;rintro e X1 ⟨hb1,x1,y1,x2,y2,rfl,hsg,hfl⟩)
 obtain⟨V1,HV1⟩:∃V1,Hid (V1=((X1.alloc (.cells #[iv im.entry,sv x1 im.segs.length y1] 25)).alloc (.cells #[sv x2 fl.length y2] 26)).alloc (.cells #[iv er] 27)):=⟨_,rfl⟩
 rw[←HV1.out]
 have hA1:Below X1.heap.size X1 V1:=by rw[HV1.out];exact((bra _ _).alloc (by simp) _).alloc (by simp;omega) _
 have q7:V1.heap[X1.heap.size]?=some (.cells #[iv im.entry,sv x1 im.segs.length y1] 25 (0,0)):=by rw[HV1.out];exact(heap_alloc_old _ _ (by simp;omega)).trans ((heap_alloc_old _ _ (by simp)).trans (heap_alloc_new X1 _))
 have q8:V1.heap[X1.heap.size+1]?=some (.cells #[sv x2 fl.length y2] 26 (0,0)):=by
  rw[HV1.out]
  have h:=heap_alloc_new (X1.alloc (.cells #[iv im.entry,sv x1 im.segs.length y1] 25)) (.cells #[sv x2 fl.length y2] 26)
  rw[show (X1.alloc (.cells #[iv im.entry,sv x1 im.segs.length y1] 25)).heap.size=X1.heap.size+1 by simp] at h
  exact(heap_alloc_old _ _ (by simp)).trans h
 have q9:V1.heap[X1.heap.size+1+1]?=some (.cells #[iv er] 27 (0,0)):=by
  rw[HV1.out]
  have h:=heap_alloc_new ((X1.alloc (.cells #[iv im.entry,sv x1 im.segs.length y1] 25)).alloc (.cells #[sv x2 fl.length y2] 26)) (.cells #[iv er] 27)
  rwa [show ((X1.alloc (.cells #[iv im.entry,sv x1 im.segs.length y1] 25)).alloc (.cells #[sv x2 fl.length y2] 26)).heap.size=X1.heap.size+1+1 by simp] at h
 obtain⟨b9,hb9⟩:∃b9,b9=X1.heap.size+1+1:=⟨_,rfl⟩
 rw[←hb9] at q9 ⊢
 obtain⟨b8,hb8⟩:∃b8,b8=X1.heap.size+1:=⟨_,rfl⟩
 rw[←hb8] at q8 ⊢
 obtain⟨b7,hb7⟩:∃b7,b7=X1.heap.size:=⟨_,rfl⟩
 rw[←hb7] at q7 ⊢
 have hB1:=hb1.trans (hA1.mono hb1.size)
 have HL1:Hid (LiS its im fl er a x1 x2 c y1 y2 b7 b8 b9 w V1):=⟨hB1,q7,q8,q9,HIn.out.later hB1,hsg.later hA1,hfl.later hA1⟩
 clear KL hb1 hsg hfl hA1 hB1 q7 q8 q9 HIn HV1 hb7 hb8 hb9
 clear X1
 go_upto_region 3 with fail
 rcases H3 with ⟨rfl,hlk⟩|⟨rfl,hck,hlk⟩|⟨rfl,rfl,ps,q,z,hps,hall,h96,hoks,hw4⟩
 ·clear HNm
  obtain⟨rfl,rfl,rfl⟩:im=M.img0∧fl=[]∧er=1:=by cases hlk;exact⟨rfl,rfl,rfl⟩
  clear hlk
  clear HC0 KC HSz
  go_upto_region 4 with (first
   | (go_at_call 7;refine(KD.out _).mono ?_;rintro e V2 ⟨rfl,hb2⟩)
   | (go_at_call 8;refine(KN.out _).mono ?_;rintro e V3 ⟨rfl,hb3⟩))
  have HL3:Hid (LiS its M.img0 [] 1 a x1 x2 c y1 y2 b7 b8 b9 w V3):=(HL1.out.later hb2).later hb3
  clear hb2 hb3 KN HL1
  go_wp2_with (first
   | (go_at_call 7;refine(KD.out _).mono ?_;rintro e V4 ⟨rfl,hb4⟩;have hF4:=itFails_any (HL3.out.later hb4).p7 (HL3.out.later hb4).p8 (HL3.out.later hb4).p9 (HL3.out.later hb4).sI;have HF4:Hid _:=hF4;clear hF4)
   | (go_at_call 5;refine Calls.mono HF4.out ?_;rintro e V5 ⟨rfl,hb5⟩))
  go_ret
  exact⟨rfl,(HL3.out.later hb4).bel.trans (hb5.mono (HL3.out.later hb4).bel.size)⟩
 ·obtain⟨rfl,rfl,rfl⟩:im=M.img0∧fl=[]∧er=ck:=by cases hlk;exact⟨rfl,rfl,rfl⟩
  clear hlk
  have hck2:(er !=0)=true:=by simpa using hck
  clear HC0 HSz hck
  go_upto_region 5 with (first
   | (go_at_call 7;refine(KD.out _).mono ?_;rintro e V2 ⟨rfl,hb2⟩)
   | (go_at_call 8;refine(KN.out _).mono ?_;rintro e V3 ⟨rfl,hb3⟩))
  have HL3:Hid (LiS its M.img0 [] er a x1 x2 c y1 y2 b7 b8 b9 w V3):=(HL1.out.later hb2).later hb3
  clear hb2 hb3 KN HL1
  have KC3:Hid (Calls Tryz.prog 9 #[sv a its.length c] V3 fun e w'=>e=.returned (iv er)∧Below V3.heap.size V3 w'):=KC.out V3 HL3.out.it
  go_upto_region 7 with (go_at_call 9;refine KC3.out.mono ?_;rintro e V4 ⟨rfl,hb4⟩)
  have HL4:Hid (LiS its M.img0 [] er a x1 x2 c y1 y2 b7 b8 b9 w V4):=HL3.out.later hb4
  clear hb4 KC KC3 HL3
  have HF4:Hid _:=itFails_any HL4.out.p7 HL4.out.p8 HL4.out.p9 HL4.out.sI
  go_wp2_with (go_at_call 5;refine Calls.mono HF4.out ?_;rintro e V5 ⟨rfl,hb5⟩)
  go_ret
  exact⟨rfl,HL4.out.bel.trans (hb5.mono HL4.out.bel.size)⟩
 ·have KCh:Hid _:=HC0.out rfl ps hps
  clear HC0
  have HJ:Hid (∀W x y,PartsAt W (sv x ps.length y) ps→Calls Tryz.prog 11 #[sv x ps.length y] W fun e w'=>Below W.heap.size W w'∧∃u1 t1 u2 t2,e=.returned (.tuple #[.agg #[sv u1 q.frags.length t1,sv u2 q.defs.length t2],iv z])∧FragsAt w' (sv u1 q.frags.length t1) q.frags∧DefsAt w' (sv u2 q.defs.length t2) q.defs∧q.frags.length≤t1):=fun W x y hP=>(joinedAll_any ps x y W hP h96 hoks).mono (by
   rintro e w' ⟨hb,es,vF,vD,rfl,hP,hes⟩
   rw[hall] at hP hes ⊢
   simp only at hP hes ⊢
   have hF:=hP.fragsAt
   have hD:=hP.defsAt
   obtain⟨ad,nn,cc,rfl,hcc⟩:=own_cap hP.rowF
   rw[hes] at hF
   obtain⟨u1,t1,e1⟩:=hF.form
   cases e1
   obtain⟨u2,t2,rfl⟩:=hD.form
   exact⟨hb,_,_,_,_,rfl,hF,hD,hcc⟩)
  clear hall h96 hoks hps
  go_upto_region 5 with (first
   | (go_at_call 7;refine(KD.out _).mono ?_;rintro e V2 ⟨rfl,hb2⟩)
   | (go_at_call 8;refine(KN.out _).mono ?_;rintro e V3 ⟨rfl,hb3⟩))
  have HL3:Hid (LiS its im fl er a x1 x2 c y1 y2 b7 b8 b9 w V3):=(HL1.out.later hb2).later hb3
  clear hb2 hb3 KN HL1
  have KC3:Hid (Calls Tryz.prog 9 #[sv a its.length c] V3 fun e w'=>e=.returned (iv 0)∧Below V3.heap.size V3 w'):=KC.out V3 HL3.out.it
  go_upto_region 8 with (go_at_call 9;refine KC3.out.mono ?_;rintro e V4 ⟨rfl,hb4⟩)
  have HL4:Hid (LiS its im fl er a x1 x2 c y1 y2 b7 b8 b9 w V4):=HL3.out.later hb4
  clear hb4 KC KC3 HL3
  have HCh5:Hid (∀X,X=V4.alloc (.cells #[.string s] 9)→ItemsAt X (sv a its.length c) its∧X.heap[V4.heap.size]?=some (.cells #[.string s] 9 (0,0))∧Below V4.heap.size V4 X):=fun X hX=>by
   subst hX
   have hb:=bra V4 (.cells #[.string s] 9)
   exact⟨HL4.out.it.later hb,heap_alloc_new _ _,hb⟩
  obtain⟨X5,hX5⟩:∃X5,X5=V4.alloc (.cells #[.string s] 9):=⟨_,rfl⟩
  have K5:Hid _:=KCh.out X5 (HCh5.out X5 hX5).1 _ (HCh5.out X5 hX5).2.1
  have HL5a:Hid (LiS its im fl er a x1 x2 c y1 y2 b7 b8 b9 w X5):=HL4.out.later (HCh5.out X5 hX5).2.2
  have HX5:Hid (X5=V4.alloc (.cells #[.string s] 9)):=hX5
  clear hX5 HCh5 KCh HL4
  go_upto_region 9 with (go_at_call 10;rw[←HX5.out];refine Calls.mono K5.out ?_;rintro e V5 ⟨hb5,x,y,v,rfl,hP5⟩)
  have HL5:Hid (LiS its im fl er a x1 x2 c y1 y2 b7 b8 b9 w V5):=HL5a.out.later hb5
  have KJ5:Hid _:=HJ.out V5 x y hP5
  clear hb5 hP5 HL5a HJ K5 HX5
  go_upto_region 10 with (go_at_call 11;refine Calls.mono KJ5.out ?_;rintro e X6 ⟨hb6,u1,t1,u2,t2,rfl,hF6,hD6,hc6⟩)
  have hA6:=bra X6 (.cells #[sv u1 q.frags.length t1,sv u2 q.defs.length t2] 43)
  have hq14:=heap_alloc_new X6 (.cells #[sv u1 q.frags.length t1,sv u2 q.defs.length t2] 43)
  have HL6:Hid (LiS its im fl er a x1 x2 c y1 y2 b7 b8 b9 w (X6.alloc (.cells #[sv u1 q.frags.length t1,sv u2 q.defs.length t2] 43))):=(HL5.out.later hb6).later hA6
  have hF6:=hF6.later hA6
  have hD6:=hD6.later hA6
  clear hA6 hb6 HL5 KJ5
  generalize X6.heap.size=b14 at *
  generalize X6.alloc (.cells #[sv u1 q.frags.length t1,sv u2 q.defs.length t2] 43)=V6 at *
  have HQ6:Hid (FragsAt V6 (sv u1 q.frags.length t1) q.frags∧DefsAt V6 (sv u2 q.defs.length t2) q.defs∧q.frags.length≤t1∧V6.heap[b14]?=some (.cells #[sv u1 q.frags.length t1,sv u2 q.defs.length t2] 43 (0,0))):=⟨hF6,hD6,hc6,hq14⟩
  clear hF6 hD6 hc6 hq14
  rcases hw4 with ⟨hz,hlk⟩|⟨rfl,hbs,hlk⟩|⟨rfl,⟨hbs0,hbs1⟩,hlk⟩|⟨rfl,⟨hbs0,hbs1⟩,hq,hlk⟩
  ·obtain⟨rfl,rfl,rfl⟩:im=M.img0∧fl=[]∧er=z:=by cases hlk;exact⟨rfl,rfl,rfl⟩
   clear hlk
   have hz1:(er==0)=false:=by simpa using hz
   have hz2:(er !=0)=true:=by simpa using hz
   clear hz
   have HF6:Hid _:=itFails_any HL6.out.p7 HL6.out.p8 HL6.out.p9 HL6.out.sI
   go_wp2_with (go_at_call 5;refine Calls.mono HF6.out ?_;rintro e V7 ⟨rfl,hb7⟩)
   go_ret
   exact⟨rfl,HL6.out.bel.trans (hb7.mono HL6.out.bel.size)⟩
  ·obtain⟨rfl,rfl,rfl⟩:im=M.img0∧fl=[]∧er=3:=by cases hlk;exact⟨rfl,rfl,rfl⟩
   clear hlk
   have HF6:Hid _:=itFails_any HL6.out.p7 HL6.out.p8 HL6.out.p9 HL6.out.sI
   go_wp2_with (go_at_call 5;refine Calls.mono HF6.out ?_;rintro e V7 ⟨rfl,hb7⟩)
   go_ret
   exact⟨rfl,HL6.out.bel.trans (hb7.mono HL6.out.bel.size)⟩
  ·obtain⟨rfl,rfl,rfl⟩:im=M.img0∧fl=[]∧er=3:=by cases hlk;exact⟨rfl,rfl,rfl⟩
   clear hlk
   have HF6:Hid _:=itFails_any HL6.out.p7 HL6.out.p8 HL6.out.p9 HL6.out.sI
   go_wp2_with (go_at_call 5;refine Calls.mono HF6.out ?_;rintro e V7 ⟨rfl,hb7⟩)
   go_ret
   exact⟨rfl,HL6.out.bel.trans (hb7.mono HL6.out.bel.size)⟩
  ·have hf:=HQ6.out.1
   have hd:=HQ6.out.2.1
   have hcap:=HQ6.out.2.2.1
   have q14:=HQ6.out.2.2.2
   have KLd:Hid (Calls Tryz.prog 12 #[.agg #[sv u1 q.frags.length t1,sv u2 q.defs.length t2],iv base,.string s] V6 fun e w'=>Below V6.heap.size V6 w'∧∃xs ys xf yf,e=.returned (.tuple #[.agg #[iv im.entry,sv xs im.segs.length ys],sv xf fl.length yf,iv er])∧SegsAt w' (sv xs im.segs.length ys) im.segs∧FltsAt w' (sv xf fl.length yf) fl) :=
    (rlinked_any q base s u1 u2 t1 t2 V6 hf hd hq HNm.out (fun X hX=>laidOut_any q base u1 u2 t1 t2 X (hf.later hX) (hd.later hX) hcap hq hbs0 (by omega))).mono (by
      rintro e w' ⟨hb,vs,vf,rfl,k1,k2⟩
      rw[hlk] at k1 k2 ⊢
      obtain⟨xs,ys,rfl,_⟩:=k1.form
      obtain⟨xf,yf,rfl,_⟩:=SlAt.form k2
      exact⟨hb,xs,ys,xf,yf,rfl,k1,k2⟩)
   have d0:=cellC q14 0 rfl
   have d1:=cellC q14 1 rfl
   have dl:=lt1 q14
   clear HQ6 hf hd hcap q14 hq hlk
   go_upto_region 15 with (go_at_call 12;refine KLd.out.mono ?_;rintro e X7 ⟨hb7,xs,ys,xf,yf,rfl,k1,k2⟩)
   have hA7:=bra X7 (.cells #[iv im.entry,sv xs im.segs.length ys] 25)
   have q16:=heap_alloc_new X7 (.cells #[iv im.entry,sv xs im.segs.length ys] 25)
   have HL7:Hid (LiS its im fl er a x1 x2 c y1 y2 b7 b8 b9 w (X7.alloc (.cells #[iv im.entry,sv xs im.segs.length ys] 25))):=(HL6.out.later hb7).later hA7
   have HK7:Hid (SegsAt (X7.alloc (.cells #[iv im.entry,sv xs im.segs.length ys] 25)) (sv xs im.segs.length ys) im.segs∧FltsAt (X7.alloc (.cells #[iv im.entry,sv xs im.segs.length ys] 25)) (sv xf fl.length yf) fl):=⟨k1.later hA7,k2.later hA7⟩
   clear hA7 k1 k2 hb7 HL6 KLd d0 d1 dl
   generalize X7.heap.size=b16 at *
   generalize X7.alloc (.cells #[iv im.entry,sv xs im.segs.length ys] 25)=V7 at *
   have KE:Hid (Calls Tryz.prog 13 #[sv x2 fl.length y2,sv xf fl.length yf] V7 fun e w'=>e=.returned (.bool true)∧Below V7.heap.size V7 w'):=by
    have:=eqFlts_any fl fl x2 xf y2 yf V7 HL7.out.sF HK7.out.2
    rwa [fltsTwo_like] at this
   have KI:Hid (∀W,Below V7.heap.size V7 W→Calls Tryz.prog 6 #[.agg #[iv im.entry,sv x1 im.segs.length y1],.agg #[iv im.entry,sv xs im.segs.length ys]] W fun e w'=>e=.returned (.bool true)∧Below W.heap.size W w'):=fun W hW=>by
    have:=rimgSame_any im im x1 xs y1 ys W (HL7.out.later hW).sI (HK7.out.1.later hW)
    rwa [sameImg_self] at this
   have HC:Hid (∀W,Below V7.heap.size V7 W→(W.cell? (qa b7 0)=some (iv im.entry)∧W.cell? (qa b7 1)=some (sv x1 im.segs.length y1)∧b7<W.heap.size)∧(W.cell? (qa b16 0)=some (iv im.entry)∧W.cell? (qa b16 1)=some (sv xs im.segs.length ys)∧b16<W.heap.size)):=fun W hW=>by
    have h1:=(HL7.out.later hW).p7
    have h2:=blk hW q16
    exact⟨⟨cellB h1 0,cellB h1 1,(lt1 h1)⟩,cellB h2 0,cellB h2 1,(lt1 h2)⟩
   have g80:V7.cell? (qa b8 0)=some (sv x2 fl.length y2):=cellB HL7.out.p8 0
   have g8l:=lt1 HL7.out.p8
   have g90:V7.cell? (qa b9 0)=some (iv er):=cellB HL7.out.p9 0
   have g9l:=lt1 HL7.out.p9
   have hee:(er==er)=true:=by simp
   clear q16
   generalize fl.length=nfl at *
   go_wp2_with (first
    | (go_at_call 13;refine KE.out.mono ?_;rintro e V8 ⟨rfl,hb8⟩;obtain⟨⟨n0,n1,nl⟩,o0,o1,ol⟩:=HC.out V8 hb8)
    | (go_at_call 6;refine(KI.out V8 hb8).mono ?_;rintro e V9 ⟨rfl,hb9'⟩))
   go_ret
   exact⟨rfl,HL7.out.bel.trans ((hb8.trans (hb9'.mono hb8.size)).mono HL7.out.bel.size)⟩
end Go.Proofs.YtpkfmfhodbjckaaGreatDoor
