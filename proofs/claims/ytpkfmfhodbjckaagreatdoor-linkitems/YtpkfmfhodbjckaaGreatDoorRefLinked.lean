/-
  The reference's Linked, of a right part: what Link gives.
-/
import Derived.Test.YtpkfmfhodbjckaaGreatDoorLkL46
import Derived.Test.YtpkfmfhodbjckaaGreatDoorRfF
import Derived.Deep.DeepCutAuto
import Derived.Laws.ResultCell
namespace Go.Proofs.YtpkfmfhodbjckaaGreatDoor
open Go Go.RowKit Go.Maps
set_option linter.unusedVariables false
def LdOut (w':World) (v:M.Img × List Flt × Int) (e:Ending):Prop :=
 ∃vs vf,e=.returned (.tuple #[.agg #[iv v.1.entry,vs],vf,iv v.2.2])∧SegsAt w' vs v.1.segs∧FltsAt w' vf v.2.1
theorem lay_ti{p:M.Prt}{base:Int}{l:M.Lay}(ha:M.Apart p base)(hl:M.layAll p base=l):(0≤l.ti 4∧l.ti 4≤65536)∧(0≤l.ti 5∧l.ti 5≤65536):=by
 subst hl
 have t4:=ha.ti 4 (by decide) (by decide)
 have t5:=ha.ti 5 (by decide) (by decide)
 omega
theorem nameFaults_len{p:M.Prt}(h:M.Ok p)(s:ByteArray):(M.nameFaults p s).length≤600:=by
 have:=named_len h
 unfold M.nameFaults
 split
 ·omega
 ·split
  ·omega
  ·rw[List.length_append];simp;omega
set_option maxHeartbeats 64000000 in
set_option maxRecDepth 1000000 in
theorem rlinked_any(p:M.Prt)(base:Int)(s:ByteArray)(a1 a2:Option Addr)(c1 c2:Nat)(w:World)(hf:FragsAt w (sv a1 p.frags.length c1) p.frags)(hd:DefsAt w (sv a2 p.defs.length c2) p.defs)(hck:M.checkPart p=0)(hnm:M.isName s=true)
  (KLh:∀W,Below w.heap.size w W→Calls Tryz.prog 30 #[.agg #[sv a1 p.frags.length c1,sv a2 p.defs.length c2],iv base] W fun e w'=>Below W.heap.size W w'∧∃vF vN vC,e=.returned (.tuple #[.agg (layArr vF vN vC (M.lay p base).1.fr (M.lay p base).1.ti),iv (M.lay p base).2])∧w'.ownsRow W.heap.size 3 1 vF (M.lay p base).1.frags.length ((M.lay p base).1.frags.map (Value.int .i64))∧w'.ownsRow W.heap.size 9 1 vN (M.lay p base).1.names.length ((M.lay p base).1.names.map Value.string)∧(∀x∈(M.lay p base).1.names,x.size≤maxLen)∧w'.ownsRow W.heap.size 3 1 vC (M.lay p base).1.coms.length ((M.lay p base).1.coms.map (Value.int .i64))) :
  Calls Tryz.prog 12 #[.agg #[sv a1 p.frags.length c1,sv a2 p.defs.length c2],iv base,.string s] w fun e w'=>Below w.heap.size w w'∧LdOut w' (M.link p base s) e:=by
 obtain⟨iE,hiE,hE0,hE1,hE2⟩:=info_parts (P:=Tryz.prog) (e:=49) (z:=.agg #[iv 0,.string ⟨#[]⟩,iv 0,iv 0]) (size:=4) (bytes:=40) (by kernel_rfl)
 have hok:=(M.ok_iff p).1 hck
 have Hok:Hid (M.Ok p):=hok
 have hnf:=hok.nf
 have hsn:s.toList≠[]:=by
  intro h
  unfold M.isName at hnm
  simp only[Bool.and_eq_true,decide_eq_true_eq] at hnm
  have:s.data.toList=[]:=by rw[←ByteArray.toList_eq];exact h
  have h3:s.size=0:=by show s.data.size=0;rw[←Array.length_toList,this];rfl
  omega
 have HFD:Hid (∀W,Below w.heap.size w W→FragsAt W (sv a1 p.frags.length c1) p.frags∧DefsAt W (sv a2 p.defs.length c2) p.defs):=fun W hW=>⟨hf.later hW,hd.later hW⟩
 have KL:Hid _:=KLh
 have KF:Hid (∀W,Below w.heap.size w W→Calls Tryz.prog 31 #[.agg #[sv a1 p.frags.length c1,sv a2 p.defs.length c2]] W fun e w'=>Below W.heap.size W w'∧∃v,e=.returned v∧w'.ownsRow w.heap.size 49 4 v (M.named p).length ((M.named p).flatMap encF)):=fun W hW=>(rfaults_any p a1 a2 c1 c2 W (hf.later hW) (hd.later hW) hok).mono fun e w' ⟨g1,v,g2,g3⟩=>⟨g1,v,g2,by
  rw[named_flat] at g3
  unfold M.named
  rw[List.length_map]
  exact own_weaken g3 hW.size⟩
 have hA:Below w.heap.size w ((w.alloc (.cells #[sv a1 p.frags.length c1,sv a2 p.defs.length c2] 43)).alloc (.cells #[iv 0,sv none 0 0] 25)):=(bra _ _).alloc (by simp) _
 have h3:=(heap_alloc_old (w.alloc (.cells #[sv a1 p.frags.length c1,sv a2 p.defs.length c2] 43)) (.cells #[iv 0,sv none 0 0] 25) (by simp)).trans (heap_alloc_new w (.cells #[sv a1 p.frags.length c1,sv a2 p.defs.length c2] 43))
 have h6:=heap_alloc_new (w.alloc (.cells #[sv a1 p.frags.length c1,sv a2 p.defs.length c2] 43)) (.cells #[iv 0,sv none 0 0] 25)
 rw[show (w.alloc (.cells #[sv a1 p.frags.length c1,sv a2 p.defs.length c2] 43)).heap.size=w.heap.size+1 by simp] at h6
 have HLy:Hid ((M.lay p base).2=0→M.lay p base=(M.layAll p base,0)∧M.Apart p base):=fun h=>⟨(lay_facts h).2.2.2.1,(lay_facts h).2.2.2.2⟩
 have HL1:Hid (¬(M.lay p base).2=0→M.link p base s=(M.img0,[],(M.lay p base).2)):=fun h=>link_lay hck hnm h
 have HL2:Hid ((M.lay p base).2=0→¬(M.allFaults p (M.lay p base).1 s).length=0→M.link p base s=(M.img0,M.allFaults p (M.lay p base).1 s,0)):=fun h1 h2=>link_faults hck hnm h1 h2
 have HL3:Hid ((M.lay p base).2=0→(M.allFaults p (M.lay p base).1 s).length=0→M.link p base s=(M.image p (M.lay p base).1 s,[],0)):=fun h1 h2=>link_image hck hnm h1 h2
 have Hck:Hid (M.checkPart p=0):=hck
 have Hby:Hid (∀f∈p.frags,∀b∈f.bytes,0≤b∧b<256):=frags_smallR hf
 clear hf hd hnm hck hok KLh
 generalize M.link p base s=LK at *
 go_enter Tryz.func12,Tryz.ntmps12
 go_upto_region 1 with fail
 generalize (w.alloc (.cells #[sv a1 p.frags.length c1,sv a2 p.defs.length c2] 43)).alloc (.cells #[iv 0,sv none 0 0] 25)=V0 at *
 obtain⟨b6,hb6⟩:∃b6,b6=w.heap.size+1:=⟨_,rfl⟩
 rw[←hb6] at h6 ⊢
 obtain⟨b3,hb3⟩:∃b3,b3=w.heap.size:=⟨_,rfl⟩
 rw[←hb3] at h3 ⊢
 have Hb6:Hid (w.heap.size≤b6):=by rw[Hid,hb6];omega
 clear hb3 hb6
 have d0:V0.cell? (qa b3 0)=some (sv a1 p.frags.length c1):=cellB h3 0
 have d1:V0.cell? (qa b3 1)=some (sv a2 p.defs.length c2):=cellB h3 1
 have dl:b3<V0.heap.size:=(Array.getElem?_eq_some_iff.1 h3).1
 generalize hLY:M.lay p base=LY at *
 obtain⟨l,el⟩:=LY
 simp only at KL HLy HL1 HL2 HL3
 have KL1:Hid (Calls Tryz.prog 30 #[.agg #[sv a1 p.frags.length c1,sv a2 p.defs.length c2],iv base] V0 fun e w'=>Below V0.heap.size V0 w'∧∃xfa yf xna yn xca yc,e=.returned (.tuple #[.agg #[sv xfa l.frags.length yf,sv xna l.names.length yn,sv xca l.coms.length yc,iv (l.fr 0),iv (l.fr 1),iv (l.fr 2),iv (l.fr 3),iv (l.fr 4),iv (l.fr 5),iv (l.ti 0),iv (l.ti 1),iv (l.ti 2),iv (l.ti 3),iv (l.ti 4),iv (l.ti 5)],iv el]) ∧
   w'.ownsRow V0.heap.size 3 1 (sv xfa l.frags.length yf) l.frags.length (l.frags.map (Value.int .i64))∧w'.ownsRow V0.heap.size 9 1 (sv xna l.names.length yn) l.names.length (l.names.map Value.string)∧(∀x∈l.names,x.size≤maxLen)∧w'.ownsRow V0.heap.size 3 1 (sv xca l.coms.length yc) l.coms.length (l.coms.map (Value.int .i64))):=(KL.out V0 hA).mono fun e w' ⟨b,vF,vN,vC,he,r1,r2,r3,r4⟩=>by
  obtain⟨xfa,yf,rfl⟩:=own_len r1
  obtain⟨xna,yn,rfl⟩:=own_len r2
  obtain⟨xca,yc,rfl⟩:=own_len r4
  exact⟨b,xfa,yf,xna,yn,xca,yc,he,r1,r2,r3,r4⟩
 clear KL
 go_upto_region 2 with (go_at_call 30;refine KL1.out.mono ?_;rintro e X1 ⟨hb1,xfa,yf,xna,yn,xca,yc,rfl,r1,r2,r3,r4⟩)
 have hA1:Below X1.heap.size X1 (X1.alloc (.cells #[sv xfa l.frags.length yf,sv xna l.names.length yn,sv xca l.coms.length yc,iv (l.fr 0),iv (l.fr 1),iv (l.fr 2),iv (l.fr 3),iv (l.fr 4),iv (l.fr 5),iv (l.ti 0),iv (l.ti 1),iv (l.ti 2),iv (l.ti 3),iv (l.ti 4),iv (l.ti 5)] 76)):=bra _ _
 have h9:=heap_alloc_new X1 (.cells #[sv xfa l.frags.length yf,sv xna l.names.length yn,sv xca l.coms.length yc,iv (l.fr 0),iv (l.fr 1),iv (l.fr 2),iv (l.fr 3),iv (l.fr 4),iv (l.fr 5),iv (l.ti 0),iv (l.ti 1),iv (l.ti 2),iv (l.ti 3),iv (l.ti 4),iv (l.ti 5)] 76)
 have hB1:=hb1.trans (hA1.mono hb1.size)
 have hB0:=hA.trans (hB1.mono hA.size)
 have g3:=(hB1.block _ (Array.getElem?_eq_some_iff.1 h3).1).trans h3
 have g6:=(hB1.block _ (Array.getElem?_eq_some_iff.1 h6).1).trans h6
 have g1:=own_weaken (r1.kept (grown_of_below hA1 none) own_self) hA.size
 have g2:=own_weaken (r2.kept (grown_of_below hA1 none) own_self) hA.size
 have g4:=own_weaken (r4.kept (grown_of_below hA1 none) own_self) hA.size
 have Hns:Hid (∀x∈l.names,x.size≤maxLen):=r3
 clear KL1 r1 r2 r3 r4 hb1 hA1 hA h3 h6 d0 d1 dl hB1
 generalize X1.alloc (.cells #[sv xfa l.frags.length yf,sv xna l.names.length yn,sv xca l.coms.length yc,iv (l.fr 0),iv (l.fr 1),iv (l.fr 2),iv (l.fr 3),iv (l.fr 4),iv (l.fr 5),iv (l.ti 0),iv (l.ti 1),iv (l.ti 2),iv (l.ti 3),iv (l.ti 4),iv (l.ti 5)] 76)=V1 at *
 generalize X1.heap.size=b9 at *
 clear X1 V0
 have HB1:Hid (Below w.heap.size w V1):=hB0
 have HG:Hid ((V1.heap[b3]?=some (.cells #[sv a1 p.frags.length c1,sv a2 p.defs.length c2] 43 (0,0))∧V1.heap[b6]?=some (.cells #[iv 0,sv none 0 0] 25 (0,0))∧V1.heap[b9]?=some (.cells #[sv xfa l.frags.length yf,sv xna l.names.length yn,sv xca l.coms.length yc,iv (l.fr 0),iv (l.fr 1),iv (l.fr 2),iv (l.fr 3),iv (l.fr 4),iv (l.fr 5),iv (l.ti 0),iv (l.ti 1),iv (l.ti 2),iv (l.ti 3),iv (l.ti 4),iv (l.ti 5)] 76 (0,0)))∧V1.ownsRow w.heap.size 3 1 (sv xfa l.frags.length yf) l.frags.length (l.frags.map (Value.int .i64))∧V1.ownsRow w.heap.size 9 1 (sv xna l.names.length yn) l.names.length (l.names.map Value.string)∧V1.ownsRow w.heap.size 3 1 (sv xca l.coms.length yc) l.coms.length (l.coms.map (Value.int .i64))):=⟨⟨g3,g6,h9⟩,g1,g2,g4⟩
 clear hB0 g3 g6 g1 g2 g4 h9
 by_cases hel:el=0
 ·subst hel
  obtain⟨hly,ha⟩:=HLy.out rfl
  have hl:M.layAll p base=l:=(congrArg Prod.fst hly).symm
  have Hl:Hid (M.layAll p base=l):=hl
  have Ha:Hid (M.Apart p base):=ha
  have hlk:=lkOk_of Hck.out ha
  rw[hl] at hlk
  have Hbd:Hid (∀x∈l.frags,0≤x∧x≤65536):=hlk.bd
  have HlF:Hid (l.frags.length=p.frags.length):=by rw[Hid,←hl];exact ha.lenF
  have HSt:Hid (∀W nm,Below w.heap.size w W→LayAt W (sv xfa l.frags.length yf) (sv xna l.names.length yn) (sv xca l.coms.length yc) l→Calls Tryz.prog 32 #[.agg #[sv a1 p.frags.length c1,sv a2 p.defs.length c2],.agg #[sv xfa l.frags.length yf,sv xna l.names.length yn,sv xca l.coms.length yc,iv (l.fr 0),iv (l.fr 1),iv (l.fr 2),iv (l.fr 3),iv (l.fr 4),iv (l.fr 5),iv (l.ti 0),iv (l.ti 1),iv (l.ti 2),iv (l.ti 3),iv (l.ti 4),iv (l.ti 5)],.string nm] W fun e w'=>e=.returned (.tuple #[iv (M.whereOf p l nm).1,iv (M.whereOf p l nm).2])∧Below W.heap.size W w'):=fun W nm hW hL=>stands_any p base nm l hl a1 a2 c1 c2 xfa xna xca yf yn yc W (HFD.out W hW).1 (HFD.out W hW).2 hL.frags hL.names hL.coms Hck.out ha hlk.bd
  have HWh:Hid (∀nm,(M.whereOf p l nm).2=(M.find p.defs nm).2):=fun nm=>by
   by_cases h0:(M.find p.defs nm).2=0
   ·have:=(where_ok Hok.out ha h0).1
    rw[hl] at this
    rw[this,h0]
   ·unfold M.whereOf M.whereIn
    rw[if_neg h0]
  clear HLy hly ha hlk hl HL1
  have HL2':Hid (¬(M.allFaults p l s).length=0→LK=(M.img0,M.allFaults p l s,0)):=HL2.out rfl
  have HL3':Hid ((M.allFaults p l s).length=0→LK=(M.image p l s,[],0)):=HL3.out rfl
  clear HL2 HL3
  have d0:V1.cell? (qa b3 0)=some (sv a1 p.frags.length c1):=cellB HG.out.1.1 0
  have d1:V1.cell? (qa b3 1)=some (sv a2 p.defs.length c2):=cellB HG.out.1.1 1
  have dl:b3<V1.heap.size:=(Array.getElem?_eq_some_iff.1 HG.out.1.1).1
  have KF1:Hid (Calls Tryz.prog 31 #[.agg #[sv a1 p.frags.length c1,sv a2 p.defs.length c2]] V1 fun e w'=>Below V1.heap.size V1 w'∧∃vx vy,e=.returned (sv vx (M.named p).length vy)∧w'.ownsRow w.heap.size 49 4 (sv vx (M.named p).length vy) (M.named p).length ((M.named p).flatMap encF)):=(KF.out V1 HB1.out).mono fun e w' ⟨j1,v,j2,j3⟩=>by
   obtain⟨vx,vy,rfl⟩:=own_len j3
   exact⟨j1,vx,vy,j2,j3⟩
  clear KF
  go_upto_region 5 with (go_at_call 31;refine KF1.out.mono ?_;rintro e X2 ⟨hb2,vx,vy,rfl,rw2⟩)
  have hA2:Below X2.heap.size X2 (X2.alloc (.cells #[sv vx (M.named p).length vy] 26)):=bra _ _
  have hB2:=hb2.trans (hA2.mono hb2.size)
  have hS2:LnS w b3 b6 b9 X2.heap.size #[sv a1 p.frags.length c1,sv a2 p.defs.length c2] (sv xfa l.frags.length yf) (sv xna l.names.length yn) (sv xca l.coms.length yc) l (X2.alloc (.cells #[sv vx (M.named p).length vy] 26)) (sv vx (M.named p).length vy) (sv vx (M.named p).length vy) (M.named p) :=
   have hg:=grown_of_below hB2 none
   ⟨HB1.out.trans (hB2.mono HB1.out.size),(hB2.block _ (Array.getElem?_eq_some_iff.1 HG.out.1.1).1).trans HG.out.1.1,(hB2.block _ (Array.getElem?_eq_some_iff.1 HG.out.1.2.1).1).trans HG.out.1.2.1,(hB2.block _ (Array.getElem?_eq_some_iff.1 HG.out.1.2.2).1).trans HG.out.1.2.2,heap_alloc_new X2 _,HG.out.2.1.kept hg own_self,HG.out.2.2.1.kept hg own_self,HG.out.2.2.2.kept hg own_self,rw2.kept (grown_of_below hA2 none) own_self⟩
  have H11:Hid (w.heap.size≤X2.heap.size):=Nat.le_trans HB1.out.size hb2.size
  clear KF1 hb2 rw2 hA2 hB2 HB1 HG d0 d1 dl
  generalize X2.alloc (.cells #[sv vx (M.named p).length vy] 26)=V2 at *
  generalize X2.heap.size=b11 at *
  clear X2 V1
  have d0:V2.cell? (qa b3 0)=some (sv a1 p.frags.length c1):=cellB hS2.c3 0
  have d1:V2.cell? (qa b3 1)=some (sv a2 p.defs.length c2):=cellB hS2.c3 1
  have dl:b3<V2.heap.size:=(Array.getElem?_eq_some_iff.1 hS2.c3).1
  have y0:V2.cell? (qa b9 0)=some (sv xfa l.frags.length yf):=cellB hS2.c9 0
  have y1:V2.cell? (qa b9 1)=some (sv xna l.names.length yn):=cellB hS2.c9 1
  have y2:V2.cell? (qa b9 2)=some (sv xca l.coms.length yc):=cellB hS2.c9 2
  have y3:V2.cell? (qa b9 3)=some (iv (l.fr 0)):=cellB hS2.c9 3
  have y4:V2.cell? (qa b9 4)=some (iv (l.fr 1)):=cellB hS2.c9 4
  have y5:V2.cell? (qa b9 5)=some (iv (l.fr 2)):=cellB hS2.c9 5
  have y6:V2.cell? (qa b9 6)=some (iv (l.fr 3)):=cellB hS2.c9 6
  have y7:V2.cell? (qa b9 7)=some (iv (l.fr 4)):=cellB hS2.c9 7
  have y8:V2.cell? (qa b9 8)=some (iv (l.fr 5)):=cellB hS2.c9 8
  have y9:V2.cell? (qa b9 9)=some (iv (l.ti 0)):=cellB hS2.c9 9
  have y10:V2.cell? (qa b9 10)=some (iv (l.ti 1)):=cellB hS2.c9 10
  have y11:V2.cell? (qa b9 11)=some (iv (l.ti 2)):=cellB hS2.c9 11
  have y12:V2.cell? (qa b9 12)=some (iv (l.ti 3)):=cellB hS2.c9 12
  have y13:V2.cell? (qa b9 13)=some (iv (l.ti 4)):=cellB hS2.c9 13
  have y14:V2.cell? (qa b9 14)=some (iv (l.ti 5)):=cellB hS2.c9 14
  have yl:b9<V2.heap.size:=(Array.getElem?_eq_some_iff.1 hS2.c9).1
  have KS1:Hid (Calls Tryz.prog 32 #[.agg #[sv a1 p.frags.length c1,sv a2 p.defs.length c2],.agg #[sv xfa l.frags.length yf,sv xna l.names.length yn,sv xca l.coms.length yc,iv (l.fr 0),iv (l.fr 1),iv (l.fr 2),iv (l.fr 3),iv (l.fr 4),iv (l.fr 5),iv (l.ti 0),iv (l.ti 1),iv (l.ti 2),iv (l.ti 3),iv (l.ti 4),iv (l.ti 5)],.string s] V2 fun e w'=>e=.returned (.tuple #[iv (M.whereOf p l s).1,iv (M.whereOf p l s).2])∧Below V2.heap.size V2 w'):=HSt.out V2 s hS2.bel (hS2.lay Hns.out)
  have HS2:Hid _:=hS2
  have Hes:Hid ((M.whereOf p l s).2=(M.find p.defs s).2):=HWh.out s
  have Hbeg:Hid (M.image p l s=⟨(M.whereOf p l s).1,(M.image p l s).segs⟩):=rfl
  generalize M.whereOf p l s=WS at *
  obtain⟨beg,es⟩:=WS
  simp only at KS1 Hes Hbeg
  go_upto_region 7 with (go_at_call 32;refine KS1.out.mono ?_;rintro e V3 ⟨rfl,hb3⟩)
  clear KS1 d0 d1 dl y0 y1 y2 y3 y4 y5 y6 y7 y8 y9 y10 y11 y12 y13 y14 yl
  have HS3:Hid (LnS w b3 b6 b9 b11 #[sv a1 p.frags.length c1,sv a2 p.defs.length c2] (sv xfa l.frags.length yf) (sv xna l.names.length yn) (sv xca l.coms.length yc) l V3 (sv vx (M.named p).length vy) (sv vx (M.named p).length vy) (M.named p)):=HS2.out.later hb3
  clear hS2 HS2 hb3 V2
  obtain⟨bw,hbw⟩:∃bw:Bool,bw=((es !=0)&&!(M.faulty (M.named p) s)):=⟨_,rfl⟩
  have Hbw:Hid (bw=((es !=0)&&!(M.faulty (M.named p) s))):=hbw
  clear hbw
  go_cut [60] (fun s60 wx=>s60=.bool bw∧Hid (Below V3.heap.size V3 wx))
  case first =>
   by_cases he:es=0
   ·obtain rfl:bw=false:=by rw[Hbw.out,he];rfl
    subst he
    clear Hbw Hes
    go_wp2_with fail
    go_meet
    exact⟨rfl,Below.refl _ _⟩
   ·have hne:(es !=0)=true:=by simpa using he
    have KT:Hid (Calls Tryz.prog 33 #[.string s,qv b11 0] V3 fun e w'=>e=.returned (.bool (told (M.named p) s))∧Below V3.heap.size V3 w'):=told_any (M.named p) vx vy b11 s V3 (cellB HS3.out.c11 0) (row_flts HS3.out.row)
    rw[told_faulty hsn] at KT
    have Hb2:Hid (bw=!(M.faulty (M.named p) s)):=by rw[Hid,Hbw.out,hne];rfl
    generalize M.faulty (M.named p) s=fy at *
    obtain rfl:bw=!fy:=Hb2.out
    clear Hbw Hes Hb2 he
    go_wp2_with (go_at_call 33;refine KT.out.mono ?_;rintro e V4 ⟨rfl,hb4⟩)
    go_meet
    exact⟨rfl,hb4⟩
  case rest =>
   rename World=>V4
   obtain⟨rfl,hb4⟩:=hcut
   have HS4:Hid (LnS w b3 b6 b9 b11 #[sv a1 p.frags.length c1,sv a2 p.defs.length c2] (sv xfa l.frags.length yf) (sv xna l.names.length yn) (sv xca l.coms.length yc) l V4 (sv vx (M.named p).length vy) (sv vx (M.named p).length vy) (M.named p)):=HS3.out.later hb4.out
   clear HS3 hb4
   have HNF:Hid (M.nameFaults p s=bif bw then M.named p++[⟨es,s,0,0⟩] else M.named p):=by
    rw[Hid,Hbw.out]
    by_cases he:es=0
    ·rw[he];exact nameFaults_ok (by rw[←Hes.out];exact he)
    ·have hfe:¬(M.find p.defs s).2=0:=by rw[←Hes.out];exact he
     have hne:(es !=0)=true:=by simpa using he
     rw[hne]
     cases hfy:M.faulty (M.named p) s
     ·rw[nameFaults_more hfe hfy,Hes.out];rfl
     ·rw[nameFaults_told hfe hfy];rfl
   have hnl:=named_len Hok.out
   generalize M.named p=nd at *
   go_upto_if 60 with fail
   go_cut [] (fun wx=>∃vF,Hid (LnS w b3 b6 b9 b11 #[sv a1 p.frags.length c1,sv a2 p.defs.length c2] (sv xfa l.frags.length yf) (sv xna l.names.length yn) (sv xca l.coms.length yc) l wx vF vF (M.nameFaults p s)))
   case first =>
    cases bw with
    | false =>
     have HN2:Hid (M.nameFaults p s=nd):=HNF.out
     clear HNF Hbw
     go_wp2_with fail
     go_meet
     exact⟨_,by rw[HN2.out];exact HS4⟩
    | true =>
     have HN2:Hid (M.nameFaults p s=nd++[⟨es,s,0,0⟩]):=HNF.out
     clear HNF Hbw
     have k11:V4.cell? (qa b11 0)=some (sv vx nd.length vy):=cellB HS4.out.c11 0
     have l11:b11<V4.heap.size:=(Array.getElem?_eq_some_iff.1 HS4.out.c11).1
     have hA4:=bra V4 (.cells #[iv es,.string s,iv 0,iv 0] 49)
     have hS5:=HS4.out.later hA4
     have hrw:=hS5.row
     have HS5:Hid _:=hS5
     have hnews:∀j u,(#[iv es,.string s,iv 0,iv 0]:Array Value).toList[j]?=some u→(V4.alloc (.cells #[iv es,.string s,iv 0,iv 0] 49)).cell? ((qa V4.heap.size 0).add j)=some u:=World.news_of_block (heap_alloc_new V4 _)
     have hbs:w.heap.size≤V4.heap.size:=HS4.out.bel.size
     clear hA4 hS5 HS4
     go_wp2_with (first
      | (at_builtin;refine wpList_append_own _ rfl _ _ 26 rfl w.heap.size 49 iE (.agg #[iv 0,.string ⟨#[]⟩,iv 0,iv 0]) 4 40 Tryz.underlying26 hiE hE0 hE1 hE2 rfl (by decide) _ _ _ rfl hrw ⟨V4.heap.size,0,none⟩ 1 1 (#[iv es,.string s,iv 0,iv 0]:Array Value).toList rfl rfl hnews (fun u hu=>by simp at hu;rcases hu with rfl|rfl|rfl|rfl<;>rfl) (by unfold maxLen;omega) (by omega) (by simp;omega) ?_;intro v' w3 hown' hgrow3 hnil3;obtain⟨z1,y1,rfl⟩:=own_len hown'
         have hS6:=HS5.out.grow (f:=⟨es,s,0,0⟩) hgrow3 hown'
         have m4:w3.cell? (qa b11 0)=some (sv vx nd.length vy):=cellB hS6.c11 0
         have mf:∀j,w3.frozen? (qa b11 j)=false:=frozenB hS6.c11
         have ml:b11<w3.heap.size:=(Array.getElem?_eq_some_iff.1 hS6.c11).1
         have HS7:Hid (LnS w b3 b6 b9 b11 #[sv a1 p.frags.length c1,sv a2 p.defs.length c2] (sv xfa l.frags.length yf) (sv xna l.names.length yn) (sv xca l.coms.length yc) l (w3.setCell (qa b11 0) (sv z1 (nd.length+1) y1)) (sv z1 (nd.length+1) y1) (sv z1 (nd.length+1) y1) (nd++[⟨es,s,0,0⟩])):=hS6.store H11.out _
         clear hown' hgrow3 hnil3 hS6 HS5 hrw hnews k11))
     go_meet
     exact⟨_,by rw[HN2.out];exact HS7⟩
   case rest =>
    rename World=>V5
    obtain⟨vF,HS5⟩:=hcut
    clear HS4 HNF Hbw
    have hmm:=@run_makeMap Tryz.prog
    have hA:=bra V5 (.map #[] 0)
    have HS6:Hid (LnS w b3 b6 b9 b11 #[sv a1 p.frags.length c1,sv a2 p.defs.length c2] (sv xfa l.frags.length yf) (sv xna l.names.length yn) (sv xca l.coms.length yc) l (V5.alloc (.map #[] 0)) vF vF (M.nameFaults p s)):=HS5.out.later hA
    have HM6:Hid (MAt (V5.alloc (.map #[] 0)) V5.heap.size 0 (fun _=>0)):=MAt.nil V5
    have hbm:w.heap.size≤V5.heap.size:=HS5.out.bel.size
    clear hA HS5
    go_upto_region 10 with fail
    clear hmm
    obtain⟨bm,hbe⟩:∃bm,bm=V5.heap.size:=⟨_,rfl⟩
    rw[←hbe] at HM6 hbm ⊢
    clear hbe
    generalize V5.alloc (.map #[] 0)=V6 at *
    clear V5
    have d0:V6.cell? (qa b3 0)=some (sv a1 p.frags.length c1):=cellB HS6.out.c3 0
    have dl:b3<V6.heap.size:=(Array.getElem?_eq_some_iff.1 HS6.out.c3).1
    go_upto_region 11 with fail
    clear d0 dl
    go_wp2_with fail
    have hlk:=lkOk_of Hck.out Ha.out
    rw[Hl.out] at hlk
    refine lk_loop1 p base a1 a2 c1 c2 w V6 b3 b6 b9 b11 bm xfa xna xca yf yn yc l vF (M.nameFaults p s) Hl.out Hok.out Ha.out hlk HFD Hby hbm HS6 HM6 ?_
    intro za15 za16 za17 za18 za71 za72 za73 za74 za75 za76 za77 za78 za79 za80 za81 za82 za83 za84 za85 za86 za87 za88 za89 za90 za91 za92 za93 za94 V7 ⟨g1,m,g2,g3⟩
    have HS7:Hid (LnS w b3 b6 b9 b11 #[sv a1 p.frags.length c1,sv a2 p.defs.length c2] (sv xfa l.frags.length yf) (sv xna l.names.length yn) (sv xca l.coms.length yc) l V7 vF vF (M.nameFaults p s)):=g1
    have HM7:Hid (MAt V7 bm 3840 m∧(M.allFaults p l s=[]→Q2 p base 0 0 m)):=⟨g2,fun _=>Q2.start g3⟩
    clear g1 g2 g3 HS6 HM6 hlk
    have d0:V7.cell? (qa b3 0)=some (sv a1 p.frags.length c1):=cellB HS7.out.c3 0
    have dl:b3<V7.heap.size:=(Array.getElem?_eq_some_iff.1 HS7.out.c3).1
    go_upto_region 20 with fail
    clear d0 dl
    go_wp2_with fail
    have hlk:=lkOk_of Hck.out Ha.out
    rw[Hl.out] at hlk
    refine lk_loop3 p base a1 a2 c1 c2 w V7 b3 b6 b9 b11 bm xfa xna xca yf yn yc l s vF (M.nameFaults p s) m Hl.out Hok.out Ha.out hlk HFD Hby hbm HSt Hns H11 hsn HS7 rfl (nameFaults_len Hok.out s) HM7 ?_
    intro zb19 zb20 zb22 zb23 zb24 zb25 zb26 zb27 zb98 zb99 zb100 zb101 zb102 zb103 zb104 zb105 zb106 zb107 zb108 zb109 zb110 zb111 zb112 zb113 zb114 zb115 zb116 zb117 zb118 zb119 zb120 zb121 zb122 zb123 zb124 zb125 zb126 zb127 zb128 zb129 zb130 zb131 zb132 zb133 zb134 zb135 zb136 zb137 zb138 zb139 zb140 zb141 zb142 zb143 zb144 zb145 zb146 zb147 zb148 zb149 zb150 zb151 zb152 zb153 zb154 zb155 zb156 zb157 zb158 zb159 zb160 zb161 zb162 zb163 zb164 zb165 zb166 zb167 zb168 zb169 zb170 zb171 zb172 zb173 zb174 zb175 zb176 zb177 zb178 zb179 zb180 zb181 zb182 zb183 zb184 zb185 zb186 zb187 zb188 zb189 zb190 zb191 zb192 zb193 zb194 zb195 zb196 zb197 zb198 zb199 zb200 V8 ⟨vF',t',m',h1,h2,h3,h4,h5⟩
    subst h2
    have HS8:Hid (LnS w b3 b6 b9 b11 #[sv a1 p.frags.length c1,sv a2 p.defs.length c2] (sv xfa l.frags.length yf) (sv xna l.names.length yn) (sv xca l.coms.length yc) l V8 vF' vF' (M.allFaults p l s)):=h1
    have HM8:Hid (MAt V8 bm 4800 m'∧(M.allFaults p l s=[]→Q2 p base p.frags.length 0 m')):=⟨h4,h5⟩
    clear h1 h4 h5 HS7 HM7 hlk
    obtain⟨fx,fy,rfl⟩:=own_len HS8.out.row
    have k11:V8.cell? (qa b11 0)=some (sv fx (M.allFaults p l s).length fy):=cellB HS8.out.c11 0
    have l11:b11<V8.heap.size:=(Array.getElem?_eq_some_iff.1 HS8.out.c11).1
    have k60:V8.cell? (qa b6 0)=some (iv 0):=cellB HS8.out.c6 0
    have k61:V8.cell? (qa b6 1)=some (sv none 0 0):=cellB HS8.out.c6 1
    have k6f:∀j,V8.frozen? (qa b6 j)=false:=frozenB HS8.out.c6
    have k6l:b6<V8.heap.size:=(Array.getElem?_eq_some_iff.1 HS8.out.c6).1
    by_cases hz:(M.allFaults p l s).length=0
    ·obtain rfl:LK=(M.image p l s,[],0):=HL3'.out hz
     have hnil:M.allFaults p l s=[]:=List.eq_nil_of_length_eq_zero hz
     have HSeg:Hid (∀a z:Nat,((a=1∧z=1)∨(a=2∧z=3)∨(a=4∧z=4))→(0≤l.fr a∧l.ti z≤65536)∧(M.segBytes p l a z).length=(l.ti z-l.fr a).toNat∧(∀k:Nat,k<(M.segBytes p l a z).length→m' (l.fr a+(k:Int))=(M.segBytes p l a z).getD k 0)∧∀b∈M.segBytes p l a z,0≤b∧b<256):=fun a z haz=>seg_facts Hok.out Ha.out Hl.out hnil Hby.out (HM8.out.2 hnil) haz
     have hti:(0≤l.ti 4∧l.ti 4≤65536)∧(0≤l.ti 5∧l.ti 5≤65536):=lay_ti Ha.out Hl.out
     have HMm:Hid (MAt V8 bm 4800 m'):=HM8.out.1
     have Hen:Hid ((M.image p l s).entry=beg):=congrArg M.Img.entry Hbeg.out
     have Hsg:Hid ((M.image p l s).segs=[⟨l.fr 1,M.segBytes p l 1 1,0,false,true⟩,⟨l.fr 2,M.segBytes p l 2 3,0,false,false⟩,⟨l.fr 4,M.segBytes p l 4 4,l.ti 5-l.ti 4,true,false⟩]):=rfl
     rw[hz] at k11
     clear HL2' HL3' Hbeg Hes HM8 hz hnil
     have hA1:Below V8.heap.size V8 ((V8.alloc (.cells #[iv beg,sv none 0 0] 25)).alloc (.cells #[iv 1,iv 1,iv 0,iv 2,iv 3,iv 0,iv 4,iv 4,iv 5] 92)):=(bra _ _).alloc (by simp) _
     have hS9:=HS8.out.later hA1
     have q28:=(heap_alloc_old (V8.alloc (.cells #[iv beg,sv none 0 0] 25)) (.cells #[iv 1,iv 1,iv 0,iv 2,iv 3,iv 0,iv 4,iv 4,iv 5] 92) (by simp)).trans (heap_alloc_new V8 (.cells #[iv beg,sv none 0 0] 25))
     have qgs:=heap_alloc_new (V8.alloc (.cells #[iv beg,sv none 0 0] 25)) (.cells #[iv 1,iv 1,iv 0,iv 2,iv 3,iv 0,iv 4,iv 4,iv 5] 92)
     rw[show (V8.alloc (.cells #[iv beg,sv none 0 0] 25)).heap.size=V8.heap.size+1 by simp] at qgs
     have HS9:Hid (SgS w b6 b9 V8.heap.size (V8.heap.size+1) bm (layArr (sv xfa l.frags.length yf) (sv xna l.names.length yn) (sv xca l.coms.length yc) l.fr l.ti) m' beg ((V8.alloc (.cells #[iv beg,sv none 0 0] 25)).alloc (.cells #[iv 1,iv 1,iv 0,iv 2,iv 3,iv 0,iv 4,iv 4,iv 5] 92)) (sv none 0 0) (sv none 0 0) []):=⟨hS9.bel,hS9.c6,hS9.c9,q28,qgs,HMm.out.later hA1,World.ownsRow_nil _ _ _ _,fun e he=>(by cases he),by omega,HS8.out.bel.size,Hb6.out⟩
     clear hA1 hS9 q28 qgs HMm HS8 k60 k61 k6f
     go_upto_region 46 with fail
     generalize (V8.alloc (.cells #[iv beg,sv none 0 0] 25)).alloc (.cells #[iv 1,iv 1,iv 0,iv 2,iv 3,iv 0,iv 4,iv 4,iv 5] 92)=V9 at *
     obtain⟨gs,hgs⟩:∃gs,gs=V8.heap.size+1:=⟨_,rfl⟩
     rw[←hgs] at HS9 ⊢
     clear hgs
     obtain⟨b28,hb28⟩:∃b28,b28=V8.heap.size:=⟨_,rfl⟩
     rw[←hb28] at HS9 ⊢
     clear hb28 k11 l11 k6l
     clear V8
     go_wp2_with fail
     refine lk_loop6 p l (sv xfa l.frags.length yf) (sv xna l.names.length yn) (sv xca l.coms.length yc) w V9 b6 b9 b28 gs bm m' beg HSeg hti HS9 ?_
     intro zd30 zd31 zd32 zd213 zd214 zd215 zd216 zd217 zd218 zd219 zd220 zd221 zd222 zd223 zd224 zd225 zd226 zd227 zd228 zd229 zd230 zd231 zd232 zd233 zd234 zd235 zd236 zd237 zd238 zd239 zd240 zd241 zd242 zd243 zd244 zd245 zd246 zd247 zd248 zd249 zd250 zd251 zd252 zd253 zd254 zd255 zd256 zd257 zd258 zd259 zd260 zd261 zd262 zd263 zd264 zd265 zd266 zd267 zd268 zd269 V10 ⟨vS,es3,q1,q2⟩
     obtain⟨ux,uy,rfl⟩:=own_len q1.row
     have c0:V10.cell? (qa b28 0)=some (iv beg):=cellB q1.c28 0
     have c1':V10.cell? (qa b28 1)=some (sv ux es3.length uy):=cellB q1.c28 1
     have l28:b28<V10.heap.size:=(Array.getElem?_eq_some_iff.1 q1.c28).1
     have k60:V10.cell? (qa b6 0)=some (iv 0):=cellB q1.c6 0
     have k61:V10.cell? (qa b6 1)=some (sv none 0 0):=cellB q1.c6 1
     have k6f:∀j,V10.frozen? (qa b6 j)=false:=frozenB q1.c6
     have k6l:b6<V10.heap.size:=(Array.getElem?_eq_some_iff.1 q1.c6).1
     have HBs:Hid (Below w.heap.size w ((V10.setCell (qa b6 0) (iv beg)).setCell (qa b6 1) (sv ux es3.length uy))):=(q1.bel.setCell Hb6.out _).setCell Hb6.out _
     have t1:=setB' (setB' q1.c6 (i:=0) (iv beg)) (i:=1) (sv ux es3.length uy)
     have e0:((V10.setCell (qa b6 0) (iv beg)).setCell (qa b6 1) (sv ux es3.length uy)).cell? (qa b6 0)=some (iv beg):=cellB t1 0
     have e1:((V10.setCell (qa b6 0) (iv beg)).setCell (qa b6 1) (sv ux es3.length uy)).cell? (qa b6 1)=some (sv ux es3.length uy):=cellB t1 1
     have HF:Hid (SegsAt ((V10.setCell (qa b6 0) (iv beg)).setCell (qa b6 1) (sv ux es3.length uy)) (sv ux es3.length uy) (M.image p l s).segs):=by rw[Hid,Hsg.out,←q2];exact q1.fin _ _
     have He:Hid _:=And.intro e0 e1
     clear t1 e0 e1 q1 q2 HS9 HSeg Hsg
     go_wp2_with fail
     obtain⟨e0,e1⟩:=He.out
     refine bodyPost_ret (v:=.tuple #[.agg #[iv beg,sv ux es3.length uy],sv none 0 0,iv 0]) (by simp[results,Tryz.results12,go_sem,e0,e1]) rfl ?_
     exact⟨HBs.out,_,_,by rw[Hen.out],HF.out,flts_nil _⟩
    ·obtain rfl:LK=(M.img0,M.allFaults p l s,0):=HL2'.out hz
     have hzp:0<(M.allFaults p l s).length:=by omega
     have hb1:¬b11=b6:=fun e=>by have:=HS8.out.c11;rw[e,HS8.out.c6] at this;cases this
     have hb2:¬b6=b11:=fun e=>hb1 e.symm
     have HBs:Hid (Below w.heap.size w ((V8.setCell (qa b6 0) (iv 0)).setCell (qa b6 1) (sv none 0 0)).drew):=((HS8.out.bel.setCell Hb6.out _).setCell Hb6.out _).drew
     have t1:=setB' (setB' HS8.out.c6 (i:=0) (iv 0)) (i:=1) (sv none 0 0)
     have e0:((V8.setCell (qa b6 0) (iv 0)).setCell (qa b6 1) (sv none 0 0)).cell? (qa b6 0)=some (iv 0):=cellB t1 0
     have e1:((V8.setCell (qa b6 0) (iv 0)).setCell (qa b6 1) (sv none 0 0)).cell? (qa b6 1)=some (sv none 0 0):=cellB t1 1
     have HF:Hid (FltsAt ((V8.setCell (qa b6 0) (iv 0)).setCell (qa b6 1) (sv none 0 0)).drew (sv fx (M.allFaults p l s).length fy) (M.allFaults p l s)):=(HS8.out.fin _ _).later (Below.refl _ _).drew
     have He:Hid _:=And.intro e0 e1
     clear HL3' HL2' Hbeg Hes HM8 t1 e0 e1 HS8 hz
     go_upto_region 43 with fail
     go_big_region
     go_wp2_with fail
     obtain⟨e0,e1⟩:=He.out
     refine bodyPost_ret (v:=.tuple #[.agg #[iv 0,sv none 0 0],sv fx (M.allFaults p l s).length fy,iv 0]) (by simp[results,Tryz.results12,go_sem,e0,e1]) rfl ?_
     exact⟨HBs.out,_,_,rfl,segs_nil _,HF.out⟩
 ·have hne:(el !=0)=true:=by simpa using hel
  obtain rfl:LK=(M.img0,[],el):=HL1.out hel
  have g6:=HG.out.1.2.1
  have k0:V1.cell? (qa b6 0)=some (iv 0):=cellB g6 0
  have k1:V1.cell? (qa b6 1)=some (sv none 0 0):=cellB g6 1
  have kf:∀j,V1.frozen? (qa b6 j)=false:=frozenB g6
  have kl:b6<V1.heap.size:=(Array.getElem?_eq_some_iff.1 g6).1
  have HBs:Hid (Below w.heap.size w ((V1.setCell (qa b6 0) (iv 0)).setCell (qa b6 1) (sv none 0 0))):=(HB1.out.setCell Hb6.out _).setCell Hb6.out _
  have t1:=setB' (setB' g6 (i:=0) (iv 0)) (i:=1) (sv none 0 0)
  have e0:((V1.setCell (qa b6 0) (iv 0)).setCell (qa b6 1) (sv none 0 0)).cell? (qa b6 0)=some (iv 0):=cellB t1 0
  have e1:((V1.setCell (qa b6 0) (iv 0)).setCell (qa b6 1) (sv none 0 0)).cell? (qa b6 1)=some (sv none 0 0):=cellB t1 1
  have He:Hid _:=And.intro e0 e1
  clear hel HL1 HL2 HL3 HLy KF g6 t1 e0 e1
  go_wp2_with fail
  obtain⟨e0,e1⟩:=He.out
  refine bodyPost_ret (v:=.tuple #[.agg #[iv 0,sv none 0 0],sv none 0 0,iv el]) (by simp[results,Tryz.results12,go_sem,e0,e1]) rfl ?_
  exact⟨HBs.out,_,_,rfl,segs_nil _,flts_nil _⟩
end Go.Proofs.YtpkfmfhodbjckaaGreatDoor
