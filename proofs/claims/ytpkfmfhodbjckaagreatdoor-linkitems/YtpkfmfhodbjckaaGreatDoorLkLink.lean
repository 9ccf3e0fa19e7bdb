/-
  The contracts of link.numbering and link.Link.
-/
import Derived.Test.YtpkfmfhodbjckaaGreatDoorLkIm
import Derived.Test.YtpkfmfhodbjckaaGreatDoorMathC
import Derived.Test.YtpkfmfhodbjckaaGreatDoorLkFx
import Derived.Test.YtpkfmfhodbjckaaGreatDoorLyLay
set_option maxHeartbeats 16000000
set_option maxRecDepth 100000
namespace Go.Proofs.YtpkfmfhodbjckaaGreatDoor
open Go Go.RowKit
set_option linter.unusedVariables false
theorem numbering_any(p:M.Prt)(l:M.Lay)(a1 a2:Option Addr)(c1 c2:Nat)(xf xn xc:Option Addr)(yf yn yc:Nat)(w:World)(hf:FragsAt w (sv a1 p.frags.length c1) p.frags)(hd:DefsAt w (sv a2 p.defs.length c2) p.defs)
  (hL:LayAt w (sv xf l.frags.length yf) (sv xn l.names.length yn) (sv xc l.coms.length yc) l) (ok:M.LkOk p l) :
  Calls Tryz.prog 48 #[.agg #[sv a1 p.frags.length c1,sv a2 p.defs.length c2],.agg #[sv xf l.frags.length yf,sv xn l.names.length yn,sv xc l.coms.length yc,iv (l.fr 0),iv (l.fr 1),iv (l.fr 2),iv (l.fr 3),iv (l.fr 4),iv (l.fr 5),iv (l.ti 0),iv (l.ti 1),iv (l.ti 2),iv (l.ti 3),iv (l.ti 4),iv (l.ti 5)]] w
   fun e w'=>Below w.heap.size w w'∧∃bp bl,e=.returned (.func (.func 83) #[] #[qv bp 0,qv bl 0])∧NumAt w' bp bl p l:=by
 have hA:Below w.heap.size w ((w.alloc (.cells #[sv a1 p.frags.length c1,sv a2 p.defs.length c2] 43)).alloc (.cells #[sv xf l.frags.length yf,sv xn l.names.length yn,sv xc l.coms.length yc,iv (l.fr 0),iv (l.fr 1),iv (l.fr 2),iv (l.fr 3),iv (l.fr 4),iv (l.fr 5),iv (l.ti 0),iv (l.ti 1),iv (l.ti 2),iv (l.ti 3),iv (l.ti 4),iv (l.ti 5)] 76)):=(bra _ _).alloc (by simp) _
 have HN:Hid (NumAt ((w.alloc (.cells #[sv a1 p.frags.length c1,sv a2 p.defs.length c2] 43)).alloc (.cells #[sv xf l.frags.length yf,sv xn l.names.length yn,sv xc l.coms.length yc,iv (l.fr 0),iv (l.fr 1),iv (l.fr 2),iv (l.fr 3),iv (l.fr 4),iv (l.fr 5),iv (l.ti 0),iv (l.ti 1),iv (l.ti 2),iv (l.ti 3),iv (l.ti 4),iv (l.ti 5)] 76)) w.heap.size (w.heap.size+1) p l) :=
  ⟨ok,a1,c1,a2,c2,xf,yf,xn,yn,xc,yc,heap_alloc2_old _ _ _,heap_alloc2_new _ _ _,hf.later hA,hd.later hA,hL.later hA⟩
 have HA:Hid _:=hA
 clear hf hd hL ok hA
 go_enter Tryz.func48,Tryz.ntmps48
 go_wp2
 go_ret
 exact⟨HA.out,_,_,rfl,HN.out⟩
def KeepNI (W W':World):Prop:=∀(k:Nat) (cs:Array Value) (t:TypeId),W.heap[k]?=some (.cells cs t (0,0))→t≠25→W'.heap[k]?=some (.cells cs t (0,0))
theorem own_keepNI{W W':World}{B k n:Nat}{e:TypeId}{v:Value}{xs:List Value}(h:W.ownsRow B e k v n xs)(he:e≠25)(hk:KeepNI W W'):W'.ownsRow B e k v n xs :=
 let ⟨h0,h1⟩:=h
 ⟨h0,h1.imp id fun ⟨g,cap,cs,e1,hg,h2,r⟩=>⟨g,cap,cs,e1,hg,hk _ _ _ h2 he,r⟩⟩
def LkOut (w':World) (v:M.Img × List Flt × Int) (e:Ending):Prop :=
 ∃vs vf,e=.returned (.tuple #[.agg #[iv v.1.entry,vs],vf,iv v.2.2])∧SegsAt w' vs v.1.segs∧FltsAt w' vf v.2.1∧(∀x n y,vf=sv x n y→n≤y)∧∀W',KeepNI w' W'→SegsAt W' vs v.1.segs∧FltsAt W' vf v.2.1
theorem lkOut_err{w':World}{er:Int} : LkOut w' (M.img0,[],er) (.returned (.tuple #[.agg #[iv 0,sv none 0 0],sv none 0 0,iv er])):=⟨_,_,rfl,segs_nil _,flts_nil _,(fun x n y h=>by cases h;exact Nat.le_refl _),fun W' _=>⟨segs_nil _,flts_nil _⟩⟩
theorem own_room{w:World}{B k n:Nat}{e:TypeId}{a:Option Addr}{c:Nat}{xs:List Value}(h:w.ownsRow B e k (sv a n c) n xs):n≤c:=by
 rcases h.2 with ⟨h1,_⟩|⟨g,cap,cur,h1,_,_,h2,_⟩
 ·cases h1;exact Nat.le_refl _
 ·cases h1;exact h2
theorem link_check{p:M.Prt}{base:Int}{s:ByteArray}(h:¬M.checkPart p=0):M.link p base s=(M.img0,[],M.checkPart p):=if_neg h
theorem link_text{p:M.Prt}{base:Int}{s:ByteArray}(h:M.checkPart p=0)(hs:M.isName s=false):M.link p base s=(M.img0,[],1):=by
 unfold M.link;rw[if_pos h,if_neg (by rw[hs];decide)]
theorem link_lay{p:M.Prt}{base:Int}{s:ByteArray}(h:M.checkPart p=0)(hs:M.isName s=true)(hl:¬(M.lay p base).2=0):M.link p base s=(M.img0,[],(M.lay p base).2):=by
 unfold M.link;rw[if_pos h,if_pos hs,if_neg hl]
theorem link_faults{p:M.Prt}{base:Int}{s:ByteArray}(h:M.checkPart p=0)(hs:M.isName s=true)(hl:(M.lay p base).2=0)(hf:¬(M.allFaults p (M.lay p base).1 s).length=0):M.link p base s=(M.img0,M.allFaults p (M.lay p base).1 s,0):=by
 unfold M.link;rw[if_pos h,if_pos hs,if_pos hl,if_neg hf]
theorem link_image{p:M.Prt}{base:Int}{s:ByteArray}(h:M.checkPart p=0)(hs:M.isName s=true)(hl:(M.lay p base).2=0)(hf:(M.allFaults p (M.lay p base).1 s).length=0):M.link p base s=(M.image p (M.lay p base).1 s,[],0):=by
 unfold M.link;rw[if_pos h,if_pos hs,if_pos hl,if_pos hf]
theorem link_any(p:M.Prt)(base:Int)(s:ByteArray)(a1 a2:Option Addr)(c1 c2:Nat)(w:World)(hf:FragsAt w (sv a1 p.frags.length c1) p.frags)(hd:DefsAt w (sv a2 p.defs.length c2) p.defs)(hsz:s.size≤maxLen) :
  Calls Tryz.prog 17 #[.agg #[sv a1 p.frags.length c1,sv a2 p.defs.length c2],iv base,.string s] w fun e w'=>Below w.heap.size w w'∧LkOut w' (M.link p base s) e:=by
 obtain⟨X0,HX0⟩:∃X0,Hid (X0=(w.alloc (.cells #[sv a1 p.frags.length c1,sv a2 p.defs.length c2] 43)).alloc (.cells #[iv 0,sv none 0 0] 25)):=⟨_,rfl⟩
 have q0:X0.heap[w.heap.size]?=some (.cells #[sv a1 p.frags.length c1,sv a2 p.defs.length c2] 43 (0,0)):=by rw[HX0.out];exact heap_alloc2_old _ _ _
 have q1:X0.heap[w.heap.size+1]?=some (.cells #[iv 0,sv none 0 0] 25 (0,0)):=by rw[HX0.out];exact heap_alloc2_new _ _ _
 have hX0:Below w.heap.size w X0:=by rw[HX0.out];exact(bra _ _).alloc (by simp) _
 have hl0:=lt1 q1
 have HB:Hid (∀W,Below X0.heap.size X0 W→Below w.heap.size w W):=fun W hW=>hX0.trans (hW.mono hX0.size)
 have HP:Hid (∀W,Below X0.heap.size X0 W→W.cell? (qa w.heap.size 0)=some (sv a1 p.frags.length c1)∧W.cell? (qa w.heap.size 1)=some (sv a2 p.defs.length c2)∧w.heap.size<W.heap.size):=fun W hW=>by
  have y:=blk hW q0
  exact⟨cellB y 0,cellB y 1,(lt1 y)⟩
 have HRb:Hid (∀W,Below X0.heap.size X0 W→W.heap[w.heap.size+1]?=some (.cells #[iv 0,sv none 0 0] 25 (0,0))):=fun W hW=>(hW.block _ hl0).trans q1
 have HR:Hid (∀W,Below X0.heap.size X0 W→W.cell? (qa (w.heap.size+1) 0)=some (iv 0)∧W.cell? (qa (w.heap.size+1) 1)=some (sv none 0 0)∧W.frozen? (qa (w.heap.size+1) 0)=false∧W.frozen? (qa (w.heap.size+1) 1)=false∧w.heap.size+1<W.heap.size):=fun W hW=>by
  have y:=HRb.out W hW
  exact⟨cellB y 0,cellB y 1,frozenB y 0,frozenB y 1,(lt1 y)⟩
 have KC:Hid (Calls Tryz.prog 46 #[.agg #[sv a1 p.frags.length c1,sv a2 p.defs.length c2]] X0 fun e w'=>e=.returned (iv (M.checkPart p))∧Below X0.heap.size X0 w'):=check_any p.frags p.defs _ _ _ _ _ (hf.later hX0) (hd.later hX0)
 have KN:Hid (∀W,Calls Tryz.prog 14 #[.string s] W fun e w'=>e=.returned (.bool (M.isName s))∧W=w'):=fun W=>(name_any s W hsz).mono fun e w' ⟨h1,h2⟩=>⟨h1,h2.symm⟩
 have KL:Hid (∀W,Below X0.heap.size X0 W→Calls Tryz.prog 47 #[.agg #[sv a1 p.frags.length c1,sv a2 p.defs.length c2],iv base] W fun e w'=>Below W.heap.size W w'∧∃xf yf xn yn xc yc,e=.returned (.tuple #[.agg #[sv xf (M.lay p base).1.frags.length yf,sv xn (M.lay p base).1.names.length yn,sv xc (M.lay p base).1.coms.length yc,iv ((M.lay p base).1.fr 0),iv ((M.lay p base).1.fr 1),iv ((M.lay p base).1.fr 2),iv ((M.lay p base).1.fr 3),iv ((M.lay p base).1.fr 4),iv ((M.lay p base).1.fr 5),iv ((M.lay p base).1.ti 0),iv ((M.lay p base).1.ti 1),iv ((M.lay p base).1.ti 2),iv ((M.lay p base).1.ti 3),iv ((M.lay p base).1.ti 4),iv ((M.lay p base).1.ti 5)],iv (M.lay p base).2])∧LayAt w' (sv xf (M.lay p base).1.frags.length yf) (sv xn (M.lay p base).1.names.length yn) (sv xc (M.lay p base).1.coms.length yc) (M.lay p base).1):=fun W hW=>by
  refine(lay_any p base a1 a2 c1 c2 W (hf.later (HB.out W hW)) (hd.later (HB.out W hW))).mono ?_
  rintro e w' ⟨hb,vF,vN,vC,rfl,h1,h2,h3⟩
  obtain⟨xf,yf,rfl,_⟩:=SlAt.form h1
  obtain⟨xn,yn,rfl,_⟩:=SlAt.form h2.1
  obtain⟨xc,yc,rfl,_⟩:=SlAt.form h3
  exact⟨hb,xf,yf,xn,yn,xc,yc,rfl,h1,h2,h3⟩
 have KM:Hid (∀W xf yf xn yn xc yc l,Below X0.heap.size X0 W→LayAt W (sv xf l.frags.length yf) (sv xn l.names.length yn) (sv xc l.coms.length yc) l→M.LkOk p l→Calls Tryz.prog 48 #[.agg #[sv a1 p.frags.length c1,sv a2 p.defs.length c2],.agg #[sv xf l.frags.length yf,sv xn l.names.length yn,sv xc l.coms.length yc,iv (l.fr 0),iv (l.fr 1),iv (l.fr 2),iv (l.fr 3),iv (l.fr 4),iv (l.fr 5),iv (l.ti 0),iv (l.ti 1),iv (l.ti 2),iv (l.ti 3),iv (l.ti 4),iv (l.ti 5)]] W fun e w'=>Below W.heap.size W w'∧∃bp bl,e=.returned (.func (.func 83) #[] #[qv bp 0,qv bl 0])∧NumAt w' bp bl p l):=fun W xf yf xn yn xc yc l hW hL ho=>numbering_any p l a1 a2 c1 c2 xf xn xc yf yn yc W (hf.later (HB.out W hW)) (hd.later (HB.out W hW)) hL ho
 have KF:Hid (∀W bp bl l,Below X0.heap.size X0 W→NumAt W bp bl p l→Calls Tryz.prog 49 #[.agg #[sv a1 p.frags.length c1,sv a2 p.defs.length c2],.string s,.func (.func 83) #[] #[qv bp 0,qv bl 0]] W fun e w'=>Below W.heap.size W w'∧∃v,e=.returned v∧FRow w' W.heap.size v (M.allFaults p l s)∧(M.allFaults p l s).length≤1100):=fun W bp bl l hW hn=>allFaults_any p l s a1 a2 c1 c2 bp bl W (hf.later (HB.out W hW)) (hd.later (HB.out W hW)) hn
 have KI:Hid (∀W bp bl xf yf xn yn xc yc l,Below X0.heap.size X0 W→LayAt W (sv xf l.frags.length yf) (sv xn l.names.length yn) (sv xc l.coms.length yc) l→NumAt W bp bl p l→SegOk p l 1 1→SegOk p l 2 3→SegOk p l 4 4→0≤l.ti 5→l.ti 5≤65536→0≤l.ti 4→Calls Tryz.prog 50 #[.agg #[sv a1 p.frags.length c1,sv a2 p.defs.length c2],.agg #[sv xf l.frags.length yf,sv xn l.names.length yn,sv xc l.coms.length yc,iv (l.fr 0),iv (l.fr 1),iv (l.fr 2),iv (l.fr 3),iv (l.fr 4),iv (l.fr 5),iv (l.ti 0),iv (l.ti 1),iv (l.ti 2),iv (l.ti 3),iv (l.ti 4),iv (l.ti 5)],.string s,.func (.func 83) #[] #[qv bp 0,qv bl 0]] W fun e w'=>Below W.heap.size W w'∧∃vs,e=.returned (.agg #[iv (M.image p l s).entry,vs])∧SegsBlk w' vs (M.image p l s).segs):=fun W bp bl xf yf xn yn xc yc l hW hL hn h1 h2 h3 h4 h5 h6=>image_any p l s a1 a2 c1 c2 bp bl xf xn xc yf yn yc W (hf.later (HB.out W hW)) (hd.later (HB.out W hW)) hL hn h1 h2 h3 h4 h5 h6
 have L1:Hid _:=@link_check p base s
 have L2:Hid _:=@link_text p base s
 have L3:Hid _:=@link_lay p base s
 have L4:Hid _:=@link_faults p base s
 have L5:Hid _:=@link_image p base s
 have HLF:Hid ((M.lay p base).2=0→M.checkPart p=0∧0≤base∧base<65536∧M.lay p base=(M.layAll p base,0)∧M.Apart p base):=lay_facts
 have HOk:Hid ((M.lay p base).2=0→M.LkOk p (M.lay p base).1∧SegOk p (M.lay p base).1 1 1∧SegOk p (M.lay p base).1 2 3∧SegOk p (M.lay p base).1 4 4∧0≤(M.lay p base).1.ti 5∧(M.lay p base).1.ti 5≤65536∧0≤(M.lay p base).1.ti 4):=fun h=>by
  obtain⟨h1,h2,h3,h4,h5⟩:=lay_facts h
  rw[h4]
  have hp:=(M.ok_iff p).1 h1
  have t5:=h5.ti 5 (by decide) (by decide)
  have t4:=h5.ti 4 (by decide) (by decide)
  exact⟨lkOk_of h1 h5,segOk_of hp h5 (.inl ⟨rfl,rfl⟩),segOk_of hp h5 (.inr (.inl ⟨rfl,rfl⟩)),segOk_of hp h5 (.inr (.inr ⟨rfl,rfl⟩)),by show 0≤(M.layAll p base).ti 5;omega,t5.2.1,by show 0≤(M.layAll p base).ti 4;omega⟩
 clear hf hd HLF
 generalize M.link p base s=RR at *
 have c0:=cellB q0 0
 have c1':=cellB q0 1
 simp at c0 c1'
 generalize M.checkPart p=ck at *
 generalize M.isName s=isn at *
 go_enter Tryz.func17,Tryz.ntmps17
 go_upto_region 1 with fail
 rw[←HX0.out]
 clear HX0 q0 q1 hX0
 go_upto_region 2 with (go_at_call 46;refine KC.out.mono ?_;rintro e X1 ⟨rfl,hb1⟩)
 have H1:Hid _:=hb1
 clear hb1 KC c0 c1' hl0
 by_cases hck:ck=0
 ·subst hck
  cases isn
  ·obtain rfl:RR=(M.img0,[],1):=L2.out (by trivial) (by trivial)
   obtain⟨r0,r1,f0,f1,hlR⟩:=HR.out X1 H1.out
   have HBf:Hid (Below w.heap.size w ((X1.setCell (qa (w.heap.size+1) 0) (iv 0)).setCell (qa (w.heap.size+1) 1) (sv none 0 0))):=((HB.out X1 H1.out).setCell (by show w.heap.size≤w.heap.size+1;omega) _).setCell (by show w.heap.size≤w.heap.size+1;omega) _
   clear L1 L2 L3 L4 L5 HB HP HR HRb KL KM KF KI HOk
   go_wp2_with (go_at_call 14;refine(KN.out _).mono ?_;rintro e w2 ⟨rfl,rfl⟩)
   refine bodyPost_ret (v:=.tuple #[.agg #[iv 0,sv none 0 0],sv none 0 0,iv 1]) (by simp[results,Tryz.results17,go_sem,r0,r1]) rfl ?_
   exact⟨HBf.out,lkOut_err⟩
  ·clear L1 L2
   obtain⟨c0,c1',hlp⟩:=HP.out X1 H1.out
   have KL':Hid (Calls Tryz.prog 47 #[.agg #[sv a1 p.frags.length c1,sv a2 p.defs.length c2],iv base] X1 _):=KL.out X1 H1.out
   clear KL
   generalize M.lay p base=LY at *
   obtain⟨l,er⟩:=LY
   simp only at KL' L3 L4 L5 HOk
   go_upto_region 7 with (first|(go_at_call 14;refine(KN.out _).mono ?_;rintro e w2 ⟨rfl,rfl⟩)|(go_at_call 47;refine KL'.out.mono ?_;rintro e X2 ⟨hb2,xf,yf,xn,yn,xc,yc,rfl,hLA⟩))
   have hb3:Below X2.heap.size X2 (X2.alloc (.cells #[sv xf l.frags.length yf,sv xn l.names.length yn,sv xc l.coms.length yc,iv (l.fr 0),iv (l.fr 1),iv (l.fr 2),iv (l.fr 3),iv (l.fr 4),iv (l.fr 5),iv (l.ti 0),iv (l.ti 1),iv (l.ti 2),iv (l.ti 3),iv (l.ti 4),iv (l.ti 5)] 76)):=bra _ _
   have H3:Hid (Below X0.heap.size X0 (X2.alloc (.cells #[sv xf l.frags.length yf,sv xn l.names.length yn,sv xc l.coms.length yc,iv (l.fr 0),iv (l.fr 1),iv (l.fr 2),iv (l.fr 3),iv (l.fr 4),iv (l.fr 5),iv (l.ti 0),iv (l.ti 1),iv (l.ti 2),iv (l.ti 3),iv (l.ti 4),iv (l.ti 5)] 76))):=(H1.out.trans (hb2.mono H1.out.size)).trans (hb3.mono (Nat.le_trans H1.out.size hb2.size))
   have hLA3:=hLA.later hb3
   have q3:=heap_alloc_new X2 (.cells #[sv xf l.frags.length yf,sv xn l.names.length yn,sv xc l.coms.length yc,iv (l.fr 0),iv (l.fr 1),iv (l.fr 2),iv (l.fr 3),iv (l.fr 4),iv (l.fr 5),iv (l.ti 0),iv (l.ti 1),iv (l.ti 2),iv (l.ti 3),iv (l.ti 4),iv (l.ti 5)] 76)
   clear hb2 hb3 hLA KL' c0 c1' hlp H1
   generalize X2.alloc (.cells #[sv xf l.frags.length yf,sv xn l.names.length yn,sv xc l.coms.length yc,iv (l.fr 0),iv (l.fr 1),iv (l.fr 2),iv (l.fr 3),iv (l.fr 4),iv (l.fr 5),iv (l.ti 0),iv (l.ti 1),iv (l.ti 2),iv (l.ti 3),iv (l.ti 4),iv (l.ti 5)] 76)=X3 at *
   generalize X2.heap.size=nl at *
   by_cases her:er=0
   ·subst her
    obtain⟨ok,s1,s2,s3,t1,t2,t3⟩:=HOk.out (by trivial)
    obtain⟨c0,c1',hlp⟩:=HP.out X3 H3.out
    have KM':Hid (Calls Tryz.prog 48 #[.agg #[sv a1 p.frags.length c1,sv a2 p.defs.length c2],.agg #[sv xf l.frags.length yf,sv xn l.names.length yn,sv xc l.coms.length yc,iv (l.fr 0),iv (l.fr 1),iv (l.fr 2),iv (l.fr 3),iv (l.fr 4),iv (l.fr 5),iv (l.ti 0),iv (l.ti 1),iv (l.ti 2),iv (l.ti 3),iv (l.ti 4),iv (l.ti 5)]] X3 _):=KM.out X3 xf yf xn yn xc yc l H3.out hLA3 ok
    have hsl:(Tryz.prog.info? 76).map (·.size)=some (#[sv xf l.frags.length yf,sv xn l.names.length yn,sv xc l.coms.length yc,iv (l.fr 0),iv (l.fr 1),iv (l.fr 2),iv (l.fr 3),iv (l.fr 4),iv (l.fr 5),iv (l.ti 0),iv (l.ti 1),iv (l.ti 2),iv (l.ti 3),iv (l.ti 4),iv (l.ti 5)]:Array Value).size:=by kernel_rfl
    have HKI:Hid (∀W bp bl,Below X3.heap.size X3 W→NumAt W bp bl p l→_):=fun W bp bl hW hn=>KI.out W bp bl xf yf xn yn xc yc l (H3.out.trans (hW.mono H3.out.size)) (hLA3.later hW) hn s1 s2 s3 t1 t2 t3
    clear KM KI HOk L3 ok s1 s2 s3 t1 t2 t3 hLA3
    go_upto_region 10 with (first|(refine wpList_load_row rfl 76 _ rfl nl rfl 76 #[sv xf l.frags.length yf,sv xn l.names.length yn,sv xc l.coms.length yc,iv (l.fr 0),iv (l.fr 1),iv (l.fr 2),iv (l.fr 3),iv (l.fr 4),iv (l.fr 5),iv (l.ti 0),iv (l.ti 1),iv (l.ti 2),iv (l.ti 3),iv (l.ti 4),iv (l.ti 5)] (0,0) _ q3 Tryz.underlying76 rfl hsl ?_)|(go_at_call 48;refine KM'.out.mono ?_;rintro e X4 ⟨hb4,bp,bl,rfl,hNu⟩))
    have H4:Hid (Below X0.heap.size X0 X4):=H3.out.trans (hb4.mono H3.out.size)
    have q4:=blk hb4 q3
    have H34:Hid _:=hb4
    clear KM' c0 c1' hlp q3 hb4
    obtain⟨c0,c1',hlp⟩:=HP.out X4 H4.out
    have KF':Hid (Calls Tryz.prog 49 #[.agg #[sv a1 p.frags.length c1,sv a2 p.defs.length c2],.string s,.func (.func 83) #[] #[qv bp 0,qv bl 0]] X4 _):=KF.out X4 bp bl l H4.out hNu
    clear KF
    generalize M.allFaults p l s=AF at *
    go_upto_region 11 with (go_at_call 49;refine KF'.out.mono ?_;rintro e X5 ⟨hb5,vf,rfl,hFR,hAl⟩)
    have H5:Hid (Below X0.heap.size X0 X5):=H4.out.trans (hb5.mono H4.out.size)
    have q5:=blk hb5 q4
    have hNu5:=hNu.later hb5
    have H35:Hid (Below X3.heap.size X3 X5):=H34.out.trans (hb5.mono H34.out.size)
    clear KF' c0 c1' hlp q4 hb5 hNu H34 H4
    obtain⟨af,cf,rfl⟩:=own_len hFR
    have HFR:Hid _:=hFR
    clear hFR
    by_cases hf0:AF.length=0
    ·obtain rfl:AF=[]:=List.eq_nil_of_length_eq_zero hf0
     obtain rfl:RR=(M.image p l s,[],0):=L5.out (by trivial) (by trivial) (by trivial) (by trivial)
     obtain⟨c0,c1',hlp⟩:=HP.out X5 H5.out
     have KI':Hid (Calls Tryz.prog 50 #[.agg #[sv a1 p.frags.length c1,sv a2 p.defs.length c2],.agg #[sv xf l.frags.length yf,sv xn l.names.length yn,sv xc l.coms.length yc,iv (l.fr 0),iv (l.fr 1),iv (l.fr 2),iv (l.fr 3),iv (l.fr 4),iv (l.fr 5),iv (l.ti 0),iv (l.ti 1),iv (l.ti 2),iv (l.ti 3),iv (l.ti 4),iv (l.ti 5)],.string s,.func (.func 83) #[] #[qv bp 0,qv bl 0]] X5 _):=HKI.out X5 bp bl H35.out hNu5
     have H5R:=HRb.out
     have HRb':Hid _:=H5R
     clear L4 L5 HKI hNu5 hf0 H5R
     have H5n:Hid (∀W,Below X5.heap.size X5 W→W.heap[w.heap.size+1]?=some (.cells #[iv 0,sv none 0 0] 25 (0,0))∧Below w.heap.size w W):=fun W hW=>⟨HRb.out W (H5.out.trans (hW.mono H5.out.size)),HB.out W (H5.out.trans (hW.mono H5.out.size))⟩
     clear HB HP HR HRb HRb'
     go_wp2_with (first|(refine wpList_load_row rfl 76 _ rfl nl rfl 76 #[sv xf l.frags.length yf,sv xn l.names.length yn,sv xc l.coms.length yc,iv (l.fr 0),iv (l.fr 1),iv (l.fr 2),iv (l.fr 3),iv (l.fr 4),iv (l.fr 5),iv (l.ti 0),iv (l.ti 1),iv (l.ti 2),iv (l.ti 3),iv (l.ti 4),iv (l.ti 5)] (0,0) _ q5 Tryz.underlying76 rfl hsl ?_)|(go_at_call 50;refine KI'.out.mono ?_;rintro e X6 ⟨hb6,vs,rfl,hSB⟩;obtain⟨y6,hB6⟩:=H5n.out X6 hb6;have r0:=cellC y6 0 rfl;have r1:=cellC y6 1 rfl;have f0:=frozenB y6 0;have f1:=frozenB y6 1;have hlR:=lt1 y6;obtain⟨g6,rest6⟩:=hSB;obtain⟨cap6,rest7⟩:=rest6;obtain⟨cur6,e61,e62,e63,z6,rfl,hx6⟩:=rest7))
     refine bodyPost_ret (v:=.tuple #[.agg #[iv (M.image p l s).entry,sv (some (qa g6 0)) 3 cap6],sv none 0 0,iv 0]) (by simp[results,Tryz.results17,go_sem,r0,r1]) rfl ?_
     have hS6:SegsBlk X6 (sv (some (qa g6 0)) 3 cap6) (M.image p l s).segs:=⟨g6,cap6,cur6,e61,e62,e63,z6,rfl,hx6⟩
     have y7:=heap_setCell_same X6 (w.heap.size+1) 0 _ _ (iv (M.image p l s).entry) y6
     have hS7:=(hS6.keep (image_keep y6)).keep (image_keep (i:=1) (u:=sv (some (qa g6 0)) 3 cap6) y7)
     exact⟨(hB6.setCell (by show w.heap.size≤w.heap.size+1;omega) _).setCell (by show w.heap.size≤w.heap.size+1;omega) _,_,_,rfl,hS7.segs,flts_nil _,(fun x n y h=>by cases h;exact Nat.le_refl _),fun W' hk=>⟨(hS7.keep hk).segs,flts_nil _⟩⟩
    ·obtain rfl:RR=(M.img0,AF,0):=L4.out (by trivial) (by trivial) (by trivial) hf0
     obtain⟨r0,r1,f0,f1,hlR⟩:=HR.out X5 H5.out
     have HBf:Hid (Below w.heap.size w ((X5.setCell (qa (w.heap.size+1) 0) (iv 0)).setCell (qa (w.heap.size+1) 1) (sv none 0 0))):=((HB.out X5 H5.out).setCell (by show w.heap.size≤w.heap.size+1;omega) _).setCell (by show w.heap.size≤w.heap.size+1;omega) _
     have hpos:(0:Int)<(AF.length:Int):=by omega
     have HFr:Hid (((X5.setCell (qa (w.heap.size+1) 0) (iv 0)).setCell (qa (w.heap.size+1) 1) (sv none 0 0)).ownsRow X4.heap.size 49 4 (sv af AF.length cf) AF.length (AF.flatMap encF)):=by
      have y5:=HRb.out X5 H5.out
      have k1:=ownsRow_setCell_other HFR.out (a:=⟨w.heap.size+1,0,none⟩) (fun e=>by rcases own_ne HFR.out y5 (by decide) with h1|h1;(rw[h1] at e;cases e);exact h1 e) (iv 0)
      have y6:=heap_setCell_same X5 (w.heap.size+1) 0 _ _ (iv 0) y5
      exact ownsRow_setCell_other k1 (a:=⟨w.heap.size+1,1,none⟩) (fun e=>by rcases own_ne k1 y6 (by decide) with h1|h1;(rw[h1] at e;cases e);exact h1 e) (sv none 0 0)
     have HFl:Hid (FltsAt ((X5.setCell (qa (w.heap.size+1) 0) (iv 0)).setCell (qa (w.heap.size+1) 1) (sv none 0 0)) (sv af AF.length cf) AF):=row_flts HFr.out
     clear L4 L5 HKI hNu5 HB HP HR HRb hf0
     go_wp2
     refine bodyPost_ret (v:=.tuple #[.agg #[iv 0,sv none 0 0],sv af AF.length cf,iv 0]) (by simp[results,Tryz.results17,go_sem,r0,r1]) rfl ?_
     exact⟨HBf.out,_,_,rfl,segs_nil _,HFl.out,(fun x n y h=>by cases h;exact own_room HFR.out),fun W' hk=>⟨segs_nil _,row_flts (own_keepNI HFr.out (by decide) hk)⟩⟩
   ·obtain rfl:RR=(M.img0,[],er):=L3.out (by trivial) (by trivial) her
    have her':(er !=0)=true:=by simpa using her
    obtain⟨r0,r1,f0,f1,hlR⟩:=HR.out X3 H3.out
    have HBf:Hid (Below w.heap.size w ((X3.setCell (qa (w.heap.size+1) 0) (iv 0)).setCell (qa (w.heap.size+1) 1) (sv none 0 0))):=((HB.out X3 H3.out).setCell (by show w.heap.size≤w.heap.size+1;omega) _).setCell (by show w.heap.size≤w.heap.size+1;omega) _
    clear L3 L4 L5 HB HP HR HRb KM KF KI HOk hLA3 q3
    go_wp2
    refine bodyPost_ret (v:=.tuple #[.agg #[iv 0,sv none 0 0],sv none 0 0,iv er]) (by simp[results,Tryz.results17,go_sem,r0,r1]) rfl ?_
    exact⟨HBf.out,lkOut_err⟩
 ·obtain rfl:RR=(M.img0,[],ck):=L1.out hck
  have hck':(ck !=0)=true:=by simpa using hck
  obtain⟨r0,r1,f0,f1,hlR⟩:=HR.out X1 H1.out
  have HBf:Hid (Below w.heap.size w ((X1.setCell (qa (w.heap.size+1) 0) (iv 0)).setCell (qa (w.heap.size+1) 1) (sv none 0 0))):=((HB.out X1 H1.out).setCell (by show w.heap.size≤w.heap.size+1;omega) _).setCell (by show w.heap.size≤w.heap.size+1;omega) _
  clear L1 L2 L3 L4 L5 HB HP HR HRb KL KM KF KI HOk
  go_wp2
  refine bodyPost_ret (v:=.tuple #[.agg #[iv 0,sv none 0 0],sv none 0 0,iv ck]) (by simp[results,Tryz.results17,go_sem,r0,r1]) rfl ?_
  exact⟨HBf.out,lkOut_err⟩
end Go.Proofs.YtpkfmfhodbjckaaGreatDoor
