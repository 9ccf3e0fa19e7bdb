/-
  The contracts of the library functions that are called, at this program: each laying is a table of numbers and one theorem, a field a fact of the program. The contracts of slices.BinarySearch at names, of layout.whereCommon, of layout.Where.
-/
import Derived.Shelf.Spec.SearchS
import Derived.Test.YtpkfmfhodbjckaaGreatDoorProg
import Derived.Test.YtpkfmfhodbjckaaGreatDoorLdMM
import Derived.Deep.WholeRow
import Derived.BigQuiet
set_option maxHeartbeats 8000000
set_option maxRecDepth 100000
namespace Go.Proofs
open Go.Shelf
def Tryz.lays2n26_ren:Go.Shelf.Ren:=⟨fun|26=>133|33=>144|34=>145|38=>159|n=>n,fun|24=>39|9=>9|3=>3|4=>4|40=>188|0=>0|n=>n,fun|n=>n⟩
theorem Tryz.lays2n26:Go.Proofs.Lays2.n26 Tryz.prog Tryz.lays2n26_ren:={
 mixed:=by kernel_rfl
 f26:=Tryz.func133.trans (congrArg some (by kernel_rfl))
 f33:=Tryz.func144.trans (congrArg some (by kernel_rfl))
 f34:=Tryz.func145.trans (congrArg some (by kernel_rfl))
 f38:=Tryz.func159.trans (congrArg some (by kernel_rfl))
 t0:=Tryz.underlying0
 a0:=Tryz.isAgg0
 z0:=Tryz.sizeOf0
 v0:=Tryz.zeroValue0
 t3:=Tryz.underlying3
 a3:=Tryz.isAgg3
 z3:=Tryz.sizeOf3
 v3:=Tryz.zeroValue3
 t4:=Tryz.underlying4
 a4:=Tryz.isAgg4
 z4:=Tryz.sizeOf4
 v4:=Tryz.zeroValue4
 t9:=Tryz.underlying9
 a9:=Tryz.isAgg9
 z9:=Tryz.sizeOf9
 v9:=Tryz.zeroValue9
 t24:=Tryz.underlying39
 a24:=Tryz.isAgg39
 z24:=Tryz.sizeOf39
 v24:=Tryz.zeroValue39
 t40:=Tryz.underlying188
 a40:=Tryz.isAgg188
 z40:=Tryz.sizeOf188
 v40:=Tryz.zeroValue188 }
end Go.Proofs
namespace Go.Proofs.YtpkfmfhodbjckaaGreatDoor
open Go Go.RowKit Go.Shelf
set_option linter.unusedVariables false
attribute [local go_sem] lat_cell
theorem halve_any(l:List ByteArray)(s:ByteArray)(a:Option Addr)(c:Nat)(w:World)(h:StrsAt w (sv a l.length c) l)(hl:l.length≤1000) :
  Calls Tryz.prog 133 #[sv a l.length c,.string s] w fun e w'=>e=.returned (.tuple #[iv (M.halve l s:Nat),.bool (M.foundAt l s)])∧Below w.heap.size w w':=by
 by_cases h0:l.length=0
 ·have hn:l=[]:=List.length_eq_zero_iff.1 h0
  subst hn
  exact(Any2.slices_BinarySearch_string_empty Tryz.lays2n26 a c s w).mono fun e w' ⟨he,hw⟩=>⟨he,by rw[hw];exact Below.refl _ _⟩
 ·obtain⟨b,off,rfl,hc⟩:∃b off,a=some (qa b off)∧∀j i,j<l.length→i<1→w.cell? (qa b (off+j*1+i))=some (.string (l.getD j str0)):=h.1.all (by omega)
  refine(Any2.slices_BinarySearch_string Tryz.lays2n26 b off l.length c (fun t=>l.getD t ⟨#[]⟩) s w (by omega) (fun j hj=>?_)).mono fun e w' ⟨he,q,hw⟩=>⟨he,?_⟩
  ·have:=hc j 0 hj (by decide)
   rw[Nat.mul_one,Nat.add_zero] at this
   exact this
  ·rw[hw]
   exact below_drewN' _ _ _
theorem whereCommon_any(N:List ByteArray)(C:List Int)(s:ByteArray)(vf:Value)(xn xc:Option Addr)(yn yc:Nat)(m0 m1 m2 m3 m4 m5 m6 m7 m8 m9 m10 m11:Value)(w:World)(hn:StrsAt w (sv xn N.length yn) N)(hc:IntsAt w (sv xc C.length yc) C)(hN:N.length≤1000) :
  Calls Tryz.prog 118 #[.agg #[vf,sv xn N.length yn,sv xc C.length yc,m0,m1,m2,m3,m4,m5,m6,m7,m8,m9,m10,m11],.string s] w fun e w'=>e=.returned (.tuple #[iv (M.commonIn N C s).1,iv (M.commonIn N C s).2])∧Below w.heap.size w w':=by
 have hB:Below w.heap.size w (w.alloc (.cells #[vf,sv xn N.length yn,sv xc C.length yc,m0,m1,m2,m3,m4,m5,m6,m7,m8,m9,m10,m11] 76)):=bra _ _
 have q:=heap_alloc_new w (.cells #[vf,sv xn N.length yn,sv xc C.length yc,m0,m1,m2,m3,m4,m5,m6,m7,m8,m9,m10,m11] 76)
 have KS:Hid (Calls Tryz.prog 133 #[sv xn N.length yn,.string s] (w.alloc (.cells #[vf,sv xn N.length yn,sv xc C.length yc,m0,m1,m2,m3,m4,m5,m6,m7,m8,m9,m10,m11] 76)) _):=halve_any N s xn yn _ (hn.later hB) hN
 have HQ:Hid (∀W,Below (w.alloc (.cells #[vf,sv xn N.length yn,sv xc C.length yc,m0,m1,m2,m3,m4,m5,m6,m7,m8,m9,m10,m11] 76)).heap.size (w.alloc (.cells #[vf,sv xn N.length yn,sv xc C.length yc,m0,m1,m2,m3,m4,m5,m6,m7,m8,m9,m10,m11] 76)) W→W.cell? (qa w.heap.size 2)=some (sv xc C.length yc)∧w.heap.size<W.heap.size∧IntsAt W (sv xc C.length yc) C):=fun W hW=>by
  have y:=blk hW q
  exact⟨cellB y 2,(lt1 y),(hc.later hB).later hW⟩
 have hcl:C.length≤maxLen:=by obtain⟨_,_,_,h⟩:=SlAt.form hc;exact h
 have HR:Hid (M.commonIn N C s=if M.foundAt N s=true then (if M.halve N s<C.length then (C.getD (M.halve N s) 0,0) else (0,5)) else (0,5)):=rfl
 clear hn hc q hN
 generalize M.commonIn N C s=R at *
 generalize M.foundAt N s=fd at *
 generalize M.halve N s=i at *
 generalize N.length=nl at *
 cases fd
 ·obtain rfl:R=(0,5):=HR.out
  clear HR
  go_enter Tryz.func118,Tryz.ntmps118
  go_wp2_with (go_at_call 133;refine KS.out.mono ?_;rintro e w1 ⟨rfl,hb1⟩;obtain⟨c2,lw,hC⟩:=HQ.out _ hb1)
  go_ret2
  exact⟨rfl,hB.trans (hb1.mono hB.size)⟩
 ·by_cases hi:i<C.length
  ·obtain⟨x,HXx⟩:∃x,Hid (C.getD i 0=x):=⟨_,rfl⟩
   obtain rfl:R=(x,0):=by rw[HR.out,if_pos rfl,if_pos hi,HXx.out]
   clear HR
   have hi':(i:Int)<(C.length:Int):=by omega
   have hi0:¬(C.length:Int)≤(i:Int):=by omega
   go_enter Tryz.func118,Tryz.ntmps118
   go_wp2_with (go_at_call 133;refine KS.out.mono ?_;rintro e w1 ⟨rfl,hb1⟩;obtain⟨c2,lw,hC⟩:=HQ.out _ hb1;obtain⟨b,off,rfl,hcc,hbb⟩:=IntsAt.cell hC i hi;rw[HXx.out] at hcc)
   go_ret2
   exact⟨rfl,hB.trans (hb1.mono hB.size)⟩
  ·obtain rfl:R=(0,5):=by rw[HR.out,if_pos rfl,if_neg hi]
   clear HR
   have hi':(C.length:Int)≤(i:Int):=by omega
   go_enter Tryz.func118,Tryz.ntmps118
   go_wp2_with (go_at_call 133;refine KS.out.mono ?_;rintro e w1 ⟨rfl,hb1⟩;obtain⟨c2,lw,hC⟩:=HQ.out _ hb1)
   go_ret2
   exact⟨rfl,hB.trans (hb1.mono hB.size)⟩
theorem whereIn_err{d:M.Dfn}{e:Int}{F:List Int}{N:List ByteArray}{C:List Int}{s:ByteArray}(h:e≠0):M.whereIn d e F N C s=(0,e):=if_neg h
theorem whereIn_com{d:M.Dfn}{e:Int}{F:List Int}{N:List ByteArray}{C:List Int}{s:ByteArray}(h:e=0)(hk:d.kind=3):M.whereIn d e F N C s=M.commonIn N C s:=by
 unfold M.whereIn;rw[if_pos h,if_pos hk]
theorem whereIn_frag{d:M.Dfn}{e:Int}{F:List Int}{N:List ByteArray}{C:List Int}{s:ByteArray}(h:e=0)(hk:d.kind≠3)(hl:d.frag<F.length):M.whereIn d e F N C s=(F.getD d.frag.toNat 0+d.pos,0):=by
 unfold M.whereIn;rw[if_pos h,if_neg hk,if_neg (by omega)]
theorem where_any(p:M.Prt)(F:List Int)(N:List ByteArray)(C:List Int)(s:ByteArray)(a1 a2:Option Addr)(c1 c2:Nat)(xf xn xc:Option Addr)(yf yn yc:Nat)(m0 m1 m2 m3 m4 m5 m6 m7 m8 m9 m10 m11:Value)(w:World)
  (hf:FragsAt w (sv a1 p.frags.length c1) p.frags) (hd:DefsAt w (sv a2 p.defs.length c2) p.defs) (hF:IntsAt w (sv xf F.length yf) F) (hn:StrsAt w (sv xn N.length yn) N) (hc:IntsAt w (sv xc C.length yc) C)
  (hck:M.checkPart p=0) (hlen:F.length=p.frags.length) (hbd:∀x∈F,0≤x∧x≤65536) (hN:N.length≤1000) :
  Calls Tryz.prog 88 #[.agg #[sv a1 p.frags.length c1,sv a2 p.defs.length c2],.agg #[sv xf F.length yf,sv xn N.length yn,sv xc C.length yc,m0,m1,m2,m3,m4,m5,m6,m7,m8,m9,m10,m11],.string s] w
   fun e w'=>e=.returned (.tuple #[iv (M.whereIn (M.find p.defs s).1 (M.find p.defs s).2 F N C s).1,iv (M.whereIn (M.find p.defs s).1 (M.find p.defs s).2 F N C s).2])∧Below w.heap.size w w':=by
 have KF:Hid (∀W,Below w.heap.size w W→Calls Tryz.prog 110 #[.agg #[sv a1 p.frags.length c1,sv a2 p.defs.length c2],.string s] W fun e w'=>e=.returned (.tuple #[.agg (dfnArr (M.find p.defs s).1),iv (M.find p.defs s).2])∧Below W.heap.size W w'):=fun W hW=>by
  have:=findP_any p s a1 a2 c1 c2 W (hf.later hW) (hd.later hW)
  unfold findOf at this
  rwa [if_pos hck] at this
 have KC:Hid (∀W,Below w.heap.size w W→Calls Tryz.prog 118 #[.agg #[sv xf F.length yf,sv xn N.length yn,sv xc C.length yc,m0,m1,m2,m3,m4,m5,m6,m7,m8,m9,m10,m11],.string s] W fun e w'=>e=.returned (.tuple #[iv (M.commonIn N C s).1,iv (M.commonIn N C s).2])∧Below W.heap.size W w'):=fun W hW=>whereCommon_any N C s (sv xf F.length yf) xn xc yn yc m0 m1 m2 m3 m4 m5 m6 m7 m8 m9 m10 m11 W (hn.later hW) (hc.later hW) hN
 have HF:Hid (∀W,Below w.heap.size w W→IntsAt W (sv xf F.length yf) F):=fun W hW=>hF.later hW
 have hA:Below w.heap.size w ((w.alloc (.cells #[sv a1 p.frags.length c1,sv a2 p.defs.length c2] 43)).alloc (.cells #[sv xf F.length yf,sv xn N.length yn,sv xc C.length yc,m0,m1,m2,m3,m4,m5,m6,m7,m8,m9,m10,m11] 76)):=(bra _ _).alloc (by simp) _
 have q:=heap_alloc2_new w (.cells #[sv a1 p.frags.length c1,sv a2 p.defs.length c2] 43) (.cells #[sv xf F.length yf,sv xn N.length yn,sv xc C.length yc,m0,m1,m2,m3,m4,m5,m6,m7,m8,m9,m10,m11] 76)
 have HS:Hid ((M.find p.defs s).2=0→(M.find p.defs s).1.kind≠3→0≤(M.find p.defs s).1.frag∧(M.find p.defs s).1.frag<F.length∧0≤(M.find p.defs s).1.pos∧(M.find p.defs s).1.pos≤64):=fun h0 hk=>by
  have:=M.find_stands ((M.ok_iff p).1 hck) h0 hk
  rw[hlen]
  exact⟨this.1,this.2.1,this.2.2.1,this.2.2.2.2⟩
 have hll:F.length≤60:=by rw[hlen];exact((M.ok_iff p).1 hck).nf
 clear hf hd hn hc hF hck hlen hN
 generalize M.find p.defs s=V at *
 generalize p.frags.length=pf at *
 generalize p.defs.length=pd at *
 obtain⟨d,e⟩:=V
 have HE:=@whereIn_err d e F N C s
 have HC:=@whereIn_com d e F N C s
 have HG:=@whereIn_frag d e F N C s
 have HE':Hid _:=HE
 have HC':Hid _:=HC
 have HG':Hid _:=HG
 clear HE HC HG
 simp only at KF HS ⊢
 generalize M.whereIn d e F N C s=R at *
 obtain⟨nm,kd,fg,ps,sz,al⟩:=d
 simp only[dfnArr] at KF HS
 have hsl:(Tryz.prog.info? 76).map (·.size)=some (#[sv xf F.length yf,sv xn N.length yn,sv xc C.length yc,m0,m1,m2,m3,m4,m5,m6,m7,m8,m9,m10,m11]:Array Value).size:=by kernel_rfl
 go_enter Tryz.func88,Tryz.ntmps88
 go_upto_region 2 with (go_at_call 110;refine(KF.out _ hA).mono ?_;rintro e' w1 ⟨rfl,hb1⟩)
 have hX:Below w.heap.size w (w1.alloc (.cells #[.string nm,iv kd,iv fg,iv ps,iv sz,iv al] 72)):=(hA.trans (hb1.mono hA.size)).alloc (Nat.le_trans hA.size hb1.size) _
 have y:=blk hb1 q
 have yy:=(heap_alloc_old w1 (.cells #[.string nm,iv kd,iv fg,iv ps,iv sz,iv al] 72) (lt1 y)).trans y
 have xd:=heap_alloc_new w1 (.cells #[.string nm,iv kd,iv fg,iv ps,iv sz,iv al] 72)
 clear hA q hb1 KF y
 generalize w1.alloc (.cells #[.string nm,iv kd,iv fg,iv ps,iv sz,iv al] 72)=X at *
 generalize w1.heap.size=nd at *
 have d1:=cellC xd 1 rfl
 have d2:=cellC xd 2 rfl
 have d3:=cellC xd 3 rfl
 have l0:=cellC yy 0 rfl
 have hld:=lt1 xd
 have hly:=lt1 yy
 have KC':Hid (Calls Tryz.prog 118 #[.agg #[sv xf F.length yf,sv xn N.length yn,sv xc C.length yc,m0,m1,m2,m3,m4,m5,m6,m7,m8,m9,m10,m11],.string s] X _):=KC.out X hX
 have hFX:=HF.out X hX
 clear xd KC HF
 by_cases he:e=0
 ·subst he
  by_cases hk:kd=3
  ·subst hk
   obtain rfl:R=M.commonIn N C s:=HC'.out rfl rfl
   clear HE' HC' HG' HS hFX hbd
   go_wp2_with (first|(refine wpList_load_row rfl 76 _ rfl (w.heap.size+1) rfl 76 #[sv xf F.length yf,sv xn N.length yn,sv xc C.length yc,m0,m1,m2,m3,m4,m5,m6,m7,m8,m9,m10,m11] (0,0) _ yy Tryz.underlying76 rfl hsl ?_)|(go_at_call 118;refine KC'.out.mono ?_;rintro e w2 ⟨rfl,hb2⟩))
   go_ret2
   exact⟨rfl,hX.trans (hb2.mono hX.size)⟩
  ·have hk':(kd==3)=false:=by simp[hk]
   obtain⟨b0,b1,b2,b3⟩:=HS.out rfl hk
   obtain⟨x,HXx⟩:∃x,Hid (F.getD fg.toNat 0=x):=⟨_,rfl⟩
   obtain rfl:R=(x+ps,0):=by rw[←HXx.out];exact HG'.out rfl hk b1
   obtain⟨b,off,rfl,hcc,hbb⟩:=IntsAt.cell hFX fg.toNat (by omega)
   have hb':=hbd _ (getD_mem F 0 fg.toNat (by omega))
   clear HE' HC' HG' HS hFX hbd KC'
   have hng:¬(F.length:Int)≤fg:=by omega
   rw[HXx.out] at hcc hb'
   clear HXx
   generalize F.length=fl at *
   obtain⟨g,rfl⟩:∃g:Nat,fg=(g:Int):=⟨fg.toNat,by omega⟩
   simp only[Int.toNat_natCast] at hcc
   clear hk
   go_wp2_with fail
   refine wp_region_lat (by kernel_rfl) (by kernel_rfl) ?_
   intro hne
   repeat (go_big_quiet_step (fail))
   refine wpQuiet_nil ?_
   intro w2 hb2
   have hb3:=lat_out hb2
   clear hb2
   go_wp2
   go_ret2
   exact⟨rfl,hX.trans (hb3.mono hX.size)⟩
 ·obtain rfl:R=(0,e):=HE'.out he
  have he':(e !=0)=true:=by simpa using he
  clear HE' HC' HG' HS hFX hbd KC'
  go_wp2
  go_ret2
  exact⟨rfl,hX⟩
end Go.Proofs.YtpkfmfhodbjckaaGreatDoor
