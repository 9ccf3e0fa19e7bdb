/-
  The contract of the reference's Stands. The contract of the reference's FaultsOf.
-/
import Derived.Test.YtpkfmfhodbjckaaGreatDoorMathC
import Derived.Test.YtpkfmfhodbjckaaGreatDoorRefBB
set_option linter.unusedVariables false
set_option maxHeartbeats 8000000
set_option maxRecDepth 100000
namespace Go.Proofs.YtpkfmfhodbjckaaGreatDoor
open Go Go.RowKit
attribute [local go_sem] lat_cell
theorem idx_halve{N:List ByteArray}{s:ByteArray}(hs:M.Strict N)(h:s∈N):idx N s 0=(M.halve N s:Nat):=by
 unfold idx
 rw[List.drop_zero]
 cases hf:N.findIdx? (fun x=>x.toList==s.toList) with
 | none =>
  exfalso
  have:=List.findIdx?_eq_none_iff.1 hf s h
  simp at this
 | some j =>
  obtain⟨hj,hp,_⟩:=List.findIdx?_eq_some_iff_getElem.1 hf
  have e:N[j]=s:=ba_ext (by simpa using hp)
  have:=halve_at hs hj
  rw[e] at this
  rw[this]
  simp
theorem stands_any(p:M.Prt)(base:Int)(s:ByteArray)(l:M.Lay)(hl:M.layAll p base=l)(a1 a2:Option Addr)(c1 c2:Nat)(xf xn xc:Option Addr)(yf yn yc:Nat)(w:World)(hf:FragsAt w (sv a1 p.frags.length c1) p.frags)(hd:DefsAt w (sv a2 p.defs.length c2) p.defs)
  (hF:IntsAt w (sv xf l.frags.length yf) l.frags) (hN:StrsAt w (sv xn l.names.length yn) l.names) (hC:IntsAt w (sv xc l.coms.length yc) l.coms) (hck:M.checkPart p=0) (ha:M.Apart p base) (hbd:∀x∈l.frags,0≤x∧x≤65536) :
  Calls Tryz.prog 32 #[.agg #[sv a1 p.frags.length c1,sv a2 p.defs.length c2],.agg #[sv xf l.frags.length yf,sv xn l.names.length yn,sv xc l.coms.length yc,iv (l.fr 0),iv (l.fr 1),iv (l.fr 2),iv (l.fr 3),iv (l.fr 4),iv (l.fr 5),iv (l.ti 0),iv (l.ti 1),iv (l.ti 2),iv (l.ti 3),iv (l.ti 4),iv (l.ti 5)],.string s] w fun e w'=>e=.returned (.tuple #[iv (M.whereOf p l s).1,iv (M.whereOf p l s).2])∧Below w.heap.size w w':=by
 subst hl
 generalize hle:M.layAll p base=l at *
 have hp:=(M.ok_iff p).1 hck
 obtain⟨W,HW⟩:∃W,Hid (W=(w.alloc (.cells #[sv a1 p.frags.length c1,sv a2 p.defs.length c2] 43)).alloc (.cells #[sv xf l.frags.length yf,sv xn l.names.length yn,sv xc l.coms.length yc,iv (l.fr 0),iv (l.fr 1),iv (l.fr 2),iv (l.fr 3),iv (l.fr 4),iv (l.fr 5),iv (l.ti 0),iv (l.ti 1),iv (l.ti 2),iv (l.ti 3),iv (l.ti 4),iv (l.ti 5)] 76)):=⟨_,rfl⟩
 have hA:Below w.heap.size w W:=by rw[HW.out];exact(bra _ _).alloc (by simp) _
 have q0:W.heap[w.heap.size]?=some (.cells #[sv a1 p.frags.length c1,sv a2 p.defs.length c2] 43 (0,0)):=by rw[HW.out];exact heap_alloc2_old _ _ _
 have q1:W.heap[w.heap.size+1]?=some (.cells #[sv xf l.frags.length yf,sv xn l.names.length yn,sv xc l.coms.length yc,iv (l.fr 0),iv (l.fr 1),iv (l.fr 2),iv (l.fr 3),iv (l.fr 4),iv (l.fr 5),iv (l.ti 0),iv (l.ti 1),iv (l.ti 2),iv (l.ti 3),iv (l.ti 4),iv (l.ti 5)] 76 (0,0)):=by rw[HW.out];exact heap_alloc2_new _ _ _
 have KF:Hid (Calls Tryz.prog 70 #[.agg #[sv a1 p.frags.length c1,sv a2 p.defs.length c2],.string s] W fun e w'=>e=.returned (.tuple #[.agg (dfnArr (M.find p.defs s).1),iv (M.find p.defs s).2])∧Below W.heap.size W w'):=rfound_any p.defs s a1 a2 p.frags.length c1 c2 W (hd.later hA) hp.nd hp.plain
 have HI:Hid (∀X,Below w.heap.size w X→IntsAt X (sv xf l.frags.length yf) l.frags∧StrsAt X (sv xn l.names.length yn) l.names∧IntsAt X (sv xc l.coms.length yc) l.coms):=fun X hX=>⟨hF.later hX,hN.later hX,hC.later hX⟩
 have HE:Hid ((M.find p.defs s).2≠0→M.whereOf p l s=(0,(M.find p.defs s).2)):=fun h=>whereIn_err h
 have HCm:Hid ((M.find p.defs s).2=0→(M.find p.defs s).1.kind=3→idx l.names s 0=(M.halve l.names s:Nat)∧M.halve l.names s<l.coms.length∧M.whereOf p l s=(l.coms.getD (M.halve l.names s) 0,0)):=fun h0 hk=>by
  have hm:s∈l.names:=by
   rw[←hle]
   show s∈(M.commons p (M.secN p.frags base 5).2).names
   exact com_mem p.defs (M.defined p) _ s (.inr ⟨(M.rising_mem _ s).2 (find_defined h0),h0,hk⟩)
  have hst:M.Strict l.names:=by rw[←hle];exact ha.strict
  have hln:l.names.length=l.coms.length:=by rw[←hle];exact ha.lenN
  obtain⟨f1,f2,f3⟩:=found_at hst hm
  refine⟨idx_halve hst hm,by rw[←hln];exact f2,?_⟩
  unfold M.whereOf
  rw[whereIn_com h0 hk]
  unfold M.commonIn
  rw[if_pos f1,if_pos (by rw[←hln];exact f2)]
 have HFr:Hid ((M.find p.defs s).2=0→(M.find p.defs s).1.kind≠3→0≤(M.find p.defs s).1.frag∧(M.find p.defs s).1.frag<l.frags.length∧0≤(M.find p.defs s).1.pos∧(M.find p.defs s).1.pos≤64∧M.whereOf p l s=(l.frags.getD (M.find p.defs s).1.frag.toNat 0+(M.find p.defs s).1.pos,0)):=fun h0 hk=>by
  obtain⟨b0,b1,b2,b3,b4⟩:=M.find_stands hp h0 hk
  have hlf:l.frags.length=p.frags.length:=by rw[←hle];exact ha.lenF
  exact⟨b0,by rw[hlf];exact b1,b2,b4,whereIn_frag h0 hk (by rw[hlf];exact b1)⟩
 have HBd:Hid (∀x∈l.frags,0≤x∧x≤65536):=hbd
 have HNl:Hid (l.names.length≤maxLen):=by obtain⟨_,_,_,h⟩:=hN.1.form;exact h
 have HA:Hid (Below w.heap.size w W):=hA
 clear hf hd hF hN hC hck ha hbd hp hA hle
 generalize M.whereOf p l s=R at *
 generalize M.find p.defs s=fr at *
 obtain⟨⟨nm,kd,fg,ps,dz,da⟩,er⟩:=fr
 simp only[dfnArr] at KF
 simp only at HCm HFr HE
 have c00:=cellB q0 0
 have c01:=cellB q0 1
 have hl0:=lt1 q0
 simp at c00 c01
 go_enter Tryz.func32,Tryz.ntmps32
 go_upto_region 1 with fail
 rw[←HW.out]
 clear HW
 go_upto_region 2 with (go_at_call 70;refine KF.out.mono ?_;rintro e w1 ⟨rfl,hb1⟩)
 have hX:Below W.heap.size W (w1.alloc (.cells #[.string nm,iv kd,iv fg,iv ps,iv dz,iv da] 72)):=hb1.alloc hb1.size _
 have xd:=heap_alloc_new w1 (.cells #[.string nm,iv kd,iv fg,iv ps,iv dz,iv da] 72)
 clear KF c00 c01 hl0 hb1
 generalize w1.alloc (.cells #[.string nm,iv kd,iv fg,iv ps,iv dz,iv da] 72)=X at *
 generalize w1.heap.size=dn at *
 have HX:Hid (Below w.heap.size w X):=HA.out.trans (hX.mono HA.out.size)
 have y1:=blk hX q1
 have l0:=cellC y1 0 rfl
 have l1:=cellC y1 1 rfl
 have l2:=cellC y1 2 rfl
 have ll:=lt1 y1
 have d1:=cellC xd 1 rfl
 have d2:=cellC xd 2 rfl
 have d3:=cellC xd 3 rfl
 have dl:=lt1 xd
 obtain⟨iF,iN,iC⟩:=HI.out X HX.out
 have HIN:Hid (StrsAt X (sv xn l.names.length yn) l.names):=iN
 clear q0 q1 y1 xd hX HI iN
 by_cases her:er=0
 ·have hn0:(er !=0)=false:=by simpa using her
  by_cases hkd:kd=3
  ·obtain⟨i1,i2,i3⟩:=HCm.out her hkd
   obtain⟨v,hv⟩:∃v,l.coms.getD (M.halve l.names s) 0=v:=⟨_,rfl⟩
   rw[hv] at i3
   have hn3:(kd==3)=true:=by simpa using hkd
   obtain⟨bc,oc,e,hcc,hbc⟩:=IntsAt.cell iC _ i2
   subst e
   rw[hv] at hcc
   clear hv
   have KI:Hid (∀V,Below X.heap.size X V→Calls Tryz.prog 71 #[sv xn l.names.length yn,.string s] V fun e w'=>e=.returned (iv (M.halve l.names s:Nat))∧w'=V):=fun V hV=>by
    have:=indexS_any l.names s xn yn V (HIN.out.later hV)
    rwa [i1] at this
   have hil:((M.halve l.names s:Nat):Int)<(l.coms.length:Int):=by omega
   obtain rfl:R=(v,0):=i3
   clear i1 i2 HCm HFr HE her hkd iF iC
   generalize M.halve l.names s=h at *
   go_wp2_with fail
   refine wp_region_lat (by kernel_rfl) (by kernel_rfl) ?_
   intro hne
   repeat (go_big_quiet_step ((go_at_call 71;exact lat_of_same (KI.out _ (Lat.below _)))))
   refine wpQuiet_nil ?_
   intro w2 hb2
   have hb3:=lat_out hb2
   clear hb2
   go_wp2
   go_ret2
   exact⟨rfl,HX.out.trans (hb3.mono HX.out.size)⟩
  ·obtain⟨g0,g1,g2,g3,g4⟩:=HFr.out her hkd
   have hn3:(kd==3)=false:=by simpa using hkd
   obtain⟨F,rfl⟩:∃F:Nat,fg=F:=⟨fg.toNat,by omega⟩
   simp only[Int.toNat_natCast] at g4
   obtain⟨v,hv⟩:∃v,l.frags.getD F 0=v:=⟨_,rfl⟩
   rw[hv] at g4
   have hFl:F<l.frags.length:=by omega
   obtain⟨bf,of_,e,hcf,hbf⟩:=IntsAt.cell iF F hFl
   subst e
   have hb:=HBd.out _ (getD_mem l.frags 0 F hFl)
   rw[hv] at hcf hb
   clear hv
   obtain rfl:R=(v+ps,0):=g4
   have hFl':(F:Int)<(l.frags.length:Int):=by omega
   clear HCm HFr HE her hkd iF iC
   have hwr:IntKind.i64.wrap (v+ps)=v+ps:=by rw[IntKind.wrap_i64];omega
   go_wp2_with fail
   refine wp_region_lat (by kernel_rfl) (by kernel_rfl) ?_
   intro hne
   repeat (go_big_quiet_step (fail))
   refine wpQuiet_nil ?_
   intro w2 hb2
   have hb3:=lat_out hb2
   clear hb2
   go_wp2
   go_ret2
   exact⟨rfl,HX.out.trans (hb3.mono HX.out.size)⟩
 ·obtain rfl:R=(0,er):=HE.out her
  have hn0:(er !=0)=true:=by simpa using her
  clear HCm HFr HE iF iC
  go_wp2
  go_ret2
  exact⟨rfl,HX.out⟩
end Go.Proofs.YtpkfmfhodbjckaaGreatDoor
namespace Go.Proofs.YtpkfmfhodbjckaaGreatDoor
open Go Go.RowKit Go.Maps
theorem rfaults_any(p:M.Prt)(a1 a2:Option Addr)(c1 c2:Nat)(w:World)(hf:FragsAt w (sv a1 p.frags.length c1) p.frags)(hd:DefsAt w (sv a2 p.defs.length c2) p.defs)(hok:M.Ok p) :
  Calls Tryz.prog 31 #[.agg #[sv a1 p.frags.length c1,sv a2 p.defs.length c2]] w fun e w'=>Below w.heap.size w w'∧∃v,e=.returned v∧w'.ownsRow w.heap.size 49 4 v (M.faults p).length ((M.faults p).flatMap encFlt):=by
 have hmm:=@run_makeMap Tryz.prog
 have HW:Hid (M.faults p=(M.rising (M.rising (M.wantedNames p.frags)++M.rising (M.definedNames p.defs))).filterMap (M.faultAt p.defs)):=rfl
 obtain⟨i0,hi,hz0,hz1,hz2⟩:=info_parts (P:=Tryz.prog) (e:=9) (z:=.string ⟨#[]⟩) (size:=1) (bytes:=16) (by kernel_rfl)
 obtain⟨i1,hi1,hy0,hy1,hy2⟩:=info_parts (P:=Tryz.prog) (e:=49) (z:=.agg #[iv 0,.string ⟨#[]⟩,iv 0,iv 0]) (size:=4) (bytes:=40) (by kernel_rfl)
 have hn:=hok.nf
 have hnd:=hok.nd
 have h8:=ok_rels hok
 have HB0:Hid (Below w.heap.size w ((w.alloc (.cells #[sv a1 p.frags.length c1,sv a2 p.defs.length c2] 43)).alloc (.map #[] 0))):=(bra _ _).alloc (by simp) _
 have HO0:Hid (((w.alloc (.cells #[sv a1 p.frags.length c1,sv a2 p.defs.length c2] 43)).alloc (.map #[] 0)).ownsMap (H:=Unit) Tryz.prog 9 (plainElem Tryz.prog 4) (w.heap.size+1) 0 (.map [])):=by
  have:=World.ownsMap_made (H:=Unit) (w.alloc (.cells #[sv a1 p.frags.length c1,sv a2 p.defs.length c2] 43)) Tryz.prog 9 (plainElem Tryz.prog 4)
  rwa [World.size_alloc] at this
 have q0:((w.alloc (.cells #[sv a1 p.frags.length c1,sv a2 p.defs.length c2] 43)).alloc (.map #[] 0)).heap[w.heap.size]?=some (.cells #[sv a1 p.frags.length c1,sv a2 p.defs.length c2] 43 (0,0)):=heap_alloc2_old _ _ _
 go_enter Tryz.func31,Tryz.ntmps31
 go_upto_region 2 with fail
 clear hmm
 generalize (w.alloc (.cells #[sv a1 p.frags.length c1,sv a2 p.defs.length c2] 43)).alloc (.map #[] 0)=X at *
 have hl0:=lt1 q0
 have hm0:w.heap.size+1<X.heap.size:=HO0.out.lt
 have HS:Hid (∀W,Below X.heap.size X W→(W.cell? (qa w.heap.size 0)=some (sv a1 p.frags.length c1)∧W.cell? (qa w.heap.size 1)=some (sv a2 p.defs.length c2))):=fun W hW=>by
  have y:=(hW.block _ hl0).trans q0
  exact⟨cellB y 0,cellB y 1⟩
 have KF:Hid (∀s W,Below w.heap.size w W→Calls Tryz.prog 70 #[.agg #[sv a1 p.frags.length c1,sv a2 p.defs.length c2],.string s] W fun e w'=>e=.returned (.tuple #[.agg (dfnArr (M.find p.defs s).1),iv (M.find p.defs s).2])∧Below W.heap.size W w'):=fun s W hW=>rfound_any p.defs s a1 a2 _ c1 c2 W (hd.later hW) hnd hok.plain
 have KW:Hid (∀W,Below X.heap.size X W→Calls Tryz.prog 26 #[.agg #[sv a1 p.frags.length c1,sv a2 p.defs.length c2]] W fun e w'=>Below W.heap.size W w'∧∃v,e=.returned v∧w'.ownsRow X.heap.size 9 1 v (M.rising (M.wantedNames p.frags)).length ((M.rising (M.wantedNames p.frags)).map Value.string)∧(∀s∈M.rising (M.wantedNames p.frags),s.size≤maxLen)∧(M.rising (M.wantedNames p.frags)).length≤480):=fun W hW =>
  (wantedBy_any p.frags a1 a2 _ c1 c2 W ((hf.later HB0.out).later hW) hn h8 _ rfl).mono fun e w' ⟨h1,x,y,B,h2,h3,h4,h5,h6⟩=>⟨h1,_,h2,row_base h3 (Nat.le_trans hW.size h4),h5,h6⟩
 have KD:Hid (∀W,Below X.heap.size X W→Calls Tryz.prog 27 #[.agg #[sv a1 p.frags.length c1,sv a2 p.defs.length c2]] W fun e w'=>Below W.heap.size W w'∧∃v,e=.returned v∧w'.ownsRow X.heap.size 9 1 v (M.rising (M.definedNames p.defs)).length ((M.rising (M.definedNames p.defs)).map Value.string)∧(∀s∈M.rising (M.definedNames p.defs),s.size≤maxLen)∧(M.rising (M.definedNames p.defs)).length≤60):=fun W hW =>
  (definedBy_any p.defs a1 a2 _ c1 c2 W ((hd.later HB0.out).later hW) hnd _ rfl).mono fun e w' ⟨h1,x,y,B,h2,h3,h4,h5,h6⟩=>⟨h1,_,h2,row_base h3 (Nat.le_trans hW.size h4),h5,h6⟩
 have hA0:Below X.heap.size X X.drew:=(Below.refl _ _).drew
 clear hf hd h8 hok
 generalize M.rising (M.wantedNames p.frags)=LW at *
 generalize M.rising (M.definedNames p.defs)=LD at *
 go_region_held3 (fun w'=>w'.cell? (qa w.heap.size 0)=some (sv a1 p.frags.length c1)∧w'.cell? (qa w.heap.size 1)=some (sv a2 p.defs.length c2)) (first|exact HS.out _ hA0|exact HS.out _ hX3|exact HS.out _ hX2|exact HS.out _ hX1) (first|(go_at_call 26;refine(KW.out _ hA0).mono ?_;rintro e w1 ⟨hb1,v1,rfl,ho1,hs1,hn1⟩;have hX1:Below X.heap.size X w1:=hA0.trans (hb1.mono hA0.size);obtain⟨x1,y1,rfl⟩:=own_len ho1)|(go_at_call 27;refine(KD.out _ hX1).mono ?_;rintro e w2 ⟨hb2,v2,rfl,ho2,hs2,hn2⟩;have hX2:Below X.heap.size X w2:=hX1.trans (hb2.mono hX1.size);have ho1':=ho1.kept (grown_of_below hb2 none) own_self;obtain⟨x2,y2,rfl⟩:=own_len ho2)|(refine step_append_src (by rfl) _ _ _ (by rfl) X.heap.size 9 i0 (.string ⟨#[]⟩) 1 16 Tryz.underlying39 hi hz0 hz1 hz2 rfl (by decide) (sv x1 LW.length y1) LW.length (LW.map Value.string) (by rfl) ho1' (sv x2 LD.length y2) LD.length (LD.map Value.string) (by rfl) (row_src ho2) (by simp) (fun u hu=>by obtain⟨b,_,rfl⟩:=List.mem_map.1 hu;rfl) (by unfold maxLen;omega) (by omega) hX2.size ?_;intro v3 w3 ho3 hg3;have hX3:Below X.heap.size X w3:=grown_below hX2 hX2.size ho1' hg3;obtain⟨x3,y3,rfl⟩:=own_len ho3))
 have HB3:Hid (Below w.heap.size w w3):=HB0.out.trans (hX3.mono HB0.out.size)
 have q3:=(hX3.block _ hl0).trans q0
 have HO3:Hid (w3.ownsMap (H:=Unit) Tryz.prog 9 (plainElem Tryz.prog 4) (w.heap.size+1) 0 (.map [])):=HO0.out.kept (grown_of_below hX3 none) (by simp)
 have hoL:w3.ownsRow X.heap.size 9 1 (sv x3 (LW++LD).length y3) (LW++LD).length ((LW++LD).map Value.string):=by rw[List.length_append,List.map_append];exact ho3
 have HSz:Hid (∀s∈LW++LD,s.size≤maxLen):=fun s hs=>by
  rcases List.mem_append.1 hs with h|h
  ·exact hs1 s h
  ·exact hs2 s h
 have lL:(LW++LD).length≤540:=by rw[List.length_append];omega
 have e3:LW.length+LD.length=(LW++LD).length:=(List.length_append ..).symm
 have e4:(LW.length:Int)+(LD.length:Int)=((LW++LD).length:Int):=by rw[←e3];rfl
 rw[e4,e3]
 clear hX1 hX2 hX3 hg3 ho1 ho1' ho2 ho3 hb1 hb2 hs1 hs2 hn1 hn2 KW KD HS hA0 q0 HB0 HO0 e3 e4
 generalize LW++LD=L0 at *
 go_wp2_with fail
 go_loopw [18] (fun s18 wr=>∃(k:Nat) (D:DataW Unit),k≤L0.length∧s18=.int .i64 k∧Hid (SetOf D (L0.take k))∧Hid (wr.ownsMap Tryz.prog 9 (plainElem Tryz.prog 4) (w.heap.size+1) k D)∧Hid (Below w.heap.size w wr)∧wr.heap[w.heap.size]?=some (.cells #[.slice a1 p.frags.length c1,.slice a2 p.defs.length c2] 43 (0,0))∧wr.ownsRow X.heap.size 9 1 (.slice x3 L0.length y3) L0.length (L0.map Value.string)) (fun s18 _=>L0.length-(intOf s18).toNat)
 case atStart=>exact⟨0,.map [],Nat.zero_le _,rfl,SetOf.nil,HO3,HB3,q3,hoL⟩
 case round =>
  obtain⟨k,D,hk,rfl,HT,HO,HB,q1,hoS⟩:=hrel
  clear q3 hoL HO3 HB3
  have hw0:w.heap.size≤wr.heap.size:=HB.out.size
  have hml:w.heap.size+1<wr.heap.size:=HO.out.lt
  by_cases hlt:k<L0.length
  ·obtain⟨b,off,rfl,e0,hbr⟩:=(row_strs hoS HSz.out).cell k hlt
   have hkl:(k:Int)<(L0.length:Int):=by omega
   have hnm:(L0.getD k str0).size≤maxLen:=HSz.out _ (getD_mem L0 str0 k hlt)
   have HT1:Hid (SetOf (D.put (.string (L0.getD k str0).data.toList) (.lit (.bool true))) (L0.take (k+1))):=by
    have:=HT.out.put (L0.getD k str0)
    rw[List.take_succ_eq_append_getElem hlt]
    rw[List.getD_eq_getElem?_getD,List.getElem?_eq_getElem hlt] at this ⊢
    exact this
   clear HT
   generalize L0.getD k str0=nm at *
   have hkey:keyOf Tryz.prog 9 (.string nm)=some (.string nm.data.toList):=WideMaps.keyOf_string_mk Tryz.underlying9 hnm
   have hown:=HO.out
   have HE:Hid (∀w1,wr.grownBy w1 (some (w.heap.size+1))→Below w.heap.size w w1∧w1.heap[w.heap.size]?=some (.cells #[sv a1 p.frags.length c1,sv a2 p.defs.length c2] 43 (0,0))∧w1.ownsRow X.heap.size 9 1 (sv (some (qa b off)) L0.length y3) L0.length (L0.map Value.string)):=fun w1 hg=>⟨HB.out.grown hg hw0 (fun j hj=>by have:=Option.some.inj hj;omega),(hg.block _ (by omega) (by intro e;have:=Option.some.inj e;omega)).trans q1,hoS.kept hg (row_map hoS HO.out)⟩
   clear HO HB
   go_wp2_with (first|(at_mapUpdate;refine wpList_mapUpdate_own _ rfl _ _ _ 66 rfl 9 4 keySR Tryz.underlying66 _ (w.heap.size+1) k _ rfl hown (by unfold maxLen;omega) _ _ _ rfl rfl hkey _ [] (plainElem_bool Tryz.underlying4 true) ?_;intro w1 hown1 hgrow1)|go_in)
   have HE':=HE.out _ hgrow1
   go_roundw
   case rel=>exact⟨k+1,_,by omega,by go_num,HT1,hown1,HE'.1,HE'.2.1,HE'.2.2⟩
   case measure=>simp[intOf];omega
  ·have hkl:k=L0.length:=by omega
   subst hkl
   have HT1:=HT.out
   rw[List.take_length] at HT1
   have HSz2:Hid (∀s∈M.rising L0,s.size≤maxLen):=rising_size HSz.out
   have lL2:(M.rising L0).length≤540:=Nat.le_trans (rising_le L0) lL
   have KS:Hid (Calls Tryz.prog 64 #[.map (some (w.heap.size+1))] wr _):=set_g HO.out (by omega) HT1 (M.rising L0) rfl
   have HLW:Hid (M.faults p=(M.rising L0).filterMap (M.faultAt p.defs)):=HW.out
   clear HT1 HT HO HW HSz hoS
   generalize M.rising L0=L at *
   go_wp2_with (go_at_call 64;refine KS.out.mono ?_;rintro e w4 ⟨hb4,x4,y4,rfl,ho4,hz4,hln4⟩)
   have HB4:Hid (Below w.heap.size w w4):=HB.out.trans (hb4.mono hw0)
   have q4:=(hb4.block _ (by omega)).trans q1
   have hoL:=row_base ho4 hw0
   clear KS HB q1 ho4 hb4 hml hw0 hz4 hln4 lL
   obtain⟨WA,hWA⟩:∃WA,WA=wr:=⟨_,rfl⟩
   subst hWA
   go_loopw [6,28] (fun s6 s28 wr=>∃(k:Nat) (fl:List (Int × ByteArray)),k≤L.length∧s28=iv k∧Hid (fl=(L.take k).filterMap (M.faultAt p.defs))∧fl.length≤k∧wr.heap[w.heap.size]?=some (.cells #[sv a1 p.frags.length c1,sv a2 p.defs.length c2] 43 (0,0))∧wr.ownsRow w.heap.size 9 1 (sv x4 L.length y4) L.length (L.map Value.string)∧wr.ownsRow w.heap.size 49 4 s6 fl.length (fl.flatMap encFlt)∧Hid (Below w.heap.size w wr)) (fun _ s28 _=>L.length-(intOf s28).toNat)
   case atStart=>exact⟨0,[],Nat.zero_le _,rfl,rfl,Nat.le_refl _,q4,hoL,World.ownsRow_nil _ _ _ _,HB4.out⟩
   case round =>
    obtain⟨k,fl,hk,rfl,HL,hlk,q1,hoS,hown,HB⟩:=hrel
    clear q4 hoL HB4
    have hw0:w.heap.size≤wr.heap.size:=HB.out.size
    have hl1:=lt1 q1
    by_cases hlt:k<L.length
    ·obtain⟨b,off,rfl,e0,hbr⟩:=(row_strs hoS HSz2.out).cell k hlt
     have HL1:=faults_take p.defs L k hlt
     rw[←HL.out] at HL1
     have hkl:(k:Int)<(L.length:Int):=by omega
     have cp0:=cellC q1 0 rfl
     have cp:=cellC q1 1 rfl
     have KF':Hid (Calls Tryz.prog 70 #[.agg #[sv a1 p.frags.length c1,sv a2 p.defs.length c2],.string (L.getD k str0)] wr fun e w'=>e=.returned (.tuple #[.agg (dfnArr (M.find p.defs (L.getD k str0)).1),iv (M.find p.defs (L.getD k str0)).2])∧Below wr.heap.size wr w'):=KF.out _ wr HB.out
     unfold M.faultAt at HL1
     clear HL
     generalize L.getD k str0=s at *
     generalize M.find p.defs s=fr at *
     obtain⟨⟨nm,kd,fg,pos,sz,al⟩,er⟩:=fr
     simp only[dfnArr] at KF' HL1
     obtain⟨a5,n5,c5,rfl⟩:=own_form hown
     go_upto_region 12 with (go_at_call 70;refine KF'.out.mono ?_;rintro e w5 ⟨rfl,hb5⟩)
     have HBY:Hid (Below wr.heap.size wr (w5.alloc (.cells #[.string nm,iv kd,iv fg,iv pos,iv sz,iv al] 72))):=hb5.alloc hb5.size _
     clear KF' hb5 e0 cp cp0
     generalize w5.alloc (.cells #[.string nm,iv kd,iv fg,iv pos,iv sz,iv al] 72)=Y at *
     generalize w5.heap.size=n8 at *
     have y1:=(HBY.out.block _ hl1).trans q1
     have hoY:=hoS.kept (grown_of_below HBY.out none) own_self
     have hownY:=hown.kept (grown_of_below HBY.out none) own_self
     have HB5:Hid (Below w.heap.size w Y):=HB.out.trans (HBY.out.mono hw0)
     have hwY:w.heap.size≤Y.heap.size:=HB5.out.size
     clear HBY HB q1 hoS hown
     by_cases her:er=0
     ·rw[if_pos her] at HL1
      subst her
      have HL2:Hid (fl=(L.take (k+1)).filterMap fun s=>if (M.find p.defs s).2=0 then none else some ((M.find p.defs s).2,s)):=by rw[Hid,HL1];simp
      clear HL1
      go_wp2
      go_roundw
      case rel=>exact⟨k+1,fl,by omega,by go_num,HL2,by omega,y1,hoY,hownY,HB5⟩
      case measure=>simp[intOf];omega
     ·rw[if_neg her] at HL1
      have hne:(er !=0)=true:=by simpa using her
      have HL2:Hid (fl++[(er,s)]=(L.take (k+1)).filterMap fun s=>if (M.find p.defs s).2=0 then none else some ((M.find p.defs s).2,s)):=by rw[Hid,HL1];simp
      clear HL1 her
      have hnews:∀j u,(#[iv er,.string s,iv 0,iv 0]:Array Value).toList[j]?=some u→(Y.alloc (.cells #[iv er,.string s,iv 0,iv 0] 49)).cell? ((qa Y.heap.size 0).add j)=some u:=World.news_of_block (heap_alloc_new Y _)
      have HE:Hid (∀v' w3,(Y.alloc (.cells #[iv er,.string s,iv 0,iv 0] 49)).grownBy w3 (sv a5 n5 c5).ownBlock→w3.ownsRow w.heap.size 49 4 v' (fl.length+1) (fl.flatMap encFlt++(#[iv er,.string s,iv 0,iv 0]:Array Value).toList) →
        w3.heap[w.heap.size]?=some (.cells #[sv a1 p.frags.length c1,sv a2 p.defs.length c2] 43 (0,0))∧w3.ownsRow w.heap.size 9 1 (sv (some (qa b off)) L.length y4) L.length (L.map Value.string)∧w3.ownsRow w.heap.size 49 4 v' (fl++[(er,s)]).length ((fl++[(er,s)]).flatMap encFlt)∧Below w.heap.size w w3):=fun v' w3 hg ho =>
       ⟨block_kept (hownY.alloc _) hg ((heap_alloc_old _ _ (lt1 y1)).trans y1) (by decide),(hoY.alloc _).kept hg (own_apart hoY hownY (by decide)),by rw[List.length_append,List.flatMap_append];exact ho,(HB5.out.alloc hwY _).grown hg (by simp;omega) (fun k hk=>(hownY.lt k hk).1)⟩
      clear y1 hoY HB5
      go_wp2_with (at_builtin;refine wpList_append_own _ rfl _ _ 26 rfl w.heap.size 49 i1 (.agg #[iv 0,.string ⟨#[]⟩,iv 0,iv 0]) 4 40 Tryz.underlying26 hi1 hy0 hy1 hy2 rfl (by decide) _ _ _ rfl (hownY.alloc _) ⟨Y.heap.size,0,none⟩ 1 1 (#[iv er,.string s,iv 0,iv 0]:Array Value).toList rfl rfl hnews (fun u hu=>by simp at hu;rcases hu with rfl|rfl|rfl|rfl<;>rfl) (by unfold maxLen;omega) (by omega) (by simp;omega) ?_;intro v' w3 hown' hgrow3 hnil3)
      have HE':=HE.out _ _ hgrow3 hown'
      go_roundw
      case rel=>exact⟨k+1,fl++[(er,s)],by omega,by go_num,HL2,by simp;omega,HE'.1,HE'.2.1,HE'.2.2.1,HE'.2.2.2⟩
      case measure=>simp[intOf];omega
    ·have hkl:k=L.length:=by omega
     have HL2:Hid (fl=M.faults p):=by rw[Hid,HLW.out,HL.out,hkl,List.take_length]
     clear HL
     subst hkl
     obtain⟨a5,n5,c5,rfl⟩:=own_form hown
     go_wp2
     go_ret
     exact⟨HB.out,_,rfl,by rw[←HL2.out];exact hown⟩
end Go.Proofs.YtpkfmfhodbjckaaGreatDoor
