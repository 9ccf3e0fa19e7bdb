/-
  Plain mathematics: what a part that was checked says of its places. The contracts of link.target and of the function that link.numbering makes.
-/
import Derived.Test.YtpkfmfhodbjckaaGreatDoorLkWs
import Derived.Test.YtpkfmfhodbjckaaGreatDoorFlX
set_option linter.unusedVariables false
set_option maxHeartbeats 8000000
set_option maxRecDepth 100000
namespace Go.Proofs.YtpkfmfhodbjckaaGreatDoor.M
open Go
structure RelOk (n len:Int) (r:Rel):Prop where
 pos0:0≤r.pos
 pos:r.pos+wide r.kind≤len
 kind:known r.kind=true
 add:-10000≤r.add∧r.add≤10000
 lead:target r n=0
theorem wide_known{k:Int}(h:(wide k==0)=false):known k=true:=by
 unfold known
 unfold wide at h ⊢
 split
 ·rfl
 ·split
  ·rfl
  ·rename_i h1 h2;rw[if_neg h1,if_neg h2] at h;cases h
theorem rels_ok(len many:Int):∀(rs:List Rel) (e:Int),0≤e→checkRels len many e rs=0→∀r∈rs,RelOk many len r∧e≤r.pos
 | [],_,_,_,r,hr=>by cases hr
 | x::rs,e,he,h,r,hr=>by
  unfold checkRels at h
  split at h
  ·rename_i hp
   split at h
   ·rename_i ht
    unfold placed within at hp
    simp only[Bool.and_eq_true,decide_eq_true_eq,Bool.not_eq_true'] at hp
    have hw:0≤wide x.kind:=by unfold wide;split;decide;split<;>decide
    have ok:RelOk many len x:=⟨by omega,by omega,wide_known hp.1.1,hp.2,ht⟩
    rcases List.mem_cons.1 hr with rfl|hr
    ·exact⟨ok,by omega⟩
    ·have:=rels_ok len many rs (x.pos+wide x.kind) (by omega) h r hr
     exact⟨this.1,by omega⟩
   ·rename_i ht;exact absurd h ht
  ·cases h
theorem frag_ok{p:Prt}(h:Ok p){f:Frg}(hf:f∈p.frags):checkFrag f p.frags.length=0:=(checkFrag_ok f _).2 ⟨h.shape f hf,h.fits f hf⟩
theorem frag_parts{f:Frg}{n:Int}(h:checkFrag f n=0):(1≤f.sect∧f.sect≤5)∧f.bytes.length≤64∧f.rels.length≤8∧formed f=true∧checkRels f.bytes.length n 0 f.rels=0:=by
 unfold checkFrag at h
 split at h
 ·cases h
 rename_i h1
 split at h
 ·cases h
 split at h
 ·cases h
 rename_i h3
 split at h
 ·cases h
 rename_i h4
 simp only[Bool.or_eq_true,Bool.not_eq_true',not_or,Bool.not_eq_false] at h1
 have hs:1≤f.sect∧f.sect≤5:=by simpa [within] using h1.1
 exact⟨hs,by omega,by omega,(Bool.not_eq_false _).mp h4,h⟩
theorem rel_ok{p:Prt}(h:Ok p){f:Frg}(hf:f∈p.frags){r:Rel}(hr:r∈f.rels):RelOk p.frags.length f.bytes.length r∧f.bytes.length≤64 :=
 have hp:=frag_parts (frag_ok h hf)
 ⟨(rels_ok _ _ _ 0 (Int.le_refl _) hp.2.2.2.2 r hr).1,hp.2.1⟩
theorem RelOk.frag{n len:Int}{r:Rel}(h:RelOk n len r)(hb:r.name.toList.isEmpty=true):-1≤r.frag∧r.frag<n:=by
 have:=h.lead
 unfold target at this
 rw[if_pos hb] at this
 split at this
 ·rename_i h1
  unfold within at h1
  simp only[Bool.and_eq_true,decide_eq_true_eq] at h1
  omega
 ·cases this
theorem RelOk.named{n len:Int}{r:Rel}(h:RelOk n len r)(hb:r.name.toList.isEmpty=false):isName r.name=true:=by
 have:=h.lead
 unfold target at this
 rw[if_neg (by rw[hb];decide)] at this
 split at this
 ·rename_i h1
  simp only[Bool.and_eq_true] at h1
  exact h1.1
 ·cases this
structure LkOk (p:Prt) (l:Lay):Prop where
 ck:checkPart p=0
 len:l.frags.length=p.frags.length
 bd:∀x∈l.frags,0≤x∧x≤65536
 nn:l.names.length≤1000
end Go.Proofs.YtpkfmfhodbjckaaGreatDoor.M
namespace Go.Proofs.YtpkfmfhodbjckaaGreatDoor
open Go Go.RowKit
attribute [local go_sem] lat_cell
theorem leads_named{p:M.Prt}{l:M.Lay}{r:M.Rel}(h:r.name.toList.isEmpty=false):M.leads p l r=M.whereIn (M.find p.defs r.name).1 (M.find p.defs r.name).2 l.frags l.names l.coms r.name:=by
 unfold M.leads;rw[if_neg (by rw[h];decide)];rfl
theorem leads_dead{p:M.Prt}{l:M.Lay}{r:M.Rel}(h:r.name.toList.isEmpty=true)(hd:r.frag<0):M.leads p l r=(0,8):=by
 unfold M.leads;rw[if_pos h,if_pos hd]
theorem leads_frag{p:M.Prt}{l:M.Lay}{r:M.Rel}(h:r.name.toList.isEmpty=true)(hd:¬r.frag<0):M.leads p l r=(l.frags.getD r.frag.toNat 0,0):=by
 unfold M.leads;rw[if_pos h,if_neg hd]
theorem leads_any(p:M.Prt)(l:M.Lay)(r:M.Rel)(a1 a2:Option Addr)(c1 c2:Nat)(xf xn xc:Option Addr)(yf yn yc:Nat)(m0 m1 m2 m3 m4 m5 m6 m7 m8 m9 m10 m11:Value)(w:World)
  (hf:FragsAt w (sv a1 p.frags.length c1) p.frags) (hd:DefsAt w (sv a2 p.defs.length c2) p.defs) (hl:LayAt w (sv xf l.frags.length yf) (sv xn l.names.length yn) (sv xc l.coms.length yc) l) (ho:M.LkOk p l)
  (hr:r.name.toList.isEmpty=true→r.frag<p.frags.length) :
  Calls Tryz.prog 84 #[.agg #[sv a1 p.frags.length c1,sv a2 p.defs.length c2],.agg #[sv xf l.frags.length yf,sv xn l.names.length yn,sv xc l.coms.length yc,m0,m1,m2,m3,m4,m5,m6,m7,m8,m9,m10,m11],.agg #[iv r.pos,iv r.kind,.string r.name,iv r.frag,iv r.add]] w
   fun e w'=>e=.returned (.tuple #[iv (M.leads p l r).1,iv (M.leads p l r).2])∧Below w.heap.size w w':=by
 have KW:Hid (∀W,Below w.heap.size w W→Calls Tryz.prog 88 #[.agg #[sv a1 p.frags.length c1,sv a2 p.defs.length c2],.agg #[sv xf l.frags.length yf,sv xn l.names.length yn,sv xc l.coms.length yc,m0,m1,m2,m3,m4,m5,m6,m7,m8,m9,m10,m11],.string r.name] W fun e w'=>e=.returned (.tuple #[iv (M.whereIn (M.find p.defs r.name).1 (M.find p.defs r.name).2 l.frags l.names l.coms r.name).1,iv (M.whereIn (M.find p.defs r.name).1 (M.find p.defs r.name).2 l.frags l.names l.coms r.name).2])∧Below W.heap.size W w'):=fun W hW =>
  where_any p l.frags l.names l.coms r.name a1 a2 c1 c2 xf xn xc yf yn yc m0 m1 m2 m3 m4 m5 m6 m7 m8 m9 m10 m11 W (hf.later hW) (hd.later hW) (hl.frags.later hW) (hl.names.later hW) (hl.coms.later hW) ho.ck ho.len ho.bd ho.nn
 have HI:Hid (∀W,Below w.heap.size w W→IntsAt W (sv xf l.frags.length yf) l.frags):=fun W hW=>hl.frags.later hW
 have HN:Hid (r.name.toList.isEmpty=false→_):=@leads_named p l r
 have HD:Hid (r.name.toList.isEmpty=true→_):=@leads_dead p l r
 have HG:Hid (r.name.toList.isEmpty=true→_):=@leads_frag p l r
 have HLen:Hid (l.frags.length=p.frags.length):=ho.len
 have hfl:p.frags.length≤60:=((M.ok_iff p).1 ho.ck).nf
 have hsl:(Tryz.prog.info? 76).map (·.size)=some (#[sv xf l.frags.length yf,sv xn l.names.length yn,sv xc l.coms.length yc,m0,m1,m2,m3,m4,m5,m6,m7,m8,m9,m10,m11]:Array Value).size:=by kernel_rfl
 obtain⟨W,HW⟩:∃W,Hid (W=((w.alloc (.cells #[sv a1 p.frags.length c1,sv a2 p.defs.length c2] 43)).alloc (.cells #[sv xf l.frags.length yf,sv xn l.names.length yn,sv xc l.coms.length yc,m0,m1,m2,m3,m4,m5,m6,m7,m8,m9,m10,m11] 76)).alloc (.cells #[iv r.pos,iv r.kind,.string r.name,iv r.frag,iv r.add] 89)):=⟨_,rfl⟩
 have hA:Below w.heap.size w W:=by rw[HW.out];exact((bra _ _).alloc (by simp) _).alloc (by simp;omega) _
 have q2:W.heap[w.heap.size+1+1]?=some (.cells #[iv r.pos,iv r.kind,.string r.name,iv r.frag,iv r.add] 89 (0,0)):=by
  rw[HW.out]
  have:=heap_alloc_new ((w.alloc (.cells #[sv a1 p.frags.length c1,sv a2 p.defs.length c2] 43)).alloc (.cells #[sv xf l.frags.length yf,sv xn l.names.length yn,sv xc l.coms.length yc,m0,m1,m2,m3,m4,m5,m6,m7,m8,m9,m10,m11] 76)) (.cells #[iv r.pos,iv r.kind,.string r.name,iv r.frag,iv r.add] 89)
  simpa using this
 have q1:W.heap[w.heap.size+1]?=some (.cells #[sv xf l.frags.length yf,sv xn l.names.length yn,sv xc l.coms.length yc,m0,m1,m2,m3,m4,m5,m6,m7,m8,m9,m10,m11] 76 (0,0)):=by
  rw[HW.out]
  exact(heap_alloc_old _ _ (by simp)).trans (heap_alloc2_new _ _ _)
 have q0:W.heap[w.heap.size]?=some (.cells #[sv a1 p.frags.length c1,sv a2 p.defs.length c2] 43 (0,0)):=by
  rw[HW.out]
  exact(heap_alloc_old _ _ (by simp;omega)).trans (heap_alloc2_old _ _ _)
 clear hf hd hl ho
 generalize M.leads p l r=R at *
 obtain⟨ps,kd,nm,fg,ad⟩:=r
 simp only at KW HN HD HG hr q2 HW ⊢
 go_enter Tryz.func84,Tryz.ntmps84
 go_upto_region 1 with fail
 rw[←HW.out]
 clear HW
 have c00:=cellC q0 0 rfl
 have c01:=cellC q0 1 rfl
 have c10:=cellC q1 0 rfl
 have c22:=cellC q2 2 rfl
 have c23:=cellC q2 3 rfl
 have hl2:=lt1 q2
 clear q0 q2
 cases hb:nm.toList.isEmpty
 ·obtain rfl:R=_:=HN.out hb
  have KW':Hid (Calls Tryz.prog 88 #[.agg #[sv a1 p.frags.length c1,sv a2 p.defs.length c2],.agg #[sv xf l.frags.length yf,sv xn l.names.length yn,sv xc l.coms.length yc,m0,m1,m2,m3,m4,m5,m6,m7,m8,m9,m10,m11],.string nm] W _):=KW.out W hA
  clear HN HD HG HI hr KW
  go_wp2_with (first|(refine wpList_load_row rfl 76 _ rfl (w.heap.size+1) rfl 76 #[sv xf l.frags.length yf,sv xn l.names.length yn,sv xc l.coms.length yc,m0,m1,m2,m3,m4,m5,m6,m7,m8,m9,m10,m11] (0,0) _ q1 Tryz.underlying76 rfl hsl ?_)|(go_at_call 88;refine KW'.out.mono ?_;rintro e w2 ⟨rfl,hb2⟩))
  go_ret2
  exact⟨rfl,hA.trans (hb2.mono hA.size)⟩
 ·by_cases hg:fg<0
  ·obtain rfl:R=(0,8):=HD.out hb hg
   clear HN HD HG HI hr KW
   go_wp2
   go_ret2
   exact⟨rfl,hA⟩
  ·obtain⟨x,HXx⟩:∃x,Hid (l.frags.getD fg.toNat 0=x):=⟨_,rfl⟩
   obtain rfl:R=(x,0):=by rw[←HXx.out];exact HG.out hb hg
   have hr':fg.toNat<l.frags.length:=by have h1:=hr hb;have h2:=HLen.out;omega
   obtain⟨b,off,rfl,hcc,hbb⟩:=IntsAt.cell (HI.out W hA) fg.toNat hr'
   rw[HXx.out] at hcc
   clear HN HD HG HI hr KW HXx
   obtain⟨g,rfl⟩:∃g:Nat,fg=(g:Int):=⟨fg.toNat,by omega⟩
   simp only[Int.toNat_natCast] at hcc
   have hgl:(g:Int)<(l.frags.length:Int):=by have h2:=hr';simp only[Int.toNat_natCast] at h2;omega
   clear hr'
   go_wp2
   go_ret2
   exact⟨rfl,hA⟩
structure NumAt (w:World) (bp bl:Nat) (p:M.Prt) (l:M.Lay):Prop where
 ok:M.LkOk p l
 hold:∃a1 c1 a2 c2 xf yf xn yn xc yc,w.heap[bp]?=some (.cells #[sv a1 p.frags.length c1,sv a2 p.defs.length c2] 43 (0,0)) ∧
  w.heap[bl]?=some (.cells (layArr (sv xf l.frags.length yf) (sv xn l.names.length yn) (sv xc l.coms.length yc) l.fr l.ti) 76 (0,0)) ∧
  FragsAt w (sv a1 p.frags.length c1) p.frags∧DefsAt w (sv a2 p.defs.length c2) p.defs∧LayAt w (sv xf l.frags.length yf) (sv xn l.names.length yn) (sv xc l.coms.length yc) l
theorem NumAt.later{w w':World}{bp bl:Nat}{p:M.Prt}{l:M.Lay}(h:NumAt w bp bl p l)(hb:Below w.heap.size w w'):NumAt w' bp bl p l :=
 let ⟨ok,a1,c1,a2,c2,xf,yf,xn,yn,xc,yc,h1,h2,h3,h4,h5⟩:=h
 ⟨ok,a1,c1,a2,c2,xf,yf,xn,yn,xc,yc,blk hb h1,blk hb h2,h3.later hb,h4.later hb,h5.later hb⟩
theorem number_err{p:M.Prt}{l:M.Lay}{i:Nat}{r:M.Rel}(h:(M.leads p l r).2≠0):M.number p l i r=(0,(M.leads p l r).2):=if_neg h
theorem number_ok{p:M.Prt}{l:M.Lay}{i:Nat}{r:M.Rel}(h:(M.leads p l r).2=0):M.number p l i r=M.value r.kind (l.frags.getD i 0+r.pos) (M.leads p l r).1 r.add:=if_pos h
theorem number_any(p:M.Prt)(l:M.Lay)(i:Nat)(r:M.Rel)(bp bl:Nat)(w:World)(h:NumAt w bp bl p l)(hi:i<p.frags.length)(hr:r.name.toList.isEmpty=true→r.frag<p.frags.length)(hp0:0≤r.pos)(hp:r.pos≤64) :
  Calls Tryz.prog 83 #[iv i,.agg #[iv r.pos,iv r.kind,.string r.name,iv r.frag,iv r.add],qv bp 0,qv bl 0] w
   fun e w'=>e=.returned (.tuple #[iv (M.number p l i r).1,iv (M.number p l i r).2])∧Below w.heap.size w w':=by
 obtain⟨ok,a1,c1,a2,c2,xf,yf,xn,yn,xc,yc,h1,h2,h3,h4,h5⟩:=h
 have hA:Below w.heap.size w (w.alloc (.cells #[iv r.pos,iv r.kind,.string r.name,iv r.frag,iv r.add] 89)):=bra _ _
 have q1:=blk hA h1
 have q2:=blk hA h2
 have q3:=heap_alloc_new w (.cells #[iv r.pos,iv r.kind,.string r.name,iv r.frag,iv r.add] 89)
 have KT:Hid (Calls Tryz.prog 84 #[.agg #[sv a1 p.frags.length c1,sv a2 p.defs.length c2],.agg #[sv xf l.frags.length yf,sv xn l.names.length yn,sv xc l.coms.length yc,iv (l.fr 0),iv (l.fr 1),iv (l.fr 2),iv (l.fr 3),iv (l.fr 4),iv (l.fr 5),iv (l.ti 0),iv (l.ti 1),iv (l.ti 2),iv (l.ti 3),iv (l.ti 4),iv (l.ti 5)],.agg #[iv r.pos,iv r.kind,.string r.name,iv r.frag,iv r.add]] (w.alloc (.cells #[iv r.pos,iv r.kind,.string r.name,iv r.frag,iv r.add] 89)) _) :=
  leads_any p l r a1 a2 c1 c2 xf xn xc yf yn yc _ _ _ _ _ _ _ _ _ _ _ _ _ (h3.later hA) (h4.later hA) (h5.later hA) ok hr
 have HI:Hid (∀W,Below w.heap.size w W→IntsAt W (sv xf l.frags.length yf) l.frags):=fun W hW=>h5.frags.later hW
 have hil:i<l.frags.length:=by have h2:=ok.len;omega
 have hbd:=ok.bd _ (getD_mem l.frags 0 i hil)
 have HV:=fun W=>value_any r.kind (l.frags.getD i 0+r.pos) (M.leads p l r).1 r.add W
 have HV':Hid _:=HV
 have HE:Hid _:=@number_err p l i r
 have HO:Hid _:=@number_ok p l i r
 obtain⟨x,HXx⟩:∃x,Hid (l.frags.getD i 0=x):=⟨_,rfl⟩
 rw[HXx.out] at hbd HV' HO
 have hsl:(Tryz.prog.info? 76).map (·.size)=some (#[sv xf l.frags.length yf,sv xn l.names.length yn,sv xc l.coms.length yc,iv (l.fr 0),iv (l.fr 1),iv (l.fr 2),iv (l.fr 3),iv (l.fr 4),iv (l.fr 5),iv (l.ti 0),iv (l.ti 1),iv (l.ti 2),iv (l.ti 3),iv (l.ti 4),iv (l.ti 5)]:Array Value).size:=by kernel_rfl
 have hil':(i:Int)<(l.frags.length:Int):=by omega
 unfold layArr at q2
 clear h1 h2 h3 h4 h5 ok HV hr
 generalize M.number p l i r=R at *
 generalize M.leads p l r=V at *
 obtain⟨v,e⟩:=V
 obtain⟨ps,kd,nm,fg,ad⟩:=r
 simp only at KT HV' HE HO hp0 hp hA q1 q2 q3 ⊢
 have u0:=cellB q1 0
 have u1:=cellB q1 1
 go_enter Tryz.func83,Tryz.ntmps83
 go_upto_region 2 with (first|(refine wpList_load_row rfl 76 _ rfl bl rfl 76 #[sv xf l.frags.length yf,sv xn l.names.length yn,sv xc l.coms.length yc,iv (l.fr 0),iv (l.fr 1),iv (l.fr 2),iv (l.fr 3),iv (l.fr 4),iv (l.fr 5),iv (l.ti 0),iv (l.ti 1),iv (l.ti 2),iv (l.ti 3),iv (l.ti 4),iv (l.ti 5)] (0,0) _ q2 Tryz.underlying76 rfl hsl ?_)|(go_at_call 84;refine KT.out.mono ?_;rintro e' X ⟨rfl,hb1⟩))
 have hX:Below w.heap.size w X:=hA.trans (hb1.mono hA.size)
 have y2:=blk hb1 q2
 have y3:=blk hb1 q3
 have c0:=cellB y2 0
 have d0:=cellB y3 0
 have d1:=cellB y3 1
 have d4:=cellB y3 4
 have hl2:=lt1 y2
 have hl3:=lt1 y3
 clear q1 q2 q3 y2 y3 hb1 KT u0 u1 hA
 simp at c0 d0 d1 d4
 by_cases he:e=0
 ·subst he
  obtain⟨Z,HZ⟩:∃Z,Hid (M.value kd (x+ps) v ad=Z):=⟨_,rfl⟩
  obtain rfl:R=Z:=by rw[←HZ.out];exact HO.out rfl
  obtain⟨b,off,rfl,hcc,hbb⟩:=IntsAt.cell (HI.out X hX) i hil
  rw[HXx.out] at hcc
  clear HE HO HI HXx
  rw[HZ.out] at HV'
  have KV:Hid (∀W,Calls Tryz.prog 85 #[iv kd,iv (x+ps),iv v,iv ad] W fun e w'=>e=.returned (.tuple #[iv R.1,iv R.2])∧w'=W):=HV'.out
  clear HV' HZ
  go_wp2_with fail
  refine wp_region_lat (by kernel_rfl) (by kernel_rfl) ?_
  intro hne
  repeat (go_big_quiet_step ((go_at_call 85;exact lat_of_same (KV.out _))))
  refine wpQuiet_nil ?_
  intro w2 hb2
  have hb3:=lat_out hb2
  clear hb2
  go_wp2
  go_ret2
  exact⟨rfl,hX.trans (hb3.mono hX.size)⟩
 ·obtain rfl:R=(0,e):=HE.out he
  have he':(e !=0)=true:=by simpa using he
  clear HE HO HI HV' HXx
  go_wp2
  go_ret2
  exact⟨rfl,hX⟩
end Go.Proofs.YtpkfmfhodbjckaaGreatDoor
