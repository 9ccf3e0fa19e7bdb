/-
  The contracts of slices.Equal at bytes, of bytes.Equal, of obj.sameFrag. The contract of link.Same: are two images alike? The contracts of slices.EqualFunc at fragments, of obj.Same. A part of a row of parts: its cells; a part is like itself. The contract of the reference's SameImage.
-/
import Derived.Test.YtpkfmfhodbjckaaGreatDoorLdMM
import Derived.Test.YtpkfmfhodbjckaaGreatDoorPrB
set_option linter.unusedVariables false
set_option maxHeartbeats 4000000
set_option maxRecDepth 100000
namespace Go.Proofs.YtpkfmfhodbjckaaGreatDoor
open Go.RowKit Go.Shelf
theorem BytesAt.in{w:World}{xs:List Int}{a:Option Addr}{c:Nat}(h:BytesAt w (sv a xs.length c) xs):Lib.BytesIn w a xs.length xs:=fun hn=>by
 obtain⟨b,off,rfl,hc⟩:=h.1.all hn
 refine⟨b,off,rfl,fun i hi=>?_⟩
 have:=hc i 0 hi (by decide)
 rwa [Nat.mul_one,Nat.add_zero] at this
theorem bytesOf_eq:∀xs ys:List Int,(∀b∈xs,0≤b∧b<256)→(∀b∈ys,0≤b∧b<256)→(Lib.bytesOf xs==Lib.bytesOf ys)=M.allTwo (fun x y=>x==y) xs ys
 | [],[],_,_=>rfl
 | [],y::ys,_,_=>rfl
 | x::xs,[],_,_=>rfl
 | x::xs,y::ys,hx,hy=>by
  have ih:=bytesOf_eq xs ys (fun b hb=>hx b (List.mem_cons_of_mem _ hb)) (fun b hb=>hy b (List.mem_cons_of_mem _ hb))
  have h1:=hx x List.mem_cons_self
  have h2:=hy y List.mem_cons_self
  have e:(UInt8.ofNat x.toNat==UInt8.ofNat y.toNat)=(x==y):=by
   rw[Bool.eq_iff_iff]
   simp only[beq_iff_eq]
   constructor
   ·intro h
    have:=congrArg UInt8.toNat h
    simp at this
    omega
   ·intro h
    rw[h]
  show ((UInt8.ofNat x.toNat::Lib.bytesOf xs)==(UInt8.ofNat y.toNat::Lib.bytesOf ys))=_
  rw[List.cons_beq_cons,ih,e]
  rfl
theorem bytesEqual_any(xs ys:List Int)(a1 a2:Option Addr)(c d:Nat)(w:World)(h1:BytesAt w (sv a1 xs.length c) xs)(h2:BytesAt w (sv a2 ys.length d) ys) :
  Calls Tryz.prog 20 #[sv a1 xs.length c,sv a2 ys.length d] w fun e w'=>e=.returned (.bool (M.allTwo (fun x y=>x==y) xs ys))∧w'=w:=by
 rw[←bytesOf_eq xs ys h1.2 h2.2]
 exact Any.bytes_Equal_all Tryz.laysnb115 a1 a2 xs.length c ys.length d xs ys w rfl rfl h1.in h2.in
end Go.Proofs.YtpkfmfhodbjckaaGreatDoor
namespace Go.Proofs.YtpkfmfhodbjckaaGreatDoor
open Go Go.RowKit
theorem sameSeg_self(a:M.Seg):M.sameSeg a a=true:=by
 have h:∀l:List Int,M.allTwo (fun x y=>x==y) l l=true:=fun l=>by
  induction l with
  | nil=>rfl
  | cons x l ih=>show ((x==x)&&M.allTwo (fun x y=>x==y) l l)=true;rw[ih];simp
 unfold M.sameSeg
 rw[h]
 simp
theorem segsTwo_self:∀l:List M.Seg,M.allTwo M.sameSeg l l=true
 | []=>rfl
 | x::l=>by show (M.sameSeg x x&&M.allTwo M.sameSeg l l)=true;rw[sameSeg_self,segsTwo_self l];rfl
theorem sameImg_self(a:M.Img):M.sameImg a a=true:=by
 unfold M.sameImg
 rw[segsTwo_self];simp
theorem segs_step{xs ys:List M.Seg}{k:Nat}(hx:k<xs.length)(hy:k<ys.length) :
  M.allTwo M.sameSeg (xs.drop k) (ys.drop k)=(M.sameSeg (xs.getD k M.seg0) (ys.getD k M.seg0)&&M.allTwo M.sameSeg (xs.drop (k+1)) (ys.drop (k+1))):=by
 rw[drop_getD xs M.seg0 k hx,drop_getD ys M.seg0 k hy];rfl
theorem segs_len:∀(xs ys:List M.Seg),¬xs.length=ys.length→M.allTwo M.sameSeg xs ys=false
 | [],[],h=>absurd rfl h
 | [],_::_,_=>rfl
 | _::_,[],_=>rfl
 | x::xs,y::ys,h=>by
  have:=segs_len xs ys (by simpa using h)
  show (_&&M.allTwo M.sameSeg xs ys)=false
  rw[this,Bool.and_false]
end Go.Proofs.YtpkfmfhodbjckaaGreatDoor
namespace Go.Proofs.YtpkfmfhodbjckaaGreatDoor
open Go.RowKit Go.Shelf
end Go.Proofs.YtpkfmfhodbjckaaGreatDoor
namespace Go.Proofs.YtpkfmfhodbjckaaGreatDoor
open Go Go.RowKit
structure SmT (X:World) (a1 a2:Option Addr) (c1 c2:Nat) (p:M.Prt):Prop where
 fr:FragsAt X (sv a1 p.frags.length c1) p.frags
 df:DefsAt X (sv a2 p.defs.length c2) p.defs
theorem parts_cell{w:World}{a:Option Addr}{c n:Nat}{ps:List M.Prt}(h:PartsAt w (sv a n c) ps)(hn:ps.length=n)(k:Nat)(hk:k<n):∃b off a1 c1 a2 c2,a=some (qa b off)∧w.cell? (qa b (off+k*2))=some (sv a1 (ps.getD k M.nil).frags.length c1)∧w.cell? (qa b (off+k*2+1))=some (sv a2 (ps.getD k M.nil).defs.length c2)∧SmT w a1 a2 c1 c2 (ps.getD k M.nil):=by
 subst hn
 obtain⟨cell,hs,hc⟩:=h
 obtain⟨b,off,rfl,hce⟩:=hs.at k hk
 obtain⟨hF,hD⟩:=hc k hk
 have e0:=hce 0 (by decide)
 have e1:=hce 1 (by decide)
 rw[Nat.add_zero] at e0
 obtain⟨a1,c1,h1⟩:=hF.form
 obtain⟨a2,c2,h2⟩:=hD.form
 rw[h1] at e0 hF
 rw[h2] at e1 hD
 exact⟨b,off,a1,c1,a2,c2,rfl,e0,e1,hF,hD⟩
theorem rsameSeg_any(a b:M.Seg)(a1 b1:Option Addr)(c1 d1:Nat)(w:World)(h1:BytesAt w (sv a1 a.bytes.length c1) a.bytes)(h2:BytesAt w (sv b1 b.bytes.length d1) b.bytes) :
  Calls Tryz.prog 19 #[.agg #[iv a.pos,sv a1 a.bytes.length c1,iv a.zeros,.bool a.writes,.bool a.works],.agg #[iv b.pos,sv b1 b.bytes.length d1,iv b.zeros,.bool b.writes,.bool b.works]] w
   fun e w'=>e=.returned (.bool (M.sameSeg a b))∧Below w.heap.size w w':=by
 obtain⟨W,HW⟩:∃W,Hid (W=(w.alloc (.cells #[iv a.pos,sv a1 a.bytes.length c1,iv a.zeros,.bool a.writes,.bool a.works] 56)).alloc (.cells #[iv b.pos,sv b1 b.bytes.length d1,iv b.zeros,.bool b.writes,.bool b.works] 56)):=⟨_,rfl⟩
 have hA:Below w.heap.size w W:=by rw[HW.out];exact(bra _ _).alloc (by simp) _
 have q0:W.heap[w.heap.size]?=some (.cells #[iv a.pos,sv a1 a.bytes.length c1,iv a.zeros,.bool a.writes,.bool a.works] 56 (0,0)):=by rw[HW.out];exact heap_alloc2_old _ _ _
 have q1:W.heap[w.heap.size+1]?=some (.cells #[iv b.pos,sv b1 b.bytes.length d1,iv b.zeros,.bool b.writes,.bool b.works] 56 (0,0)):=by rw[HW.out];exact heap_alloc2_new _ _ _
 have KE:Hid (Calls Tryz.prog 20 #[sv a1 a.bytes.length c1,sv b1 b.bytes.length d1] W fun e w'=>e=.returned (.bool (M.allTwo (fun x y=>x==y) a.bytes b.bytes))∧Below W.heap.size W w'):=(bytesEqual_any a.bytes b.bytes a1 b1 c1 d1 W (h1.later hA) (h2.later hA)).mono fun e w' ⟨g1,g2⟩=>⟨g1,by rw[g2];exact Below.refl _ _⟩
 have HS:Hid (M.sameSeg a b=(a.pos==b.pos&&(a.zeros==b.zeros&&(a.writes==b.writes&&(a.works==b.works&&M.allTwo (fun x y=>x==y) a.bytes b.bytes))))):=rfl
 clear h1 h2
 generalize M.sameSeg a b=R at *
 generalize M.allTwo (fun x y=>x==y) a.bytes b.bytes=R2 at *
 obtain⟨p1,by1,z1,w1,k1⟩:=a
 obtain⟨p2,by2,z2,w2,k2⟩:=b
 simp only at HS KE q0 q1 HW ⊢
 generalize by1.length=n1 at *
 generalize by2.length=n2 at *
 have c0:=cellB q0 0
 have c1':=cellB q0 1
 have c2:=cellB q0 2
 have c3:=cellB q0 3
 have c4:=cellB q0 4
 have d0:=cellB q1 0
 have d1':=cellB q1 1
 have d2:=cellB q1 2
 have d3:=cellB q1 3
 have d4:=cellB q1 4
 have hl1:=lt1 q0
 have hl2:=lt1 q1
 simp at c0 c1' c2 c3 c4 d0 d1' d2 d3 d4
 go_enter Tryz.func19,Tryz.ntmps19
 go_upto_region 1 with fail
 rw[←HW.out]
 clear HW
 have HQ:Hid (∀X,Below W.heap.size W X→X.heap[w.heap.size]?=some (.cells #[iv p1,sv a1 n1 c1,iv z1,.bool w1,.bool k1] 56 (0,0))∧X.heap[w.heap.size+1]?=some (.cells #[iv p2,sv b1 n2 d1,iv z2,.bool w2,.bool k2] 56 (0,0))):=fun X hX=>⟨(hX.block _ hl1).trans q0,(hX.block _ hl2).trans q1⟩
 clear q0 q1
 cases e1:(p1==p2)
 ·rw[e1] at HS
  obtain rfl:R=false:=HS.out
  clear HS
  go_wp2
  go_ret
  exact⟨rfl,hA⟩
 ·have HR:Hid (R=(R2&&((z1==z2)&&((w1==w2)&&(k1==k2))))):=by
   rw[Hid,HS.out,e1]
   cases R2<;>cases (z1==z2)<;>cases (w1==w2)<;>cases (k1==k2)<;>rfl
  clear HS
  cases R2<;>cases e2:(z1==z2)<;>cases e3:(w1==w2)<;>cases e4:(k1==k2)
  all_goals rw[e2,e3,e4] at HR
  all_goals have HR2:=HR.out
  all_goals subst HR2
  all_goals clear HR
  all_goals go_wp2_with (go_at_call 20;refine KE.out.mono ?_;rintro e X ⟨rfl,hb⟩;obtain⟨x0,x1⟩:=HQ.out X hb;have y2:=cellC x0 2 rfl;have y3:=cellC x0 3 rfl;have y4:=cellC x0 4 rfl;have v2:=cellC x1 2 rfl;have v3:=cellC x1 3 rfl;have v4:=cellC x1 4 rfl;have vl:=lt1 x0;have vm:=lt1 x1;clear x0 x1)
  all_goals go_ret
  all_goals exact⟨rfl,hA.trans (hb.mono hA.size)⟩
theorem requalSegs_any(xs ys:List M.Seg)(a1 a2:Option Addr)(c1 c2:Nat)(w:World)(h1:SegsAt w (sv a1 xs.length c1) xs)(h2:SegsAt w (sv a2 ys.length c2) ys) :
  Calls Tryz.prog 18 #[sv a1 xs.length c1,sv a2 ys.length c2,.func (.func 19) #[] #[]] w fun e w'=>e=.returned (.bool (M.allTwo M.sameSeg xs ys))∧Below w.heap.size w w':=by
 have hx:xs.length≤maxLen:=by obtain⟨_,_,_,h⟩:=h1.form;exact h
 have hy:ys.length≤maxLen:=by obtain⟨_,_,_,h⟩:=h2.form;exact h
 unfold maxLen at hx hy
 by_cases hlen:xs.length=ys.length
 ·have HX:Hid (M.allTwo M.sameSeg xs ys=M.allTwo M.sameSeg (xs.drop 0) (ys.drop 0)):=rfl
  generalize M.allTwo M.sameSeg xs ys=R at *
  have HL:Hid (ys.length=xs.length):=hlen.symm
  have HP:Hid (∀W,Below w.heap.size w W→SegsAt W (sv a1 xs.length c1) xs∧SegsAt W (sv a2 ys.length c2) ys):=fun W hW=>⟨h1.later hW,h2.later hW⟩
  rw[←hlen] at hy ⊢
  clear hlen h1 h2
  go_enter Tryz.func18,Tryz.ntmps18
  go_wp2_with fail
  go_loopw [17] (fun s17 wr=>∃(k:Nat),k≤xs.length∧s17=iv k∧Hid (Below w.heap.size w wr)∧Hid (R=M.allTwo M.sameSeg (xs.drop k) (ys.drop k))) (fun s17 _=>xs.length-(intOf s17).toNat)
  case atStart=>exact⟨0,Nat.zero_le _,rfl,Below.refl _ _,HX⟩
  case round =>
   obtain⟨k,hk,rfl,HB,HR⟩:=hrel
   clear HX
   by_cases hlt:k<xs.length
   ·have hky:k<ys.length:=by rw[HL.out];exact hlt
    obtain⟨b,off,ab,cb,rfl,e0,e1,e2,e3,e4,hby⟩:=(HP.out wr HB.out).1.cells k hlt
    obtain⟨b',off',ab',cb',hae,e0',e1',e2',e3',e4',hby'⟩:=(HP.out wr HB.out).2.cells k hky
    subst hae
    have hkl:(k:Int)<(xs.length:Int):=by omega
    have hbr:b<wr.heap.size:=wlt e0
    have hbr':b' < wr.heap.size:=wlt e0'
    have HR1:=HR.out
    rw[segs_step hlt hky] at HR1
    have HR2:Hid _:=HR1
    have hA1:Below wr.heap.size wr (wr.alloc (.cells #[iv (xs.getD k M.seg0).pos,sv ab (xs.getD k M.seg0).bytes.length cb,iv (xs.getD k M.seg0).zeros,.bool (xs.getD k M.seg0).writes,.bool (xs.getD k M.seg0).works] 56)):=bra _ _
    have hA2:Below wr.heap.size wr ((wr.alloc (.cells #[iv (xs.getD k M.seg0).pos,sv ab (xs.getD k M.seg0).bytes.length cb,iv (xs.getD k M.seg0).zeros,.bool (xs.getD k M.seg0).writes,.bool (xs.getD k M.seg0).works] 56)).alloc (.cells #[iv (ys.getD k M.seg0).pos,sv ab' (ys.getD k M.seg0).bytes.length cb',iv (ys.getD k M.seg0).zeros,.bool (ys.getD k M.seg0).writes,.bool (ys.getD k M.seg0).works] 56)):=hA1.alloc hA1.size _
    have HK:Hid (∀W,Below wr.heap.size wr W→_):=fun W hW=>rsameSeg_any (xs.getD k M.seg0) (ys.getD k M.seg0) ab ab' cb cb' W (hby.later hW) (hby'.later hW)
    have HA2:Hid _:=hA2
    clear HR HR1 hby hby' hA1 hA2
    generalize M.sameSeg (xs.getD k M.seg0) (ys.getD k M.seg0)=sm at *
    generalize xs.getD k M.seg0=x at *
    generalize ys.getD k M.seg0=y at *
    obtain⟨p1,by1,z1,w1,k1⟩:=x
    obtain⟨p2,by2,z2,w2,k2⟩:=y
    simp only at e0 e1 e2 e3 e4 e0' e1' e2' e3' e4' HK HA2
    cases sm
    ·obtain rfl:R=false:=HR2.out
     clear HR2
     go_wp2_with (go_at_call 19;refine(HK.out _ HA2.out).mono ?_;rintro e w3 ⟨rfl,hb1⟩)
     go_ret
     exact⟨rfl,HB.out.trans ((HA2.out.trans (hb1.mono HA2.out.size)).mono HB.out.size)⟩
    ·have HR3:Hid (R=M.allTwo M.sameSeg (xs.drop (k+1)) (ys.drop (k+1))):=HR2.out
     clear HR2
     go_wp2_with (go_at_call 19;refine(HK.out _ HA2.out).mono ?_;rintro e w3 ⟨rfl,hb1⟩)
     go_roundw
     case rel=>exact⟨k+1,by omega,by go_num,HB.out.trans ((HA2.out.trans (hb1.mono HA2.out.size)).mono HB.out.size),HR3⟩
     case measure=>simp[intOf];omega
   ·have hkl:k=xs.length:=by omega
    have HR2:Hid (R=true):=by
     rw[Hid,HR.out,List.drop_eq_nil_of_le (by omega),List.drop_eq_nil_of_le (by rw[HL.out];omega)];rfl
    clear HR
    subst hkl
    go_wp2
    go_ret
    exact⟨by rw[HR2.out];rfl,HB.out⟩
 ·have hl:((xs.length:Int) !=(ys.length:Int))=true:=by simp;omega
  have HX:Hid (M.allTwo M.sameSeg xs ys=false):=segs_len xs ys hlen
  clear hlen h1 h2
  go_enter Tryz.func18,Tryz.ntmps18
  go_wp2
  go_ret
  exact⟨by rw[HX.out];rfl,Below.refl _ _⟩
theorem rimgSame_any(a b:M.Img)(a1 a2:Option Addr)(c1 c2:Nat)(w:World)(h1:SegsAt w (sv a1 a.segs.length c1) a.segs)(h2:SegsAt w (sv a2 b.segs.length c2) b.segs) :
  Calls Tryz.prog 6 #[.agg #[iv a.entry,sv a1 a.segs.length c1],.agg #[iv b.entry,sv a2 b.segs.length c2]] w fun e w'=>e=.returned (.bool (M.sameImg a b))∧Below w.heap.size w w':=by
 have hA:Below w.heap.size w ((w.alloc (.cells #[iv a.entry,sv a1 a.segs.length c1] 25)).alloc (.cells #[iv b.entry,sv a2 b.segs.length c2] 25)):=(bra _ _).alloc (by simp) _
 have KE:Hid (Calls Tryz.prog 18 #[sv a1 a.segs.length c1,sv a2 b.segs.length c2,.func (.func 19) #[] #[]] ((w.alloc (.cells #[iv a.entry,sv a1 a.segs.length c1] 25)).alloc (.cells #[iv b.entry,sv a2 b.segs.length c2] 25)) _):=requalSegs_any a.segs b.segs a1 a2 c1 c2 _ (h1.later hA) (h2.later hA)
 have HS:Hid (M.sameImg a b=(a.entry==b.entry&&M.allTwo M.sameSeg a.segs b.segs)):=rfl
 clear h1 h2
 generalize M.sameImg a b=R at *
 generalize M.allTwo M.sameSeg a.segs b.segs=R2 at *
 generalize a.segs.length=n1 at *
 generalize b.segs.length=n2 at *
 generalize a.entry=e1 at *
 generalize b.entry=e2 at *
 cases he:(e1==e2)
 ·rw[he] at HS
  obtain rfl:R=false:=HS.out
  clear HS
  go_enter Tryz.func6,Tryz.ntmps6
  go_wp2
  go_ret
  exact⟨rfl,hA⟩
 ·rw[he] at HS
  obtain rfl:R=R2:=HS.out
  clear HS
  go_enter Tryz.func6,Tryz.ntmps6
  go_wp2_with (go_at_call 18;refine KE.out.mono ?_;rintro e X ⟨rfl,hb⟩)
  go_ret
  exact⟨rfl,hA.trans (hb.mono hA.size)⟩
end Go.Proofs.YtpkfmfhodbjckaaGreatDoor
