/-
  The reference's ValueOf; slices.Clone at bytes. The reference's low: the low bytes of a number of a kind. The reference's Linked: what it has in memory. Plain mathematics of the reference's Linked: one place. A region that draws its order, whose first n operations are quiet (they yield one value in every world of a class, and leave a world of it), and whose rest comes behind them, one after another: one walk, in the order of the text.
-/
import Derived.Test.YtpkfmfhodbjckaaGreatDoorLkRt
import Derived.Deep.Cut
set_option linter.unusedVariables false
set_option maxHeartbeats 2000000
set_option maxRecDepth 100000
namespace Go.Proofs.YtpkfmfhodbjckaaGreatDoor
open Go Go.RowKit
theorem lo_hi(k:Int):(M.hi k<M.lo k)=(M.known k=false)∧-32768≤M.lo k∧M.lo k≤1∧0≤M.hi k∧M.hi k≤65535:=by
 by_cases h1:k=1
 ·subst h1;decide
 by_cases h2:k=2
 ·subst h2;decide
 by_cases h3:k=3
 ·subst h3;decide
 by_cases h4:k=4
 ·subst h4;decide
 simp[M.lo,M.hi,M.known,M.wide,h1,h2,h3,h4]
theorem isRel_known{k:Int}(h:M.known k=true):M.isRel k=decide (2<k):=by
 rcases M.kinds h with rfl|rfl|rfl|rfl<;>rfl
theorem valueOf_any(k pos toV add:Int)(w:World)(hk:(Lit.int .i64 k).wf=true) :
  Calls Tryz.prog 36 #[iv k,iv pos,iv toV,iv add] w fun e w'=>e=.returned (.tuple #[iv (M.value k pos toV add).1,iv (M.value k pos toV add).2])∧Below w.heap.size w w':=by
 have KB:Hid (∀W,Calls Tryz.prog 73 #[iv k] W fun e w'=>e=.returned (.tuple #[iv (M.lo k),iv (M.hi k)])∧Below W.heap.size W w'):=fun W=>bounds_any k W hk
 obtain⟨hlh,hl1,hl2,hh1,hh2⟩:=lo_hi k
 have HV:Hid (M.value k pos toV add=if M.known k=false then (0,4) else if (M.addr pos&&M.addr toV&&M.within add (-10000) 10000)=false then (0,3) else if M.fits k (M.sum k pos toV add)=false then (0,9) else (M.sum k pos toV add,0)):=rfl
 have HF:Hid (∀n,M.fits k n=(decide (M.lo k≤n)&&decide (n≤M.hi k))):=fun n=>rfl
 have HS:Hid (M.known k=true→M.sum k pos toV add=bif decide (2<k) then toV+add-pos else toV+add):=fun h=>by
  unfold M.sum;rw[isRel_known h]
 generalize M.value k pos toV add=V at *
 generalize M.sum k pos toV add=sm at *
 cases hkn:M.known k
 ·rw[hkn] at hlh HV
  have hlt:M.hi k<M.lo k:=by rw[hlh]
  clear HS HF hlh
  obtain rfl:V=(0,4):=HV.out
  clear HV hkn
  generalize M.lo k=lo at *
  generalize M.hi k=hi at *
  have hd:decide (hi<lo)=true:=by simpa using hlt
  clear hlt
  go_enter Tryz.func36,Tryz.ntmps36
  go_wp2_with (go_at_call 73;refine(KB.out _).mono ?_;rintro e w1 ⟨rfl,hb1⟩)
  go_ret2
  exact⟨rfl,hb1⟩
 rw[hkn] at hlh HV
 have hlt:¬M.hi k<M.lo k:=by rw[hlh];decide
 have hs:=HS.out hkn
 have HS2:Hid _:=hs
 clear HS hs hkn hlh
 generalize M.fits k=ft at *
 generalize M.lo k=lo at *
 generalize M.hi k=hi at *
 have hd:decide (hi<lo)=false:=by simpa using hlt
 clear hlt
 by_cases hr:(0≤pos∧pos≤65536)∧(0≤toV∧toV≤65536)∧(-10000≤add∧add≤10000)
 ·obtain⟨hp,ht,ha⟩:=hr
  have hall:(M.addr pos&&M.addr toV&&M.within add (-10000) 10000)=true:=by simp[M.addr,M.within];omega
  rw[hall] at HV
  have HV2:Hid (V=if ft sm=false then (0,9) else (sm,0)):=HV.out
  clear HV hall
  rw[HF.out sm] at HV2
  clear HF
  cases hk2:decide (2<k)
  ·rw[hk2] at HS2
   obtain rfl:sm=toV+add:=HS2.out
   clear HS2
   cases g1:decide (lo≤toV+add)
   ·rw[g1] at HV2
    obtain rfl:V=(0,9):=HV2.out
    clear HV2
    have g1':toV+add<lo:=by have:=of_decide_eq_false g1;omega
    clear g1
    go_enter Tryz.func36,Tryz.ntmps36
    go_wp2_with (go_at_call 73;refine(KB.out _).mono ?_;rintro e w1 ⟨rfl,hb1⟩)
    go_ret2
    exact⟨rfl,hb1⟩
   ·cases g2:decide (toV+add≤hi)
    ·rw[g1,g2] at HV2
     obtain rfl:V=(0,9):=HV2.out
     clear HV2
     have g1':¬toV+add<lo:=by have:=of_decide_eq_true g1;omega
     have g2':hi<toV+add:=by have:=of_decide_eq_false g2;omega
     clear g1 g2
     go_enter Tryz.func36,Tryz.ntmps36
     go_wp2_with (go_at_call 73;refine(KB.out _).mono ?_;rintro e w1 ⟨rfl,hb1⟩)
     go_ret2
     exact⟨rfl,hb1⟩
    ·rw[g1,g2] at HV2
     obtain rfl:V=(toV+add,0):=HV2.out
     clear HV2
     have g1':¬toV+add<lo:=by have:=of_decide_eq_true g1;omega
     have g2':¬hi<toV+add:=by have:=of_decide_eq_true g2;omega
     clear g1 g2
     go_enter Tryz.func36,Tryz.ntmps36
     go_wp2_with (go_at_call 73;refine(KB.out _).mono ?_;rintro e w1 ⟨rfl,hb1⟩)
     go_ret2
     exact⟨rfl,hb1⟩
  ·rw[hk2] at HS2
   obtain rfl:sm=toV+add-pos:=HS2.out
   clear HS2
   cases g1:decide (lo≤toV+add-pos)
   ·rw[g1] at HV2
    obtain rfl:V=(0,9):=HV2.out
    clear HV2
    have g1':toV+add-pos<lo:=by have:=of_decide_eq_false g1;omega
    clear g1
    go_enter Tryz.func36,Tryz.ntmps36
    go_wp2_with (go_at_call 73;refine(KB.out _).mono ?_;rintro e w1 ⟨rfl,hb1⟩)
    go_ret2
    exact⟨rfl,hb1⟩
   ·cases g2:decide (toV+add-pos≤hi)
    ·rw[g1,g2] at HV2
     obtain rfl:V=(0,9):=HV2.out
     clear HV2
     have g1':¬toV+add-pos<lo:=by have:=of_decide_eq_true g1;omega
     have g2':hi<toV+add-pos:=by have:=of_decide_eq_false g2;omega
     clear g1 g2
     go_enter Tryz.func36,Tryz.ntmps36
     go_wp2_with (go_at_call 73;refine(KB.out _).mono ?_;rintro e w1 ⟨rfl,hb1⟩)
     go_ret2
     exact⟨rfl,hb1⟩
    ·rw[g1,g2] at HV2
     obtain rfl:V=(toV+add-pos,0):=HV2.out
     clear HV2
     have g1':¬toV+add-pos<lo:=by have:=of_decide_eq_true g1;omega
     have g2':¬hi<toV+add-pos:=by have:=of_decide_eq_true g2;omega
     clear g1 g2
     go_enter Tryz.func36,Tryz.ntmps36
     go_wp2_with (go_at_call 73;refine(KB.out _).mono ?_;rintro e w1 ⟨rfl,hb1⟩)
     go_ret2
     exact⟨rfl,hb1⟩
 ·have hall:(M.addr pos&&M.addr toV&&M.within add (-10000) 10000)=false:=by
   cases h:(M.addr pos&&M.addr toV&&M.within add (-10000) 10000)
   ·rfl
   ·simp[M.addr,M.within] at h;omega
  rw[hall] at HV
  obtain rfl:V=(0,3):=HV.out
  clear HV hall HF HS2
  by_cases q1:pos<0
  ·clear hr
   go_enter Tryz.func36,Tryz.ntmps36
   go_wp2_with (go_at_call 73;refine(KB.out _).mono ?_;rintro e w1 ⟨rfl,hb1⟩)
   go_ret2
   exact⟨rfl,hb1⟩
  by_cases q2:65536<pos
  ·clear hr
   go_enter Tryz.func36,Tryz.ntmps36
   go_wp2_with (go_at_call 73;refine(KB.out _).mono ?_;rintro e w1 ⟨rfl,hb1⟩)
   go_ret2
   exact⟨rfl,hb1⟩
  by_cases q3:toV<0
  ·clear hr
   go_enter Tryz.func36,Tryz.ntmps36
   go_wp2_with (go_at_call 73;refine(KB.out _).mono ?_;rintro e w1 ⟨rfl,hb1⟩)
   go_ret2
   exact⟨rfl,hb1⟩
  by_cases q4:65536<toV
  ·clear hr
   go_enter Tryz.func36,Tryz.ntmps36
   go_wp2_with (go_at_call 73;refine(KB.out _).mono ?_;rintro e w1 ⟨rfl,hb1⟩)
   go_ret2
   exact⟨rfl,hb1⟩
  by_cases q5:add < -10000
  ·clear hr
   go_enter Tryz.func36,Tryz.ntmps36
   go_wp2_with (go_at_call 73;refine(KB.out _).mono ?_;rintro e w1 ⟨rfl,hb1⟩)
   go_ret2
   exact⟨rfl,hb1⟩
  have q6:10000<add:=by omega
  clear hr
  go_enter Tryz.func36,Tryz.ntmps36
  go_wp2_with (go_at_call 73;refine(KB.out _).mono ?_;rintro e w1 ⟨rfl,hb1⟩)
  go_ret2
  exact⟨rfl,hb1⟩
theorem low_parts{n:Int}(h1:-32768≤n)(h2:n≤65535):((n+65536).tmod 65536).tmod 256=M.byteAt n 0∧((n+65536).tmod 65536).tdiv 256=M.byteAt n 1∧0≤M.byteAt n 0∧M.byteAt n 0<256∧0≤M.byteAt n 1∧M.byteAt n 1<256:=by
 have e:(n+65536).tmod 65536=(n+65536) % 65536:=Int.tmod_eq_emod_of_nonneg (by omega)
 have e2:((n+65536) % 65536).tmod 256=(n+65536) % 65536 % 256:=Int.tmod_eq_emod_of_nonneg (by omega)
 have e3:((n+65536) % 65536).tdiv 256=(n+65536) % 65536 / 256:=Int.tdiv_eq_ediv_of_nonneg (by omega)
 rw[e,e2,e3]
 have f0:M.byteAt n 0=n % 256:=rfl
 have f1:M.byteAt n 1=n / 256 % 256:=rfl
 rw[f0,f1]
 clear f0 f1 e e2 e3
 refine⟨by omega,by omega,by omega,by omega,by omega,by omega⟩
theorem low_any(k n:Int)(w:World)(hk:(Lit.int .i64 k).wf=true)(hkn:M.known k=true)(h1:-32768≤n)(h2:n≤65535) :
  Calls Tryz.prog 37 #[iv k,iv n] w fun e w'=>Below w.heap.size w w'∧∃g,e=.returned (sv (some (qa g 0)) (M.wide k).toNat 2)∧w'.heap[g]?=some (.cells #[.int .u8 (M.byteAt n 0),.int .u8 (M.byteAt n 1)] 5 (0,0)):=by
 obtain⟨q1,q2,b0,b1,b2,b3⟩:=low_parts h1 h2
 have KW:Hid (∀W,Calls Tryz.prog 74 #[iv k] W fun e w'=>e=.returned (iv (M.wide k))∧Below W.heap.size W w'):=fun W=>wideOf_anyF k W hk
 have hw:M.wide k=1∨M.wide k=2:=by
  have:=of_decide_eq_true hkn
  unfold M.wide at this ⊢
  repeat' split
  all_goals first|omega|(left;rfl)|(right;rfl)|(exfalso;revert this;decide)
 have hwr1:wrap64 (n+65536)=n+65536:=by unfold wrap64;omega
 obtain⟨N,hN⟩:∃N,(n+65536).tmod 65536=N:=⟨_,rfl⟩
 have hN1:0≤N∧N<65536:=by
  rw[←hN,Int.tmod_eq_emod_of_nonneg (by omega)];omega
 rw[hN] at q1 q2
 generalize M.byteAt n 0=v0 at *
 generalize M.byteAt n 1=v1 at *
 have hwr2:wrap64 N=N:=by unfold wrap64;omega
 have hu0:IntKind.u8.wrap v0=v0:=by unfold IntKind.wrap;simp[IntKind.bits,IntKind.signed];omega
 have hu1:IntKind.u8.wrap v1=v1:=by unfold IntKind.wrap;simp[IntKind.bits,IntKind.signed];omega
 generalize M.wide k=d at *
 clear hkn hk h1 h2
 go_enter Tryz.func37,Tryz.ntmps37
 go_upto_region 2 with fail
 rcases hw with rfl|rfl
 ·go_wp2_with (go_at_call 74;refine(KW.out _).mono ?_;rintro e X ⟨rfl,hb⟩)
  go_ret
  have hA:=bra w (.cells #[.int .u8 v0,.int .u8 v1] 5)
  exact⟨hA.trans (hb.mono hA.size),_,rfl,(hb.block _ (by simp)).trans (heap_alloc_new w _)⟩
 ·go_wp2_with (go_at_call 74;refine(KW.out _).mono ?_;rintro e X ⟨rfl,hb⟩)
  go_ret
  have hA:=bra w (.cells #[.int .u8 v0,.int .u8 v1] 5)
  exact⟨hA.trans (hb.mono hA.size),_,rfl,(hb.block _ (by simp)).trans (heap_alloc_new w _)⟩
theorem row_mapL{w:World}{B k n b ck:Nat}{e:TypeId}{v:Value}{xs:List Value}{es:Array MapEntry}(h:w.ownsRow B e k v n xs)(hm:w.heap[b]?=some (.map es ck)):v.ownBlock=none∨v.ownBlock≠some b:=by
 rcases h.2 with ⟨rfl,_⟩|⟨g,cap,cur,rfl,_,hb,_⟩
 ·exact .inl rfl
 ·right
  intro he
  cases he
  rw[hm] at hb
  cases hb
structure LnS (w0:World) (b3 b6 b9 b11:Nat) (vp:Array Value) (xf xn xc:Value) (l:M.Lay) (W:World) (u vF:Value) (fl:List Flt):Prop where
 bel:Below w0.heap.size w0 W
 c3:W.heap[b3]?=some (.cells vp 43 (0,0))
 c6:W.heap[b6]?=some (.cells #[iv 0,sv none 0 0] 25 (0,0))
 c9:W.heap[b9]?=some (.cells (layArr xf xn xc l.fr l.ti) 76 (0,0))
 c11:W.heap[b11]?=some (.cells #[u] 26 (0,0))
 rf:W.ownsRow w0.heap.size 3 1 xf l.frags.length (l.frags.map (Value.int .i64))
 rn:W.ownsRow w0.heap.size 9 1 xn l.names.length (l.names.map Value.string)
 rc:W.ownsRow w0.heap.size 3 1 xc l.coms.length (l.coms.map (Value.int .i64))
 row:W.ownsRow w0.heap.size 49 4 vF fl.length (fl.flatMap encF)
section
variable {w0 W X : World} {b3 b6 b9 b11 : Nat} {vp : Array Value} {xf xn xc u vF v1 : Value} {l : M.Lay} {fl : List Flt}
theorem LnS.later(h:LnS w0 b3 b6 b9 b11 vp xf xn xc l W u vF fl)(hb:Below W.heap.size W X):LnS w0 b3 b6 b9 b11 vp xf xn xc l X u vF fl :=
 have hg:=grown_of_below hb none
 have hk:∀ {b:Nat} {cs:Array Value} {t:TypeId},W.heap[b]?=some (.cells cs t (0,0))→X.heap[b]?=some (.cells cs t (0,0)):=fun hx=>blk hb hx
 ⟨h.bel.trans (hb.mono h.bel.size),hk h.c3,hk h.c6,hk h.c9,hk h.c11,h.rf.kept hg own_self,h.rn.kept hg own_self,h.rc.kept hg own_self,h.row.kept hg own_self⟩
theorem LnS.grow{f:Flt}(h:LnS w0 b3 b6 b9 b11 vp xf xn xc l W u vF fl)(hg:W.grownBy X vF.ownBlock)(hr:X.ownsRow w0.heap.size 49 4 v1 (fl.length+1) (fl.flatMap encF++encF f)):LnS w0 b3 b6 b9 b11 vp xf xn xc l X u v1 (fl++[f]):=by
 refine⟨h.bel.grown hg h.bel.size (fun k hk=>(h.row.lt k hk).1),block_kept h.row hg h.c3 (by decide),block_kept h.row hg h.c6 (by decide),block_kept h.row hg h.c9 (by decide),block_kept h.row hg h.c11 (by decide),h.rf.kept hg (own_apart h.rf h.row (by decide)),h.rn.kept hg (own_apart h.rn h.row (by decide)),h.rc.kept hg (own_apart h.rc h.row (by decide)),?_⟩
 rw[List.length_append,List.flatMap_append]
 simpa [List.flatMap_cons] using hr
theorem LnS.store(h:LnS w0 b3 b6 b9 b11 vp xf xn xc l W u vF fl)(h11:w0.heap.size≤b11)(v:Value):LnS w0 b3 b6 b9 b11 vp xf xn xc l (W.setCell (qa b11 0) v) v vF fl :=
 have hg:=grown_set W b11 0 v
 have hk:∀ {b:Nat} {cs:Array Value} {t:TypeId},t≠26→W.heap[b]?=some (.cells cs t (0,0))→(W.setCell (qa b11 0) v).heap[b]?=some (.cells cs t (0,0)):=fun ht hx=>(Below.heap_setCell _ _ _ _ (fun e=>by rw[e,h.c11] at hx;cases hx;exact ht rfl)).trans hx
 ⟨h.bel.setCell h11 _,hk (by decide) h.c3,hk (by decide) h.c6,hk (by decide) h.c9,setB' h.c11 _,h.rf.kept hg (own_ne h.rf h.c11 (by decide)),h.rn.kept hg (own_ne h.rn h.c11 (by decide)),h.rc.kept hg (own_ne h.rc h.c11 (by decide)),h.row.kept hg (own_ne h.row h.c11 (by decide))⟩
theorem LnS.map{bm N:Nat}{m:Int→Int}(h:LnS w0 b3 b6 b9 b11 vp xf xn xc l W u vF fl)(hm:MAt W bm N m)(hg:W.grownBy X (some bm))(hb:w0.heap.size≤bm):LnS w0 b3 b6 b9 b11 vp xf xn xc l X u vF fl:=by
 obtain⟨n,D,_,⟨es,ck,hq,_⟩,_⟩:=hm
 have hk:∀ {b:Nat} {cs:Array Value} {t:TypeId},W.heap[b]?=some (.cells cs t (0,0))→X.heap[b]?=some (.cells cs t (0,0)):=fun hx=>(hg.block _ (lt1 hx) (fun e=>by cases e;rw[hq] at hx;cases hx)).trans hx
 exact⟨h.bel.grown hg h.bel.size (fun k hk=>by cases hk;exact hb),hk h.c3,hk h.c6,hk h.c9,hk h.c11,h.rf.kept hg (row_mapL h.rf hq),h.rn.kept hg (row_mapL h.rn hq),h.rc.kept hg (row_mapL h.rc hq),h.row.kept hg (row_mapL h.row hq)⟩
theorem LnS.lay(h:LnS w0 b3 b6 b9 b11 vp xf xn xc l W u vF fl)(hs:∀x∈l.names,x.size≤maxLen):LayAt W xf xn xc l:=⟨row_ints h.rf,row_strs h.rn hs,row_ints h.rc⟩
theorem LnS.mgrow{bm N:Nat}{m:Int→Int}(h:LnS w0 b3 b6 b9 b11 vp xf xn xc l W u vF fl)(hm:MAt W bm N m)(hg:W.grownBy X vF.ownBlock):MAt X bm N m :=
 hm.kept hg (by
  obtain⟨n,D,_,⟨es,ck,hq,_⟩,_⟩:=hm
  rcases row_mapL h.row hq with e|e
  ·rw[e];intro h;cases h
  ·exact e)
theorem LnS.mstore{bm N:Nat}{m:Int→Int}(h:LnS w0 b3 b6 b9 b11 vp xf xn xc l W u vF fl)(hm:MAt W bm N m)(v:Value):MAt (W.setCell (qa b11 0) v) bm N m :=
 hm.kept (grown_set W b11 0 v) (fun e=>by
  cases e
  obtain⟨n,D,_,⟨es,ck,hq,_⟩,_⟩:=hm
  have:=h.c11
  rw[hq] at this
  cases this)
end
theorem wanted_told{p:M.Prt}{f:M.Frg}{r:M.Rel}(hf:f∈p.frags)(hr:r∈f.rels)(hn:r.name.toList≠[])(h:(M.find p.defs r.name).2≠0):M.faulty (M.named p) r.name=true:=by
 unfold M.faulty
 refine List.any_eq_true.2 ⟨M.fltOf ((M.find p.defs r.name).2,r.name),?_,by simp[M.fltOf]⟩
 unfold M.named
 refine List.mem_map.2 ⟨_,?_,rfl⟩
 unfold M.faults
 refine List.mem_filterMap.2 ⟨r.name,?_,by unfold M.faultAt;rw[if_neg h]⟩
 refine(M.rising_mem _ _).2 (List.mem_append_left _ ((M.rising_mem _ _).2 ?_))
 unfold M.wantedNames
 refine List.mem_flatMap.2 ⟨f,hf,List.mem_map.2 ⟨r,List.mem_filter.2 ⟨hr,?_⟩,rfl⟩⟩
 unfold M.bare
 cases h1:r.name.toList with
 | nil=>exact absurd h1 hn
 | cons _ _=>rfl
theorem frags_smallR{w:World}{a:Option Addr}{c:Nat}{fs:List M.Frg}(h:FragsAt w (sv a fs.length c) fs):∀f∈fs,∀b∈f.bytes,0≤b∧b<256:=fun f hf=>by
 obtain⟨i,hi,rfl⟩:=List.getElem_of_mem hf
 obtain⟨_,_,_,_,_,_,_,_,_,_,_,_,_,hb,_⟩:=h.cells i hi
 have:=hb.2
 rwa [List.getD_eq_getElem?_getD,List.getElem?_eq_getElem hi] at this
end Go.Proofs.YtpkfmfhodbjckaaGreatDoor
namespace Go.Proofs.YtpkfmfhodbjckaaGreatDoor
open Go Go.RowKit
theorem isName_ne{s:ByteArray}(h:M.isName s=true):s.toList≠[]:=by
 intro he
 unfold M.isName at h
 simp only[Bool.and_eq_true,decide_eq_true_eq] at h
 have:s.data.toList=[]:=by rw[←ByteArray.toList_eq];exact he
 have h3:s.size=0:=by show s.data.size=0;rw[←Array.length_toList,this];rfl
 omega
theorem named_ne{p:M.Prt}(hp:M.Ok p){f:Flt}(hf:f∈M.named p):f.name.toList≠[]:=by
 unfold M.named at hf
 obtain⟨x,hx,rfl⟩:=List.mem_map.1 hf
 rw[M.faults_eq] at hx
 obtain⟨s,hs,he⟩:=List.mem_filterMap.1 hx
 have hxs:x.2=s:=by
  unfold M.faultAt at he
  split at he
  ·cases he
  ·cases he;rfl
 show x.2.toList≠[]
 rw[hxs]
 rcases List.mem_append.1 ((M.rising_mem _ s).1 hs) with h|h
 ·unfold M.wantedNames M.wantedOf at h
  obtain⟨g,hg,h⟩:=List.mem_flatMap.1 h
  obtain⟨r,hr,rfl⟩:=List.mem_map.1 h
  have:=(List.mem_filter.1 hr).2
  intro h0
  unfold M.bare at this
  rw[h0] at this
  cases this
 ·unfold M.definedNames at h
  obtain⟨d,hd,rfl⟩:=List.mem_map.1 h
  have:=hp.plain d hd
  refine isName_ne ?_
  unfold M.plainDfn at this
  cases hn:M.isName d.name
  ·rw[hn] at this;simp at this
  ·rfl
theorem faulty_bare{p:M.Prt}{s n:ByteArray}(hp:M.Ok p)(hs:s.toList≠[])(hn:n.toList.isEmpty=true):M.faulty (M.nameFaults p s) n=false:=by
 have hn':n.toList=[]:=List.isEmpty_iff.1 hn
 have h1:∀f∈M.nameFaults p s,f.name.toList≠[]:=fun f hf=>by
  unfold M.nameFaults at hf
  split at hf
  ·exact named_ne hp hf
  ·split at hf
   ·exact named_ne hp hf
   ·rcases List.mem_append.1 hf with h|h
    ·exact named_ne hp h
    ·rw[List.mem_singleton.1 h];exact hs
 unfold M.faulty
 rw[List.any_eq_false]
 intro f hf he
 rw[hn'] at he
 exact h1 f hf (by simpa using he)
theorem told_places{nf pf:List Flt}{n:ByteArray}(hn:n.toList≠[])(h:∀f∈pf,f.name=⟨#[]⟩):told (nf++pf) n=M.faulty nf n:=by
 rw[told_faulty hn]
 unfold M.faulty
 rw[List.any_append]
 have:pf.any (fun f=>f.name.toList==n.toList)=false:=by
  rw[List.any_eq_false]
  intro f hf he
  rw[h f hf] at he
  have:(⟨#[]⟩:ByteArray).toList=n.toList:=by simpa using he
  rw[ByteArray.toList_eq] at this
  exact hn this.symm
 rw[this,Bool.or_false]
theorem placeFault_bare{p:M.Prt}{l:M.Lay}{nf:List Flt}{i:Nat}{r:M.Rel}{f:Flt}(h:f∈M.placeFault p l nf i r):f.name=⟨#[]⟩:=by
 unfold M.placeFault at h
 split at h
 ·cases h
 ·split at h
  ·cases h
  ·rw[List.mem_singleton.1 h]
theorem fragFaults_bare{p:M.Prt}{l:M.Lay}{nf:List Flt}{i:Nat}{rs:List M.Rel}{f:Flt}(h:f∈M.fragFaults p l nf i rs):f.name=⟨#[]⟩:=by
 obtain⟨r,_,h⟩:=List.mem_flatMap.1 h
 exact placeFault_bare h
theorem placeFaultsN_bare{p:M.Prt}{l:M.Lay}{nf:List Flt}{i:Nat}{f:Flt}(h:f∈M.placeFaultsN p l nf i):f.name=⟨#[]⟩:=by
 obtain⟨r,_,h⟩:=List.mem_flatMap.1 h
 exact fragFaults_bare h
section
variable {p : M.Prt} {base : Int} {l : M.Lay} {i : Nat} {r : M.Rel}
theorem num_named{s:ByteArray}(hp:M.Ok p)(ha:M.Apart p base)(hl:M.layAll p base=l)(hi:i<p.frags.length)(hr:r∈(p.frags.getD i frg0).rels)(hn:r.name.toList.isEmpty=false)(hnt:M.faulty (M.nameFaults p s) r.name=false) :
  M.number p l i r=M.value r.kind (l.frags.getD i 0+r.pos) (M.whereOf p l r.name).1 r.add:=by
 have h0:(M.find p.defs r.name).2=0:=by
  by_cases h:(M.find p.defs r.name).2=0
  ·exact h
  ·have h1:=wanted_told (getD_mem p.frags frg0 i hi) hr (fun e=>by rw[e] at hn;cases hn) h
   have h2:M.faulty (M.nameFaults p s) r.name=true:=by
    unfold M.nameFaults
    split
    ·exact h1
    ·split
     ·exact h1
     ·exact faulty_app h1
   rw[h2] at hnt;cases hnt
 have hw:=(where_ok hp ha h0).1
 rw[hl] at hw
 have hld:M.leads p l r=M.whereOf p l r.name:=by unfold M.leads;rw[if_neg (by rw[hn];decide)]
 unfold M.number
 rw[hld,if_pos hw]
theorem num_neg(hn:r.name.toList.isEmpty=true)(hf:r.frag<0):M.number p l i r=(0,8):=by
 have hld:M.leads p l r=(0,8):=by unfold M.leads;rw[if_pos hn,if_pos hf]
 unfold M.number
 rw[hld,if_neg (by decide)]
theorem num_frag(hn:r.name.toList.isEmpty=true)(hf:¬r.frag<0):M.number p l i r=M.value r.kind (l.frags.getD i 0+r.pos) (l.frags.getD r.frag.toNat 0) r.add:=by
 have hld:M.leads p l r=(l.frags.getD r.frag.toNat 0,0):=by unfold M.leads;rw[if_pos hn,if_neg hf]
 unfold M.number
 rw[hld,if_pos rfl]
theorem num_range(h:(M.number p l i r).2=0):-32768≤(M.number p l i r).1∧(M.number p l i r).1≤65535:=by
 have h1:=(number_fits h).2.1
 obtain⟨_,h2,_,_,h3⟩:=lo_hi r.kind
 unfold M.fits at h1
 have:=swithin_iff.1 h1
 omega
theorem fold_len(rs:List M.Rel):∀(B:List Int),(∀r∈rs,M.place B.length r.pos r.kind=0∧M.fits r.kind (M.number p l i r).1=true)→(rs.foldl (M.fillRel p l i) B).length=B.length:=by
 induction rs with
 | nil=>intro B _;rfl
 | cons x rs ih =>
  intro B h
  have hx:=h x (List.mem_cons_self ..)
  have e:(M.fillRel p l i B x).length=B.length:=by
   unfold M.fillRel M.putB
   rw[if_pos hx.1,if_pos hx.2]
   exact putN_len _ _ _ _
  rw[List.foldl_cons,ih _ (fun r hr=>by rw[e];exact h r (List.mem_cons_of_mem _ hr)),e]
theorem Q2.place{s:ByteArray}(hp:M.Ok p)(ha:M.Apart p base)(hl:M.layAll p base=l)(hf:M.allFaults p l s=[]){j:Nat}{m:Int→Int}(hi:i<p.frags.length)(hj:j<(p.frags.getD i frg0).rels.length)(h:Q2 p base i j m) :
  Q2 p base i (j+1) (wrN m (l.frags.getD i 0+((p.frags.getD i frg0).rels.getD j rel0).pos) (M.number p l i ((p.frags.getD i frg0).rels.getD j rel0)).1 (M.wide ((p.frags.getD i frg0).rels.getD j rel0).kind).toNat):=by
 subst hl
 have hfm:=getD_mem p.frags frg0 i hi
 have hall:∀r∈(p.frags.getD i frg0).rels,M.place (p.frags.getD i frg0).bytes.length r.pos r.kind=0∧M.fits r.kind (M.number p (M.layAll p base) i r).1=true:=fun r hr =>
  ⟨place_of (M.rel_ok hp hfm hr).1 (by have:=(M.rel_ok hp hfm hr).2;omega),(number_fits (no_faults hf hi hr)).2.1⟩
 have hrm:=getD_mem (p.frags.getD i frg0).rels rel0 j hj
 refine h.step hp ha hi (getElem?_getD _ rel0 j hj) (M.rel_ok hp hfm hrm).1.kind (hall _ hrm).2 ?_ (hall _ hrm).1
 exact fold_len _ _ (fun r hr=>hall r (List.mem_of_mem_take hr))
end
end Go.Proofs.YtpkfmfhodbjckaaGreatDoor
namespace Go.Proofs.YtpkfmfhodbjckaaGreatDoor
open Go Go.RowKit
section
variable {P : Program} {ops : Array Oper} {md : Region.Mode} {C : World → Prop} {n g : Nat} {G : Array Bool → Prop}
def headQ (P:Program) (md:Region.Mode) (ops:Array Oper) (C:World→Prop) (n:Nat) (L:Array Bool→Act→Prop):Nat→Array Bool→Act→Prop
 | 0,s,a=>L s a
 | f+1,s,a=>Region.ready md ops s≠[]∧∀i∈Region.ready md ops s,i<n∧qOp P ops C i (headQ P md ops C n L f (s.setIfInBounds i true)) a
theorem any_of_headQ{L:Array Bool→Act→Prop}{Q:Exit→Act→World→Prop}(hL:∀s a w,C w→L s a→wpAny P md ops Q g s a w)(f:Nat) :
  ∀ {s:Array Bool} {a:Act} {w:World},C w→headQ P md ops C n L f s a→wpAny P md ops Q (g+f) s a w:=by
 induction f with
 | zero=>exact fun hw h=>hL _ _ _ hw h
 | succ f ih=>exact fun hw h=>⟨fun h0=>absurd h0 h.1,fun i hi=>wpOp_of_qOp hw (fun _ _ hw' h'=>ih hw' h') (h.2 i hi).2⟩
theorem Past.firstQ{i:Nat}{oi:Oper}{v:Value}{l0:Array Bool}{L:Array Bool→Act→Prop}(hW:Waits md ops n G)(hi:ops[i]?=some oi)(hin:i<n)(hF:Region.free md ops l0 i=true)(hs:Region.noSelect ops=true)
  (hL:∀s a,L s a→∀j∈Region.ready md ops s,n≤j) (f:Nat) :
  ∀ {s:Array Bool} {a:Act},Past md ops n G i l0 s→YieldsIn P ops C oi v a→headQ P md ops C n L f (s.setIfInBounds i true) (a.put oi.dst v)→headQ P md ops C n L (f+1) s a:=by
 induction f with
 | zero =>
  intro s a h hy H
  refine⟨h.busy,fun j hj=>⟨h.head hW hin hj,?_⟩⟩
  rcases Nat.decEq j i with hne|rfl
  ·exact absurd (h.head hW hin hj) (Nat.not_lt.2 (hL _ _ H j (ready_mono hj hne)))
  ·exact hy.qOp hi H
 | succ f ih =>
  intro s a h hy H
  refine⟨h.busy,fun j hj=>⟨h.head hW hin hj,?_⟩⟩
  rcases Nat.decEq j i with hne|rfl
  ·obtain⟨oj,hoj⟩:∃oj,ops[j]?=some oj:=let ⟨_,o,ho,_⟩:=mem_ready.1 hj;⟨o,ho⟩
   refine qOp_mono ?_ (qOp_put hoj (h.apart hi hF hj hne hoj) (fun _ _=>Region.noSelect_spec hs _ _ _ _ hi) (fun _ _=>Region.noSelect_spec hs _ _ _ _ hoj) hy (H.2 j (ready_mono hj hne)).2)
   rintro a' ⟨hy',H'⟩
   exact ih (h.set hW hin hj hne) hy' (by rwa [Array.setIfInBounds_comm _ _ hne])
  ·exact hy.qOp hi H
theorem headQ_lex{Lq:Act→Prop}(hW:Waits md ops n G)(hs:Region.noSelect ops=true)(l:List Oper) :
  ∀ {k:Nat} {s:Array Bool} {a:Act},(∃r,ops.toList.drop k=l++r)→k+l.length=n→HeadInv md ops n s→G s→Region.lexHead md ops g l.length k s=true→wpQuiet P ops C Lq l a →
  headQ P md ops C n (fun s' a'=>Region.seqB md ops g n s'=true∧Lq a') l.length s a:=by
 induction l with
 | nil =>
  intro k s a _ hk _ _ hB h
  cases hk
  exact⟨hB,h⟩
 | cons o l ih =>
  rintro k s a ⟨r,hd⟩ hk inv hG hB h
  have ho:ops[k]?=some o:=by
   have h1:=congrArg List.head? hd
   rwa [List.head?_drop,Array.getElem?_toList] at h1
  have hd':ops.toList.drop (k+1)=l++r:=by
   have h1:=congrArg List.tail hd
   rwa [List.tail_drop] at h1
  have hlt:k<n:=by rw[←hk,List.length_cons];omega
  have hB':=hB
  unfold Region.lexHead at hB'
  rw[List.length_cons] at hB'
  simp only[Bool.and_eq_true,List.contains_iff_mem] at hB'
  obtain⟨v,hy,hK⟩:=yieldsIn_of_qOp (K:=wpQuiet P ops C Lq l) ho (by unfold qOp;rw[ho];exact h)
  exact Past.firstQ hW ho hlt hB'.1.2 hs (fun _ _ hL=>seqB_ready hL.1) _ ⟨inv,hG,hB'.1.1,fun _ h=>h⟩ hy
   (ih ⟨r,hd'⟩ (by rw[←hk,List.length_cons];omega) (inv.set hB'.1.1 hlt) (hW.keep _ _ hG) hB'.2 hK)
theorem any_of_tail{Q:Exit→Act→World→Prop}{l:List Oper}{f:Nat}{s:Array Bool}{a:Act}{w:World}(hC:C w)
  (H:headQ P .any l.toArray C n (fun s' a'=>Region.seqB .any l.toArray (l.length-n) n s'=true∧∀w',C w'→wpList P l.toArray Q (l.drop n) a' w') f s a):wpAny P .any l.toArray Q (l.length-n+f) s a w :=
 any_of_headQ (fun s a w hw hL=>by
  have h1:=wpAny_of_seq (P:=P) (md:=.any) (Q':=Q) (l.drop n) n s a w (fun j=>by rw[List.getElem?_drop,List.getElem?_toArray]) (by rw[List.length_drop];exact hL.1) (hL.2 w hw)
  rwa [List.length_drop] at h1) f hC H
theorem wp_region_tailC{id:Nat}{Q:Exit→Act→World→Prop}{a:Act}{w:World}{l:List Oper}(n:Nat)(hm:P.follows .mixedOrders=true)(hB:Region.lexTailB .any l.toArray n=true)(hC:C { w with drawn:=w.drawn+1 })
  (h:wpQuiet P l.toArray C (fun a'=>∀w',C w'→wpList P l.toArray Q (l.drop n) a' w') (l.take n) a):(Code.region id l.toArray true).wp P Q a w:=by
 unfold Region.lexTailB at hB
 simp only[Bool.and_eq_true,decide_eq_true_eq,List.size_toArray] at hB
 have hlen:(l.take n).length=n:=List.length_take_of_le (Nat.le_of_lt hB.1.1.1.2)
 have H:=headQ_lex (g:=l.length-n) (waits_all hB.1.1.2 hB.1.2 hB.1.1.1.2) hB.1.1.1.1 (l.take n) (k:=0) ⟨l.drop n,(List.take_append_drop n l).symm⟩ (by rw[hlen,Nat.zero_add]) (start_inv .any l.toArray n) trivial (by rw[hlen];exact hB.2) h
 rw[hlen] at H
 have h1:=any_of_tail (Q:=Q) hC H
 rw[Nat.sub_add_cancel (Nat.le_of_lt hB.1.1.1.2)] at h1
 exact wp_region_any hm h1
end
theorem wp_region_tail{P:Program}{id:Nat}{Q:Exit→Act→World→Prop}{a:Act}{w:World}{l:List Oper}(n:Nat)(hm:P.follows .mixedOrders=true)(hB:Region.lexTailB .any l.toArray n=true)
  (h:Nonempty (Lat w)→wpQuiet P l.toArray (fun w'=>∃x:Lat w,w'=lat w x) (fun a'=>∀w',(∃x:Lat w,w'=lat w x)→wpList P l.toArray Q (l.drop n) a' w') (l.take n) a):(Code.region id l.toArray true).wp P Q a w :=
 wp_region_tailC (C:=fun w'=>∃x:Lat w,w'=lat w x) n hm hB ⟨⟨_,(Below.refl _ _).drew⟩,rfl⟩ (h ⟨⟨_,Below.refl _ _⟩⟩)
end Go.Proofs.YtpkfmfhodbjckaaGreatDoor
