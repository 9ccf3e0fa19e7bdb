/-
  The contract of the reference's LaidOut.
-/
import Derived.Test.YtpkfmfhodbjckaaGreatDoorLyR
import Derived.Test.YtpkfmfhodbjckaaGreatDoorRefBB
import Derived.Test.YtpkfmfhodbjckaaGreatDoorLyLay
import Derived.Test.YtpkfmfhodbjckaaGreatDoorSmB
import Derived.BigRegion
namespace Go.Proofs.YtpkfmfhodbjckaaGreatDoor
open Go Go.RowKit
set_option linter.unusedVariables false
theorem res_laid{W:World}{tmps:Array Value}{g:Nat}{cs:Array Value}{er:Value}(hp:tmps.getD 4 undef=.pointer (some ⟨g,0,none⟩))(hq:tmps.getD 5 undef=er)(hg:W.heap[g]?=some (.cells cs 76 (0,0)))(hs:cs.size=15) :
  (results Tryz.f30 tmps).run Tryz.prog W=.ok (.tuple #[.agg cs,er]) W:=by
 have hp':tmps[4]?.getD undef=.pointer (some ⟨g,0,none⟩):=by simpa using hp
 have hq':tmps[5]?.getD undef=er:=by simpa using hq
 have hi:(Tryz.prog.info? 76).map (·.size)=some cs.size:=by rw[hs];kernel_rfl
 simp[results,Tryz.results30,hp',hq',asAddr,run_loadVar_row W g 76 76 cs (0,0) _ hg Tryz.underlying76 rfl hi]
theorem layArr_fr5{vF vN vC:Value}{f t:Nat→Int}{a:Nat}(h:a≤5):(layArr vF vN vC f t)[3+a]?=some (.int .i64 (f a)):=by
 have:a=0∨a=1∨a=2∨a=3∨a=4∨a=5:=by omega
 rcases this with rfl|rfl|rfl|rfl|rfl|rfl<;>rfl
theorem layArr_ti5{vF vN vC:Value}{f t:Nat→Int}{a:Nat}(h:a≤5):(layArr vF vN vC f t)[9+a]?=some (.int .i64 (t a)):=by
 have:a=0∨a=1∨a=2∨a=3∨a=4∨a=5:=by omega
 rcases this with rfl|rfl|rfl|rfl|rfl|rfl<;>rfl
set_option maxHeartbeats 32000000 in
set_option maxRecDepth 100000 in
theorem laidOut_any(p:M.Prt)(base:Int)(a1 a2:Option Addr)(c1 c2:Nat)(w:World)(hf:FragsAt w (.slice a1 p.frags.length c1) p.frags)(hd:DefsAt w (.slice a2 p.defs.length c2) p.defs)(hcap:p.frags.length≤c1)(hck:M.checkPart p=0)(hb00:0≤base)(hb66:base<65536) :
  Calls Tryz.prog 30 #[.agg #[.slice a1 p.frags.length c1,.slice a2 p.defs.length c2],.int .i64 base] w fun e w'=>Below w.heap.size w w'∧∃vF vN vC,e=.returned (.tuple #[.agg (layArr vF vN vC (M.lay p base).1.fr (M.lay p base).1.ti),.int .i64 (M.lay p base).2]) ∧
   w'.ownsRow w.heap.size 3 1 vF (M.lay p base).1.frags.length ((M.lay p base).1.frags.map (Value.int .i64))∧w'.ownsRow w.heap.size 9 1 vN (M.lay p base).1.names.length ((M.lay p base).1.names.map Value.string)∧(∀x∈(M.lay p base).1.names,x.size≤maxLen)∧w'.ownsRow w.heap.size 3 1 vC (M.lay p base).1.coms.length ((M.lay p base).1.coms.map (Value.int .i64)):=by
 obtain⟨i1,hi1,hy0,hy1,hy2⟩:=info_parts (P:=Tryz.prog) (e:=3) (z:=.int .i64 0) (size:=1) (bytes:=8) (by kernel_rfl)
 have hok:=(M.ok_iff p).1 hck
 have hnf:=hok.nf
 have HOk:Hid (∀f∈p.frags,M.FrgOk f):=fun f hm=>M.frgOk_of (hok.shape f hm)
 have HPos:Hid (∀k:Nat,base≤(M.secN p.frags base k).2∧(M.secN p.frags base k).2≤base+4275*k):=M.secN_pos (fun f hm=>HOk.out f hm) hnf hb00
 have HE:Hid (M.lay p base=if 65536<M.tillOf p base 5 then (M.lay0,10) else (M.layAll p base,0)):=by
  show (if M.checkPart p=0 then (if base<0∨65536≤base then (M.lay0,3) else if 65536<M.tillOf p base 5 then (M.lay0,10) else (M.layAll p base,0)) else (M.lay0,M.checkPart p))=_
  rw[if_pos hck,if_neg (by omega)]
 have HFD:Hid (∀W,Below w.heap.size w W→FragsAt W (.slice a1 p.frags.length c1) p.frags∧DefsAt W (.slice a2 p.defs.length c2) p.defs):=fun W hW=>⟨hf.later hW,hd.later hW⟩
 obtain⟨X,HX⟩:∃X,Hid (X=(w.alloc (.cells #[.slice a1 p.frags.length c1,.slice a2 p.defs.length c2] 43)).alloc (.cells #[.slice none 0 0,.slice none 0 0,.slice none 0 0,.int .i64 0,.int .i64 0,.int .i64 0,.int .i64 0,.int .i64 0,.int .i64 0,.int .i64 0,.int .i64 0,.int .i64 0,.int .i64 0,.int .i64 0,.int .i64 0] 76)):=⟨_,rfl⟩
 have hA:Below w.heap.size w X:=by rw[HX.out];exact(bra _ _).alloc (by simp) _
 have q0:X.heap[w.heap.size]?=some (.cells #[.slice a1 p.frags.length c1,.slice a2 p.defs.length c2] 43 (0,0)):=by rw[HX.out];exact heap_alloc2_old _ _ _
 have q1:X.heap[w.heap.size+1]?=some (.cells #[.slice none 0 0,.slice none 0 0,.slice none 0 0,.int .i64 0,.int .i64 0,.int .i64 0,.int .i64 0,.int .i64 0,.int .i64 0,.int .i64 0,.int .i64 0,.int .i64 0,.int .i64 0,.int .i64 0,.int .i64 0] 76 (0,0)):=by rw[HX.out];exact heap_alloc2_new _ _ _
 have hlX:=lt1 q1
 have h1z:(#[.slice none 0 0,.slice none 0 0,.slice none 0 0,.int .i64 0,.int .i64 0,.int .i64 0,.int .i64 0,.int .i64 0,.int .i64 0,.int .i64 0,.int .i64 0,.int .i64 0,.int .i64 0,.int .i64 0,.int .i64 0]:Array Value).all (·.oneCell')=true:=by kernel_rfl
 have hsi:(Tryz.prog.info? 76).map (·.size)=some (#[.slice none 0 0,.slice none 0 0,.slice none 0 0,.int .i64 0,.int .i64 0,.int .i64 0,.int .i64 0,.int .i64 0,.int .i64 0,.int .i64 0,.int .i64 0,.int .i64 0,.int .i64 0,.int .i64 0,.int .i64 0]:Array Value).size:=by kernel_rfl
 have cp0:=cellC q0 0 rfl
 obtain⟨w1,hmk,hrow,hgr⟩:=run_makeSlice_full X (w.heap.size+1+1) 73 3 i1 (.int .i64 0) 1 Tryz.underlying73 hi1 hy0 hy1 .i64 .i64 p.frags.length (by omega) (by rw[hy2];omega) (by unfold maxLen;omega) (by omega)
 rw[made_ints] at hrow
 have r0:=(hgr.block _ (lt1 q0) (by simp)).trans q0
 have r1:=(hgr.block _ (lt1 q1) (by simp)).trans q1
 have HB1:Hid (Below w.heap.size w w1):=hA.grown hgr hA.size (fun k hk=>by cases hk)
 have hlw:w.heap.size<X.heap.size:=by omega
 have HDs:Hid (∀d∈p.defs,M.plainDfn d=0):=hok.plain
 have h60:p.defs.length≤60:=hok.nd
 clear hf hd q0 q1 hgr hA
 go_enter Tryz.func30,Tryz.ntmps30
 go_upto_region 1 with fail
 rw[←HX.out]
 clear HX
 go_upto_region 4 with fail
 have HI0:Hid (YR w (w1.alloc (.cells #[.slice (some ⟨X.heap.size,0,none⟩) p.frags.length p.frags.length,.slice none 0 0,.slice none 0 0,.int .i64 0,.int .i64 0,.int .i64 0,.int .i64 0,.int .i64 0,.int .i64 0,.int .i64 0,.int .i64 0,.int .i64 0,.int .i64 0,.int .i64 0,.int .i64 0] 76)) a1 a2 c1 c2 p (w1.heap.size+1) X.heap.size w1.heap.size (M.secN p.frags base 0).1 (.slice none 0 0) (.slice none 0 0) [] [] (M.frAt p base 0) (M.tiAt p base 0)):=by
  have hl1:=lt1 r1
  have hgl:=row_high hrow
  exact⟨⟨(heap_alloc_old _ _ (by omega)).trans r0,(heap_alloc_old _ _ hl1).trans r1,heap_alloc_new _ _,hrow.alloc _,HB1.out.alloc HB1.out.size _,hl1⟩,World.ownsRow_nil _ _ _ _,World.ownsRow_nil _ _ _ _,by omega⟩
 clear hmk hrow r0 r1 HB1 cp0
 generalize w1.alloc (.cells #[.slice (some ⟨X.heap.size,0,none⟩) p.frags.length p.frags.length,.slice none 0 0,.slice none 0 0,.int .i64 0,.int .i64 0,.int .i64 0,.int .i64 0,.int .i64 0,.int .i64 0,.int .i64 0,.int .i64 0,.int .i64 0,.int .i64 0,.int .i64 0,.int .i64 0] 76)=Y at *
 generalize w1.heap.size+1=B at *
 generalize w1.heap.size=b at *
 generalize X.heap.size=g at *
 go_loopw [7,8] (fun s7 s8 wr=>∃(k B:Nat) (vN vC:Value) (N:List ByteArray) (C:List Int),1≤k∧k≤6∧s8=.int .i64 k∧s7=.int .i64 (M.tillOf p base (k-1))∧Hid (YR w wr a1 a2 c1 c2 p B g b (M.secN p.frags base (k-1)).1 vN vC N C (M.frAt p base (k-1)) (M.tiAt p base (k-1)))∧Hid (k<6→N=[]∧C=[]∧vN=.slice none 0 0∧vC=.slice none 0 0)∧Hid (k=6→N=(M.commons p (M.secN p.frags base 5).2).names∧C=(M.commons p (M.secN p.frags base 5).2).at_∧∀x∈N,x.size≤maxLen)) (fun _ s8 _=>6-(intOf s8).toNat)
 case atStart=>exact⟨1,B,_,_,[],[],by decide,by decide,rfl,rfl,HI0,(fun _=>⟨rfl,rfl,rfl,rfl⟩),fun h=>by cases h⟩
 case round =>
  obtain⟨K,B,vN,vC,N,C,k1,k6,rfl,rfl,HI,HN5,HN6⟩:=hrel
  clear HI0
  by_cases hK:K=6
  ·subst hK
   have HI5:Hid (YI w wr a1 a2 c1 c2 p g b (M.secN p.frags base 5).1 vN vC (M.frAt p base 5) (M.tiAt p base 5)):=HI.out.yi
   obtain⟨e1,e2,hz5'⟩:=HN6.out rfl
   have hN5:wr.ownsRow B 9 1 vN (M.commons p (M.secN p.frags base 5).2).names.length ((M.commons p (M.secN p.frags base 5).2).names.map Value.string):=by rw[←e1];exact HI.out.names
   have hC5:wr.ownsRow B 3 1 vC (M.commons p (M.secN p.frags base 5).2).at_.length ((M.commons p (M.secN p.frags base 5).2).at_.map (Value.int .i64)):=by rw[←e2];exact HI.out.coms
   have hz5:∀x∈(M.commons p (M.secN p.frags base 5).2).names,x.size≤maxLen:=by rw[←e1];exact hz5'
   have hbB:=HI.out.low.1
   rw[show (6:Nat)-1=5 from rfl]
   clear HI HN5 HN6 e1 e2 hz5' HFD HDs HPos HOk
   have q4:wr.heap[w.heap.size+1]?=some (.cells #[.slice none 0 0,.slice none 0 0,.slice none 0 0,.int .i64 0,.int .i64 0,.int .i64 0,.int .i64 0,.int .i64 0,.int .i64 0,.int .i64 0,.int .i64 0,.int .i64 0,.int .i64 0,.int .i64 0,.int .i64 0] 76 (0,0)):=HI5.out.res
   have q7:wr.heap[b]?=some (.cells (layArr (.slice (some ⟨g,0,none⟩) p.frags.length p.frags.length) vN vC (M.frAt p base 5) (M.tiAt p base 5)) 76 (0,0)):=HI5.out.blk
   have hlb:=lt1 q7
   have hl1:=lt1 q4
   have hhb:=HI5.out.high
   by_cases hfull:65536<M.tillOf p base 5
   ·have HE2:Hid (M.lay p base=(M.lay0,10)):=by rw[Hid,HE.out,if_pos hfull]
    have HZ1:Hid ((wr.setRow (w.heap.size+1) #[.slice none 0 0,.slice none 0 0,.slice none 0 0,.int .i64 0,.int .i64 0,.int .i64 0,.int .i64 0,.int .i64 0,.int .i64 0,.int .i64 0,.int .i64 0,.int .i64 0,.int .i64 0,.int .i64 0,.int .i64 0]).heap[w.heap.size+1]?=some (.cells #[.slice none 0 0,.slice none 0 0,.slice none 0 0,.int .i64 0,.int .i64 0,.int .i64 0,.int .i64 0,.int .i64 0,.int .i64 0,.int .i64 0,.int .i64 0,.int .i64 0,.int .i64 0,.int .i64 0,.int .i64 0] 76 (0,0))):=setRow_heap _ _ _ _ _ _ q4
    have HB1:Hid (Below w.heap.size w (wr.setRow (w.heap.size+1) #[.slice none 0 0,.slice none 0 0,.slice none 0 0,.int .i64 0,.int .i64 0,.int .i64 0,.int .i64 0,.int .i64 0,.int .i64 0,.int .i64 0,.int .i64 0,.int .i64 0,.int .i64 0,.int .i64 0,.int .i64 0])):=below_setRow HI5.out.below (by omega)
    clear HI5 hN5 hC5 hz5 HE q7
    generalize M.tillOf p base 5=te at *
    go_wp2_with (refine wpList_store_row rfl 76 _ _ rfl (w.heap.size+1) #[.slice none 0 0,.slice none 0 0,.slice none 0 0,.int .i64 0,.int .i64 0,.int .i64 0,.int .i64 0,.int .i64 0,.int .i64 0,.int .i64 0,.int .i64 0,.int .i64 0,.int .i64 0,.int .i64 0,.int .i64 0] rfl rfl 76 #[.slice none 0 0,.slice none 0 0,.slice none 0 0,.int .i64 0,.int .i64 0,.int .i64 0,.int .i64 0,.int .i64 0,.int .i64 0,.int .i64 0,.int .i64 0,.int .i64 0,.int .i64 0,.int .i64 0,.int .i64 0] q4 hsi rfl h1z ?_)
    refine bodyPost_ret (v:=.tuple #[.agg #[.slice none 0 0,.slice none 0 0,.slice none 0 0,.int .i64 0,.int .i64 0,.int .i64 0,.int .i64 0,.int .i64 0,.int .i64 0,.int .i64 0,.int .i64 0,.int .i64 0,.int .i64 0,.int .i64 0,.int .i64 0],.int .i64 10]) (res_laid (g:=w.heap.size+1) rfl rfl HZ1.out rfl) rfl ?_
    rw[HE2.out]
    exact⟨HB1.out,.slice none 0 0,.slice none 0 0,.slice none 0 0,rfl,World.ownsRow_nil _ _ _ _,World.ownsRow_nil _ _ _ _,(fun x hx=>by cases hx),World.ownsRow_nil _ _ _ _⟩
   ·have HE2:Hid (M.lay p base=(M.layAll p base,0)):=by rw[Hid,HE.out,if_neg hfull]
    have hff:decide (65536<M.tillOf p base 5)=false:=by simpa using hfull
    have hoF:=HI5.out.row
    have hsl:(M.secN p.frags base 5).1.length=p.frags.length:=M.secN_len _ _ _
    have HF5:Hid ((wr.setRow (w.heap.size+1) (layArr (.slice (some ⟨g,0,none⟩) p.frags.length p.frags.length) vN vC (M.frAt p base 5) (M.tiAt p base 5))).ownsRow w.heap.size 3 1 (.slice (some ⟨g,0,none⟩) p.frags.length p.frags.length) (M.secN p.frags base 5).1.length ((M.secN p.frags base 5).1.map (Value.int .i64))):=own_low (B:=w.heap.size+1+1) (by rw[hsl];exact hoF.kept (gb_setRow _ _ _) (.inr (fun e=>by have h1:=row_high hoF;have h2:g=w.heap.size+1:=Option.some.inj e;omega))) (by omega)
    have HN5:Hid ((wr.setRow (w.heap.size+1) (layArr (.slice (some ⟨g,0,none⟩) p.frags.length p.frags.length) vN vC (M.frAt p base 5) (M.tiAt p base 5))).ownsRow w.heap.size 9 1 vN (M.commons p (M.secN p.frags base 5).2).names.length ((M.commons p (M.secN p.frags base 5).2).names.map Value.string)):=own_low (hN5.kept (gb_setRow _ _ _) (.inr (fun e=>by have:=(hN5.lt _ e).1;omega))) (by omega)
    have HZ5:Hid (∀x∈(M.commons p (M.secN p.frags base 5).2).names,x.size≤maxLen):=hz5
    have HC5:Hid ((wr.setRow (w.heap.size+1) (layArr (.slice (some ⟨g,0,none⟩) p.frags.length p.frags.length) vN vC (M.frAt p base 5) (M.tiAt p base 5))).ownsRow w.heap.size 3 1 vC (M.commons p (M.secN p.frags base 5).2).at_.length ((M.commons p (M.secN p.frags base 5).2).at_.map (Value.int .i64))):=own_low (hC5.kept (gb_setRow _ _ _) (.inr (fun e=>by have:=(hC5.lt _ e).1;omega))) (by omega)
    obtain⟨a6,n6,c6,rfl⟩:=own_form hN5
    obtain⟨a7,n7,c7,rfl⟩:=own_form hC5
    have HZ1:Hid ((wr.setRow (w.heap.size+1) (layArr (.slice (some ⟨g,0,none⟩) p.frags.length p.frags.length) (.slice a6 n6 c6) (.slice a7 n7 c7) (M.frAt p base 5) (M.tiAt p base 5))).heap[w.heap.size+1]?=some (.cells (layArr (.slice (some ⟨g,0,none⟩) p.frags.length p.frags.length) (.slice a6 n6 c6) (.slice a7 n7 c7) (M.frAt p base 5) (M.tiAt p base 5)) 76 (0,0))):=setRow_heap _ _ _ _ _ _ q4
    have HB1:Hid (Below w.heap.size w (wr.setRow (w.heap.size+1) (layArr (.slice (some ⟨g,0,none⟩) p.frags.length p.frags.length) (.slice a6 n6 c6) (.slice a7 n7 c7) (M.frAt p base 5) (M.tiAt p base 5)))):=below_setRow HI5.out.below (by omega)
    have hs5:(layArr (.slice (some ⟨g,0,none⟩) p.frags.length p.frags.length) (.slice a6 n6 c6) (.slice a7 n7 c7) (M.frAt p base 5) (M.tiAt p base 5)).size=15:=rfl
    have h15:(layArr (.slice (some ⟨g,0,none⟩) p.frags.length p.frags.length) (.slice a6 n6 c6) (.slice a7 n7 c7) (M.frAt p base 5) (M.tiAt p base 5)).all (·.oneCell')=true:=by simp[layArr,Value.oneCell']
    have hsi5:(Tryz.prog.info? 76).map (·.size)=some (layArr (.slice (some ⟨g,0,none⟩) p.frags.length p.frags.length) (.slice a6 n6 c6) (.slice a7 n7 c7) (M.frAt p base 5) (M.tiAt p base 5)).size:=hsi
    clear HI5 hN5 hC5 hz5 HE hoF
    obtain⟨C,hC⟩:∃C,layArr (.slice (some ⟨g,0,none⟩) p.frags.length p.frags.length) (.slice a6 n6 c6) (.slice a7 n7 c7) (M.frAt p base 5) (M.tiAt p base 5)=C:=⟨_,rfl⟩
    have HC:Hid (layArr (.slice (some ⟨g,0,none⟩) p.frags.length p.frags.length) (.slice a6 n6 c6) (.slice a7 n7 c7) (M.frAt p base 5) (M.tiAt p base 5)=C):=hC
    rw[hC] at HF5 HN5 HC5 HZ1 HB1 hs5 h15 hsi5 q7
    clear hC
    generalize M.tillOf p base 5=te at *
    go_wp2_with (first|(refine wpList_load_row rfl 76 _ rfl b rfl 76 C (0,0) _ q7 Tryz.underlying76 rfl hsi5 ?_)|(refine wpList_store_row rfl 76 _ _ rfl (w.heap.size+1) C rfl rfl 76 #[.slice none 0 0,.slice none 0 0,.slice none 0 0,.int .i64 0,.int .i64 0,.int .i64 0,.int .i64 0,.int .i64 0,.int .i64 0,.int .i64 0,.int .i64 0,.int .i64 0,.int .i64 0,.int .i64 0,.int .i64 0] q4 hsi5 hs5.symm h15 ?_))
    refine bodyPost_ret (v:=.tuple #[.agg C,.int .i64 0]) (res_laid (g:=w.heap.size+1) rfl rfl HZ1.out hs5) rfl ?_
    rw[HE2.out]
    exact⟨HB1.out,_,_,_,by rw[←HC.out];rfl,HF5.out,HN5.out,HZ5.out,HC5.out⟩
  ·have hK5:(K:Int)≤5:=by omega
   have hKl:(K:Int)<6:=by omega
   have hK0:(0:Int)≤(K:Int):=by omega
   obtain⟨rfl,rfl,hvN,hvC⟩:=HN5.out (by omega)
   have HvN:Hid (vN=.slice none 0 0∧vC=.slice none 0 0):=⟨hvN,hvC⟩
   clear hvN hvC
   have hte:M.tillOf p base (K-1)=(M.secN p.frags base (K-1)).2:=by unfold M.tillOf;rw[if_neg (by omega)]
   rw[hte]
   have hp1:=(HPos.out (K-1)).1
   have hp2:=(HPos.out (K-1)).2
   have hp3:(M.secN p.frags base (K-1)).2≤90000:=by omega
   have hp16:=M.next_bounds (a:=(M.secN p.frags base (K-1)).2) (d:=16) (by omega) (.inr (.inr (.inr (.inr rfl))))
   have KN:Hid (∀W,Calls Tryz.prog 69 #[.int .i64 (M.secN p.frags base (K-1)).2,.int .i64 16] W fun e w'=>e=.returned (.int .i64 (M.next (M.secN p.frags base (K-1)).2 16))∧W=w'):=fun W=>rnext_any _ 16 W (by omega) (by omega) (.inr (.inr (.inr (.inr rfl))))
   have kc:wr.cell? ⟨b,3+K,none⟩=some (.int .i64 (M.frAt p base (K-1) K)):=(cellB HI.out.yi.blk (3+K)).trans (layArr_fr5 (by omega))
   have kz:wr.frozen? ⟨b,3+K,none⟩=false:=frozenB HI.out.yi.blk (3+K)
   have hlb:=lt1 HI.out.yi.blk
   have HLs:Hid (∀i,0≤(lsAt K (M.secN p.frags base (K-1)).1 (M.next (M.secN p.frags base (K-1)).2 16) p.frags i).pos∧(lsAt K (M.secN p.frags base (K-1)).1 (M.next (M.secN p.frags base (K-1)).2 16) p.frags i).pos≤100000):=fun i=>by
    have h:=lsAt_pos (sect:=(K:Int)) (adr:=(M.secN p.frags base (K-1)).1) (pos:=M.next (M.secN p.frags base (K-1)).2 16) (by omega) HOk.out i
    omega
   have HLl:Hid (∀i,(lsAt K (M.secN p.frags base (K-1)).1 (M.next (M.secN p.frags base (K-1)).2 16) p.frags i).adr.length=p.frags.length):=fun i=>(lsAt_len _ _ _ _ i).trans (M.secN_len _ _ _)
   have HSec:Hid (lsAt K (M.secN p.frags base (K-1)).1 (M.next (M.secN p.frags base (K-1)).2 16) p.frags p.frags.length=M.layFrags K (M.secN p.frags base (K-1)).1 p.frags (M.next (M.secN p.frags base (K-1)).2 16)):=lsAt_all _ _ _ _
   have HSec2:Hid ((M.layFrags K (M.secN p.frags base (K-1)).1 p.frags (M.next (M.secN p.frags base (K-1)).2 16)).adr=(M.secN p.frags base K).1∧(M.layFrags K (M.secN p.frags base (K-1)).1 p.frags (M.next (M.secN p.frags base (K-1)).2 16)).pos=(M.secN p.frags base K).2):=by
    obtain⟨k,rfl⟩:∃k,K=k+1:=⟨K-1,by omega⟩
    exact⟨rfl,rfl⟩
   have HT0:Hid (∀i,i<p.frags.length→(p.frags.getD i frg0).sect≠K→lsAt K (M.secN p.frags base (K-1)).1 (M.next (M.secN p.frags base (K-1)).2 16) p.frags (i+1)=lsAt K (M.secN p.frags base (K-1)).1 (M.next (M.secN p.frags base (K-1)).2 16) p.frags i):=fun i hi h=>lsAt_skip hi h
   have HT1:Hid (∀i k,i<p.frags.length→k<i→isTwin K p.frags i k=true→(p.frags.getD i frg0).sect=K→lsAt K (M.secN p.frags base (K-1)).1 (M.next (M.secN p.frags base (K-1)).2 16) p.frags (i+1)=⟨(lsAt K (M.secN p.frags base (K-1)).1 (M.next (M.secN p.frags base (K-1)).2 16) p.frags i).adr.set i ((lsAt K (M.secN p.frags base (K-1)).1 (M.next (M.secN p.frags base (K-1)).2 16) p.frags i).adr.getD k 0),(lsAt K (M.secN p.frags base (K-1)).1 (M.next (M.secN p.frags base (K-1)).2 16) p.frags i).pos,(lsAt K (M.secN p.frags base (K-1)).1 (M.next (M.secN p.frags base (K-1)).2 16) p.frags i).seen⟩):=fun i k hi hk ht hs=>twin_some (by omega) (M.secN_len _ _ _) HOk.out hi hk ht hs
   have HT2:Hid (∀i,i<p.frags.length→(∀k,k<i→isTwin K p.frags i k=false)→(p.frags.getD i frg0).sect=K→(lsAt K (M.secN p.frags base (K-1)).1 (M.next (M.secN p.frags base (K-1)).2 16) p.frags (i+1)).adr=(lsAt K (M.secN p.frags base (K-1)).1 (M.next (M.secN p.frags base (K-1)).2 16) p.frags i).adr.set i (M.next (lsAt K (M.secN p.frags base (K-1)).1 (M.next (M.secN p.frags base (K-1)).2 16) p.frags i).pos (p.frags.getD i frg0).align)∧(lsAt K (M.secN p.frags base (K-1)).1 (M.next (M.secN p.frags base (K-1)).2 16) p.frags (i+1)).pos=M.next (lsAt K (M.secN p.frags base (K-1)).1 (M.next (M.secN p.frags base (K-1)).2 16) p.frags i).pos (p.frags.getD i frg0).align+M.long (p.frags.getD i frg0)):=fun i hi ht hs=>twin_none (by omega) (M.secN_len _ _ _) HOk.out hi ht hs
   go_upto_region 8 with (go_at_call 69;refine(KN.out _).mono ?_;rintro e w' ⟨rfl,rfl⟩)
   have HI1:Hid (YR w (wr.setCell ⟨b,3+K,none⟩ (.int .i64 (M.next (M.secN p.frags base (K-1)).2 16))) a1 a2 c1 c2 p B g b (M.secN p.frags base (K-1)).1 vN vC [] [] (M.frAt p base K) (M.tiAt p base (K-1))):=HI.out.put (3+K) _ _ _ (by
    obtain⟨k,rfl⟩:∃k,K=k+1:=⟨K-1,by omega⟩
    exact fr_put _ _ _ p base _ (by omega))
   clear KN kc kz hlb HI HN5 HN6
   generalize wr.setCell ⟨b,3+K,none⟩ (.int .i64 (M.next (M.secN p.frags base (K-1)).2 16))=X1 at *
   have hL0:=lsAt_0 K (M.secN p.frags base (K-1)).1 (M.next (M.secN p.frags base (K-1)).2 16) p.frags
   have HI2:Hid (YR w X1 a1 a2 c1 c2 p B g b (lsAt K (M.secN p.frags base (K-1)).1 (M.next (M.secN p.frags base (K-1)).2 16) p.frags 0).adr vN vC [] [] (M.frAt p base K) (M.tiAt p base (K-1))):=by rw[hL0];exact HI1.out
   have HL0:Hid (M.next (M.secN p.frags base (K-1)).2 16=(lsAt K (M.secN p.frags base (K-1)).1 (M.next (M.secN p.frags base (K-1)).2 16) p.frags 0).pos):=by rw[hL0];rfl
   clear HI1 hL0 hp16 hp1 hp2 hp3 hte
   generalize hls:lsAt K (M.secN p.frags base (K-1)).1 (M.next (M.secN p.frags base (K-1)).2 16) p.frags=ls at *
   clear hls
   generalize M.layFrags K (M.secN p.frags base (K-1)).1 p.frags (M.next (M.secN p.frags base (K-1)).2 16)=lf at *
   generalize M.next (M.secN p.frags base (K-1)).2 16=nx at *
   obtain rfl:=HL0.out
   clear HL0
   have x0:X1.cell? ⟨w.heap.size,0,none⟩=some (.slice a1 p.frags.length c1):=cellB HI2.out.yi.part 0
   have xl:=lt1 HI2.out.yi.part
   go_wp2_with fail
   clear x0 xl
   go_loopw [7,37] (fun s7 s37 wr=>∃(i:Nat),i≤p.frags.length∧s37=.int .i64 i∧s7=.int .i64 (ls i).pos∧Hid (YR w wr a1 a2 c1 c2 p B g b (ls i).adr vN vC [] [] (M.frAt p base K) (M.tiAt p base (K-1)))) (fun _ s37 _=>p.frags.length-(intOf s37).toNat)
   case atStart=>exact⟨0,Nat.zero_le _,rfl,rfl,HI2⟩
   case round =>
    obtain⟨i,hi,rfl,rfl,HIi⟩:=hrel
    clear HI2
    by_cases hlt:i<p.frags.length
    ·have hkl:(i:Int)<(p.frags.length:Int):=by omega
     obtain⟨bb,off,ab,cb,ar,cr,hae,e0,e1,e2,e3,e4,e5,hBy,_⟩:=(HFD.out wr HIi.out.yi.below).1.cells i hlt
     subst hae
     have hbl:bb<wr.heap.size:=wlt e0
     have hokf:=HOk.out _ (getD_mem p.frags frg0 i hlt)
     have T0:Hid _:=HT0.out i hlt
     have T1:Hid (∀k,k<i→isTwin K p.frags i k=true→(p.frags.getD i frg0).sect=K→ls (i+1)=⟨(ls i).adr.set i ((ls i).adr.getD k 0),(ls i).pos,(ls i).seen⟩):=fun k=>HT1.out i k hlt
     have T2:Hid _:=HT2.out i hlt
     have hpi:=HLs.out i
     have hli:(ls i).adr.length=p.frags.length:=HLl.out i
     have HLi:Hid _:=hli
     clear hli
     have HTw:Hid (∀k,isTwin K p.frags i k=((K:Int)==3&&((p.frags.getD k frg0).sect==K&&((p.frags.getD k frg0).align==(p.frags.getD i frg0).align&&M.allTwo (fun x y=>x==y) (p.frags.getD k frg0).bytes (p.frags.getD i frg0).bytes)))):=fun k=>rfl
     have HLg:Hid (M.long (p.frags.getD i frg0)=M.lng (p.frags.getD i frg0).sect (p.frags.getD i frg0).size (p.frags.getD i frg0).bytes.length):=rfl
     have hal:=hokf.align
     have hl0:=hokf.long0
     have hl6:=hokf.long64
     clear hokf
     generalize hfe:p.frags.getD i frg0=f at *
     clear hfe
     obtain⟨sc,al,gr,bs,sz,rs⟩:=f
     simp only at *
     generalize M.long ⟨sc,al,gr,bs,sz,rs⟩=lg at *
     go_upto_region 11 with fail
     have hXb:Below wr.heap.size wr (wr.alloc (.cells #[.int .i64 sc,.int .i64 al,.string gr,.slice ab bs.length cb,.int .i64 sz,.slice ar rs.length cr] 87)):=bra _ _
     have hXq:=heap_alloc_new wr (.cells #[.int .i64 sc,.int .i64 al,.string gr,.slice ab bs.length cb,.int .i64 sz,.slice ar rs.length cr] 87)
     have HByX:Hid (BytesAt (wr.alloc (.cells #[.int .i64 sc,.int .i64 al,.string gr,.slice ab bs.length cb,.int .i64 sz,.slice ar rs.length cr] 87)) (.slice ab bs.length cb) bs):=hBy.later hXb
     generalize wr.alloc (.cells #[.int .i64 sc,.int .i64 al,.string gr,.slice ab bs.length cb,.int .i64 sz,.slice ar rs.length cr] 87)=X2 at *
     have HIX:Hid (YR w X2 (some ⟨bb,off,none⟩) a2 c1 c2 p B g b (ls i).adr vN vC [] [] (M.frAt p base K) (M.tiAt p base (K-1))):=HIi.out.later hXb
     generalize wr.heap.size=fn at *
     have z0:=cellC hXq 0 rfl
     have zl:=lt1 hXq
     have HQf:Hid (X2.heap[fn]?=some (.cells #[.int .i64 sc,.int .i64 al,.string gr,.slice ab bs.length cb,.int .i64 sz,.slice ar rs.length cr] 87 (0,0))):=hXq
     clear e0 e1 e2 e3 e4 e5 hbl hXb hXq hBy HIi
     by_cases hs:sc=(K:Int)
     ·have HSc:Hid (sc=(K:Int)):=hs
      have hsn:(sc !=(K:Int))=false:=by simpa using hs
      clear hs T0
      have x0:X2.cell? ⟨w.heap.size,0,none⟩=some (.slice (some ⟨bb,off,none⟩) p.frags.length c1):=cellB HIX.out.yi.part 0
      have xl:=lt1 HIX.out.yi.part
      have hic:(i:Int)≤(c1:Int):=by omega
      have hi0:(0:Int)≤(i:Int):=by omega
      go_wp2_with fail
      clear x0 xl z0 zl
      go_loopw [11,51] (fun s11 s51 wr=>∃(k:Nat),k≤i∧s51=.int .i64 k∧s11=.int .i64 (-1)∧Hid (Below X2.heap.size X2 wr)∧Hid (∀k',k' < k→isTwin K p.frags i k'=false)) (fun _ s51 _=>i-(intOf s51).toNat)
      case atStart=>exact⟨0,Nat.zero_le _,rfl,rfl,Below.refl _ _,fun k' h=>absurd h (Nat.not_lt_zero k')⟩
      case round =>
       obtain⟨k,hk,rfl,rfl,HBk,HTn⟩:=hrel
       have HIk:Hid (YR w wr (some ⟨bb,off,none⟩) a2 c1 c2 p B g b (ls i).adr vN vC [] [] (M.frAt p base K) (M.tiAt p base (K-1))):=HIX.out.later HBk.out
       have qf:=blk HBk.out HQf.out
       by_cases hki:k<i
       ·have hkl':(k:Int)<(i:Int):=by omega
        obtain⟨b2,o2,ab',cb',ar',cr',e,e0,e1,e2,e3,e4,e5,hBy',_⟩:=(HFD.out wr HIk.out.yi.below).1.cells k (by omega)
        cases e
        have hbl:bb<wr.heap.size:=wlt e0
        have Tw:Hid _:=HTw.out k
        have T1k:Hid _:=T1.out k hki
        have hByw:=HByX.out.later HBk.out
        have HTs:Hid (isTwin K p.frags i k=false→∀k',k' < k+1→isTwin K p.frags i k'=false):=fun h k' h'=>by
         by_cases e:k'=k
         ·subst e;exact h
         ·exact HTn.out k' (by omega)
        clear HTn T1 HTw
        generalize isTwin K p.frags i k=tw at *
        generalize p.frags.getD k frg0=f' at *
        obtain⟨sc',al',gr',bs',sz',rs'⟩:=f'
        simp only at *
        go_upto_region 16 with fail
        have hYb:Below wr.heap.size wr (wr.alloc (.cells #[.int .i64 sc',.int .i64 al',.string gr',.slice ab' bs'.length cb',.int .i64 sz',.slice ar' rs'.length cr'] 87)):=bra _ _
        have hYq:=heap_alloc_new wr (.cells #[.int .i64 sc',.int .i64 al',.string gr',.slice ab' bs'.length cb',.int .i64 sz',.slice ar' rs'.length cr'] 87)
        have KE:Hid _:=bytesEqual_any bs' bs ab' ab cb' cb (wr.alloc (.cells #[.int .i64 sc',.int .i64 al',.string gr',.slice ab' bs'.length cb',.int .i64 sz',.slice ar' rs'.length cr'] 87)) (hBy'.later hYb) (hByw.later hYb)
        generalize wr.alloc (.cells #[.int .i64 sc',.int .i64 al',.string gr',.slice ab' bs'.length cb',.int .i64 sz',.slice ar' rs'.length cr'] 87)=Y2 at *
        have HBY:Hid (Below X2.heap.size X2 Y2):=HBk.out.trans (hYb.mono HBk.out.size)
        have HIY:Hid (YR w Y2 (some ⟨bb,off,none⟩) a2 c1 c2 p B g b (ls i).adr vN vC [] [] (M.frAt p base K) (M.tiAt p base (K-1))):=HIk.out.later hYb
        have qf2:=blk hYb qf
        generalize wr.heap.size=gn at *
        have y0:=cellC hYq 0 rfl
        have y1:=cellC hYq 1 rfl
        have y3:=cellC hYq 3 rfl
        have yl:=lt1 hYq
        have u1:=cellC qf2 1 rfl
        have u3:=cellC qf2 3 rfl
        have ul:=lt1 qf2
        clear e0 e1 e2 e3 e4 e5 hbl hYb hYq hBy' hByw qf qf2 HIk HBk
        generalize M.allTwo (fun x y=>x==y) bs' bs=eq2 at *
        go_cut [77] (fun s77 wx=>s77=.bool tw∧wx=Y2)
        case first =>
         cases c1':((K:Int)==3)
         ·obtain rfl:tw=false:=by rw[Tw.out,c1'];rfl
          clear Tw T1k HTs KE
          go_wp2_with fail
          go_meet
          exact⟨rfl,rfl⟩
         ·cases c2':(sc'==(K:Int))
          ·obtain rfl:tw=false:=by rw[Tw.out,c1',c2'];rfl
           clear Tw T1k HTs KE
           go_wp2_with fail
           go_meet
           exact⟨rfl,rfl⟩
          ·cases c3':(al'==al)
           ·obtain rfl:tw=false:=by rw[Tw.out,c1',c2',c3'];rfl
            clear Tw T1k HTs KE
            go_wp2_with fail
            go_meet
            exact⟨rfl,rfl⟩
           ·obtain rfl:tw=eq2:=by rw[Tw.out,c1',c2',c3'];rfl
            clear Tw T1k HTs
            go_wp2_with (go_at_call 20;refine(show Calls _ _ _ _ _ from KE.out).mono ?_;rintro e w' ⟨rfl,hwe⟩;subst hwe)
            go_meet
            exact⟨rfl,rfl⟩
        case rest =>
         obtain⟨rfl,hwe⟩:=hcut
         rename World=>Wc
         subst hwe
         clear y0 y1 y3 yl u1 u3 ul KE Tw
         cases tw
         ·have HTs2:Hid _:=HTs.out rfl
          clear HTs T1k
          go_wp2_with fail
          go_roundw
          case rel=>exact⟨k+1,by omega,by go_num,rfl,HBY,HTs2⟩
          case measure=>simp[intOf];omega
         ·have T:=T1k.out rfl HSc.out
          have HT:Hid _:=T
          clear T T1k HTs
          have l0:Wc.cell? ⟨b,0,none⟩=some (.slice (some ⟨g,0,none⟩) p.frags.length p.frags.length):=cellB HIY.out.yi.blk 0
          have ll:=lt1 HIY.out.yi.blk
          obtain⟨rk,_,rl⟩:=row_cell HIY.out.yi.row k (by omega)
          obtain⟨ri,rz,_⟩:=row_cell HIY.out.yi.row i hlt
          have hkn:(k:Int)<(p.frags.length:Int):=by omega
          have hk0:(0:Int)≤(k:Int):=by omega
          have HSt:Hid (YR w (Wc.setCell ⟨g,i,none⟩ (.int .i64 ((ls i).adr.getD k 0))) (some ⟨bb,off,none⟩) a2 c1 c2 p B g b ((ls i).adr.set i ((ls i).adr.getD k 0)) vN vC [] [] (M.frAt p base K) (M.tiAt p base (K-1))):=HIY.out.store i _ (by rw[HLi.out];exact hlt)
          generalize (ls i).adr.getD k 0=xk at *
          generalize (ls i).adr.getD i 0=xi at *
          go_wp2_with fail
          go_big_region
          go_wp2_with fail
          go_roundw
          case rel=>exact⟨i+1,by omega,by go_num,by rw[HT.out],by rw[HT.out];exact HSt.out.later (Below.refl _ _).drew⟩
          case measure=>simp[intOf];omega
       ·have hki':k=i:=by omega
        subst hki'
        obtain⟨T3,T4⟩:=T2.out HTn.out HSc.out
        have HT3:Hid _:=T3
        have HT4:Hid _:=T4
        have hnb:=M.next_bounds hpi.1 hal
        have hap:=hal.pos
        have KN2:Hid (∀W,Calls Tryz.prog 69 #[.int .i64 (ls k).pos,.int .i64 al] W fun e w'=>e=.returned (.int .i64 (M.next (ls k).pos al))∧W=w'):=fun W=>rnext_any _ al W hpi.1 (by omega) hal
        have KLg:Hid (∀W,Calls Tryz.prog 63 #[.agg #[.int .i64 sc,.int .i64 al,.string gr,.slice ab bs.length cb,.int .i64 sz,.slice ar rs.length cr]] W fun e w'=>e=.returned (.int .i64 lg)∧Below W.heap.size W w'):=fun W=>by rw[HLg.out];exact longOf_any sc al sz gr ab bs.length cb _ W
        have l0:wr.cell? ⟨b,0,none⟩=some (.slice (some ⟨g,0,none⟩) p.frags.length p.frags.length):=cellB HIk.out.yi.blk 0
        have ll:=lt1 HIk.out.yi.blk
        obtain⟨ri,rz,rl⟩:=row_cell HIk.out.yi.row k hlt
        have u1:=cellC qf 1 rfl
        have ul:=lt1 qf
        have hne:fn≠g:=row_type HIk.out.yi.row qf (by decide)
        clear T1 T2 T3 T4 HTn HTw HLg HByX HBk
        generalize M.next (ls k).pos al=nx2 at *
        generalize (ls k).adr.getD k 0=xi at *
        have HSt:Hid (YR w (wr.setCell ⟨g,k,none⟩ (.int .i64 nx2)) (some ⟨bb,off,none⟩) a2 c1 c2 p B g b ((ls k).adr.set k nx2) vN vC [] [] (M.frAt p base K) (M.tiAt p base (K-1))):=HIk.out.store k _ (by rw[HLi.out];exact hlt)
        have qf3:(wr.setCell ⟨g,k,none⟩ (.int .i64 nx2)).heap[fn]?=some (.cells #[.int .i64 sc,.int .i64 al,.string gr,.slice ab bs.length cb,.int .i64 sz,.slice ar rs.length cr] 87 (0,0)):=(Below.heap_setCell _ _ _ _ (by show fn≠g;exact hne)).trans qf
        go_upto_region 23 with (go_at_call 69;refine(KN2.out _).mono ?_;rintro e w' ⟨rfl,rfl⟩)
        clear l0 ll ri rz rl u1 ul qf KN2 HIk
        generalize wr.setCell ⟨g,k,none⟩ (.int .i64 nx2)=Z3 at *
        have v0:=cellC qf3 0 rfl
        have v1:=cellC qf3 1 rfl
        have v2:=cellC qf3 2 rfl
        have v3:=cellC qf3 3 rfl
        have v4:=cellC qf3 4 rfl
        have v5:=cellC qf3 5 rfl
        have vl:=lt1 qf3
        have hwl:IntKind.i64.wrap (nx2+lg)=nx2+lg:=by rw[IntKind.wrap_i64];omega
        clear qf3
        go_wp2_with (go_at_call 63;refine(KLg.out _).mono ?_;rintro e V3 ⟨rfl,hb3⟩)
        go_roundw
        case rel=>exact⟨k+1,by omega,by go_num,by rw[HT4.out],by rw[HT3.out];exact HSt.out.later hb3⟩
        case measure=>simp[intOf];omega
     ·have hsn:(sc !=(K:Int))=true:=by simpa using hs
      have T:=T0.out hs
      have HT:Hid _:=T
      clear T0 T1 T2 T
      go_wp2_with fail
      go_roundw
      case rel=>exact⟨i+1,by omega,by go_num,by rw[HT.out],by rw[HT.out];exact HIX⟩
      case measure=>simp[intOf];omega
    ·have hin:i=p.frags.length:=by omega
     subst hin
     have ha1:(ls p.frags.length).adr=(M.secN p.frags base K).1:=by rw[HSec.out];exact HSec2.out.1
     have ha2:(ls p.frags.length).pos=(M.secN p.frags base K).2:=by rw[HSec.out];exact HSec2.out.2
     rw[ha1] at HIi
     rw[ha2]
     clear ha1 ha2 HSec HSec2 HT0 HT1 HT2 HLl HLs
     by_cases h5:K=5
     ·have HK5:Hid (K=5):=h5
      have e5:((K:Int)==5)=true:=by simp;omega
      clear h5
      have hpK:=HPos.out K
      have hK5n:K≤5:=by omega
      have hpp:0≤(M.secN p.frags base K).2∧(M.secN p.frags base K).2≤90000:=by omega
      have HCO:Hid (∀n,(M.find p.defs n).2=0→(M.find p.defs n).1.kind=3→ComOk (M.find p.defs n).1):=fun n=>common_ok ((M.ok_iff p).1 hck) n
      have cp0:wr.cell? ⟨w.heap.size,0,none⟩=some (.slice a1 p.frags.length c1):=cellB HIi.out.yi.part 0
      have cp1:wr.cell? ⟨w.heap.size,1,none⟩=some (.slice a2 p.defs.length c2):=cellB HIi.out.yi.part 1
      have cpl:=lt1 HIi.out.yi.part
      have KD:Hid _:=definedBy_any p.defs a1 a2 p.frags.length c1 c2 wr (HFD.out wr HIi.out.yi.below).2 h60 (M.defined p) rfl
      have HCm:Hid (M.commons p (M.secN p.frags base K).2=(M.defined p).foldl (M.comStep p.defs) ⟨[],[],(M.secN p.frags base K).2⟩):=rfl
      generalize M.defined p=m at *
      go_upto_region 27 with (go_at_call 27;refine(show Calls _ _ _ _ _ from KD.out).mono ?_;rintro e V ⟨hbV,x,y,Bm,rfl,hom,hBm,hsm,hm60⟩)
      have hVl:=lt1 HIi.out.yi.blk
      have hgl:=(row_high HIi.out.yi.row).2
      have hhi:=HIi.out.yi.high
      have HIV:Hid (YR w V a1 a2 c1 c2 p V.heap.size g b (M.secN p.frags base K).1 vN vC [] [] (M.frAt p base K) (M.tiAt p base (K-1))):=⟨(HIi.out.later hbV).yi,by rw[HvN.out.1];exact World.ownsRow_nil _ _ _ _,by rw[HvN.out.2];exact World.ownsRow_nil _ _ _ _,Nat.lt_of_lt_of_le hVl hbV.size,Nat.lt_of_lt_of_le hgl hbV.size⟩
      have HMl:Hid ((b<Bm∧g<Bm)∧(∀q,(Value.slice x m.length y).ownBlock=some q→q<V.heap.size)∧w.heap.size+1<V.heap.size):=⟨⟨by omega,by omega⟩,fun q hq=>(hom.lt q hq).2,by have:=hbV.size;omega⟩
      have HSm:Hid (∀s∈m,s.size≤maxLen):=hsm
      have Hom:Hid (V.ownsRow Bm 9 1 (.slice x m.length y) m.length (m.map Value.string)):=hom
      obtain⟨i0,hi0,hz0,hz1,hz2⟩:=info_parts (P:=Tryz.prog) (e:=9) (z:=.string ⟨#[]⟩) (size:=1) (bytes:=16) (by kernel_rfl)
      clear cp0 cp1 cpl KD hom hBm hsm hbV hVl hgl hhi HIi hpK
      generalize hB5e:V.heap.size=B5 at *
      have hB5:B5≤V.heap.size:=by omega
      clear hB5e
      have HPe:Hid ((M.secN p.frags base K).2=(M.secN p.frags base 5).2):=by rw[Hid,HK5.out]
      generalize (M.secN p.frags base K).2=pos at *
      go_wp2_with fail
      go_loopw [7,110] (fun s7 s110 wr=>∃(j:Nat) (st:M.CS) (vN vC:Value),j≤m.length∧s110=.int .i64 j∧s7=.int .i64 st.pos∧Hid (st=(m.take j).foldl (M.comStep p.defs) ⟨[],[],pos⟩)∧Hid (YR w wr a1 a2 c1 c2 p B5 g b (M.secN p.frags base K).1 vN vC st.names st.at_ (M.frAt p base K) (M.tiAt p base (K-1)))∧Hid (wr.ownsRow Bm 9 1 (.slice x m.length y) m.length (m.map Value.string))∧B5≤wr.heap.size∧st.names.length=st.at_.length∧st.names.length≤j∧Hid (∀s∈st.names,s.size≤maxLen)∧0≤st.pos∧st.pos≤pos+79*j) (fun _ s110 _=>m.length-(intOf s110).toNat)
      case atStart=>exact⟨0,⟨[],[],pos⟩,vN,vC,Nat.zero_le _,rfl,rfl,rfl,HIV,Hom,hB5,rfl,Nat.le_refl _,(fun s hs=>by cases hs),hpp.1,by show pos≤pos+79*((0:Nat):Int);omega⟩
      case round =>
       obtain⟨j,st,uN,uC,hj,rfl,rfl,HS,HIj,Homj,hBj,hnc,hnj,HZ,hs0,hs1⟩:=hrel
       clear HIV Hom
       by_cases hjl:j<m.length
       ·have hjl':(j:Int)<(m.length:Int):=by omega
        obtain⟨b6,o6,hx6,e0,hb6⟩:=(row_strs Homj.out HSm.out).cell j hjl
        subst hx6
        have HS1:=commons_take p.defs ⟨[],[],pos⟩ m j hjl
        rw[←HS.out] at HS1
        have hnm:(m.getD j str0).size≤maxLen:=HSm.out _ (getD_mem m str0 j hjl)
        have hco:=HCO.out (m.getD j str0)
        have cp0:wr.cell? ⟨w.heap.size,0,none⟩=some (.slice a1 p.frags.length c1):=cellB HIj.out.yi.part 0
        have cp1:wr.cell? ⟨w.heap.size,1,none⟩=some (.slice a2 p.defs.length c2):=cellB HIj.out.yi.part 1
        have cpl:=lt1 HIj.out.yi.part
        have KF:Hid (Calls Tryz.prog 70 #[.agg #[.slice a1 p.frags.length c1,.slice a2 p.defs.length c2],.string (m.getD j str0)] wr fun e w'=>e=.returned (.tuple #[.agg (dfnArr (M.find p.defs (m.getD j str0)).1),.int .i64 (M.find p.defs (m.getD j str0)).2])∧Below wr.heap.size wr w'):=rfound_any p.defs _ a1 a2 p.frags.length c1 c2 wr (HFD.out wr HIj.out.yi.below).2 h60 HDs.out
        clear HS
        unfold M.comStep at HS1
        generalize m.getD j str0=s at *
        generalize M.find p.defs s=fr at *
        obtain⟨⟨nm,kd,fg,ps,dz,da⟩,er⟩:=fr
        simp only[dfnArr] at KF
        simp only at hco
        obtain⟨aN,nN,cN,rfl⟩:=own_form HIj.out.names
        obtain⟨aC,nC,cC,rfl⟩:=own_form HIj.out.coms
        go_upto_region 30 with (go_at_call 70;refine KF.out.mono ?_;rintro e w5 ⟨rfl,hb5⟩)
        have hBY:Below wr.heap.size wr (w5.alloc (.cells #[.string nm,.int .i64 kd,.int .i64 fg,.int .i64 ps,.int .i64 dz,.int .i64 da] 72)):=hb5.alloc hb5.size _
        have xd:=heap_alloc_new w5 (.cells #[.string nm,.int .i64 kd,.int .i64 fg,.int .i64 ps,.int .i64 dz,.int .i64 da] 72)
        clear KF hb5 e0 hb6 cp0 cp1 cpl
        generalize w5.alloc (.cells #[.string nm,.int .i64 kd,.int .i64 fg,.int .i64 ps,.int .i64 dz,.int .i64 da] 72)=Y5 at *
        generalize w5.heap.size=dn at *
        have HQ:Hid (YQ w Y5 a1 a2 c1 c2 p B5 g b dn Bm m.length (.slice (some ⟨b6,o6,none⟩) m.length y) (m.map Value.string) #[.string nm,.int .i64 kd,.int .i64 fg,.int .i64 ps,.int .i64 dz,.int .i64 da] (M.secN p.frags base K).1 (.slice aN nN cN) (.slice aC nC cC) (.slice aN nN cN) (.slice aC nC cC) st.names st.at_ (M.frAt p base K) (M.tiAt p base (K-1))):=⟨(HIj.out.later hBY).yi,(HIj.out.later hBY).names,(HIj.out.later hBY).coms,HIj.out.low,xd,Homj.out.kept (grown_of_below hBY none) own_self,HMl.out.1,HMl.out.2.1,Nat.le_trans hBj hBY.size⟩
        have d1:=cellC xd 1 rfl
        have d5:=cellC xd 5 rfl
        have hlY:=lt1 xd
        clear hBY HIj Homj xd hBj
        by_cases her:er=0
        ·by_cases hkd:kd=3
         ·have hc:=hco her hkd
          have HS2:Hid ((m.take (j+1)).foldl (M.comStep p.defs) ⟨[],[],pos⟩=⟨st.names++[s],st.at_++[M.next st.pos da],M.next st.pos da+dz⟩):=by rw[Hid];unfold M.comStep;rw[HS1,if_pos ⟨her,hkd⟩]
          have hnb:=M.next_bounds hs0 hc.align
          have hsml:=hc.small
          have hdz0:0≤dz:=hc.size0
          have hdz6:dz≤64:=hc.size64
          have KN2:Hid (Calls Tryz.prog 69 #[.int .i64 st.pos,.int .i64 da] Y5 fun e w'=>e=.returned (.int .i64 (M.next st.pos da))∧Y5=w'):=rnext_any st.pos da Y5 hs0 (by omega) hc.align
          have hn0:(er==0)=true:=by simpa using her
          have hn3:(kd==3)=true:=by simpa using hkd
          simp only at hnb hsml
          clear HS1 her hkd hco hc
          go_upto_region 32 with (go_at_call 69;refine KN2.out.mono ?_;rintro e w' ⟨rfl,rfl⟩)
          clear KN2 d1 d5 hn0 hn3
          generalize M.next st.pos da=nx at *
          have hbg:=HQ.out.big
          have hB1:w.heap.size+1<B5:=HMl.out.2.2
          have hD:Below Y5.heap.size Y5 Y5.drew:=(Below.refl _ _).drew
          have bA:Below Y5.heap.size Y5 (Y5.drew.alloc (.cells #[.string s] 9)):=hD.alloc (Nat.le_refl _) _
          have bAB:Below Y5.heap.size Y5 ((Y5.drew.alloc (.cells #[.string s] 9)).alloc (.cells #[.int .i64 nx] 3)):=bA.alloc bA.size _
          have bB:Below Y5.heap.size Y5 (Y5.drew.alloc (.cells #[.int .i64 nx] 3)):=hD.alloc (Nat.le_refl _) _
          have bBA:Below Y5.heap.size Y5 ((Y5.drew.alloc (.cells #[.int .i64 nx] 3)).alloc (.cells #[.string s] 9)):=bB.alloc bB.size _
          have HA:=HQ.out.later bA
          have HAB:=HQ.out.later bAB
          have HBA:=HQ.out.later bBA
          have SA:Src (Y5.drew.alloc (.cells #[.string s] 9)) (.slice (some ⟨Y5.heap.size,0,none⟩) 1 1) 1 [.string s]:=⟨_,_,rfl,.inr ⟨_,rfl,World.news_of_block (heap_alloc_new Y5.drew _)⟩⟩
          have SAB:Src ((Y5.drew.alloc (.cells #[.string s] 9)).alloc (.cells #[.int .i64 nx] 3)) (.slice (some ⟨Y5.heap.size,0,none⟩) 1 1) 1 [.string s]:=⟨_,_,rfl,.inr ⟨_,rfl,World.news_of_block (heap_alloc2_old Y5.drew _ _)⟩⟩
          have SBA:Src ((Y5.drew.alloc (.cells #[.int .i64 nx] 3)).alloc (.cells #[.string s] 9)) (.slice (some ⟨Y5.heap.size+1,0,none⟩) 1 1) 1 [.string s]:=⟨_,_,rfl,.inr ⟨_,rfl,World.news_of_block (heap_alloc2_new Y5.drew _ _)⟩⟩
          have qAB:((Y5.drew.alloc (.cells #[.string s] 9)).alloc (.cells #[.int .i64 nx] 3)).heap[Y5.heap.size+1]?=some (.cells #[.int .i64 nx] 3 (0,0)):=heap_alloc2_new Y5.drew _ _
          have qBA:((Y5.drew.alloc (.cells #[.int .i64 nx] 3)).alloc (.cells #[.string s] 9)).heap[Y5.heap.size]?=some (.cells #[.int .i64 nx] 3 (0,0)):=heap_alloc2_old Y5.drew _ _
          have l1:Y5.cell? ⟨b,1,none⟩=some (.slice aN nN cN):=cellB HQ.out.yi.blk 1
          have l2:Y5.cell? ⟨b,2,none⟩=some (.slice aC nC cC):=cellB HQ.out.yi.blk 2
          have llb:=lt1 HQ.out.yi.blk
          clear HQ bA bAB bB bBA hD
          have HNm:Hid (s.size≤maxLen):=hnm
          go_cut [] (fun wx=>∃(a6 a7:Option Addr) (n6 n7 c6 c7:Nat),YQ w wx a1 a2 c1 c2 p B5 g b dn Bm m.length (.slice (some ⟨b6,o6,none⟩) m.length y) (m.map Value.string) #[.string nm,.int .i64 kd,.int .i64 fg,.int .i64 ps,.int .i64 dz,.int .i64 da] (M.secN p.frags base K).1 (.slice a6 n6 c6) (.slice a7 n7 c7) (.slice a6 n6 c6) (.slice a7 n7 c7) (st.names++[s]) (st.at_++[nx]) (M.frAt p base K) (M.tiAt p base (K-1)))
          case first =>
           go_region_law (first|(refine step_append_srcL (by rfl) (.tmp 132) (.tmp 134) 39 (by rfl) B5 9 i0 (.string ⟨#[]⟩) 1 16 Tryz.underlying39 hi0 hz0 hz1 hz2 rfl (by decide) _ st.names.length (st.names.map Value.string) (by rfl) (by first|exact HA.names|exact HAB.names|exact HBA.names) _ 1 [.string s] (by rfl) (by first|exact SA|exact SAB|exact SBA) (by rfl) (fun u hu=>by simp at hu;subst hu;rfl) (by unfold maxLen;omega) (by omega) (by first|exact HA.big|exact HAB.big|exact HBA.big) ?_;intro v1 w1 ho1 hg1;obtain⟨a6,n6,c6,rfl⟩:=own_form ho1;(first|(have H1:=HA.growN hB1 ho1 hg1)|(have H1:=HAB.growN hB1 ho1 hg1;have S2:Src w1 (.slice (some ⟨Y5.heap.size+1,0,none⟩) 1 1) 1 [.int .i64 nx]:=⟨_,_,rfl,.inr ⟨_,rfl,World.news_of_block (block_kept HAB.names hg1 qAB (by decide))⟩⟩)|(have H1:=HBA.growN hB1 ho1 hg1;have S2:Src w1 (.slice (some ⟨Y5.heap.size,0,none⟩) 1 1) 1 [.int .i64 nx]:=⟨_,_,rfl,.inr ⟨_,rfl,World.news_of_block (block_kept HBA.names hg1 qBA (by decide))⟩⟩));have l3:w1.cell? ⟨b,2,none⟩=some (.slice aC nC cC):=cellB H1.yi.blk 2;have l3b:b<w1.heap.size:=(lt1 H1.yi.blk))|(refine step_append_srcL (by rfl) (.tmp 137) (.tmp 139) 73 (by rfl) B5 3 i1 (.int .i64 0) 1 8 Tryz.underlying73 hi1 hy0 hy1 hy2 rfl (by decide) _ st.at_.length (st.at_.map (Value.int .i64)) (by rfl) (by first|exact H1.coms|exact(H1.later (bra _ _)).coms) _ 1 [.int .i64 nx] (by rfl) (by first|exact S2|exact⟨_,_,rfl,.inr ⟨_,rfl,World.news_of_block (heap_alloc_new w1 _)⟩⟩) (by rfl) (fun u hu=>by simp at hu;subst hu;rfl) (by unfold maxLen;omega) (by omega) (by first|exact H1.big|exact(H1.later (bra _ _)).big) ?_;intro v2 w2 ho2 hg2;obtain⟨a7,n7,c7,rfl⟩:=own_form ho2;(first|(have H2:=H1.growC hB1 ho2 hg2)|(have H2:=(H1.later (bra _ _)).growC hB1 ho2 hg2));have k1:w2.cell? ⟨b,1,none⟩=some (.slice aN nN cN):=cellB H2.yi.blk 1;have k2:w2.cell? ⟨b,2,none⟩=some (.slice aC nC cC):=cellB H2.yi.blk 2;have f1:w2.frozen? ⟨b,1,none⟩=false:=frozenB H2.yi.blk 1;have f2:w2.frozen? ⟨b,2,none⟩=false:=frozenB H2.yi.blk 2;have k3:b<w2.heap.size:=(lt1 H2.yi.blk)))
           all_goals
            have H3:=(H2.put 1 (.slice a6 n6 c6) (.slice a6 n6 c6) (.slice aC nC cC) _ _ rfl).put 2 (.slice a7 n7 c7) (.slice a6 n6 c6) (.slice a7 n7 c7) _ _ rfl
            clear H2 k1 k2 f1 f2 k3 l1 l2 llb HA HAB HBA SA SAB SBA qAB qBA
            go_wp2_with fail
            go_meet
            exact⟨_,_,_,_,_,_,H3⟩
          case rest =>
           obtain⟨a6,a7,n6,n7,c6,c7,H3⟩:=hcut
           clear HA HAB HBA SA SAB SBA qAB qBA l1 l2 llb
           have HR:Hid (YR w wc a1 a2 c1 c2 p B5 g b (M.secN p.frags base K).1 (.slice a6 n6 c6) (.slice a7 n7 c7) (st.names++[s]) (st.at_++[nx]) (M.frAt p base K) (M.tiAt p base (K-1))∧wc.ownsRow Bm 9 1 (.slice (some ⟨b6,o6,none⟩) m.length y) m.length (m.map Value.string)):=⟨⟨H3.yi,H3.names,H3.coms,H3.low⟩,H3.mr⟩
           have hb3:=H3.big
           have d4:wc.cell? ⟨dn,4,none⟩=some (.int .i64 dz):=cellB H3.dv 4
           have dl:=lt1 H3.dv
           have HZ1:Hid (∀x∈st.names++[s],x.size≤maxLen):=fun x hx=>by
            rcases List.mem_append.1 hx with h|h
            ·exact HZ.out x h
            ·rw[List.mem_singleton.1 h];exact hnm
           have hwz:IntKind.i64.wrap (nx+dz)=nx+dz:=by rw[IntKind.wrap_i64];omega
           clear H3
           go_wp2_with fail
           go_roundw
           case rel=>exact⟨j+1,⟨st.names++[s],st.at_++[nx],nx+dz⟩,_,_,by omega,by go_num,rfl,HS2.out.symm,HR.out.1,HR.out.2,hb3,by simp only[List.length_append,List.length_singleton];omega,by simp only[List.length_append,List.length_singleton];omega,HZ1,by simp only;omega,by simp only;omega⟩
           case measure=>simp[intOf];omega
         ·have HS2:Hid (st=(m.take (j+1)).foldl (M.comStep p.defs) ⟨[],[],pos⟩):=by rw[Hid];unfold M.comStep;rw[HS1,if_neg (fun h=>hkd h.2)]
          have hn0:(er==0)=true:=by simpa using her
          have hn3:(kd==3)=false:=by simpa using hkd
          have HR:Hid (YR w Y5 a1 a2 c1 c2 p B5 g b (M.secN p.frags base K).1 (.slice aN nN cN) (.slice aC nC cC) st.names st.at_ (M.frAt p base K) (M.tiAt p base (K-1))∧Y5.ownsRow Bm 9 1 (.slice (some ⟨b6,o6,none⟩) m.length y) m.length (m.map Value.string)):=⟨⟨HQ.out.yi,HQ.out.names,HQ.out.coms,HQ.out.low⟩,HQ.out.mr⟩
          have hbg:=HQ.out.big
          clear HQ HS1 her hkd hco
          go_wp2_with fail
          go_roundw
          case rel=>exact⟨j+1,st,_,_,by omega,by go_num,rfl,HS2,HR.out.1,HR.out.2,hbg,hnc,by omega,HZ,hs0,by omega⟩
          case measure=>simp[intOf];omega
        ·have HS2:Hid (st=(m.take (j+1)).foldl (M.comStep p.defs) ⟨[],[],pos⟩):=by rw[Hid];unfold M.comStep;rw[HS1,if_neg (fun h=>her h.1)]
         have hn0:(er==0)=false:=by simpa using her
         have HR:Hid (YR w Y5 a1 a2 c1 c2 p B5 g b (M.secN p.frags base K).1 (.slice aN nN cN) (.slice aC nC cC) st.names st.at_ (M.frAt p base K) (M.tiAt p base (K-1))∧Y5.ownsRow Bm 9 1 (.slice (some ⟨b6,o6,none⟩) m.length y) m.length (m.map Value.string)):=⟨⟨HQ.out.yi,HQ.out.names,HQ.out.coms,HQ.out.low⟩,HQ.out.mr⟩
         have hbg:=HQ.out.big
         clear HQ HS1 her hco
         go_wp2_with fail
         go_roundw
         case rel=>exact⟨j+1,st,_,_,by omega,by go_num,rfl,HS2,HR.out.1,HR.out.2,hbg,hnc,by omega,HZ,hs0,by omega⟩
         case measure=>simp[intOf];omega
       ·have hjm:j=m.length:=by omega
        subst hjm
        have hst:st=M.commons p pos:=by rw[HCm.out,HS.out,List.take_length]
        have htk:M.tillOf p base K=st.pos:=by
         unfold M.tillOf
         rw[if_pos HK5.out,hst,HPe.out]
        have kc:wr.cell? ⟨b,9+K,none⟩=some (.int .i64 (M.tiAt p base (K-1) K)):=(cellB HIj.out.yi.blk (9+K)).trans (layArr_ti5 (by omega))
        have kz:wr.frozen? ⟨b,9+K,none⟩=false:=frozenB HIj.out.yi.blk (9+K)
        have hlb:=lt1 HIj.out.yi.blk
        have HIn:Hid (YR w (wr.setCell ⟨b,9+K,none⟩ (.int .i64 st.pos)) a1 a2 c1 c2 p B5 g b (M.secN p.frags base K).1 uN uC st.names st.at_ (M.frAt p base K) (M.tiAt p base K)):=HIj.out.put (9+K) _ _ _ (by
         rw[←htk]
         obtain⟨k,rfl⟩:∃k,K=k+1:=⟨K-1,by omega⟩
         exact ti_put _ _ _ p base _ (by omega))
        have HTk:Hid _:=htk
        have HSt:Hid (st.names=(M.commons p (M.secN p.frags base 5).2).names∧st.at_=(M.commons p (M.secN p.frags base 5).2).at_):=by rw[←HPe.out,←hst];exact⟨rfl,rfl⟩
        clear htk HIj hst HS
        go_wp2_with fail
        go_roundw
        case rel=>exact⟨K+1,B5,uN,uC,st.names,st.at_,by omega,by omega,by go_num,by rw[Nat.add_sub_cancel,HTk.out],by rw[Nat.add_sub_cancel];exact HIn,fun h=>absurd h (by have:=HK5.out;omega),fun _=>⟨HSt.out.1,HSt.out.2,HZ.out⟩⟩
        case measure=>simp[intOf];have:=HK5.out;omega
     ·have e5:((K:Int)==5)=false:=by simp;omega
      have htk:M.tillOf p base K=(M.secN p.frags base K).2:=by unfold M.tillOf;rw[if_neg h5]
      have kc:wr.cell? ⟨b,9+K,none⟩=some (.int .i64 (M.tiAt p base (K-1) K)):=(cellB HIi.out.yi.blk (9+K)).trans (layArr_ti5 (by omega))
      have kz:wr.frozen? ⟨b,9+K,none⟩=false:=frozenB HIi.out.yi.blk (9+K)
      have hlb:=lt1 HIi.out.yi.blk
      have HIn:Hid (YR w (wr.setCell ⟨b,9+K,none⟩ (.int .i64 (M.secN p.frags base K).2)) a1 a2 c1 c2 p B g b (M.secN p.frags base K).1 vN vC [] [] (M.frAt p base K) (M.tiAt p base K)):=HIi.out.put (9+K) _ _ _ (by
       rw[←htk]
       obtain⟨k,rfl⟩:∃k,K=k+1:=⟨K-1,by omega⟩
       exact ti_put _ _ _ p base _ (by omega))
      have HTk:Hid _:=htk
      clear htk HIi
      go_wp2_with fail
      go_roundw
      case rel=>exact⟨K+1,B,vN,vC,[],[],by omega,by omega,by go_num,by rw[Nat.add_sub_cancel,HTk.out],by rw[Nat.add_sub_cancel];exact HIn,fun _=>⟨rfl,rfl,HvN.out.1,HvN.out.2⟩,fun h=>absurd h (by omega)⟩
      case measure=>simp[intOf];omega
end Go.Proofs.YtpkfmfhodbjckaaGreatDoor
