/-
  The contract of layout.Lay. The contracts of link.numbering and link.Link.
-/
import Derived.Laws.OwnMore
import Derived.Test.YtpkfmfhodbjckaaGreatDoorLkIm
import Derived.Test.YtpkfmfhodbjckaaGreatDoorMathC
import Derived.Test.YtpkfmfhodbjckaaGreatDoorLkFx
set_option linter.unusedVariables false
set_option maxHeartbeats 16000000
set_option maxRecDepth 100000
namespace Go.Proofs.YtpkfmfhodbjckaaGreatDoor
open Go Go.RowKit
theorem made_ints(n:Nat):(madeCells (iv 0).cells (n*1)).toList=(List.replicate n (0:Int)).map (Value.int .i64):=by
 refine List.ext_getElem (by simp[madeCells]) fun i h1 h2=>?_
 simp[madeCells,Value.cells,Nat.mod_one]
theorem res_lay{W:World}{tmps:Array Value}{g:Nat}{cs:Array Value}{er:Value}(hp:tmps.getD 4 undef=qv g 0)(hq:tmps.getD 5 undef=er)(hg:W.heap[g]?=some (.cells cs 76 (0,0)))(hs:cs.size=15) :
  (results Tryz.f47 tmps).run Tryz.prog W=.ok (.tuple #[.agg cs,er]) W:=by
 have hp':tmps[4]?.getD undef=qv g 0:=by simpa using hp
 have hq':tmps[5]?.getD undef=er:=by simpa using hq
 have hi:(Tryz.prog.info? 76).map (·.size)=some cs.size:=by rw[hs];kernel_rfl
 simp[results,Tryz.results47,hp',hq',asAddr,run_loadVar_row W g 76 76 cs (0,0) _ hg Tryz.underlying76 rfl hi]
def NC (W:World) (p:M.Prt) (base:Int) (b k:Nat) (vN vC:Value):Prop :=
 (k<5→vN=sv none 0 0∧vC=sv none 0 0) ∧
 (k=5→(∃B,b<B∧W.ownsRow B 9 1 vN (M.commons p (M.secN p.frags base 5).2).names.length ((M.commons p (M.secN p.frags base 5).2).names.map Value.string)∧W.ownsRow B 3 1 vC (M.commons p (M.secN p.frags base 5).2).at_.length ((M.commons p (M.secN p.frags base 5).2).at_.map (Value.int .i64)))∧∀x∈(M.commons p (M.secN p.frags base 5).2).names,x.size≤maxLen)
theorem ix5n0(a b c d e:Value)(w:World):(Instr.index 140 (.agg #[a,b,c,d,e]) (iv ((0:Nat):Int))).run Tryz.prog w=.ok a w:=by kernel_rfl
theorem ix5l0(a b c d e:Value)(w:World):(Instr.index 140 (.agg #[a,b,c,d,e]) (iv 0)).run Tryz.prog w=.ok a w:=by kernel_rfl
theorem ix5n1(a b c d e:Value)(w:World):(Instr.index 140 (.agg #[a,b,c,d,e]) (iv ((1:Nat):Int))).run Tryz.prog w=.ok b w:=by kernel_rfl
theorem ix5l1(a b c d e:Value)(w:World):(Instr.index 140 (.agg #[a,b,c,d,e]) (iv 1)).run Tryz.prog w=.ok b w:=by kernel_rfl
theorem ix5n2(a b c d e:Value)(w:World):(Instr.index 140 (.agg #[a,b,c,d,e]) (iv ((2:Nat):Int))).run Tryz.prog w=.ok c w:=by kernel_rfl
theorem ix5l2(a b c d e:Value)(w:World):(Instr.index 140 (.agg #[a,b,c,d,e]) (iv 2)).run Tryz.prog w=.ok c w:=by kernel_rfl
theorem ix5n3(a b c d e:Value)(w:World):(Instr.index 140 (.agg #[a,b,c,d,e]) (iv ((3:Nat):Int))).run Tryz.prog w=.ok d w:=by kernel_rfl
theorem ix5l3(a b c d e:Value)(w:World):(Instr.index 140 (.agg #[a,b,c,d,e]) (iv 3)).run Tryz.prog w=.ok d w:=by kernel_rfl
theorem ix5n4(a b c d e:Value)(w:World):(Instr.index 140 (.agg #[a,b,c,d,e]) (iv ((4:Nat):Int))).run Tryz.prog w=.ok e w:=by kernel_rfl
theorem ix5l4(a b c d e:Value)(w:World):(Instr.index 140 (.agg #[a,b,c,d,e]) (iv 4)).run Tryz.prog w=.ok e w:=by kernel_rfl
attribute [local go_sem high] ix5n0 ix5l0 ix5n1 ix5l1 ix5n2 ix5l2 ix5n3 ix5l3 ix5n4 ix5l4
theorem gb_setRow(w:World)(g:Nat)(cs:Array Value):w.grownBy (w.setRow g cs) (some g):=⟨rfl,rfl,rfl,by simp,fun k hk hne=>setRow_other w g k cs (fun e=>hne (by rw[e]))⟩
theorem textOk_of{w:World}{a:Option Addr}{c:Nat}{fs:List M.Frg}(h:FragsAt w (sv a fs.length c) fs)(hs:∀f∈fs,M.shaped f=0):∀f∈fs,M.FrgOk f∧TextOk f.bytes f.align:=fun f hf=>by
 obtain⟨j,hj,rfl⟩:=List.getElem_of_mem hf
 obtain⟨b,off,ab,cb,ar,cr,_,_,_,_,_,_,_,hBy,_⟩:=h.cells j hj
 have e:fs.getD j frg0=fs[j]:=by rw[List.getD_eq_getElem?_getD,List.getElem?_eq_getElem hj];rfl
 rw[e] at hBy
 have ho:=M.frgOk_of (hs _ hf)
 have hp:=ho.align.pos
 exact⟨ho,(len_ok _ (hs _ hf)).1,hBy.2,wf_small (by omega) (by omega)⟩
theorem lay_any(p:M.Prt)(base:Int)(a1 a2:Option Addr)(c1 c2:Nat)(w:World)(hf:FragsAt w (sv a1 p.frags.length c1) p.frags)(hd:DefsAt w (sv a2 p.defs.length c2) p.defs) :
  Calls Tryz.prog 47 #[.agg #[sv a1 p.frags.length c1,sv a2 p.defs.length c2],iv base] w fun e w'=>Below w.heap.size w w'∧∃vF vN vC,e=.returned (.tuple #[.agg (layArr vF vN vC (M.lay p base).1.fr (M.lay p base).1.ti),iv (M.lay p base).2]) ∧
   IntsAt w' vF (M.lay p base).1.frags∧StrsAt w' vN (M.lay p base).1.names∧IntsAt w' vC (M.lay p base).1.coms:=by
 obtain⟨i1,hi1,hy0,hy1,hy2⟩:=info_parts (P:=Tryz.prog) (e:=3) (z:=iv 0) (size:=1) (bytes:=8) (by kernel_rfl)
 have hA:Below w.heap.size w ((w.alloc (.cells #[sv a1 p.frags.length c1,sv a2 p.defs.length c2] 43)).alloc (.cells layZ 76)):=(bra _ _).alloc (by simp) _
 have Q0:((w.alloc (.cells #[sv a1 p.frags.length c1,sv a2 p.defs.length c2] 43)).alloc (.cells layZ 76)).heap[w.heap.size]?=some (.cells #[sv a1 p.frags.length c1,sv a2 p.defs.length c2] 43 (0,0)):=heap_alloc2_old _ _ _
 have Q1:((w.alloc (.cells #[sv a1 p.frags.length c1,sv a2 p.defs.length c2] 43)).alloc (.cells layZ 76)).heap[w.heap.size+1]?=some (.cells layZ 76 (0,0)):=heap_alloc2_new _ _ _
 have HFD:Hid (∀W,Below w.heap.size w W→FragsAt W (sv a1 p.frags.length c1) p.frags∧DefsAt W (sv a2 p.defs.length c2) p.defs):=fun W hW=>⟨hf.later hW,hd.later hW⟩
 have KC:Hid (∀W,Below w.heap.size w W→Calls Tryz.prog 46 #[.agg #[sv a1 p.frags.length c1,sv a2 p.defs.length c2]] W fun e w'=>e=.returned (iv (M.checkPart p))∧Below W.heap.size W w'):=fun W hW=>check_any p.frags p.defs _ _ _ _ _ (hf.later hW) (hd.later hW)
 have HT:Hid (M.checkPart p=0→∀f∈p.frags,M.FrgOk f∧TextOk f.bytes f.align):=fun h=>textOk_of hf ((M.ok_iff p).1 h).shape
 clear hf hd
 unfold layZ at hA Q0 Q1
 go_enter Tryz.func47,Tryz.ntmps47
 go_upto_region 2 with (go_at_call 46;refine(KC.out _ hA).mono ?_;rintro e X ⟨rfl,hx⟩)
 have HX:Hid (Below w.heap.size w X):=hA.trans (hx.mono hA.size)
 have q0:=blk hx Q0
 have q1:=blk hx Q1
 clear hx KC hA Q0 Q1
 have hlX:=lt1 q1
 have HLY:Hid (M.lay p base=if M.checkPart p=0 then (if base<0∨65536≤base then (M.lay0,3) else if 65536<M.tillOf p base 5 then (M.lay0,10) else (M.layAll p base,0)) else (M.lay0,M.checkPart p)):=rfl
 have h1z:(#[sv none 0 0,sv none 0 0,sv none 0 0,iv 0,iv 0,iv 0,iv 0,iv 0,iv 0,iv 0,iv 0,iv 0,iv 0,iv 0,iv 0]:Array Value).all (·.oneCell')=true:=by kernel_rfl
 have hsi:(Tryz.prog.info? 76).map (·.size)=some (#[sv none 0 0,sv none 0 0,sv none 0 0,iv 0,iv 0,iv 0,iv 0,iv 0,iv 0,iv 0,iv 0,iv 0,iv 0,iv 0,iv 0]:Array Value).size:=by kernel_rfl
 by_cases hck:M.checkPart p=0
 case neg =>
  have HE:Hid (M.lay p base=(M.lay0,M.checkPart p)):=by rw[Hid,HLY.out,if_neg hck]
  have hne:(M.checkPart p !=0)=true:=by simpa using hck
  have HZ1:Hid ((X.setRow (w.heap.size+1) #[sv none 0 0,sv none 0 0,sv none 0 0,iv 0,iv 0,iv 0,iv 0,iv 0,iv 0,iv 0,iv 0,iv 0,iv 0,iv 0,iv 0]).heap[w.heap.size+1]?=some (.cells #[sv none 0 0,sv none 0 0,sv none 0 0,iv 0,iv 0,iv 0,iv 0,iv 0,iv 0,iv 0,iv 0,iv 0,iv 0,iv 0,iv 0] 76 (0,0))):=setRow_heap _ _ _ _ _ _ q1
  have HB1:Hid (Below w.heap.size w (X.setRow (w.heap.size+1) #[sv none 0 0,sv none 0 0,sv none 0 0,iv 0,iv 0,iv 0,iv 0,iv 0,iv 0,iv 0,iv 0,iv 0,iv 0,iv 0,iv 0])):=below_setRow HX.out (by omega)
  clear HLY hck HT HFD HX q0
  generalize M.checkPart p=er at *
  go_wp2_with (refine wpList_store_row rfl 76 _ _ rfl (w.heap.size+1) #[sv none 0 0,sv none 0 0,sv none 0 0,iv 0,iv 0,iv 0,iv 0,iv 0,iv 0,iv 0,iv 0,iv 0,iv 0,iv 0,iv 0] rfl rfl 76 #[sv none 0 0,sv none 0 0,sv none 0 0,iv 0,iv 0,iv 0,iv 0,iv 0,iv 0,iv 0,iv 0,iv 0,iv 0,iv 0,iv 0] q1 hsi rfl h1z ?_)
  refine bodyPost_ret (v:=.tuple #[.agg #[sv none 0 0,sv none 0 0,sv none 0 0,iv 0,iv 0,iv 0,iv 0,iv 0,iv 0,iv 0,iv 0,iv 0,iv 0,iv 0,iv 0],iv er]) (res_lay (g:=w.heap.size+1) rfl rfl HZ1.out rfl) rfl ?_
  rw[HE.out]
  exact⟨HB1.out,sv none 0 0,sv none 0 0,sv none 0 0,rfl,ints_nil _,strs_nil _,ints_nil _⟩
 case pos =>
  have hn0:M.checkPart p=0:=hck
  by_cases hbs:base<0∨65536≤base
  ·have HE:Hid (M.lay p base=(M.lay0,3)):=by rw[Hid,HLY.out,if_pos hck,if_pos hbs]
   have HZ1:Hid ((X.setRow (w.heap.size+1) #[sv none 0 0,sv none 0 0,sv none 0 0,iv 0,iv 0,iv 0,iv 0,iv 0,iv 0,iv 0,iv 0,iv 0,iv 0,iv 0,iv 0]).heap[w.heap.size+1]?=some (.cells #[sv none 0 0,sv none 0 0,sv none 0 0,iv 0,iv 0,iv 0,iv 0,iv 0,iv 0,iv 0,iv 0,iv 0,iv 0,iv 0,iv 0] 76 (0,0))):=setRow_heap _ _ _ _ _ _ q1
   have HB1:Hid (Below w.heap.size w (X.setRow (w.heap.size+1) #[sv none 0 0,sv none 0 0,sv none 0 0,iv 0,iv 0,iv 0,iv 0,iv 0,iv 0,iv 0,iv 0,iv 0,iv 0,iv 0,iv 0])):=below_setRow HX.out (by omega)
   rw[hn0]
   clear HLY hck HT HFD HX q0 hn0
   by_cases hb:base<0
   ·go_wp2_with (refine wpList_store_row rfl 76 _ _ rfl (w.heap.size+1) #[sv none 0 0,sv none 0 0,sv none 0 0,iv 0,iv 0,iv 0,iv 0,iv 0,iv 0,iv 0,iv 0,iv 0,iv 0,iv 0,iv 0] rfl rfl 76 #[sv none 0 0,sv none 0 0,sv none 0 0,iv 0,iv 0,iv 0,iv 0,iv 0,iv 0,iv 0,iv 0,iv 0,iv 0,iv 0,iv 0] q1 hsi rfl h1z ?_)
    refine bodyPost_ret (v:=.tuple #[.agg #[sv none 0 0,sv none 0 0,sv none 0 0,iv 0,iv 0,iv 0,iv 0,iv 0,iv 0,iv 0,iv 0,iv 0,iv 0,iv 0,iv 0],iv 3]) (res_lay (g:=w.heap.size+1) rfl rfl HZ1.out rfl) rfl ?_
    rw[HE.out]
    exact⟨HB1.out,sv none 0 0,sv none 0 0,sv none 0 0,rfl,ints_nil _,strs_nil _,ints_nil _⟩
   ·have hb1:decide (base<0)=false:=by simpa using hb
    have hb2:(65536:Int)≤base:=by omega
    go_wp2_with (refine wpList_store_row rfl 76 _ _ rfl (w.heap.size+1) #[sv none 0 0,sv none 0 0,sv none 0 0,iv 0,iv 0,iv 0,iv 0,iv 0,iv 0,iv 0,iv 0,iv 0,iv 0,iv 0,iv 0] rfl rfl 76 #[sv none 0 0,sv none 0 0,sv none 0 0,iv 0,iv 0,iv 0,iv 0,iv 0,iv 0,iv 0,iv 0,iv 0,iv 0,iv 0,iv 0] q1 hsi rfl h1z ?_)
    refine bodyPost_ret (v:=.tuple #[.agg #[sv none 0 0,sv none 0 0,sv none 0 0,iv 0,iv 0,iv 0,iv 0,iv 0,iv 0,iv 0,iv 0,iv 0,iv 0,iv 0,iv 0],iv 3]) (res_lay (g:=w.heap.size+1) rfl rfl HZ1.out rfl) rfl ?_
    rw[HE.out]
    exact⟨HB1.out,sv none 0 0,sv none 0 0,sv none 0 0,rfl,ints_nil _,strs_nil _,ints_nil _⟩
  ·have hok:=(M.ok_iff p).1 hck
   have hnf:=hok.nf
   have HOk:Hid (∀f∈p.frags,M.FrgOk f∧TextOk f.bytes f.align):=HT.out hck
   have HCk:Hid (M.checkPart p=0):=hck
   have HPos:Hid (∀k:Nat,base≤(M.secN p.frags base k).2∧(M.secN p.frags base k).2≤base+4275*k):=M.secN_pos (fun f hf=>(HOk.out f hf).1) hnf (by omega)
   have HE:Hid (M.lay p base=if 65536<M.tillOf p base 5 then (M.lay0,10) else (M.layAll p base,0)):=by rw[Hid,HLY.out,if_pos hck,if_neg hbs]
   have hb0:decide (base<0)=false:=by simp;omega
   have hb6:decide ((65536:Int)≤base)=false:=by simp;omega
   have hb00:0≤base:=by omega
   have hb66:base<65536:=by omega
   have cp0:=cellC q0 0 rfl
   obtain⟨w1,hmk,hrow,hgr⟩:=run_makeSlice_full X (w.heap.size+1+1) 73 3 i1 (iv 0) 1 Tryz.underlying73 hi1 hy0 hy1 .i64 .i64 p.frags.length (by omega) (by rw[hy2];omega) (by unfold maxLen;omega) (by omega)
   rw[made_ints] at hrow
   have r0:=(hgr.block _ (lt1 q0) (by simp)).trans q0
   have r1:=(hgr.block _ (lt1 q1) (by simp)).trans q1
   have HB1:Hid (Below w.heap.size w w1):=HX.out.grown hgr HX.out.size (fun k hk=>by cases hk)
   rw[hn0]
   clear HLY hck HT hbs q0 hok hn0 hgr HX
   go_upto_region 9 with fail
   have HI0:Hid (YI w (w1.alloc (.cells #[sv (some (qa X.heap.size 0)) p.frags.length p.frags.length,sv none 0 0,sv none 0 0,iv 0,iv 0,iv 0,iv 0,iv 0,iv 0,iv 0,iv 0,iv 0,iv 0,iv 0,iv 0] 76)) a1 a2 c1 c2 p X.heap.size w1.heap.size (M.secN p.frags base 0).1 (sv none 0 0) (sv none 0 0) (M.frAt p base 0) (M.tiAt p base 0)):=by
    have hl1:=lt1 r1
    exact⟨(heap_alloc_old _ _ (by omega)).trans r0,(heap_alloc_old _ _ hl1).trans r1,heap_alloc_new _ _,hrow.alloc _,HB1.out.alloc HB1.out.size _,hl1⟩
   clear hmk hrow r0 r1 HB1 cp0
   generalize w1.alloc (.cells #[sv (some (qa X.heap.size 0)) p.frags.length p.frags.length,sv none 0 0,sv none 0 0,iv 0,iv 0,iv 0,iv 0,iv 0,iv 0,iv 0,iv 0,iv 0,iv 0,iv 0,iv 0] 76)=Y at *
   generalize w1.heap.size=b at *
   generalize X.heap.size=g at *
   go_loopw [8,31] (fun s8 s31 wr=>∃(k:Nat) (vN vC:Value),k≤5∧s31=iv k∧s8=iv (M.tillOf p base k)∧Hid (YI w wr a1 a2 c1 c2 p g b (M.secN p.frags base k).1 vN vC (M.frAt p base k) (M.tiAt p base k))∧Hid (NC wr p base b k vN vC)) (fun _ s31 _=>5-(intOf s31).toNat)
   case atStart=>exact⟨0,_,_,by decide,rfl,rfl,HI0,⟨fun _=>⟨rfl,rfl⟩,fun h=>by cases h⟩⟩
   case round =>
    obtain⟨k,vN,vC,hk,rfl,rfl,HI,HN⟩:=hrel
    clear HI0
    have hcase:k=0∨k=1∨k=2∨k=3∨k=4∨k=5:=by omega
    rcases hcase with rfl|rfl|rfl|rfl|rfl|rfl
    ·-- section 1
     have hb0:=(HPos.out 0).1
     have hb1:=(HPos.out 0).2
     have hp16:=M.next_bounds (a:=(M.secN p.frags base 0).2) (d:=16) (by omega) (.inr (.inr (.inr (.inr rfl))))
     have KN:Hid (Calls Tryz.prog 80 #[iv (M.secN p.frags base 0).2,iv 16] wr fun e w'=>e=.returned (iv (M.next (M.secN p.frags base 0).2 16))∧wr=w'):=(next_any (M.secN p.frags base 0).2 16 (by omega) (by omega) (.inr (.inr (.inr (.inr rfl)))) wr).mono fun e w' ⟨h1,h2⟩=>⟨h1,h2.symm⟩
     obtain⟨rfl,rfl⟩:=HN.out.1 (by decide)
     have HI':Hid (YI w wr a1 a2 c1 c2 p g b (M.secN p.frags base 0).1 (sv none 0 0) (sv none 0 0) (M.frAt p base 0) (M.tiAt p base 0)):=HI
     have k3:wr.cell? (qa b 4)=some (iv (M.frAt p base 0 1)):=cellB HI'.out.blk 4
     have z3:wr.frozen? (qa b 4)=false:=frozenB HI'.out.blk 4
     have hlb:=lt1 HI'.out.blk
     have hE:M.tillOf p base 0=(M.secN p.frags base 0).2:=rfl
     rw[hE]
     clear hE
     go_upto_region 12 with (go_at_call 80;refine KN.out.mono ?_;rintro e w' ⟨rfl,rfl⟩)
     have HI1:Hid (YI w (wr.setCell (qa b 4) (iv (M.next (M.secN p.frags base 0).2 16))) a1 a2 c1 c2 p g b (M.secN p.frags base 0).1 (sv none 0 0) (sv none 0 0) (M.frAt p base 1) (M.tiAt p base 0)):=HI'.out.put 4 _ _ _ _ _ rfl
     clear KN k3 z3 hlb HI HI' HN
     generalize wr.setCell (qa b 4) (iv (M.next (M.secN p.frags base 0).2 16))=X1 at *
     have HD0:Hid (YI w X1.drew a1 a2 c1 c2 p g b (M.secN p.frags base 0).1 (sv none 0 0) (sv none 0 0) (M.frAt p base 1) (M.tiAt p base 0)):=HI1.out.later (Below.refl _ _).drew
     have KL:Hid (Calls Tryz.prog 81 #[(sv (some (qa g 0)) p.frags.length p.frags.length),sv a1 p.frags.length c1,iv 1,iv (M.next (M.secN p.frags base 0).2 16)] X1.drew fun e w'=>e=.returned (iv (M.secN p.frags base 1).2)∧X1.drew.grownBy w' (some g)∧w'.ownsRow (w.heap.size+1+1) 3 1 (sv (some (qa g 0)) p.frags.length p.frags.length) p.frags.length ((M.secN p.frags base 1).1.map (Value.int .i64))) :=
      layFrags_any 1 (M.next (M.secN p.frags base 0).2 16) p.frags (M.secN p.frags base 0).1 (w.heap.size+1+1) g p.frags.length a1 c1 X1.drew (fun W hW=>(HFD.out W (HD0.out.below.grown hW HD0.out.below.size (fun k hk=>by have:=Option.some.inj hk;have:=row_high HD0.out.row;omega))).1) HD0.out.row hnf HOk (by omega) (by omega)
     have HS0:Hid (∀W,X1.drew.grownBy W (some g)→W.cell? (qa b 0)=some (sv (some (qa g 0)) p.frags.length p.frags.length)∧W.cell? (qa b 4)=some (iv (M.next (M.secN p.frags base 0).2 16))∧W.cell? (qa w.heap.size 0)=some (sv a1 p.frags.length c1)):=fun W hW=>by
      have hh:=row_high HD0.out.row
      have y1:=(hW.block b (lt1 HD0.out.blk) (by intro e;exact row_type HD0.out.row HD0.out.blk (by decide) (Option.some.inj e))).trans HD0.out.blk
      have y2:=(hW.block w.heap.size (lt1 HD0.out.part) (by intro e;have:=Option.some.inj e;omega)).trans HD0.out.part
      exact⟨cellB y1 0,cellB y1 4,cellB y2 0⟩
     clear HI1
     go_region_held3 (fun w'=>w'.cell? (qa b 0)=some (sv (some (qa g 0)) p.frags.length p.frags.length)∧w'.cell? (qa b 4)=some (iv (M.next (M.secN p.frags base 0).2 16))∧w'.cell? (qa w.heap.size 0)=some (sv a1 p.frags.length c1)) (first|exact HS0.out _ (World.grownBy.refl _ _)|exact HS0.out _ hg2) ((go_at_call 81;refine KL.out.mono ?_;rintro e W2 ⟨rfl,hg2,hr2⟩))
     have HI2:Hid (YI w W2 a1 a2 c1 c2 p g b (M.secN p.frags base 1).1 (sv none 0 0) (sv none 0 0) (M.frAt p base 1) (M.tiAt p base 0)):=HD0.out.call hg2 hr2
     clear HD0 KL HS0 hg2 hr2
     have kt:W2.cell? (qa b 10)=some (iv (M.tiAt p base 0 1)):=cellB HI2.out.blk 10
     have zt:W2.frozen? (qa b 10)=false:=frozenB HI2.out.blk 10
     have hlb:=lt1 HI2.out.blk
     have HI3:Hid (YI w (W2.setCell (qa b 10) (iv (M.secN p.frags base 1).2)) a1 a2 c1 c2 p g b (M.secN p.frags base 1).1 (sv none 0 0) (sv none 0 0) (M.frAt p base 1) (M.tiAt p base 1)):=HI2.out.put 10 _ _ _ _ _ rfl
     clear HI2
     go_wp2
     go_roundw
     case rel=>exact⟨1,_,_,by decide,by go_num,rfl,HI3,⟨fun _=>⟨rfl,rfl⟩,fun h=>by cases h⟩⟩
     case measure=>simp[intOf]
    ·-- section 2
     have hb0:=(HPos.out 1).1
     have hb1:=(HPos.out 1).2
     have hp16:=M.next_bounds (a:=(M.secN p.frags base 1).2) (d:=16) (by omega) (.inr (.inr (.inr (.inr rfl))))
     have KN:Hid (Calls Tryz.prog 80 #[iv (M.secN p.frags base 1).2,iv 16] wr fun e w'=>e=.returned (iv (M.next (M.secN p.frags base 1).2 16))∧wr=w'):=(next_any (M.secN p.frags base 1).2 16 (by omega) (by omega) (.inr (.inr (.inr (.inr rfl)))) wr).mono fun e w' ⟨h1,h2⟩=>⟨h1,h2.symm⟩
     obtain⟨rfl,rfl⟩:=HN.out.1 (by decide)
     have HI':Hid (YI w wr a1 a2 c1 c2 p g b (M.secN p.frags base 1).1 (sv none 0 0) (sv none 0 0) (M.frAt p base 1) (M.tiAt p base 1)):=HI
     have k3:wr.cell? (qa b 5)=some (iv (M.frAt p base 1 2)):=cellB HI'.out.blk 5
     have z3:wr.frozen? (qa b 5)=false:=frozenB HI'.out.blk 5
     have hlb:=lt1 HI'.out.blk
     have hE:M.tillOf p base 1=(M.secN p.frags base 1).2:=rfl
     rw[hE]
     clear hE
     go_upto_region 12 with (go_at_call 80;refine KN.out.mono ?_;rintro e w' ⟨rfl,rfl⟩)
     have HI1:Hid (YI w (wr.setCell (qa b 5) (iv (M.next (M.secN p.frags base 1).2 16))) a1 a2 c1 c2 p g b (M.secN p.frags base 1).1 (sv none 0 0) (sv none 0 0) (M.frAt p base 2) (M.tiAt p base 1)):=HI'.out.put 5 _ _ _ _ _ rfl
     clear KN k3 z3 hlb HI HI' HN
     generalize wr.setCell (qa b 5) (iv (M.next (M.secN p.frags base 1).2 16))=X1 at *
     have HD0:Hid (YI w X1.drew a1 a2 c1 c2 p g b (M.secN p.frags base 1).1 (sv none 0 0) (sv none 0 0) (M.frAt p base 2) (M.tiAt p base 1)):=HI1.out.later (Below.refl _ _).drew
     have KL:Hid (Calls Tryz.prog 81 #[(sv (some (qa g 0)) p.frags.length p.frags.length),sv a1 p.frags.length c1,iv 2,iv (M.next (M.secN p.frags base 1).2 16)] X1.drew fun e w'=>e=.returned (iv (M.secN p.frags base 2).2)∧X1.drew.grownBy w' (some g)∧w'.ownsRow (w.heap.size+1+1) 3 1 (sv (some (qa g 0)) p.frags.length p.frags.length) p.frags.length ((M.secN p.frags base 2).1.map (Value.int .i64))) :=
      layFrags_any 2 (M.next (M.secN p.frags base 1).2 16) p.frags (M.secN p.frags base 1).1 (w.heap.size+1+1) g p.frags.length a1 c1 X1.drew (fun W hW=>(HFD.out W (HD0.out.below.grown hW HD0.out.below.size (fun k hk=>by have:=Option.some.inj hk;have:=row_high HD0.out.row;omega))).1) HD0.out.row hnf HOk (by omega) (by omega)
     have HS0:Hid (∀W,X1.drew.grownBy W (some g)→W.cell? (qa b 0)=some (sv (some (qa g 0)) p.frags.length p.frags.length)∧W.cell? (qa b 5)=some (iv (M.next (M.secN p.frags base 1).2 16))∧W.cell? (qa w.heap.size 0)=some (sv a1 p.frags.length c1)):=fun W hW=>by
      have hh:=row_high HD0.out.row
      have y1:=(hW.block b (lt1 HD0.out.blk) (by intro e;exact row_type HD0.out.row HD0.out.blk (by decide) (Option.some.inj e))).trans HD0.out.blk
      have y2:=(hW.block w.heap.size (lt1 HD0.out.part) (by intro e;have:=Option.some.inj e;omega)).trans HD0.out.part
      exact⟨cellB y1 0,cellB y1 5,cellB y2 0⟩
     clear HI1
     go_region_held3 (fun w'=>w'.cell? (qa b 0)=some (sv (some (qa g 0)) p.frags.length p.frags.length)∧w'.cell? (qa b 5)=some (iv (M.next (M.secN p.frags base 1).2 16))∧w'.cell? (qa w.heap.size 0)=some (sv a1 p.frags.length c1)) (first|exact HS0.out _ (World.grownBy.refl _ _)|exact HS0.out _ hg2) ((go_at_call 81;refine KL.out.mono ?_;rintro e W2 ⟨rfl,hg2,hr2⟩))
     have HI2:Hid (YI w W2 a1 a2 c1 c2 p g b (M.secN p.frags base 2).1 (sv none 0 0) (sv none 0 0) (M.frAt p base 2) (M.tiAt p base 1)):=HD0.out.call hg2 hr2
     clear HD0 KL HS0 hg2 hr2
     have kt:W2.cell? (qa b 11)=some (iv (M.tiAt p base 1 2)):=cellB HI2.out.blk 11
     have zt:W2.frozen? (qa b 11)=false:=frozenB HI2.out.blk 11
     have hlb:=lt1 HI2.out.blk
     have HI3:Hid (YI w (W2.setCell (qa b 11) (iv (M.secN p.frags base 2).2)) a1 a2 c1 c2 p g b (M.secN p.frags base 2).1 (sv none 0 0) (sv none 0 0) (M.frAt p base 2) (M.tiAt p base 2)):=HI2.out.put 11 _ _ _ _ _ rfl
     clear HI2
     go_wp2
     go_roundw
     case rel=>exact⟨2,_,_,by decide,by go_num,rfl,HI3,⟨fun _=>⟨rfl,rfl⟩,fun h=>by cases h⟩⟩
     case measure=>simp[intOf]
    ·-- section 3
     have hb0:=(HPos.out 2).1
     have hb1:=(HPos.out 2).2
     have hp16:=M.next_bounds (a:=(M.secN p.frags base 2).2) (d:=16) (by omega) (.inr (.inr (.inr (.inr rfl))))
     have KN:Hid (Calls Tryz.prog 80 #[iv (M.secN p.frags base 2).2,iv 16] wr fun e w'=>e=.returned (iv (M.next (M.secN p.frags base 2).2 16))∧wr=w'):=(next_any (M.secN p.frags base 2).2 16 (by omega) (by omega) (.inr (.inr (.inr (.inr rfl)))) wr).mono fun e w' ⟨h1,h2⟩=>⟨h1,h2.symm⟩
     obtain⟨rfl,rfl⟩:=HN.out.1 (by decide)
     have HI':Hid (YI w wr a1 a2 c1 c2 p g b (M.secN p.frags base 2).1 (sv none 0 0) (sv none 0 0) (M.frAt p base 2) (M.tiAt p base 2)):=HI
     have k3:wr.cell? (qa b 6)=some (iv (M.frAt p base 2 3)):=cellB HI'.out.blk 6
     have z3:wr.frozen? (qa b 6)=false:=frozenB HI'.out.blk 6
     have hlb:=lt1 HI'.out.blk
     have hE:M.tillOf p base 2=(M.secN p.frags base 2).2:=rfl
     rw[hE]
     clear hE
     go_upto_region 12 with (go_at_call 80;refine KN.out.mono ?_;rintro e w' ⟨rfl,rfl⟩)
     have HI1:Hid (YI w (wr.setCell (qa b 6) (iv (M.next (M.secN p.frags base 2).2 16))) a1 a2 c1 c2 p g b (M.secN p.frags base 2).1 (sv none 0 0) (sv none 0 0) (M.frAt p base 3) (M.tiAt p base 2)):=HI'.out.put 6 _ _ _ _ _ rfl
     clear KN k3 z3 hlb HI HI' HN
     generalize wr.setCell (qa b 6) (iv (M.next (M.secN p.frags base 2).2 16))=X1 at *
     have HD0:Hid (YI w X1.drew a1 a2 c1 c2 p g b (M.secN p.frags base 2).1 (sv none 0 0) (sv none 0 0) (M.frAt p base 3) (M.tiAt p base 2)):=HI1.out.later (Below.refl _ _).drew
     have KL:Hid (Calls Tryz.prog 81 #[(sv (some (qa g 0)) p.frags.length p.frags.length),sv a1 p.frags.length c1,iv 3,iv (M.next (M.secN p.frags base 2).2 16)] X1.drew fun e w'=>e=.returned (iv (M.secN p.frags base 3).2)∧X1.drew.grownBy w' (some g)∧w'.ownsRow (w.heap.size+1+1) 3 1 (sv (some (qa g 0)) p.frags.length p.frags.length) p.frags.length ((M.secN p.frags base 3).1.map (Value.int .i64))) :=
      layFrags_any 3 (M.next (M.secN p.frags base 2).2 16) p.frags (M.secN p.frags base 2).1 (w.heap.size+1+1) g p.frags.length a1 c1 X1.drew (fun W hW=>(HFD.out W (HD0.out.below.grown hW HD0.out.below.size (fun k hk=>by have:=Option.some.inj hk;have:=row_high HD0.out.row;omega))).1) HD0.out.row hnf HOk (by omega) (by omega)
     have HS0:Hid (∀W,X1.drew.grownBy W (some g)→W.cell? (qa b 0)=some (sv (some (qa g 0)) p.frags.length p.frags.length)∧W.cell? (qa b 6)=some (iv (M.next (M.secN p.frags base 2).2 16))∧W.cell? (qa w.heap.size 0)=some (sv a1 p.frags.length c1)):=fun W hW=>by
      have hh:=row_high HD0.out.row
      have y1:=(hW.block b (lt1 HD0.out.blk) (by intro e;exact row_type HD0.out.row HD0.out.blk (by decide) (Option.some.inj e))).trans HD0.out.blk
      have y2:=(hW.block w.heap.size (lt1 HD0.out.part) (by intro e;have:=Option.some.inj e;omega)).trans HD0.out.part
      exact⟨cellB y1 0,cellB y1 6,cellB y2 0⟩
     clear HI1
     go_region_held3 (fun w'=>w'.cell? (qa b 0)=some (sv (some (qa g 0)) p.frags.length p.frags.length)∧w'.cell? (qa b 6)=some (iv (M.next (M.secN p.frags base 2).2 16))∧w'.cell? (qa w.heap.size 0)=some (sv a1 p.frags.length c1)) (first|exact HS0.out _ (World.grownBy.refl _ _)|exact HS0.out _ hg2) ((go_at_call 81;refine KL.out.mono ?_;rintro e W2 ⟨rfl,hg2,hr2⟩))
     have HI2:Hid (YI w W2 a1 a2 c1 c2 p g b (M.secN p.frags base 3).1 (sv none 0 0) (sv none 0 0) (M.frAt p base 3) (M.tiAt p base 2)):=HD0.out.call hg2 hr2
     clear HD0 KL HS0 hg2 hr2
     have kt:W2.cell? (qa b 12)=some (iv (M.tiAt p base 2 3)):=cellB HI2.out.blk 12
     have zt:W2.frozen? (qa b 12)=false:=frozenB HI2.out.blk 12
     have hlb:=lt1 HI2.out.blk
     have HI3:Hid (YI w (W2.setCell (qa b 12) (iv (M.secN p.frags base 3).2)) a1 a2 c1 c2 p g b (M.secN p.frags base 3).1 (sv none 0 0) (sv none 0 0) (M.frAt p base 3) (M.tiAt p base 3)):=HI2.out.put 12 _ _ _ _ _ rfl
     clear HI2
     go_wp2
     go_roundw
     case rel=>exact⟨3,_,_,by decide,by go_num,rfl,HI3,⟨fun _=>⟨rfl,rfl⟩,fun h=>by cases h⟩⟩
     case measure=>simp[intOf]
    ·-- section 4
     have hb0:=(HPos.out 3).1
     have hb1:=(HPos.out 3).2
     have hp16:=M.next_bounds (a:=(M.secN p.frags base 3).2) (d:=16) (by omega) (.inr (.inr (.inr (.inr rfl))))
     have KN:Hid (Calls Tryz.prog 80 #[iv (M.secN p.frags base 3).2,iv 16] wr fun e w'=>e=.returned (iv (M.next (M.secN p.frags base 3).2 16))∧wr=w'):=(next_any (M.secN p.frags base 3).2 16 (by omega) (by omega) (.inr (.inr (.inr (.inr rfl)))) wr).mono fun e w' ⟨h1,h2⟩=>⟨h1,h2.symm⟩
     obtain⟨rfl,rfl⟩:=HN.out.1 (by decide)
     have HI':Hid (YI w wr a1 a2 c1 c2 p g b (M.secN p.frags base 3).1 (sv none 0 0) (sv none 0 0) (M.frAt p base 3) (M.tiAt p base 3)):=HI
     have k3:wr.cell? (qa b 7)=some (iv (M.frAt p base 3 4)):=cellB HI'.out.blk 7
     have z3:wr.frozen? (qa b 7)=false:=frozenB HI'.out.blk 7
     have hlb:=lt1 HI'.out.blk
     have hE:M.tillOf p base 3=(M.secN p.frags base 3).2:=rfl
     rw[hE]
     clear hE
     go_upto_region 12 with (go_at_call 80;refine KN.out.mono ?_;rintro e w' ⟨rfl,rfl⟩)
     have HI1:Hid (YI w (wr.setCell (qa b 7) (iv (M.next (M.secN p.frags base 3).2 16))) a1 a2 c1 c2 p g b (M.secN p.frags base 3).1 (sv none 0 0) (sv none 0 0) (M.frAt p base 4) (M.tiAt p base 3)):=HI'.out.put 7 _ _ _ _ _ rfl
     clear KN k3 z3 hlb HI HI' HN
     generalize wr.setCell (qa b 7) (iv (M.next (M.secN p.frags base 3).2 16))=X1 at *
     have HD0:Hid (YI w X1.drew a1 a2 c1 c2 p g b (M.secN p.frags base 3).1 (sv none 0 0) (sv none 0 0) (M.frAt p base 4) (M.tiAt p base 3)):=HI1.out.later (Below.refl _ _).drew
     have KL:Hid (Calls Tryz.prog 81 #[(sv (some (qa g 0)) p.frags.length p.frags.length),sv a1 p.frags.length c1,iv 4,iv (M.next (M.secN p.frags base 3).2 16)] X1.drew fun e w'=>e=.returned (iv (M.secN p.frags base 4).2)∧X1.drew.grownBy w' (some g)∧w'.ownsRow (w.heap.size+1+1) 3 1 (sv (some (qa g 0)) p.frags.length p.frags.length) p.frags.length ((M.secN p.frags base 4).1.map (Value.int .i64))) :=
      layFrags_any 4 (M.next (M.secN p.frags base 3).2 16) p.frags (M.secN p.frags base 3).1 (w.heap.size+1+1) g p.frags.length a1 c1 X1.drew (fun W hW=>(HFD.out W (HD0.out.below.grown hW HD0.out.below.size (fun k hk=>by have:=Option.some.inj hk;have:=row_high HD0.out.row;omega))).1) HD0.out.row hnf HOk (by omega) (by omega)
     have HS0:Hid (∀W,X1.drew.grownBy W (some g)→W.cell? (qa b 0)=some (sv (some (qa g 0)) p.frags.length p.frags.length)∧W.cell? (qa b 7)=some (iv (M.next (M.secN p.frags base 3).2 16))∧W.cell? (qa w.heap.size 0)=some (sv a1 p.frags.length c1)):=fun W hW=>by
      have hh:=row_high HD0.out.row
      have y1:=(hW.block b (lt1 HD0.out.blk) (by intro e;exact row_type HD0.out.row HD0.out.blk (by decide) (Option.some.inj e))).trans HD0.out.blk
      have y2:=(hW.block w.heap.size (lt1 HD0.out.part) (by intro e;have:=Option.some.inj e;omega)).trans HD0.out.part
      exact⟨cellB y1 0,cellB y1 7,cellB y2 0⟩
     clear HI1
     go_region_held3 (fun w'=>w'.cell? (qa b 0)=some (sv (some (qa g 0)) p.frags.length p.frags.length)∧w'.cell? (qa b 7)=some (iv (M.next (M.secN p.frags base 3).2 16))∧w'.cell? (qa w.heap.size 0)=some (sv a1 p.frags.length c1)) (first|exact HS0.out _ (World.grownBy.refl _ _)|exact HS0.out _ hg2) ((go_at_call 81;refine KL.out.mono ?_;rintro e W2 ⟨rfl,hg2,hr2⟩))
     have HI2:Hid (YI w W2 a1 a2 c1 c2 p g b (M.secN p.frags base 4).1 (sv none 0 0) (sv none 0 0) (M.frAt p base 4) (M.tiAt p base 3)):=HD0.out.call hg2 hr2
     clear HD0 KL HS0 hg2 hr2
     have kt:W2.cell? (qa b 13)=some (iv (M.tiAt p base 3 4)):=cellB HI2.out.blk 13
     have zt:W2.frozen? (qa b 13)=false:=frozenB HI2.out.blk 13
     have hlb:=lt1 HI2.out.blk
     have HI3:Hid (YI w (W2.setCell (qa b 13) (iv (M.secN p.frags base 4).2)) a1 a2 c1 c2 p g b (M.secN p.frags base 4).1 (sv none 0 0) (sv none 0 0) (M.frAt p base 4) (M.tiAt p base 4)):=HI2.out.put 13 _ _ _ _ _ rfl
     clear HI2
     go_wp2
     go_roundw
     case rel=>exact⟨4,_,_,by decide,by go_num,rfl,HI3,⟨fun _=>⟨rfl,rfl⟩,fun h=>by cases h⟩⟩
     case measure=>simp[intOf]
    ·-- section 5
     have hb0:=(HPos.out 4).1
     have hb1:=(HPos.out 4).2
     have hp16:=M.next_bounds (a:=(M.secN p.frags base 4).2) (d:=16) (by omega) (.inr (.inr (.inr (.inr rfl))))
     have KN:Hid (Calls Tryz.prog 80 #[iv (M.secN p.frags base 4).2,iv 16] wr fun e w'=>e=.returned (iv (M.next (M.secN p.frags base 4).2 16))∧wr=w'):=(next_any (M.secN p.frags base 4).2 16 (by omega) (by omega) (.inr (.inr (.inr (.inr rfl)))) wr).mono fun e w' ⟨h1,h2⟩=>⟨h1,h2.symm⟩
     obtain⟨rfl,rfl⟩:=HN.out.1 (by decide)
     have HI':Hid (YI w wr a1 a2 c1 c2 p g b (M.secN p.frags base 4).1 (sv none 0 0) (sv none 0 0) (M.frAt p base 4) (M.tiAt p base 4)):=HI
     have k3:wr.cell? (qa b 8)=some (iv (M.frAt p base 4 5)):=cellB HI'.out.blk 8
     have z3:wr.frozen? (qa b 8)=false:=frozenB HI'.out.blk 8
     have hlb:=lt1 HI'.out.blk
     have hE:M.tillOf p base 4=(M.secN p.frags base 4).2:=rfl
     rw[hE]
     clear hE
     go_upto_region 12 with (go_at_call 80;refine KN.out.mono ?_;rintro e w' ⟨rfl,rfl⟩)
     have HI1:Hid (YI w (wr.setCell (qa b 8) (iv (M.next (M.secN p.frags base 4).2 16))) a1 a2 c1 c2 p g b (M.secN p.frags base 4).1 (sv none 0 0) (sv none 0 0) (M.frAt p base 5) (M.tiAt p base 4)):=HI'.out.put 8 _ _ _ _ _ rfl
     clear KN k3 z3 hlb HI HI' HN
     generalize wr.setCell (qa b 8) (iv (M.next (M.secN p.frags base 4).2 16))=X1 at *
     have HD0:Hid (YI w X1.drew a1 a2 c1 c2 p g b (M.secN p.frags base 4).1 (sv none 0 0) (sv none 0 0) (M.frAt p base 5) (M.tiAt p base 4)):=HI1.out.later (Below.refl _ _).drew
     have KL:Hid (Calls Tryz.prog 81 #[(sv (some (qa g 0)) p.frags.length p.frags.length),sv a1 p.frags.length c1,iv 5,iv (M.next (M.secN p.frags base 4).2 16)] X1.drew fun e w'=>e=.returned (iv (M.secN p.frags base 5).2)∧X1.drew.grownBy w' (some g)∧w'.ownsRow (w.heap.size+1+1) 3 1 (sv (some (qa g 0)) p.frags.length p.frags.length) p.frags.length ((M.secN p.frags base 5).1.map (Value.int .i64))) :=
      layFrags_any 5 (M.next (M.secN p.frags base 4).2 16) p.frags (M.secN p.frags base 4).1 (w.heap.size+1+1) g p.frags.length a1 c1 X1.drew (fun W hW=>(HFD.out W (HD0.out.below.grown hW HD0.out.below.size (fun k hk=>by have:=Option.some.inj hk;have:=row_high HD0.out.row;omega))).1) HD0.out.row hnf HOk (by omega) (by omega)
     have HS0:Hid (∀W,X1.drew.grownBy W (some g)→W.cell? (qa b 0)=some (sv (some (qa g 0)) p.frags.length p.frags.length)∧W.cell? (qa b 8)=some (iv (M.next (M.secN p.frags base 4).2 16))∧W.cell? (qa w.heap.size 0)=some (sv a1 p.frags.length c1)):=fun W hW=>by
      have hh:=row_high HD0.out.row
      have y1:=(hW.block b (lt1 HD0.out.blk) (by intro e;exact row_type HD0.out.row HD0.out.blk (by decide) (Option.some.inj e))).trans HD0.out.blk
      have y2:=(hW.block w.heap.size (lt1 HD0.out.part) (by intro e;have:=Option.some.inj e;omega)).trans HD0.out.part
      exact⟨cellB y1 0,cellB y1 8,cellB y2 0⟩
     clear HI1
     go_region_held3 (fun w'=>w'.cell? (qa b 0)=some (sv (some (qa g 0)) p.frags.length p.frags.length)∧w'.cell? (qa b 8)=some (iv (M.next (M.secN p.frags base 4).2 16))∧w'.cell? (qa w.heap.size 0)=some (sv a1 p.frags.length c1)) (first|exact HS0.out _ (World.grownBy.refl _ _)|exact HS0.out _ hg2) ((go_at_call 81;refine KL.out.mono ?_;rintro e W2 ⟨rfl,hg2,hr2⟩))
     have HI2:Hid (YI w W2 a1 a2 c1 c2 p g b (M.secN p.frags base 5).1 (sv none 0 0) (sv none 0 0) (M.frAt p base 5) (M.tiAt p base 4)):=HD0.out.call hg2 hr2
     clear HD0 KL HS0 hg2 hr2
     have KCm:Hid (Calls Tryz.prog 82 #[.agg #[sv a1 p.frags.length c1,sv a2 p.defs.length c2],iv (M.secN p.frags base 5).2] W2 _):=layCommons_any p (M.secN p.frags base 5).2 a1 a2 c1 c2 W2 (HFD.out W2 HI2.out.below).1 (HFD.out W2 HI2.out.below).2 HCk.out (by have:=(HPos.out 5).1;omega) (by have:=(HPos.out 5).2;omega)
     have p0:W2.cell? (qa w.heap.size 0)=some (sv a1 p.frags.length c1):=cellB HI2.out.part 0
     have p1:W2.cell? (qa w.heap.size 1)=some (sv a2 p.defs.length c2):=cellB HI2.out.part 1
     have hlp:=lt1 HI2.out.part
     have hlb2:=lt1 HI2.out.blk
     go_upto_region 14 with fail
     go_wp2_with (go_at_call 82;refine KCm.out.mono ?_;rintro e W3 ⟨hb3,vN,vC,rfl,hN3,hC3,hz3,_,_,hq0,hq1⟩;refine Hid.out ?_)
     have HI3:Hid (YI w W3 a1 a2 c1 c2 p g b (M.secN p.frags base 5).1 (sv none 0 0) (sv none 0 0) (M.frAt p base 5) (M.tiAt p base 4)):=HI2.out.later hb3
     have m1:W3.cell? (qa b 1)=some (sv none 0 0):=cellB HI3.out.blk 1
     have m2:W3.cell? (qa b 2)=some (sv none 0 0):=cellB HI3.out.blk 2
     have m14:W3.cell? (qa b 14)=some (iv (M.tiAt p base 4 5)):=cellB HI3.out.blk 14
     have z1:W3.frozen? (qa b 1)=false:=frozenB HI3.out.blk 1
     have z2:W3.frozen? (qa b 2)=false:=frozenB HI3.out.blk 2
     have z14:W3.frozen? (qa b 14)=false:=frozenB HI3.out.blk 14
     have hlb:=lt1 HI3.out.blk
     have HI6:Hid (YI w (((W3.setCell (qa b 1) vN).setCell (qa b 2) vC).setCell (qa b 14) (iv (M.commons p (M.secN p.frags base 5).2).pos)) a1 a2 c1 c2 p g b (M.secN p.frags base 5).1 vN vC (M.frAt p base 5) (M.tiAt p base 5)) :=
      ((HI3.out.put 1 vN vN (sv none 0 0) (M.frAt p base 5) (M.tiAt p base 4) rfl).put 2 vC vN vC (M.frAt p base 5) (M.tiAt p base 4) rfl).put 14 _ vN vC (M.frAt p base 5) (M.tiAt p base 5) rfl
     have fN:vN.ownBlock≠some b:=fun e=>by have:=(hN3.lt b e).1;omega
     have fC:vC.ownBlock≠some b:=fun e=>by have:=(hC3.lt b e).1;omega
     have HN6:Hid (NC (((W3.setCell (qa b 1) vN).setCell (qa b 2) vC).setCell (qa b 14) (iv (M.commons p (M.secN p.frags base 5).2).pos)) p base b 5 vN vC) :=
      ⟨fun h=>absurd h (by decide),fun _=>⟨⟨W2.heap.size,hlb2,ownsRow_setCell_other (ownsRow_setCell_other (ownsRow_setCell_other hN3 fN _) fN _) fN _,ownsRow_setCell_other (ownsRow_setCell_other (ownsRow_setCell_other hC3 fC _) fC _) fC _⟩,hz3⟩⟩
     obtain⟨a6,n6,c6,rfl⟩:=own_form hN3
     obtain⟨a7,n7,c7,rfl⟩:=own_form hC3
     clear HI2 HI3 hN3 hC3 hz3 fN fC KCm p0 p1
     refine Lib.hid ?_
     go_wp2
     go_roundw
     case rel=>exact⟨5,_,_,by decide,by go_num,rfl,HI6,HN6⟩
     case measure=>simp[intOf]
    ·obtain⟨B5,hbB,hN5,hC5⟩:=(HN.out.2 rfl).1
     have hz5:=(HN.out.2 rfl).2
     have HI':Hid (YI w wr a1 a2 c1 c2 p g b (M.secN p.frags base 5).1 vN vC (M.frAt p base 5) (M.tiAt p base 5)):=HI
     have q4:wr.heap[w.heap.size+1]?=some (.cells #[sv none 0 0,sv none 0 0,sv none 0 0,iv 0,iv 0,iv 0,iv 0,iv 0,iv 0,iv 0,iv 0,iv 0,iv 0,iv 0,iv 0] 76 (0,0)):=HI'.out.res
     have q7:wr.heap[b]?=some (.cells (layArr (sv (some (qa g 0)) p.frags.length p.frags.length) vN vC (M.frAt p base 5) (M.tiAt p base 5)) 76 (0,0)):=HI'.out.blk
     have hlb:=lt1 q7
     have hl1:=lt1 q4
     have hhb:=HI'.out.high
     by_cases hfull:65536<M.tillOf p base 5
     ·have HE2:Hid (M.lay p base=(M.lay0,10)):=by rw[Hid,HE.out,if_pos hfull]
      have HZ1:Hid ((wr.setRow (w.heap.size+1) #[sv none 0 0,sv none 0 0,sv none 0 0,iv 0,iv 0,iv 0,iv 0,iv 0,iv 0,iv 0,iv 0,iv 0,iv 0,iv 0,iv 0]).heap[w.heap.size+1]?=some (.cells #[sv none 0 0,sv none 0 0,sv none 0 0,iv 0,iv 0,iv 0,iv 0,iv 0,iv 0,iv 0,iv 0,iv 0,iv 0,iv 0,iv 0] 76 (0,0))):=setRow_heap _ _ _ _ _ _ q4
      have HB1:Hid (Below w.heap.size w (wr.setRow (w.heap.size+1) #[sv none 0 0,sv none 0 0,sv none 0 0,iv 0,iv 0,iv 0,iv 0,iv 0,iv 0,iv 0,iv 0,iv 0,iv 0,iv 0,iv 0])):=below_setRow HI'.out.below (by omega)
      clear HI HI' HN hN5 hC5 hz5 HE q7
      generalize M.tillOf p base 5=te at *
      go_wp2_with (refine wpList_store_row rfl 76 _ _ rfl (w.heap.size+1) #[sv none 0 0,sv none 0 0,sv none 0 0,iv 0,iv 0,iv 0,iv 0,iv 0,iv 0,iv 0,iv 0,iv 0,iv 0,iv 0,iv 0] rfl rfl 76 #[sv none 0 0,sv none 0 0,sv none 0 0,iv 0,iv 0,iv 0,iv 0,iv 0,iv 0,iv 0,iv 0,iv 0,iv 0,iv 0,iv 0] q4 hsi rfl h1z ?_)
      refine bodyPost_ret (v:=.tuple #[.agg #[sv none 0 0,sv none 0 0,sv none 0 0,iv 0,iv 0,iv 0,iv 0,iv 0,iv 0,iv 0,iv 0,iv 0,iv 0,iv 0,iv 0],iv 10]) (res_lay (g:=w.heap.size+1) rfl rfl HZ1.out rfl) rfl ?_
      rw[HE2.out]
      exact⟨HB1.out,sv none 0 0,sv none 0 0,sv none 0 0,rfl,ints_nil _,strs_nil _,ints_nil _⟩
     ·have HE2:Hid (M.lay p base=(M.layAll p base,0)):=by rw[Hid,HE.out,if_neg hfull]
      have hff:decide (65536<M.tillOf p base 5)=false:=by simpa using hfull
      have hoF:=HI'.out.row
      have hsl:(M.secN p.frags base 5).1.length=p.frags.length:=M.secN_len _ _ _
      have HF5:Hid (IntsAt (wr.setRow (w.heap.size+1) (layArr (sv (some (qa g 0)) p.frags.length p.frags.length) vN vC (M.frAt p base 5) (M.tiAt p base 5))) (sv (some (qa g 0)) p.frags.length p.frags.length) (M.secN p.frags base 5).1):=row_ints (B:=w.heap.size+1+1) (by rw[hsl];exact hoF.kept (gb_setRow _ _ _) (.inr (fun e=>by have h1:=row_high hoF;have h2:g=w.heap.size+1:=Option.some.inj e;omega)))
      have HN5:Hid (StrsAt (wr.setRow (w.heap.size+1) (layArr (sv (some (qa g 0)) p.frags.length p.frags.length) vN vC (M.frAt p base 5) (M.tiAt p base 5))) vN (M.commons p (M.secN p.frags base 5).2).names):=row_strs (hN5.kept (gb_setRow _ _ _) (.inr (fun e=>by have:=(hN5.lt _ e).1;omega))) hz5
      have HC5:Hid (IntsAt (wr.setRow (w.heap.size+1) (layArr (sv (some (qa g 0)) p.frags.length p.frags.length) vN vC (M.frAt p base 5) (M.tiAt p base 5))) vC (M.commons p (M.secN p.frags base 5).2).at_):=row_ints (hC5.kept (gb_setRow _ _ _) (.inr (fun e=>by have:=(hC5.lt _ e).1;omega)))
      obtain⟨a6,n6,c6,rfl⟩:=own_form hN5
      obtain⟨a7,n7,c7,rfl⟩:=own_form hC5
      have HZ1:Hid ((wr.setRow (w.heap.size+1) (layArr (sv (some (qa g 0)) p.frags.length p.frags.length) (sv a6 n6 c6) (sv a7 n7 c7) (M.frAt p base 5) (M.tiAt p base 5))).heap[w.heap.size+1]?=some (.cells (layArr (sv (some (qa g 0)) p.frags.length p.frags.length) (sv a6 n6 c6) (sv a7 n7 c7) (M.frAt p base 5) (M.tiAt p base 5)) 76 (0,0))):=setRow_heap _ _ _ _ _ _ q4
      have HB1:Hid (Below w.heap.size w (wr.setRow (w.heap.size+1) (layArr (sv (some (qa g 0)) p.frags.length p.frags.length) (sv a6 n6 c6) (sv a7 n7 c7) (M.frAt p base 5) (M.tiAt p base 5)))):=below_setRow HI'.out.below (by omega)
      have hs5:(layArr (sv (some (qa g 0)) p.frags.length p.frags.length) (sv a6 n6 c6) (sv a7 n7 c7) (M.frAt p base 5) (M.tiAt p base 5)).size=15:=rfl
      have h15:(layArr (sv (some (qa g 0)) p.frags.length p.frags.length) (sv a6 n6 c6) (sv a7 n7 c7) (M.frAt p base 5) (M.tiAt p base 5)).all (·.oneCell')=true:=by simp[layArr,Value.oneCell']
      have hsi5:(Tryz.prog.info? 76).map (·.size)=some (layArr (sv (some (qa g 0)) p.frags.length p.frags.length) (sv a6 n6 c6) (sv a7 n7 c7) (M.frAt p base 5) (M.tiAt p base 5)).size:=hsi
      clear HI HI' HN hN5 hC5 hz5 HE hoF
      obtain⟨C,hC⟩:∃C,layArr (sv (some (qa g 0)) p.frags.length p.frags.length) (sv a6 n6 c6) (sv a7 n7 c7) (M.frAt p base 5) (M.tiAt p base 5)=C:=⟨_,rfl⟩
      have HC:Hid (layArr (sv (some (qa g 0)) p.frags.length p.frags.length) (sv a6 n6 c6) (sv a7 n7 c7) (M.frAt p base 5) (M.tiAt p base 5)=C):=hC
      rw[hC] at HF5 HN5 HC5 HZ1 HB1 hs5 h15 hsi5 q7
      clear hC
      generalize M.tillOf p base 5=te at *
      go_wp2_with (first|(refine wpList_load_row rfl 76 _ rfl b rfl 76 C (0,0) _ q7 Tryz.underlying76 rfl hsi5 ?_)|(refine wpList_store_row rfl 76 _ _ rfl (w.heap.size+1) C rfl rfl 76 #[sv none 0 0,sv none 0 0,sv none 0 0,iv 0,iv 0,iv 0,iv 0,iv 0,iv 0,iv 0,iv 0,iv 0,iv 0,iv 0,iv 0] q4 hsi5 hs5.symm h15 ?_))
      refine bodyPost_ret (v:=.tuple #[.agg C,iv 0]) (res_lay (g:=w.heap.size+1) rfl rfl HZ1.out hs5) rfl ?_
      rw[HE2.out]
      exact⟨HB1.out,_,_,_,by rw[←HC.out];rfl,HF5.out,HN5.out,HC5.out⟩
end Go.Proofs.YtpkfmfhodbjckaaGreatDoor
namespace Go.Proofs.YtpkfmfhodbjckaaGreatDoor
open Go Go.RowKit
theorem numbering_any(p:M.Prt)(l:M.Lay)(a1 a2:Option Addr)(c1 c2:Nat)(xf xn xc:Option Addr)(yf yn yc:Nat)(w:World)(hf:FragsAt w (sv a1 p.frags.length c1) p.frags)(hd:DefsAt w (sv a2 p.defs.length c2) p.defs)
  (hL:LayAt w (sv xf l.frags.length yf) (sv xn l.names.length yn) (sv xc l.coms.length yc) l) (ok:M.LkOk p l) :
  Calls Tryz.prog 48 #[.agg #[sv a1 p.frags.length c1,sv a2 p.defs.length c2],.agg #[sv xf l.frags.length yf,sv xn l.names.length yn,sv xc l.coms.length yc,iv (l.fr 0),iv (l.fr 1),iv (l.fr 2),iv (l.fr 3),iv (l.fr 4),iv (l.fr 5),iv (l.ti 0),iv (l.ti 1),iv (l.ti 2),iv (l.ti 3),iv (l.ti 4),iv (l.ti 5)]] w
   fun e w'=>Below w.heap.size w w'∧∃bp bl,e=.returned (.func (.func 83) #[] #[qv bp 0,qv bl 0])∧NumAt w' bp bl p l:=by
 have hA:Below w.heap.size w ((w.alloc (.cells #[sv a1 p.frags.length c1,sv a2 p.defs.length c2] 43)).alloc (.cells #[sv xf l.frags.length yf,sv xn l.names.length yn,sv xc l.coms.length yc,iv (l.fr 0),iv (l.fr 1),iv (l.fr 2),iv (l.fr 3),iv (l.fr 4),iv (l.fr 5),iv (l.ti 0),iv (l.ti 1),iv (l.ti 2),iv (l.ti 3),iv (l.ti 4),iv (l.ti 5)] 76)):=(bra _ _).alloc (by simp) _
 have HN:Hid (NumAt ((w.alloc (.cells #[sv a1 p.frags.length c1,sv a2 p.defs.length c2] 43)).alloc (.cells #[sv xf l.frags.length yf,sv xn l.names.length yn,sv xc l.coms.length yc,iv (l.fr 0),iv (l.fr 1),iv (l.fr 2),iv (l.fr 3),iv (l.fr 4),iv (l.fr 5),iv (l.ti 0),iv (l.ti 1),iv (l.ti 2),iv (l.ti 3),iv (l.ti 4),iv (l.ti 5)] 76)) w.heap.size (w.heap.size+1) p l) :=
  ⟨ok,a1,c1,a2,c2,xf,yf,xn,yn,xc,yc,heap_alloc2_old _ _ _,heap_alloc2_new _ _ _,hf.later hA,hd.later hA,hL.later hA⟩
 have HA:Hid _:=hA
 clear hf hd hL ok hA
 go_enter Tryz.func48,Tryz.ntmps48
 go_wp2
 go_ret
 exact⟨HA.out,_,_,rfl,HN.out⟩
def KeepNI (W W':World):Prop:=∀(k:Nat) (cs:Array Value) (t:TypeId),W.heap[k]?=some (.cells cs t (0,0))→t≠25→W'.heap[k]?=some (.cells cs t (0,0))
theorem own_keepNI{W W':World}{B k n:Nat}{e:TypeId}{v:Value}{xs:List Value}(h:W.ownsRow B e k v n xs)(he:e≠25)(hk:KeepNI W W'):W'.ownsRow B e k v n xs :=
 let ⟨h0,h1⟩:=h
 ⟨h0,h1.imp id fun ⟨g,cap,cs,e1,hg,h2,r⟩=>⟨g,cap,cs,e1,hg,hk _ _ _ h2 he,r⟩⟩
def LkOut (w':World) (v:M.Img × List Flt × Int) (e:Ending):Prop :=
 ∃vs vf,e=.returned (.tuple #[.agg #[iv v.1.entry,vs],vf,iv v.2.2])∧SegsAt w' vs v.1.segs∧FltsAt w' vf v.2.1∧(∀x n y,vf=sv x n y→n≤y)∧∀W',KeepNI w' W'→SegsAt W' vs v.1.segs∧FltsAt W' vf v.2.1
theorem lkOut_err{w':World}{er:Int} : LkOut w' (M.img0,[],er) (.returned (.tuple #[.agg #[iv 0,sv none 0 0],sv none 0 0,iv er])):=⟨_,_,rfl,segs_nil _,flts_nil _,(fun x n y h=>by cases h;exact Nat.le_refl _),fun W' _=>⟨segs_nil _,flts_nil _⟩⟩
theorem own_room{w:World}{B k n:Nat}{e:TypeId}{a:Option Addr}{c:Nat}{xs:List Value}(h:w.ownsRow B e k (sv a n c) n xs):n≤c:=by
 rcases h.2 with ⟨h1,_⟩|⟨g,cap,cur,h1,_,_,h2,_⟩
 ·cases h1;exact Nat.le_refl _
 ·cases h1;exact h2
theorem link_check{p:M.Prt}{base:Int}{s:ByteArray}(h:¬M.checkPart p=0):M.link p base s=(M.img0,[],M.checkPart p):=if_neg h
theorem link_text{p:M.Prt}{base:Int}{s:ByteArray}(h:M.checkPart p=0)(hs:M.isName s=false):M.link p base s=(M.img0,[],1):=by
 unfold M.link;rw[if_pos h,if_neg (by rw[hs];decide)]
theorem link_lay{p:M.Prt}{base:Int}{s:ByteArray}(h:M.checkPart p=0)(hs:M.isName s=true)(hl:¬(M.lay p base).2=0):M.link p base s=(M.img0,[],(M.lay p base).2):=by
 unfold M.link;rw[if_pos h,if_pos hs,if_neg hl]
theorem link_faults{p:M.Prt}{base:Int}{s:ByteArray}(h:M.checkPart p=0)(hs:M.isName s=true)(hl:(M.lay p base).2=0)(hf:¬(M.allFaults p (M.lay p base).1 s).length=0):M.link p base s=(M.img0,M.allFaults p (M.lay p base).1 s,0):=by
 unfold M.link;rw[if_pos h,if_pos hs,if_pos hl,if_neg hf]
theorem link_image{p:M.Prt}{base:Int}{s:ByteArray}(h:M.checkPart p=0)(hs:M.isName s=true)(hl:(M.lay p base).2=0)(hf:(M.allFaults p (M.lay p base).1 s).length=0):M.link p base s=(M.image p (M.lay p base).1 s,[],0):=by
 unfold M.link;rw[if_pos h,if_pos hs,if_pos hl,if_pos hf]
theorem link_any(p:M.Prt)(base:Int)(s:ByteArray)(a1 a2:Option Addr)(c1 c2:Nat)(w:World)(hf:FragsAt w (sv a1 p.frags.length c1) p.frags)(hd:DefsAt w (sv a2 p.defs.length c2) p.defs)(hsz:s.size≤maxLen) :
  Calls Tryz.prog 17 #[.agg #[sv a1 p.frags.length c1,sv a2 p.defs.length c2],iv base,.string s] w fun e w'=>Below w.heap.size w w'∧LkOut w' (M.link p base s) e:=by
 obtain⟨X0,HX0⟩:∃X0,Hid (X0=(w.alloc (.cells #[sv a1 p.frags.length c1,sv a2 p.defs.length c2] 43)).alloc (.cells #[iv 0,sv none 0 0] 25)):=⟨_,rfl⟩
 have q0:X0.heap[w.heap.size]?=some (.cells #[sv a1 p.frags.length c1,sv a2 p.defs.length c2] 43 (0,0)):=by rw[HX0.out];exact heap_alloc2_old _ _ _
 have q1:X0.heap[w.heap.size+1]?=some (.cells #[iv 0,sv none 0 0] 25 (0,0)):=by rw[HX0.out];exact heap_alloc2_new _ _ _
 have hX0:Below w.heap.size w X0:=by rw[HX0.out];exact(bra _ _).alloc (by simp) _
 have hl0:=lt1 q1
 have HB:Hid (∀W,Below X0.heap.size X0 W→Below w.heap.size w W):=fun W hW=>hX0.trans (hW.mono hX0.size)
 have HP:Hid (∀W,Below X0.heap.size X0 W→W.cell? (qa w.heap.size 0)=some (sv a1 p.frags.length c1)∧W.cell? (qa w.heap.size 1)=some (sv a2 p.defs.length c2)∧w.heap.size<W.heap.size):=fun W hW=>by
  have y:=blk hW q0
  exact⟨cellB y 0,cellB y 1,(lt1 y)⟩
 have HRb:Hid (∀W,Below X0.heap.size X0 W→W.heap[w.heap.size+1]?=some (.cells #[iv 0,sv none 0 0] 25 (0,0))):=fun W hW=>(hW.block _ hl0).trans q1
 have HR:Hid (∀W,Below X0.heap.size X0 W→W.cell? (qa (w.heap.size+1) 0)=some (iv 0)∧W.cell? (qa (w.heap.size+1) 1)=some (sv none 0 0)∧W.frozen? (qa (w.heap.size+1) 0)=false∧W.frozen? (qa (w.heap.size+1) 1)=false∧w.heap.size+1<W.heap.size):=fun W hW=>by
  have y:=HRb.out W hW
  exact⟨cellB y 0,cellB y 1,frozenB y 0,frozenB y 1,(lt1 y)⟩
 have KC:Hid (Calls Tryz.prog 46 #[.agg #[sv a1 p.frags.length c1,sv a2 p.defs.length c2]] X0 fun e w'=>e=.returned (iv (M.checkPart p))∧Below X0.heap.size X0 w'):=check_any p.frags p.defs _ _ _ _ _ (hf.later hX0) (hd.later hX0)
 have KN:Hid (∀W,Calls Tryz.prog 14 #[.string s] W fun e w'=>e=.returned (.bool (M.isName s))∧W=w'):=fun W=>(name_any s W hsz).mono fun e w' ⟨h1,h2⟩=>⟨h1,h2.symm⟩
 have KL:Hid (∀W,Below X0.heap.size X0 W→Calls Tryz.prog 47 #[.agg #[sv a1 p.frags.length c1,sv a2 p.defs.length c2],iv base] W fun e w'=>Below W.heap.size W w'∧∃xf yf xn yn xc yc,e=.returned (.tuple #[.agg #[sv xf (M.lay p base).1.frags.length yf,sv xn (M.lay p base).1.names.length yn,sv xc (M.lay p base).1.coms.length yc,iv ((M.lay p base).1.fr 0),iv ((M.lay p base).1.fr 1),iv ((M.lay p base).1.fr 2),iv ((M.lay p base).1.fr 3),iv ((M.lay p base).1.fr 4),iv ((M.lay p base).1.fr 5),iv ((M.lay p base).1.ti 0),iv ((M.lay p base).1.ti 1),iv ((M.lay p base).1.ti 2),iv ((M.lay p base).1.ti 3),iv ((M.lay p base).1.ti 4),iv ((M.lay p base).1.ti 5)],iv (M.lay p base).2])∧LayAt w' (sv xf (M.lay p base).1.frags.length yf) (sv xn (M.lay p base).1.names.length yn) (sv xc (M.lay p base).1.coms.length yc) (M.lay p base).1):=fun W hW=>by
  refine(lay_any p base a1 a2 c1 c2 W (hf.later (HB.out W hW)) (hd.later (HB.out W hW))).mono ?_
  rintro e w' ⟨hb,vF,vN,vC,rfl,h1,h2,h3⟩
  obtain⟨xf,yf,rfl,_⟩:=SlAt.form h1
  obtain⟨xn,yn,rfl,_⟩:=SlAt.form h2.1
  obtain⟨xc,yc,rfl,_⟩:=SlAt.form h3
  exact⟨hb,xf,yf,xn,yn,xc,yc,rfl,h1,h2,h3⟩
 have KM:Hid (∀W xf yf xn yn xc yc l,Below X0.heap.size X0 W→LayAt W (sv xf l.frags.length yf) (sv xn l.names.length yn) (sv xc l.coms.length yc) l→M.LkOk p l→Calls Tryz.prog 48 #[.agg #[sv a1 p.frags.length c1,sv a2 p.defs.length c2],.agg #[sv xf l.frags.length yf,sv xn l.names.length yn,sv xc l.coms.length yc,iv (l.fr 0),iv (l.fr 1),iv (l.fr 2),iv (l.fr 3),iv (l.fr 4),iv (l.fr 5),iv (l.ti 0),iv (l.ti 1),iv (l.ti 2),iv (l.ti 3),iv (l.ti 4),iv (l.ti 5)]] W fun e w'=>Below W.heap.size W w'∧∃bp bl,e=.returned (.func (.func 83) #[] #[qv bp 0,qv bl 0])∧NumAt w' bp bl p l):=fun W xf yf xn yn xc yc l hW hL ho=>numbering_any p l a1 a2 c1 c2 xf xn xc yf yn yc W (hf.later (HB.out W hW)) (hd.later (HB.out W hW)) hL ho
 have KF:Hid (∀W bp bl l,Below X0.heap.size X0 W→NumAt W bp bl p l→Calls Tryz.prog 49 #[.agg #[sv a1 p.frags.length c1,sv a2 p.defs.length c2],.string s,.func (.func 83) #[] #[qv bp 0,qv bl 0]] W fun e w'=>Below W.heap.size W w'∧∃v,e=.returned v∧FRow w' W.heap.size v (M.allFaults p l s)∧(M.allFaults p l s).length≤1100):=fun W bp bl l hW hn=>allFaults_any p l s a1 a2 c1 c2 bp bl W (hf.later (HB.out W hW)) (hd.later (HB.out W hW)) hn
 have KI:Hid (∀W bp bl xf yf xn yn xc yc l,Below X0.heap.size X0 W→LayAt W (sv xf l.frags.length yf) (sv xn l.names.length yn) (sv xc l.coms.length yc) l→NumAt W bp bl p l→SegOk p l 1 1→SegOk p l 2 3→SegOk p l 4 4→0≤l.ti 5→l.ti 5≤65536→0≤l.ti 4→Calls Tryz.prog 50 #[.agg #[sv a1 p.frags.length c1,sv a2 p.defs.length c2],.agg #[sv xf l.frags.length yf,sv xn l.names.length yn,sv xc l.coms.length yc,iv (l.fr 0),iv (l.fr 1),iv (l.fr 2),iv (l.fr 3),iv (l.fr 4),iv (l.fr 5),iv (l.ti 0),iv (l.ti 1),iv (l.ti 2),iv (l.ti 3),iv (l.ti 4),iv (l.ti 5)],.string s,.func (.func 83) #[] #[qv bp 0,qv bl 0]] W fun e w'=>Below W.heap.size W w'∧∃vs,e=.returned (.agg #[iv (M.image p l s).entry,vs])∧SegsBlk w' vs (M.image p l s).segs):=fun W bp bl xf yf xn yn xc yc l hW hL hn h1 h2 h3 h4 h5 h6=>image_any p l s a1 a2 c1 c2 bp bl xf xn xc yf yn yc W (hf.later (HB.out W hW)) (hd.later (HB.out W hW)) hL hn h1 h2 h3 h4 h5 h6
 have L1:Hid _:=@link_check p base s
 have L2:Hid _:=@link_text p base s
 have L3:Hid _:=@link_lay p base s
 have L4:Hid _:=@link_faults p base s
 have L5:Hid _:=@link_image p base s
 have HLF:Hid ((M.lay p base).2=0→M.checkPart p=0∧0≤base∧base<65536∧M.lay p base=(M.layAll p base,0)∧M.Apart p base):=lay_facts
 have HOk:Hid ((M.lay p base).2=0→M.LkOk p (M.lay p base).1∧SegOk p (M.lay p base).1 1 1∧SegOk p (M.lay p base).1 2 3∧SegOk p (M.lay p base).1 4 4∧0≤(M.lay p base).1.ti 5∧(M.lay p base).1.ti 5≤65536∧0≤(M.lay p base).1.ti 4):=fun h=>by
  obtain⟨h1,h2,h3,h4,h5⟩:=lay_facts h
  rw[h4]
  have hp:=(M.ok_iff p).1 h1
  have t5:=h5.ti 5 (by decide) (by decide)
  have t4:=h5.ti 4 (by decide) (by decide)
  exact⟨lkOk_of h1 h5,segOk_of hp h5 (.inl ⟨rfl,rfl⟩),segOk_of hp h5 (.inr (.inl ⟨rfl,rfl⟩)),segOk_of hp h5 (.inr (.inr ⟨rfl,rfl⟩)),by show 0≤(M.layAll p base).ti 5;omega,t5.2.1,by show 0≤(M.layAll p base).ti 4;omega⟩
 clear hf hd HLF
 generalize M.link p base s=RR at *
 have c0:=cellB q0 0
 have c1':=cellB q0 1
 simp at c0 c1'
 generalize M.checkPart p=ck at *
 generalize M.isName s=isn at *
 go_enter Tryz.func17,Tryz.ntmps17
 go_upto_region 1 with fail
 rw[←HX0.out]
 clear HX0 q0 q1 hX0
 go_upto_region 2 with (go_at_call 46;refine KC.out.mono ?_;rintro e X1 ⟨rfl,hb1⟩)
 have H1:Hid _:=hb1
 clear hb1 KC c0 c1' hl0
 by_cases hck:ck=0
 ·subst hck
  cases isn
  ·obtain rfl:RR=(M.img0,[],1):=L2.out (by trivial) (by trivial)
   obtain⟨r0,r1,f0,f1,hlR⟩:=HR.out X1 H1.out
   have HBf:Hid (Below w.heap.size w ((X1.setCell (qa (w.heap.size+1) 0) (iv 0)).setCell (qa (w.heap.size+1) 1) (sv none 0 0))):=((HB.out X1 H1.out).setCell (by show w.heap.size≤w.heap.size+1;omega) _).setCell (by show w.heap.size≤w.heap.size+1;omega) _
   clear L1 L2 L3 L4 L5 HB HP HR HRb KL KM KF KI HOk
   go_wp2_with (go_at_call 14;refine(KN.out _).mono ?_;rintro e w2 ⟨rfl,rfl⟩)
   refine bodyPost_ret (v:=.tuple #[.agg #[iv 0,sv none 0 0],sv none 0 0,iv 1]) (by simp[results,Tryz.results17,go_sem,r0,r1]) rfl ?_
   exact⟨HBf.out,lkOut_err⟩
  ·clear L1 L2
   obtain⟨c0,c1',hlp⟩:=HP.out X1 H1.out
   have KL':Hid (Calls Tryz.prog 47 #[.agg #[sv a1 p.frags.length c1,sv a2 p.defs.length c2],iv base] X1 _):=KL.out X1 H1.out
   clear KL
   generalize M.lay p base=LY at *
   obtain⟨l,er⟩:=LY
   simp only at KL' L3 L4 L5 HOk
   go_upto_region 7 with (first|(go_at_call 14;refine(KN.out _).mono ?_;rintro e w2 ⟨rfl,rfl⟩)|(go_at_call 47;refine KL'.out.mono ?_;rintro e X2 ⟨hb2,xf,yf,xn,yn,xc,yc,rfl,hLA⟩))
   have hb3:Below X2.heap.size X2 (X2.alloc (.cells #[sv xf l.frags.length yf,sv xn l.names.length yn,sv xc l.coms.length yc,iv (l.fr 0),iv (l.fr 1),iv (l.fr 2),iv (l.fr 3),iv (l.fr 4),iv (l.fr 5),iv (l.ti 0),iv (l.ti 1),iv (l.ti 2),iv (l.ti 3),iv (l.ti 4),iv (l.ti 5)] 76)):=bra _ _
   have H3:Hid (Below X0.heap.size X0 (X2.alloc (.cells #[sv xf l.frags.length yf,sv xn l.names.length yn,sv xc l.coms.length yc,iv (l.fr 0),iv (l.fr 1),iv (l.fr 2),iv (l.fr 3),iv (l.fr 4),iv (l.fr 5),iv (l.ti 0),iv (l.ti 1),iv (l.ti 2),iv (l.ti 3),iv (l.ti 4),iv (l.ti 5)] 76))):=(H1.out.trans (hb2.mono H1.out.size)).trans (hb3.mono (Nat.le_trans H1.out.size hb2.size))
   have hLA3:=hLA.later hb3
   have q3:=heap_alloc_new X2 (.cells #[sv xf l.frags.length yf,sv xn l.names.length yn,sv xc l.coms.length yc,iv (l.fr 0),iv (l.fr 1),iv (l.fr 2),iv (l.fr 3),iv (l.fr 4),iv (l.fr 5),iv (l.ti 0),iv (l.ti 1),iv (l.ti 2),iv (l.ti 3),iv (l.ti 4),iv (l.ti 5)] 76)
   clear hb2 hb3 hLA KL' c0 c1' hlp H1
   generalize X2.alloc (.cells #[sv xf l.frags.length yf,sv xn l.names.length yn,sv xc l.coms.length yc,iv (l.fr 0),iv (l.fr 1),iv (l.fr 2),iv (l.fr 3),iv (l.fr 4),iv (l.fr 5),iv (l.ti 0),iv (l.ti 1),iv (l.ti 2),iv (l.ti 3),iv (l.ti 4),iv (l.ti 5)] 76)=X3 at *
   generalize X2.heap.size=nl at *
   by_cases her:er=0
   ·subst her
    obtain⟨ok,s1,s2,s3,t1,t2,t3⟩:=HOk.out (by trivial)
    obtain⟨c0,c1',hlp⟩:=HP.out X3 H3.out
    have KM':Hid (Calls Tryz.prog 48 #[.agg #[sv a1 p.frags.length c1,sv a2 p.defs.length c2],.agg #[sv xf l.frags.length yf,sv xn l.names.length yn,sv xc l.coms.length yc,iv (l.fr 0),iv (l.fr 1),iv (l.fr 2),iv (l.fr 3),iv (l.fr 4),iv (l.fr 5),iv (l.ti 0),iv (l.ti 1),iv (l.ti 2),iv (l.ti 3),iv (l.ti 4),iv (l.ti 5)]] X3 _):=KM.out X3 xf yf xn yn xc yc l H3.out hLA3 ok
    have hsl:(Tryz.prog.info? 76).map (·.size)=some (#[sv xf l.frags.length yf,sv xn l.names.length yn,sv xc l.coms.length yc,iv (l.fr 0),iv (l.fr 1),iv (l.fr 2),iv (l.fr 3),iv (l.fr 4),iv (l.fr 5),iv (l.ti 0),iv (l.ti 1),iv (l.ti 2),iv (l.ti 3),iv (l.ti 4),iv (l.ti 5)]:Array Value).size:=by kernel_rfl
    have HKI:Hid (∀W bp bl,Below X3.heap.size X3 W→NumAt W bp bl p l→_):=fun W bp bl hW hn=>KI.out W bp bl xf yf xn yn xc yc l (H3.out.trans (hW.mono H3.out.size)) (hLA3.later hW) hn s1 s2 s3 t1 t2 t3
    clear KM KI HOk L3 ok s1 s2 s3 t1 t2 t3 hLA3
    go_upto_region 10 with (first|(refine wpList_load_row rfl 76 _ rfl nl rfl 76 #[sv xf l.frags.length yf,sv xn l.names.length yn,sv xc l.coms.length yc,iv (l.fr 0),iv (l.fr 1),iv (l.fr 2),iv (l.fr 3),iv (l.fr 4),iv (l.fr 5),iv (l.ti 0),iv (l.ti 1),iv (l.ti 2),iv (l.ti 3),iv (l.ti 4),iv (l.ti 5)] (0,0) _ q3 Tryz.underlying76 rfl hsl ?_)|(go_at_call 48;refine KM'.out.mono ?_;rintro e X4 ⟨hb4,bp,bl,rfl,hNu⟩))
    have H4:Hid (Below X0.heap.size X0 X4):=H3.out.trans (hb4.mono H3.out.size)
    have q4:=blk hb4 q3
    have H34:Hid _:=hb4
    clear KM' c0 c1' hlp q3 hb4
    obtain⟨c0,c1',hlp⟩:=HP.out X4 H4.out
    have KF':Hid (Calls Tryz.prog 49 #[.agg #[sv a1 p.frags.length c1,sv a2 p.defs.length c2],.string s,.func (.func 83) #[] #[qv bp 0,qv bl 0]] X4 _):=KF.out X4 bp bl l H4.out hNu
    clear KF
    generalize M.allFaults p l s=AF at *
    go_upto_region 11 with (go_at_call 49;refine KF'.out.mono ?_;rintro e X5 ⟨hb5,vf,rfl,hFR,hAl⟩)
    have H5:Hid (Below X0.heap.size X0 X5):=H4.out.trans (hb5.mono H4.out.size)
    have q5:=blk hb5 q4
    have hNu5:=hNu.later hb5
    have H35:Hid (Below X3.heap.size X3 X5):=H34.out.trans (hb5.mono H34.out.size)
    clear KF' c0 c1' hlp q4 hb5 hNu H34 H4
    obtain⟨af,cf,rfl⟩:=own_len hFR
    have HFR:Hid _:=hFR
    clear hFR
    by_cases hf0:AF.length=0
    ·obtain rfl:AF=[]:=List.eq_nil_of_length_eq_zero hf0
     obtain rfl:RR=(M.image p l s,[],0):=L5.out (by trivial) (by trivial) (by trivial) (by trivial)
     obtain⟨c0,c1',hlp⟩:=HP.out X5 H5.out
     have KI':Hid (Calls Tryz.prog 50 #[.agg #[sv a1 p.frags.length c1,sv a2 p.defs.length c2],.agg #[sv xf l.frags.length yf,sv xn l.names.length yn,sv xc l.coms.length yc,iv (l.fr 0),iv (l.fr 1),iv (l.fr 2),iv (l.fr 3),iv (l.fr 4),iv (l.fr 5),iv (l.ti 0),iv (l.ti 1),iv (l.ti 2),iv (l.ti 3),iv (l.ti 4),iv (l.ti 5)],.string s,.func (.func 83) #[] #[qv bp 0,qv bl 0]] X5 _):=HKI.out X5 bp bl H35.out hNu5
     have H5R:=HRb.out
     have HRb':Hid _:=H5R
     clear L4 L5 HKI hNu5 hf0 H5R
     have H5n:Hid (∀W,Below X5.heap.size X5 W→W.heap[w.heap.size+1]?=some (.cells #[iv 0,sv none 0 0] 25 (0,0))∧Below w.heap.size w W):=fun W hW=>⟨HRb.out W (H5.out.trans (hW.mono H5.out.size)),HB.out W (H5.out.trans (hW.mono H5.out.size))⟩
     clear HB HP HR HRb HRb'
     go_wp2_with (first|(refine wpList_load_row rfl 76 _ rfl nl rfl 76 #[sv xf l.frags.length yf,sv xn l.names.length yn,sv xc l.coms.length yc,iv (l.fr 0),iv (l.fr 1),iv (l.fr 2),iv (l.fr 3),iv (l.fr 4),iv (l.fr 5),iv (l.ti 0),iv (l.ti 1),iv (l.ti 2),iv (l.ti 3),iv (l.ti 4),iv (l.ti 5)] (0,0) _ q5 Tryz.underlying76 rfl hsl ?_)|(go_at_call 50;refine KI'.out.mono ?_;rintro e X6 ⟨hb6,vs,rfl,hSB⟩;obtain⟨y6,hB6⟩:=H5n.out X6 hb6;have r0:=cellC y6 0 rfl;have r1:=cellC y6 1 rfl;have f0:=frozenB y6 0;have f1:=frozenB y6 1;have hlR:=lt1 y6;obtain⟨g6,rest6⟩:=hSB;obtain⟨cap6,rest7⟩:=rest6;obtain⟨cur6,e61,e62,e63,z6,rfl,hx6⟩:=rest7))
     refine bodyPost_ret (v:=.tuple #[.agg #[iv (M.image p l s).entry,sv (some (qa g6 0)) 3 cap6],sv none 0 0,iv 0]) (by simp[results,Tryz.results17,go_sem,r0,r1]) rfl ?_
     have hS6:SegsBlk X6 (sv (some (qa g6 0)) 3 cap6) (M.image p l s).segs:=⟨g6,cap6,cur6,e61,e62,e63,z6,rfl,hx6⟩
     have y7:=heap_setCell_same X6 (w.heap.size+1) 0 _ _ (iv (M.image p l s).entry) y6
     have hS7:=(hS6.keep (image_keep y6)).keep (image_keep (i:=1) (u:=sv (some (qa g6 0)) 3 cap6) y7)
     exact⟨(hB6.setCell (by show w.heap.size≤w.heap.size+1;omega) _).setCell (by show w.heap.size≤w.heap.size+1;omega) _,_,_,rfl,hS7.segs,flts_nil _,(fun x n y h=>by cases h;exact Nat.le_refl _),fun W' hk=>⟨(hS7.keep hk).segs,flts_nil _⟩⟩
    ·obtain rfl:RR=(M.img0,AF,0):=L4.out (by trivial) (by trivial) (by trivial) hf0
     obtain⟨r0,r1,f0,f1,hlR⟩:=HR.out X5 H5.out
     have HBf:Hid (Below w.heap.size w ((X5.setCell (qa (w.heap.size+1) 0) (iv 0)).setCell (qa (w.heap.size+1) 1) (sv none 0 0))):=((HB.out X5 H5.out).setCell (by show w.heap.size≤w.heap.size+1;omega) _).setCell (by show w.heap.size≤w.heap.size+1;omega) _
     have hpos:(0:Int)<(AF.length:Int):=by omega
     have HFr:Hid (((X5.setCell (qa (w.heap.size+1) 0) (iv 0)).setCell (qa (w.heap.size+1) 1) (sv none 0 0)).ownsRow X4.heap.size 49 4 (sv af AF.length cf) AF.length (AF.flatMap encF)):=by
      have y5:=HRb.out X5 H5.out
      have k1:=ownsRow_setCell_other HFR.out (a:=⟨w.heap.size+1,0,none⟩) (fun e=>by rcases own_ne HFR.out y5 (by decide) with h1|h1;(rw[h1] at e;cases e);exact h1 e) (iv 0)
      have y6:=heap_setCell_same X5 (w.heap.size+1) 0 _ _ (iv 0) y5
      exact ownsRow_setCell_other k1 (a:=⟨w.heap.size+1,1,none⟩) (fun e=>by rcases own_ne k1 y6 (by decide) with h1|h1;(rw[h1] at e;cases e);exact h1 e) (sv none 0 0)
     have HFl:Hid (FltsAt ((X5.setCell (qa (w.heap.size+1) 0) (iv 0)).setCell (qa (w.heap.size+1) 1) (sv none 0 0)) (sv af AF.length cf) AF):=row_flts HFr.out
     clear L4 L5 HKI hNu5 HB HP HR HRb hf0
     go_wp2
     refine bodyPost_ret (v:=.tuple #[.agg #[iv 0,sv none 0 0],sv af AF.length cf,iv 0]) (by simp[results,Tryz.results17,go_sem,r0,r1]) rfl ?_
     exact⟨HBf.out,_,_,rfl,segs_nil _,HFl.out,(fun x n y h=>by cases h;exact own_room HFR.out),fun W' hk=>⟨segs_nil _,row_flts (own_keepNI HFr.out (by decide) hk)⟩⟩
   ·obtain rfl:RR=(M.img0,[],er):=L3.out (by trivial) (by trivial) her
    have her':(er !=0)=true:=by simpa using her
    obtain⟨r0,r1,f0,f1,hlR⟩:=HR.out X3 H3.out
    have HBf:Hid (Below w.heap.size w ((X3.setCell (qa (w.heap.size+1) 0) (iv 0)).setCell (qa (w.heap.size+1) 1) (sv none 0 0))):=((HB.out X3 H3.out).setCell (by show w.heap.size≤w.heap.size+1;omega) _).setCell (by show w.heap.size≤w.heap.size+1;omega) _
    clear L3 L4 L5 HB HP HR HRb KM KF KI HOk hLA3 q3
    go_wp2
    refine bodyPost_ret (v:=.tuple #[.agg #[iv 0,sv none 0 0],sv none 0 0,iv er]) (by simp[results,Tryz.results17,go_sem,r0,r1]) rfl ?_
    exact⟨HBf.out,lkOut_err⟩
 ·obtain rfl:RR=(M.img0,[],ck):=L1.out hck
  have hck':(ck !=0)=true:=by simpa using hck
  obtain⟨r0,r1,f0,f1,hlR⟩:=HR.out X1 H1.out
  have HBf:Hid (Below w.heap.size w ((X1.setCell (qa (w.heap.size+1) 0) (iv 0)).setCell (qa (w.heap.size+1) 1) (sv none 0 0))):=((HB.out X1 H1.out).setCell (by show w.heap.size≤w.heap.size+1;omega) _).setCell (by show w.heap.size≤w.heap.size+1;omega) _
  clear L1 L2 L3 L4 L5 HB HP HR HRb KL KM KF KI HOk
  go_wp2
  refine bodyPost_ret (v:=.tuple #[.agg #[iv 0,sv none 0 0],sv none 0 0,iv ck]) (by simp[results,Tryz.results17,go_sem,r0,r1]) rfl ?_
  exact⟨HBf.out,lkOut_err⟩
end Go.Proofs.YtpkfmfhodbjckaaGreatDoor
