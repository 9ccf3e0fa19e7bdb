/-
  The contract of the law's two parts for closed facts. What two parts want and define, joined, by names each once; a closed part; what is lacking is in order and not defined. The closed fact on links, plain: a call, and what is called.
-/
import Derived.Test.YtpkfmfhodbjckaaGreatDoorChecked
import Derived.RegionTactic
import Derived.ChangeAlike
import Derived.WalkKit
import Derived.Test.YtpkfmfhodbjckaaGreatDoorMathC
set_option linter.unusedVariables false
namespace Go.Proofs.YtpkfmfhodbjckaaGreatDoor
open Go.RowKit
theorem chain9(w:World)(o0 o1 o2 o3 o4 o5 o6 o7 o8:Array Value)(t0 t1 t2 t3 t4 t5 t6 t7 t8:TypeId):(∀i,((((((((((w.alloc (.cells o0 t0)).alloc (.cells o1 t1)).alloc (.cells o2 t2)).alloc (.cells o3 t3)).alloc (.cells o4 t4)).alloc (.cells o5 t5)).alloc (.cells o6 t6)).alloc (.cells o7 t7)).alloc (.cells o8 t8)).drew).cell? (qa (w.heap.size+1+1) i)=o2[i]?)∧(∀i,((((((((((w.alloc (.cells o0 t0)).alloc (.cells o1 t1)).alloc (.cells o2 t2)).alloc (.cells o3 t3)).alloc (.cells o4 t4)).alloc (.cells o5 t5)).alloc (.cells o6 t6)).alloc (.cells o7 t7)).alloc (.cells o8 t8)).drew).cell? (qa (w.heap.size+1+1+1) i)=o3[i]?)∧(∀i,((((((((((w.alloc (.cells o0 t0)).alloc (.cells o1 t1)).alloc (.cells o2 t2)).alloc (.cells o3 t3)).alloc (.cells o4 t4)).alloc (.cells o5 t5)).alloc (.cells o6 t6)).alloc (.cells o7 t7)).alloc (.cells o8 t8)).drew).cell? (qa (w.heap.size+1+1+1+1) i)=o4[i]?)∧(∀i,((((((((((w.alloc (.cells o0 t0)).alloc (.cells o1 t1)).alloc (.cells o2 t2)).alloc (.cells o3 t3)).alloc (.cells o4 t4)).alloc (.cells o5 t5)).alloc (.cells o6 t6)).alloc (.cells o7 t7)).alloc (.cells o8 t8)).drew).cell? (qa (w.heap.size+1+1+1+1+1) i)=o5[i]?)∧(∀i,((((((((((w.alloc (.cells o0 t0)).alloc (.cells o1 t1)).alloc (.cells o2 t2)).alloc (.cells o3 t3)).alloc (.cells o4 t4)).alloc (.cells o5 t5)).alloc (.cells o6 t6)).alloc (.cells o7 t7)).alloc (.cells o8 t8)).drew).cell? (qa (w.heap.size+1+1+1+1+1+1) i)=o6[i]?)∧(∀i,((((((((((w.alloc (.cells o0 t0)).alloc (.cells o1 t1)).alloc (.cells o2 t2)).alloc (.cells o3 t3)).alloc (.cells o4 t4)).alloc (.cells o5 t5)).alloc (.cells o6 t6)).alloc (.cells o7 t7)).alloc (.cells o8 t8)).drew).cell? (qa (w.heap.size+1+1+1+1+1+1+1) i)=o7[i]?)∧(∀i,((((((((((w.alloc (.cells o0 t0)).alloc (.cells o1 t1)).alloc (.cells o2 t2)).alloc (.cells o3 t3)).alloc (.cells o4 t4)).alloc (.cells o5 t5)).alloc (.cells o6 t6)).alloc (.cells o7 t7)).alloc (.cells o8 t8)).drew).cell? (qa (w.heap.size+1+1+1+1+1+1+1+1) i)=o8[i]?):=by
 refine⟨?_,?_,?_,?_,?_,?_,?_⟩
 ·intro i
  show ((((((((((w.alloc (.cells o0 t0)).alloc (.cells o1 t1)).alloc (.cells o2 t2)).alloc (.cells o3 t3)).alloc (.cells o4 t4)).alloc (.cells o5 t5)).alloc (.cells o6 t6)).alloc (.cells o7 t7)).alloc (.cells o8 t8))).cell? _=_
  rw[World.cell?_alloc_past _ _ _ (by simp;try omega),World.cell?_alloc_past _ _ _ (by simp;try omega),World.cell?_alloc_past _ _ _ (by simp;try omega),World.cell?_alloc_past _ _ _ (by simp;try omega),World.cell?_alloc_past _ _ _ (by simp;try omega),World.cell?_alloc_past _ _ _ (by simp;try omega),World.cell?_alloc_at _ _ _ _ (by simp)]
 ·intro i
  show ((((((((((w.alloc (.cells o0 t0)).alloc (.cells o1 t1)).alloc (.cells o2 t2)).alloc (.cells o3 t3)).alloc (.cells o4 t4)).alloc (.cells o5 t5)).alloc (.cells o6 t6)).alloc (.cells o7 t7)).alloc (.cells o8 t8))).cell? _=_
  rw[World.cell?_alloc_past _ _ _ (by simp;try omega),World.cell?_alloc_past _ _ _ (by simp;try omega),World.cell?_alloc_past _ _ _ (by simp;try omega),World.cell?_alloc_past _ _ _ (by simp;try omega),World.cell?_alloc_past _ _ _ (by simp;try omega),World.cell?_alloc_at _ _ _ _ (by simp)]
 ·intro i
  show ((((((((((w.alloc (.cells o0 t0)).alloc (.cells o1 t1)).alloc (.cells o2 t2)).alloc (.cells o3 t3)).alloc (.cells o4 t4)).alloc (.cells o5 t5)).alloc (.cells o6 t6)).alloc (.cells o7 t7)).alloc (.cells o8 t8))).cell? _=_
  rw[World.cell?_alloc_past _ _ _ (by simp;try omega),World.cell?_alloc_past _ _ _ (by simp;try omega),World.cell?_alloc_past _ _ _ (by simp;try omega),World.cell?_alloc_past _ _ _ (by simp;try omega),World.cell?_alloc_at _ _ _ _ (by simp)]
 ·intro i
  show ((((((((((w.alloc (.cells o0 t0)).alloc (.cells o1 t1)).alloc (.cells o2 t2)).alloc (.cells o3 t3)).alloc (.cells o4 t4)).alloc (.cells o5 t5)).alloc (.cells o6 t6)).alloc (.cells o7 t7)).alloc (.cells o8 t8))).cell? _=_
  rw[World.cell?_alloc_past _ _ _ (by simp;try omega),World.cell?_alloc_past _ _ _ (by simp;try omega),World.cell?_alloc_past _ _ _ (by simp;try omega),World.cell?_alloc_at _ _ _ _ (by simp)]
 ·intro i
  show ((((((((((w.alloc (.cells o0 t0)).alloc (.cells o1 t1)).alloc (.cells o2 t2)).alloc (.cells o3 t3)).alloc (.cells o4 t4)).alloc (.cells o5 t5)).alloc (.cells o6 t6)).alloc (.cells o7 t7)).alloc (.cells o8 t8))).cell? _=_
  rw[World.cell?_alloc_past _ _ _ (by simp;try omega),World.cell?_alloc_past _ _ _ (by simp;try omega),World.cell?_alloc_at _ _ _ _ (by simp)]
 ·intro i
  show ((((((((((w.alloc (.cells o0 t0)).alloc (.cells o1 t1)).alloc (.cells o2 t2)).alloc (.cells o3 t3)).alloc (.cells o4 t4)).alloc (.cells o5 t5)).alloc (.cells o6 t6)).alloc (.cells o7 t7)).alloc (.cells o8 t8))).cell? _=_
  rw[World.cell?_alloc_past _ _ _ (by simp;try omega),World.cell?_alloc_at _ _ _ _ (by simp)]
 ·intro i
  show ((((((((((w.alloc (.cells o0 t0)).alloc (.cells o1 t1)).alloc (.cells o2 t2)).alloc (.cells o3 t3)).alloc (.cells o4 t4)).alloc (.cells o5 t5)).alloc (.cells o6 t6)).alloc (.cells o7 t7)).alloc (.cells o8 t8))).cell? _=_
  rw[World.cell?_alloc_at _ _ _ _ (by simp)]
theorem below9(w:World)(o0 o1 o2 o3 o4 o5 o6 o7 o8:Array Value)(t0 t1 t2 t3 t4 t5 t6 t7 t8:TypeId):Below w.heap.size w ((((((((((w.alloc (.cells o0 t0)).alloc (.cells o1 t1)).alloc (.cells o2 t2)).alloc (.cells o3 t3)).alloc (.cells o4 t4)).alloc (.cells o5 t5)).alloc (.cells o6 t6)).alloc (.cells o7 t7)).alloc (.cells o8 t8)).drew):=by
 refine Below.drew ?_
 exact(((((((((bra _ _).alloc (by simp;try omega) _).alloc (by simp;try omega) _).alloc (by simp;try omega) _).alloc (by simp;try omega) _).alloc (by simp;try omega) _).alloc (by simp;try omega) _).alloc (by simp;try omega) _).alloc (by simp;try omega) _)
def relA:M.Rel:=⟨1,2,⟨#[102]⟩,0,0⟩
def frgA:M.Frg:=⟨1,1,⟨#[]⟩,[9,0,0],0,[relA]⟩
def dfnA:M.Dfn:=⟨⟨#[109,97,105,110]⟩,1,0,0,0,0⟩
def frgB:M.Frg:=⟨1,4,⟨#[103]⟩,[7],0,[]⟩
def dfnB:M.Dfn:=⟨⟨#[102]⟩,1,0,0,0,0⟩
theorem one_at{w:World}{B:Nat}{k:Nat}{c:Array Value}{cell:Nat→Nat→Value}(h:∀i,w.cell? (qa B i)=c[i]?)(hc:∀i,i<k→c[i]?=some (cell 0 i)) :
  SlAt w (sv (some (qa B 0)) 1 1) k 1 cell:=by
 refine⟨_,_,rfl,by unfold maxLen;decide,.inr ⟨B,0,rfl,fun j i hj hi=>?_⟩⟩
 obtain rfl:j=0:=by omega
 have e:0+0*k+i=i:=by omega
 rw[e,h,hc i hi]
theorem bytes_at{w:World}{B:Nat}{bs:List Int}(hb:∀b∈bs,0≤b∧b<256)(hl:bs.length≤100)(h:∀i,w.cell? (qa B i)=(bs.map (Value.int .u8)).toArray[i]?) :
  BytesAt w (sv (some (qa B 0)) bs.length bs.length) bs:=by
 refine⟨⟨_,_,rfl,by unfold maxLen;omega,.inr ⟨B,0,rfl,fun j i hj hi=>?_⟩⟩,hb⟩
 have e:0+j*1+i=j:=by omega
 rw[e,h]
 simp[hj]
set_option maxHeartbeats 1000000 in
set_option maxRecDepth 100000 in
theorem two_any(w:World) :
  Calls Tryz.prog 21 #[] w fun e w'=>∃a1 a2 a3 a4,e=.returned (.tuple #[.agg #[sv a1 1 1,sv a2 1 1],.agg #[sv a3 1 1,sv a4 1 1]])∧Below w.heap.size w w'
   ∧ FragsAt w' (sv a1 1 1) [frgA]∧DefsAt w' (sv a2 1 1) [dfnA]∧FragsAt w' (sv a3 1 1) [frgB]∧DefsAt w' (sv a4 1 1) [dfnB]:=by
 go_enter Tryz.func21,Tryz.ntmps21
 go_wp2_with fail
 go_region
 go_wp2
 refine bodyPost_ret (v:=.tuple #[.agg #[sv (some (qa (w.heap.size+1+1+1+1) 0)) 1 1,sv (some (qa (w.heap.size+1+1+1+1+1) 0)) 1 1],.agg #[sv (some (qa (w.heap.size+1+1+1+1+1+1+1) 0)) 1 1,sv (some (qa (w.heap.size+1+1+1+1+1+1+1+1) 0)) 1 1]]) (by simp[results,Tryz.results21,go_sem]) rfl ⟨_,_,_,_,rfl,below9 w _ _ _ _ _ _ _ _ _ _ _ _ _ _ _ _ _ _,?_,?_,?_,?_⟩
 all_goals obtain⟨h2,h3,h4,h5,h6,h7,h8⟩:=chain9 w #[sv (some (qa (w.heap.size+1+1+1+1) 0)) 1 1,sv (some (qa (w.heap.size+1+1+1+1+1) 0)) 1 1] #[sv (some (qa (w.heap.size+1+1+1+1+1+1+1) 0)) 1 1,sv (some (qa (w.heap.size+1+1+1+1+1+1+1+1) 0)) 1 1] #[.int .u8 9,.int .u8 0,.int .u8 0] #[iv 1,iv 2,.string ⟨#[102]⟩,iv 0,iv 0] #[iv 1,iv 1,.string ⟨#[]⟩,sv (some (qa (w.heap.size+1+1) 0)) 3 3,iv 0,sv (some (qa (w.heap.size+1+1+1) 0)) 1 1] #[.string ⟨#[109,97,105,110]⟩,iv 1,iv 0,iv 0,iv 0,iv 0] #[.int .u8 7] #[iv 1,iv 4,.string ⟨#[103]⟩,sv (some (qa (w.heap.size+1+1+1+1+1+1) 0)) 1 1,iv 0,sv none 0 0] #[.string ⟨#[102]⟩,iv 1,iv 0,iv 0,iv 0,iv 0] 43 43 5 89 87 72 5 87 72
 ·refine⟨fun _ i=>((#[iv 1,iv 1,.string ⟨#[]⟩,sv (some (qa (w.heap.size+1+1) 0)) 3 3,iv 0,sv (some (qa (w.heap.size+1+1+1) 0)) 1 1]:Array Value)[i]?).getD (iv 0),one_at h4 (fun i hi=>?_),fun j hj=>?_⟩
  ·rcases(by omega:i=0∨i=1∨i=2∨i=3∨i=4∨i=5) with rfl|rfl|rfl|rfl|rfl|rfl<;>rfl
  ·obtain rfl:j=0:=by simp at hj;omega
   exact⟨rfl,rfl,rfl,bytes_at (bs:=[9,0,0]) (by decide) (by decide) h2,rfl,⟨one_at h3 (fun i hi=>by rcases(by omega:i=0∨i=1∨i=2∨i=3∨i=4) with rfl|rfl|rfl|rfl|rfl<;>rfl),fun r hr=>by
    obtain rfl:r=relA:=List.mem_singleton.1 hr
    exact⟨by unfold maxLen;decide,by decide⟩⟩,by unfold maxLen;decide⟩
 ·refine⟨one_at h5 (fun i hi=>by rcases(by omega:i=0∨i=1∨i=2∨i=3∨i=4∨i=5) with rfl|rfl|rfl|rfl|rfl|rfl<;>rfl),fun r hr=>?_⟩
  obtain rfl:r=dfnA:=List.mem_singleton.1 hr
  unfold maxLen;decide
 ·refine⟨fun _ i=>((#[iv 1,iv 4,.string ⟨#[103]⟩,sv (some (qa (w.heap.size+1+1+1+1+1+1) 0)) 1 1,iv 0,sv none 0 0]:Array Value)[i]?).getD (iv 0),one_at h7 (fun i hi=>?_),fun j hj=>?_⟩
  ·rcases(by omega:i=0∨i=1∨i=2∨i=3∨i=4∨i=5) with rfl|rfl|rfl|rfl|rfl|rfl<;>rfl
  ·obtain rfl:j=0:=by simp at hj;omega
   exact⟨rfl,rfl,rfl,bytes_at (bs:=[7]) (by decide) (by decide) h6,rfl,⟨⟨_,_,rfl,by unfold maxLen;decide,.inl rfl⟩,fun r hr=>by cases hr⟩,by unfold maxLen;decide⟩
 ·refine⟨one_at h8 (fun i hi=>by rcases(by omega:i=0∨i=1∨i=2∨i=3∨i=4∨i=5) with rfl|rfl|rfl|rfl|rfl|rfl<;>rfl),fun r hr=>?_⟩
  obtain rfl:r=dfnB:=List.mem_singleton.1 hr
  unfold maxLen;decide
end Go.Proofs.YtpkfmfhodbjckaaGreatDoor
namespace Go.Proofs.YtpkfmfhodbjckaaGreatDoor.M
open Go
theorem faults_eq(p:Prt):faults p=(rising (wantedNames p.frags++definedNames p.defs)).filterMap (faultAt p.defs):=by
 unfold faults wanted defined
 rw[rising_rising]
end Go.Proofs.YtpkfmfhodbjckaaGreatDoor.M
namespace Go.Proofs.YtpkfmfhodbjckaaGreatDoor
open Go Go.RowKit
def kA:M.Prt:=⟨[frgA],[dfnA]⟩
def kB:M.Prt:=⟨[frgB],[dfnB]⟩
def kP:M.Prt:=(M.join kA kB).1
def tMain:ByteArray:=⟨#[109,97,105,110]⟩
def tF:ByteArray:=⟨#[102]⟩
theorem joinK:M.join kA kB=(kP,0):=by
 refine Prod.ext rfl ?_
 decide +kernel
theorem checkK:M.checkPart kP=0:=by decide +kernel
theorem checkKA:M.checkPart kA=0:=by decide +kernel
theorem nameMain:M.isName tMain=true:=by decide +kernel
theorem com_none{p:M.Prt}(h:∀s∈M.definedNames p.defs,¬((M.find p.defs s).2=0∧(M.find p.defs s).1.kind=3))(pos:Int):M.commons p pos=⟨[],[],pos⟩:=by
 have key:∀(L:List ByteArray),(∀s∈L,¬((M.find p.defs s).2=0∧(M.find p.defs s).1.kind=3))→∀c:M.CS,L.foldl (M.comStep p.defs) c=c:=fun L=>by
  induction L with
  | nil=>intro _ c;rfl
  | cons s L ih =>
   intro hL c
   rw[List.foldl_cons]
   have e:M.comStep p.defs c s=c:=if_neg (hL s (by simp))
   rw[e]
   exact ih (fun t ht=>hL t (by simp[ht])) c
 exact key (M.defined p) (fun s hs=>h s ((M.rising_mem _ s).1 hs)) _
theorem comK(pos:Int):M.commons kP pos=⟨[],[],pos⟩:=com_none (by decide +kernel) pos
theorem comKA(pos:Int):M.commons kA pos=⟨[],[],pos⟩:=com_none (by decide +kernel) pos
theorem layK:M.lay kP 32=(M.layAll kP 32,0):=by
 have ht:M.tillOf kP 32 5=(M.secN kP.frags 32 5).2:=by unfold M.tillOf;rw[if_pos rfl,comK]
 have hs:(M.secN kP.frags 32 5).2≤65536:=by decide +kernel
 unfold M.lay
 rw[if_pos checkK,if_neg (by decide),if_neg (by rw[ht];omega)]
theorem layKA:M.lay kA 32=(M.layAll kA 32,0):=by
 have ht:M.tillOf kA 32 5=(M.secN kA.frags 32 5).2:=by unfold M.tillOf;rw[if_pos rfl,comKA]
 have hs:(M.secN kA.frags 32 5).2≤65536:=by decide +kernel
 unfold M.lay
 rw[if_pos checkKA,if_neg (by decide),if_neg (by rw[ht];omega)]
theorem namedK:M.named kP=[]:=by
 have:M.faults kP=[]:=by
  rw[M.faults_eq]
  refine List.filterMap_eq_nil_iff.2 fun s hs=>?_
  have hs':=(M.rising_mem _ s).1 hs
  have key:∀s∈M.wantedNames kP.frags++M.definedNames kP.defs,(M.find kP.defs s).2=0:=by decide +kernel
  exact if_pos (key s hs')
 unfold M.named
 rw[this];rfl
theorem namedKA:M.named kA=[⟨7,tF,0,0⟩]:=by
 have hr:M.rising (M.wantedNames kA.frags++M.definedNames kA.defs)=[tF,tMain]:=by
  refine M.rising_eq ?_ (fun s=>?_)
  ·simp only[M.Strict,List.pairwise_cons,List.mem_singleton,forall_eq]
   exact⟨by decide,by simp⟩
  ·have e:M.wantedNames kA.frags++M.definedNames kA.defs=[tF,tMain]:=by kernel_rfl
   rw[e]
 have h1:M.faultAt kA.defs tF=some (7,tF):=by kernel_rfl
 have h2:M.faultAt kA.defs tMain=none:=by kernel_rfl
 unfold M.named
 rw[M.faults_eq,hr,List.filterMap_cons,h1,List.filterMap_cons,h2]
 rfl
theorem linkK:M.link kP 32 tMain=(M.image kP (M.layAll kP 32) tMain,[],0):=by
 have hm:(M.find kP.defs tMain).2=0:=by decide +kernel
 have hn:M.nameFaults kP tMain=[]:=by unfold M.nameFaults;rw[if_pos hm,namedK]
 have hp:(M.placeFaults kP (M.layAll kP 32) []).length=0:=by decide +kernel
 unfold M.link
 rw[if_pos checkK,if_pos nameMain,layK,if_pos rfl,if_pos]
 unfold M.allFaults
 rw[hn]
 exact hp
theorem linkKA:M.link kA 32 tMain=(M.img0,[⟨7,tF,0,0⟩],0):=by
 have hm:(M.find kA.defs tMain).2=0:=by decide +kernel
 have hn:M.nameFaults kA tMain=[⟨7,tF,0,0⟩]:=by unfold M.nameFaults;rw[if_pos hm,namedKA]
 have hp:M.placeFaults kA (M.layAll kA 32) [⟨7,tF,0,0⟩]=[]:=List.eq_nil_of_length_eq_zero (by decide +kernel)
 have ha:M.allFaults kA (M.layAll kA 32) tMain=[⟨7,tF,0,0⟩]:=by
  unfold M.allFaults
  rw[hn,hp];rfl
 unfold M.link
 rw[if_pos checkKA,if_pos nameMain,layKA,if_pos rfl]
 rw[ha]
 rfl
theorem entryK:(M.image kP (M.layAll kP 32) tMain).entry=32:=by decide +kernel
theorem bytesK:(M.image kP (M.layAll kP 32) tMain).segs.getD 0 M.seg0=⟨32,[9,36,0,0,7],0,false,true⟩:=by kernel_rfl
end Go.Proofs.YtpkfmfhodbjckaaGreatDoor
