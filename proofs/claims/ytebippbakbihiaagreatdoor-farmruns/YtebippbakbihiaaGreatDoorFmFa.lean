/-
  The contract of the law's two parts for closed facts. The closed fact of the farm's laws, reckoned: two parts, one worker, thirteen happenings. What the closed fact of the farm's laws has in memory. The contract of the law's closed fact on farms: it is true.
-/
import Derived.Test.YtebippbakbihiaaGreatDoorChecked
import Derived.RegionTactic
import Derived.ChangeAlike
import Derived.Test.YtebippbakbihiaaGreatDoorFmRN
import Derived.Test.YtebippbakbihiaaGreatDoorSaA
set_option maxHeartbeats 16000000
set_option maxRecDepth 100000
namespace Go.Proofs.YtebippbakbihiaaGreatDoor
open Go.RowKit
set_option linter.unusedVariables false
theorem chain9 (w:World) (o0 o1 o2 o3 o4 o5 o6 o7 o8:Array Value) (t0 t1 t2 t3 t4 t5 t6 t7 t8:TypeId):(∀ i,((((((((((w.alloc (.cells o0 t0)).alloc (.cells o1 t1)).alloc (.cells o2 t2)).alloc (.cells o3 t3)).alloc (.cells o4 t4)).alloc (.cells o5 t5)).alloc (.cells o6 t6)).alloc (.cells o7 t7)).alloc (.cells o8 t8)).drew).cell? (qa (w.heap.size+1+1) i)=o2[i]?)∧(∀ i,((((((((((w.alloc (.cells o0 t0)).alloc (.cells o1 t1)).alloc (.cells o2 t2)).alloc (.cells o3 t3)).alloc (.cells o4 t4)).alloc (.cells o5 t5)).alloc (.cells o6 t6)).alloc (.cells o7 t7)).alloc (.cells o8 t8)).drew).cell? (qa (w.heap.size+1+1+1) i)=o3[i]?)∧(∀ i,((((((((((w.alloc (.cells o0 t0)).alloc (.cells o1 t1)).alloc (.cells o2 t2)).alloc (.cells o3 t3)).alloc (.cells o4 t4)).alloc (.cells o5 t5)).alloc (.cells o6 t6)).alloc (.cells o7 t7)).alloc (.cells o8 t8)).drew).cell? (qa (w.heap.size+1+1+1+1) i)=o4[i]?)∧(∀ i,((((((((((w.alloc (.cells o0 t0)).alloc (.cells o1 t1)).alloc (.cells o2 t2)).alloc (.cells o3 t3)).alloc (.cells o4 t4)).alloc (.cells o5 t5)).alloc (.cells o6 t6)).alloc (.cells o7 t7)).alloc (.cells o8 t8)).drew).cell? (qa (w.heap.size+1+1+1+1+1) i)=o5[i]?)∧(∀ i,((((((((((w.alloc (.cells o0 t0)).alloc (.cells o1 t1)).alloc (.cells o2 t2)).alloc (.cells o3 t3)).alloc (.cells o4 t4)).alloc (.cells o5 t5)).alloc (.cells o6 t6)).alloc (.cells o7 t7)).alloc (.cells o8 t8)).drew).cell? (qa (w.heap.size+1+1+1+1+1+1) i)=o6[i]?)∧(∀ i,((((((((((w.alloc (.cells o0 t0)).alloc (.cells o1 t1)).alloc (.cells o2 t2)).alloc (.cells o3 t3)).alloc (.cells o4 t4)).alloc (.cells o5 t5)).alloc (.cells o6 t6)).alloc (.cells o7 t7)).alloc (.cells o8 t8)).drew).cell? (qa (w.heap.size+1+1+1+1+1+1+1) i)=o7[i]?)∧(∀ i,((((((((((w.alloc (.cells o0 t0)).alloc (.cells o1 t1)).alloc (.cells o2 t2)).alloc (.cells o3 t3)).alloc (.cells o4 t4)).alloc (.cells o5 t5)).alloc (.cells o6 t6)).alloc (.cells o7 t7)).alloc (.cells o8 t8)).drew).cell? (qa (w.heap.size+1+1+1+1+1+1+1+1) i)=o8[i]?):=by
 refine⟨?_,?_,?_,?_,?_,?_,?_⟩
 ·intro i
  show ((((((((((w.alloc (.cells o0 t0)).alloc (.cells o1 t1)).alloc (.cells o2 t2)).alloc (.cells o3 t3)).alloc (.cells o4 t4)).alloc (.cells o5 t5)).alloc (.cells o6 t6)).alloc (.cells o7 t7)).alloc (.cells o8 t8))).cell? _=_
  rw[World.cell?_alloc_past _ _ _ (by simp;try omega),World.cell?_alloc_past _ _ _ (by simp;try omega),World.cell?_alloc_past _ _ _ (by simp;try omega),World.cell?_alloc_past _ _ _ (by simp;try omega),World.cell?_alloc_past _ _ _ (by simp;try omega),World.cell?_alloc_past _ _ _ (by simp;try omega),World.cell?_alloc_at _ _ _ _ (by simp)]
 ·intro i
  show ((((((((((w.alloc (.cells o0 t0)).alloc (.cells o1 t1)).alloc (.cells o2 t2)).alloc (.cells o3 t3)).alloc (.cells o4 t4)).alloc (.cells o5 t5)).alloc (.cells o6 t6)).alloc (.cells o7 t7)).alloc (.cells o8 t8))).cell? _=_
  rw[World.cell?_alloc_past _ _ _ (by simp;try omega),World.cell?_alloc_past _ _ _ (by simp;try omega),World.cell?_alloc_past _ _ _ (by simp;try omega),World.cell?_alloc_past _ _ _ (by simp;try omega),World.cell?_alloc_past _ _ _ (by simp;try omega),World.cell?_alloc_at _ _ _ _ (by simp)]
 ·intro i
  show ((((((((((w.alloc (.cells o0 t0)).alloc (.cells o1 t1)).alloc (.cells o2 t2)).alloc (.cells o3 t3)).alloc (.cells o4 t4)).alloc (.cells o5 t5)).alloc (.cells o6 t6)).alloc (.cells o7 t7)).alloc (.cells o8 t8))).cell? _=_
  rw[World.cell?_alloc_past _ _ _ (by simp;try omega),World.cell?_alloc_past _ _ _ (by simp;try omega),World.cell?_alloc_past _ _ _ (by simp;try omega),World.cell?_alloc_past _ _ _ (by simp;try omega),World.cell?_alloc_at _ _ _ _ (by simp)]
 ·intro i
  show ((((((((((w.alloc (.cells o0 t0)).alloc (.cells o1 t1)).alloc (.cells o2 t2)).alloc (.cells o3 t3)).alloc (.cells o4 t4)).alloc (.cells o5 t5)).alloc (.cells o6 t6)).alloc (.cells o7 t7)).alloc (.cells o8 t8))).cell? _=_
  rw[World.cell?_alloc_past _ _ _ (by simp;try omega),World.cell?_alloc_past _ _ _ (by simp;try omega),World.cell?_alloc_past _ _ _ (by simp;try omega),World.cell?_alloc_at _ _ _ _ (by simp)]
 ·intro i
  show ((((((((((w.alloc (.cells o0 t0)).alloc (.cells o1 t1)).alloc (.cells o2 t2)).alloc (.cells o3 t3)).alloc (.cells o4 t4)).alloc (.cells o5 t5)).alloc (.cells o6 t6)).alloc (.cells o7 t7)).alloc (.cells o8 t8))).cell? _=_
  rw[World.cell?_alloc_past _ _ _ (by simp;try omega),World.cell?_alloc_past _ _ _ (by simp;try omega),World.cell?_alloc_at _ _ _ _ (by simp)]
 ·intro i
  show ((((((((((w.alloc (.cells o0 t0)).alloc (.cells o1 t1)).alloc (.cells o2 t2)).alloc (.cells o3 t3)).alloc (.cells o4 t4)).alloc (.cells o5 t5)).alloc (.cells o6 t6)).alloc (.cells o7 t7)).alloc (.cells o8 t8))).cell? _=_
  rw[World.cell?_alloc_past _ _ _ (by simp;try omega),World.cell?_alloc_at _ _ _ _ (by simp)]
 ·intro i
  show ((((((((((w.alloc (.cells o0 t0)).alloc (.cells o1 t1)).alloc (.cells o2 t2)).alloc (.cells o3 t3)).alloc (.cells o4 t4)).alloc (.cells o5 t5)).alloc (.cells o6 t6)).alloc (.cells o7 t7)).alloc (.cells o8 t8))).cell? _=_
  rw[World.cell?_alloc_at _ _ _ _ (by simp)]
theorem below9 (w:World) (o0 o1 o2 o3 o4 o5 o6 o7 o8:Array Value) (t0 t1 t2 t3 t4 t5 t6 t7 t8:TypeId):Below w.heap.size w ((((((((((w.alloc (.cells o0 t0)).alloc (.cells o1 t1)).alloc (.cells o2 t2)).alloc (.cells o3 t3)).alloc (.cells o4 t4)).alloc (.cells o5 t5)).alloc (.cells o6 t6)).alloc (.cells o7 t7)).alloc (.cells o8 t8)).drew):=by
 refine Below.drew ?_
 exact ((((((((((Below.refl _ _).alloc (Nat.le_refl _) _).alloc (by simp;try omega) _).alloc (by simp;try omega) _).alloc (by simp;try omega) _).alloc (by simp;try omega) _).alloc (by simp;try omega) _).alloc (by simp;try omega) _).alloc (by simp;try omega) _).alloc (by simp;try omega) _)
def relA:M.Rel:=⟨1,2,⟨#[102]⟩,0,0⟩
def frgA:M.Frg:=⟨1,1,⟨#[]⟩,[9,0,0],0,[relA]⟩
def dfnA:M.Dfn:=⟨⟨#[109,97,105,110]⟩,1,0,0,0,0⟩
def frgB:M.Frg:=⟨1,4,⟨#[103]⟩,[7],0,[]⟩
def dfnB:M.Dfn:=⟨⟨#[102]⟩,1,0,0,0,0⟩
theorem one_at {w:World} {B:Nat} {k:Nat} {c:Array Value} {cell:Nat→Nat→Value} (h:∀ i,w.cell? (qa B i)=c[i]?) (hc:∀ i,i<k→c[i]?=some (cell 0 i)) :
  SlAt w (sv (some (qa B 0)) 1 1) k 1 cell:=by
 refine⟨_,_,rfl,by unfold maxLen;decide,.inr ⟨B,0,rfl,fun j i hj hi=>?_⟩⟩
 obtain rfl:j=0:=by omega
 have e:0+0*k+i=i:=by omega
 rw[e,h,hc i hi]
theorem bytes_at {w:World} {B:Nat} {bs:List Int} (hb:∀ b∈bs,0≤b∧b<256) (hl:bs.length≤100) (h:∀ i,w.cell? (qa B i)=(bs.map (Value.int .u8)).toArray[i]?) :
  BytesAt w (sv (some (qa B 0)) bs.length bs.length) bs:=by
 refine⟨⟨_,_,rfl,by unfold maxLen;omega,.inr ⟨B,0,rfl,fun j i hj hi=>?_⟩⟩,hb⟩
 have e:0+j*1+i=j:=by omega
 rw[e,h]
 simp[hj]
theorem two_any (w:World) :
  Calls Tryz.prog 25 #[] w fun e w'=>∃ a1 a2 a3 a4,e=.returned (.tuple #[.agg #[sv a1 1 1,sv a2 1 1],.agg #[sv a3 1 1,sv a4 1 1]])∧Below w.heap.size w w'
   ∧ FragsAt w' (sv a1 1 1) [frgA]∧DefsAt w' (sv a2 1 1) [dfnA]∧FragsAt w' (sv a3 1 1) [frgB]∧DefsAt w' (sv a4 1 1) [dfnB]:=by
 go_enter Tryz.func25,Tryz.ntmps25
 go_wp2_with fail
 go_region
 go_wp2
 refine bodyPost_ret (v:=.tuple #[.agg #[sv (some (qa (w.heap.size+1+1+1+1) 0)) 1 1,sv (some (qa (w.heap.size+1+1+1+1+1) 0)) 1 1],.agg #[sv (some (qa (w.heap.size+1+1+1+1+1+1+1) 0)) 1 1,sv (some (qa (w.heap.size+1+1+1+1+1+1+1+1) 0)) 1 1]]) (by simp[results,Tryz.results25,go_sem]) rfl ⟨_,_,_,_,rfl,below9 w _ _ _ _ _ _ _ _ _ _ _ _ _ _ _ _ _ _,?_,?_,?_,?_⟩
 all_goals obtain⟨h2,h3,h4,h5,h6,h7,h8⟩:=chain9 w #[sv (some (qa (w.heap.size+1+1+1+1) 0)) 1 1,sv (some (qa (w.heap.size+1+1+1+1+1) 0)) 1 1] #[sv (some (qa (w.heap.size+1+1+1+1+1+1+1) 0)) 1 1,sv (some (qa (w.heap.size+1+1+1+1+1+1+1+1) 0)) 1 1] #[.int .u8 9,.int .u8 0,.int .u8 0] #[iv 1,iv 2,.string ⟨#[102]⟩,iv 0,iv 0] #[iv 1,iv 1,.string ⟨#[]⟩,sv (some (qa (w.heap.size+1+1) 0)) 3 3,iv 0,sv (some (qa (w.heap.size+1+1+1) 0)) 1 1] #[.string ⟨#[109,97,105,110]⟩,iv 1,iv 0,iv 0,iv 0,iv 0] #[.int .u8 7] #[iv 1,iv 4,.string ⟨#[103]⟩,sv (some (qa (w.heap.size+1+1+1+1+1+1) 0)) 1 1,iv 0,sv none 0 0] #[.string ⟨#[102]⟩,iv 1,iv 0,iv 0,iv 0,iv 0] 39 39 5 94 90 86 5 90 86
 ·refine⟨fun _ i=>((#[iv 1,iv 1,.string ⟨#[]⟩,sv (some (qa (w.heap.size+1+1) 0)) 3 3,iv 0,sv (some (qa (w.heap.size+1+1+1) 0)) 1 1]:Array Value)[i]?).getD (iv 0),one_at h4 (fun i hi=>?_),fun j hj=>?_⟩
  ·rcases (by omega:i=0∨i=1∨i=2∨i=3∨i=4∨i=5) with rfl | rfl | rfl | rfl | rfl | rfl <;> rfl
  ·obtain rfl:j=0:=by simp at hj;omega
   exact⟨rfl,rfl,rfl,bytes_at (bs:=[9,0,0]) (by decide) (by decide) h2,rfl,⟨one_at h3 (fun i hi=>by rcases (by omega:i=0∨i=1∨i=2∨i=3∨i=4) with rfl | rfl | rfl | rfl | rfl <;> rfl),fun r hr=>by
    obtain rfl:r=relA:=List.mem_singleton.1 hr
    exact⟨by unfold maxLen;decide,by decide⟩⟩,by unfold maxLen;decide⟩
 ·refine⟨one_at h5 (fun i hi=>by rcases (by omega:i=0∨i=1∨i=2∨i=3∨i=4∨i=5) with rfl | rfl | rfl | rfl | rfl | rfl <;> rfl),fun r hr=>?_⟩
  obtain rfl:r=dfnA:=List.mem_singleton.1 hr
  unfold maxLen;decide
 ·refine⟨fun _ i=>((#[iv 1,iv 4,.string ⟨#[103]⟩,sv (some (qa (w.heap.size+1+1+1+1+1+1) 0)) 1 1,iv 0,sv none 0 0]:Array Value)[i]?).getD (iv 0),one_at h7 (fun i hi=>?_),fun j hj=>?_⟩
  ·rcases (by omega:i=0∨i=1∨i=2∨i=3∨i=4∨i=5) with rfl | rfl | rfl | rfl | rfl | rfl <;> rfl
  ·obtain rfl:j=0:=by simp at hj;omega
   exact⟨rfl,rfl,rfl,bytes_at (bs:=[7]) (by decide) (by decide) h6,rfl,⟨⟨_,_,rfl,by unfold maxLen;decide,.inl rfl⟩,fun r hr=>by cases hr⟩,by unfold maxLen;decide⟩
 ·refine⟨one_at h8 (fun i hi=>by rcases (by omega:i=0∨i=1∨i=2∨i=3∨i=4∨i=5) with rfl | rfl | rfl | rfl | rfl | rfl <;> rfl),fun r hr=>?_⟩
  obtain rfl:r=dfnB:=List.mem_singleton.1 hr
  unfold maxLen;decide
end Go.Proofs.YtebippbakbihiaaGreatDoor
namespace Go.Proofs.YtebippbakbihiaaGreatDoor
set_option maxRecDepth 100000
def fA:M.Prt:=⟨[frgA],[dfnA]⟩
def fB:M.Prt:=⟨[frgB],[dfnB]⟩
def fmL:List M.Nd:=[⟨0,0,0⟩,⟨1,0,0⟩,⟨-1,0,1⟩]
def fmQ:List M.Hap:=[⟨1,0,0⟩,⟨3,0,0⟩,⟨2,0,0⟩,⟨3,0,0⟩]
def fmS:List M.Hap:=fmQ ++ fmQ ++ fmQ ++ [⟨1,0,0⟩]
def fmE:List Int:=[0,0,0,0,0,0,0,0,0,0,0,0,11]
theorem fm_make:M.make 2 []=fmL:=by rfl
theorem fm_makeE:M.makeE 2 []=0:=by decide
theorem fm_newE:M.newE [fA,fB] fmL 1=0:=by decide +kernel
theorem fm_new:M.new [fA,fB] fmL 1=M.newF [fA,fB] fmL 1:=by unfold M.new;rw[fm_newE];rfl
theorem fm_runE:M.runE (M.newF [fA,fB] fmL 1) fmS=0:=by decide +kernel
theorem fm_run:M.run (M.newF [fA,fB] fmL 1) fmS=M.runF (M.newF [fA,fB] fmL 1) fmS:=by unfold M.run;rw[fm_runE];rfl
theorem fm_said:(M.runF (M.newF [fA,fB] fmL 1) fmS).2=fmE:=by decide +kernel
theorem fm_outE:M.outcomeE (M.runF (M.newF [fA,fB] fmL 1) fmS).1=0:=by decide +kernel
theorem fm_joinE:(M.join fA fB).2=0:=by decide +kernel
theorem fm_same:M.samePart (M.outcome (M.runF (M.newF [fA,fB] fmL 1) fmS).1) (M.join fA fB).1=true:=by decide +kernel
open Go Go.RowKit
set_option linter.unusedVariables false
def encHap (h:M.Hap):List Value:=[iv h.kind,iv h.worker,iv h.k]
theorem row_haps {w:World} {B:Nat} {v:Value} {l:List M.Hap} (h:w.ownsRow B 31 3 v l.length (l.flatMap encHap)):HapsAt w v l:=by
 refine (row_slice (k:=3) hap0 encHap (fun _=>rfl) l h).congr' (fun j i hj hi=>?_)
 match i,hi with
 | 0,_=>rfl
 | 1,_=>rfl
 | 2,_=>rfl
theorem FmR.grown {B B' n k:Nat} {W X:World} {f:M.Farm} {x:Fd} {o:Fo} {v:Value} {xs:List Value} (h:FmR B W f x o) (hr:W.ownsRow B' 31 k v n xs) (hg:W.grownBy X v.ownBlock):FmR B X f x o:=by
 have kr:∀ (e:TypeId) (k n:Nat) (v':Value) (xs:List Value),W.ownsRow B e k v' n xs→e≠31→X.ownsRow B e k v' n xs:=fun e k n v' xs hx hne=>hx.kept hg (own_apart hx hr hne)
 have kp:∀ e,POwn W B e→POwn X B e:=fun e ⟨en,hP,hm⟩=>⟨en,⟨kr _ _ _ _ _ hP.rowF (by decide),kr _ _ _ _ _ hP.rowD (by decide),fun e he=>kr _ _ _ _ _ (hP.bytes e he) (by decide),hP.small,hP.smallD,fun e he=>kr _ _ _ _ _ (hP.rels e he) (by decide)⟩,hm⟩
 exact⟨kr _ _ _ _ _ h.rowP (by decide),h.mapP,kr _ _ _ _ _ h.rowL (by decide),kr _ _ _ _ _ h.rowD (by decide),kr _ _ _ _ _ h.rowH (by decide),h.mapH,kr _ _ _ _ _ h.rowG (by decide),kr _ _ _ _ _ h.rowW (by decide),kr _ _ _ _ _ h.rowN (by decide),h.mapN,
  fun e he=>kp e (h.ownP e he),fun e he=>kp e (h.ownH e he),fun e he=>kp e.e (h.ownN e he),h.apart⟩
def FBlk (W:World) (b:Nat) (f:M.Farm) (x:Fd):Prop:=W.heap[b]?=some (.cells (qm f x) 29 (0,0))
def fcR (B N b:Nat) (f z:M.Farm) (x:Fd) (sa:Option Addr) (sc:Nat) (j:Nat) (W:World) (u:Value):Prop :=
 match j with
 | 0=>u=.agg (qm f x)
 | 1=>u=sv sa 12 sc
 | 2=>u=.agg #[iv 1,iv 0,iv 0]
 | 3=>∃ g,u=sv (some (qa g 0)) 1 1∧N≤g∧g<W.heap.size∧W.heap[g]?=some (.cells #[iv 1,iv 0,iv 0] 31 (0,0))
 | 4=>∃ a c,u=sv a 13 c∧W.ownsRow B 31 3 u 13 (fmS.flatMap encHap)
 | 5=>∃ (y:Fd) (a:Option Addr) (c:Nat),u=.tuple #[.agg (qm z y),sv a 13 c,iv 0]∧(∃ o,FmR B W z y o)∧W.ownsRow B 33 1 (sv a 13 c) 13 (fmE.map (Value.int .i64))
 | 6=>∃ (y:Fd) (a:Option Addr) (c:Nat),u=.tuple #[.agg (qm z y),sv a 13 c,iv 0]∧(∃ o,FmR B W z y o)∧W.ownsRow B 33 1 (sv a 13 c) 13 (fmE.map (Value.int .i64))
 | 7=>∃ y:Fd,u=.agg (qm z y)∧∃ o,FmR B W z y o
 | 8=>∃ a c,u=sv a 13 c∧W.ownsRow B 33 1 (sv a 13 c) 13 (fmE.map (Value.int .i64))
 | 9=>u=iv 0
 | 10=>∃ (y:Fd),FBlk W b z y∧∃ o,FmR B W z y o
 | 11=>∃ a c,u=sv a 13 c∧W.ownsRow B 33 1 (sv a 13 c) 13 (fmE.map (Value.int .i64))
 | _=>False
theorem fcR_later {B N b:Nat} {f z:M.Farm} {x:Fd} {sa:Option Addr} {sc:Nat} {W X:World} (hb:Below W.heap.size W X):∀ j u,fcR B N b f z x sa sc j W u→fcR B N b f z x sa sc j X u:=by
 intro j u h
 have hg:=grown_of_below hb Option.none
 match j,h with
 | 0,h=>exact h
 | 1,h=>exact h
 | 2,h=>exact h
 | 9,h=>exact h
 | 3,h=>obtain⟨g,h1,h2,h3,h4⟩:=h;exact⟨g,h1,h2,Nat.lt_of_lt_of_le h3 hb.size,(hb.block _ h3).trans h4⟩
 | 4,h=>obtain⟨a,c,h1,h2⟩:=h;exact⟨a,c,h1,h2.kept hg own_self⟩
 | 5,h=>obtain⟨y,a,c,h1,⟨o,h2⟩,h3⟩:=h;exact⟨y,a,c,h1,⟨o,h2.later hb⟩,h3.kept hg own_self⟩
 | 6,h=>obtain⟨y,a,c,h1,⟨o,h2⟩,h3⟩:=h;exact⟨y,a,c,h1,⟨o,h2.later hb⟩,h3.kept hg own_self⟩
 | 7,h=>obtain⟨y,h1,o,h2⟩:=h;exact⟨y,h1,o,h2.later hb⟩
 | 8,h=>obtain⟨a,c,h1,h2⟩:=h;exact⟨a,c,h1,h2.kept hg own_self⟩
 | 11,h=>obtain⟨a,c,h1,h2⟩:=h;exact⟨a,c,h1,h2.kept hg own_self⟩
 | 10,h=>obtain⟨y,h1,o,h2⟩:=h;exact⟨y,(hb.block _ (lt1 h1)).trans h1,o,h2.later hb⟩
theorem fcR_grow {B N b B' n:Nat} {f z:M.Farm} {x:Fd} {sa:Option Addr} {sc:Nat} {W X:World} {v:Value} {xs:List Value} (hr:W.ownsRow B' 31 3 v n xs) (hg:W.grownBy X v.ownBlock) (hN:∀ g,v.ownBlock=some g→g<N):∀ j u,j≠4→fcR B N b f z x sa sc j W u→fcR B N b f z x sa sc j X u:=by
 intro j u hj h
 match j,hj,h with
 | 0,_,h=>exact h
 | 1,_,h=>exact h
 | 2,_,h=>exact h
 | 9,_,h=>exact h
 | 3,_,h =>
  obtain⟨g,h1,h2,h3,h4⟩:=h
  exact⟨g,h1,h2,Nat.lt_of_lt_of_le h3 hg.size,(hg.block g h3 (fun e=>by have:=hN g e.symm;omega)).trans h4⟩
 | 5,_,h=>obtain⟨y,a,c,h1,⟨o,h2⟩,h3⟩:=h;exact⟨y,a,c,h1,⟨o,h2.grown hr hg⟩,h3.kept hg (own_apart h3 hr (by decide))⟩
 | 6,_,h=>obtain⟨y,a,c,h1,⟨o,h2⟩,h3⟩:=h;exact⟨y,a,c,h1,⟨o,h2.grown hr hg⟩,h3.kept hg (own_apart h3 hr (by decide))⟩
 | 7,_,h=>obtain⟨y,h1,o,h2⟩:=h;exact⟨y,h1,o,h2.grown hr hg⟩
 | 8,_,h=>obtain⟨a,c,h1,h2⟩:=h;exact⟨a,c,h1,h2.kept hg (own_apart h2 hr (by decide))⟩
 | 11,_,h=>obtain⟨a,c,h1,h2⟩:=h;exact⟨a,c,h1,h2.kept hg (own_apart h2 hr (by decide))⟩
 | 10,_,h=>obtain⟨y,h1,o,h2⟩:=h;exact⟨y,block_keptP hr hg h1 (by decide),o,h2.grown hr hg⟩
 | 4,hj,_=>exact absurd rfl hj
theorem fcR_wr {B N b:Nat} {f z:M.Farm} {x:Fd} {sa:Option Addr} {sc:Nat} {W X:World} (wr:Wr W X 29) (hs:W.heap.size≤X.heap.size):∀ j u,j≠10→fcR B N b f z x sa sc j W u→fcR B N b f z x sa sc j X u:=by
 intro j u hj h
 match j,hj,h with
 | 0,_,h=>exact h
 | 1,_,h=>exact h
 | 2,_,h=>exact h
 | 9,_,h=>exact h
 | 3,_,h=>obtain⟨g,h1,h2,h3,h4⟩:=h;exact⟨g,h1,h2,Nat.lt_of_lt_of_le h3 hs,wr.block h4 (by decide)⟩
 | 4,_,h=>obtain⟨a,c,h1,h2⟩:=h;exact⟨a,c,h1,wr.row h2 (by decide)⟩
 | 5,_,h=>obtain⟨y,a,c,h1,⟨o,h2⟩,h3⟩:=h;exact⟨y,a,c,h1,⟨o,h2.wr wr⟩,wr.row h3 (by decide)⟩
 | 6,_,h=>obtain⟨y,a,c,h1,⟨o,h2⟩,h3⟩:=h;exact⟨y,a,c,h1,⟨o,h2.wr wr⟩,wr.row h3 (by decide)⟩
 | 7,_,h=>obtain⟨y,h1,o,h2⟩:=h;exact⟨y,h1,o,h2.wr wr⟩
 | 8,_,h=>obtain⟨a,c,h1,h2⟩:=h;exact⟨a,c,h1,wr.row h2 (by decide)⟩
 | 11,_,h=>obtain⟨a,c,h1,h2⟩:=h;exact⟨a,c,h1,wr.row h2 (by decide)⟩
 | 10,hj,_=>exact absurd rfl hj
def scK:Nat→List M.Hap
 | 0=>[]
 | k+1=>scK k ++ fmQ
theorem scK_len:∀ k,(scK k).length=k*4
 | 0=>rfl
 | k+1=>by rw[scK,List.length_append,scK_len k];show k*4+4=_;omega
theorem farmed_true (w:World):Calls Tryz.prog 9 #[] w fun e w'=>e=.returned (.bool true)∧Below w.heap.size w w':=by
 obtain⟨i0,hi0,hz0,hz1,hz2⟩:=info_parts (P:=Tryz.prog) (e:=31) (z:=.agg #[iv 0,iv 0,iv 0]) (size:=3) (bytes:=24) (by kernel_rfl)
 go_enter Tryz.func9,Tryz.ntmps9
 go_upto_region 2 with (go_at_call 25;refine (two_any _).mono ?_;rintro e w1 ⟨a1,a2,a3,a4,rfl,hb1,hA,hAd,hB,hBd⟩)
 have v1:Var (w1.alloc (.cells #[sv a1 1 1,sv a2 1 1] 39)) w1.heap.size a1 a2 1 1 fA:=var_new (p:=fA) hA hAd
 have v1:=v1.later ((Below.refl _ _).alloc (Nat.le_refl _) (.cells #[sv a3 1 1,sv a4 1 1] 39))
 have hbA:Below w1.heap.size w1 (w1.alloc (.cells #[sv a1 1 1,sv a2 1 1] 39)):=(Below.refl _ _).alloc (Nat.le_refl _) _
 have v2:Var ((w1.alloc (.cells #[sv a1 1 1,sv a2 1 1] 39)).alloc (.cells #[sv a3 1 1,sv a4 1 1] 39)) (w1.heap.size+1) a3 a4 1 1 fB:=by
  have:=var_new (p:=fB) (hB.later hbA) (hBd.later hbA)
  simpa [fB] using this
 have HX:Hid (Below w.heap.size w ((w1.alloc (.cells #[sv a1 1 1,sv a2 1 1] 39)).alloc (.cells #[sv a3 1 1,sv a4 1 1] 39))):=(hb1.alloc hb1.size _).alloc (by simpa using Nat.le_succ_of_le hb1.size) _
 clear hA hAd hB hBd hb1 hbA
 generalize (w1.alloc (.cells #[sv a1 1 1,sv a2 1 1] 39)).alloc (.cells #[sv a3 1 1,sv a4 1 1] 39)=X1 at *
 generalize w1.heap.size=n1 at *
 have V:Hid (∀ W,Below X1.heap.size X1 W→Var W n1 a1 a2 1 1 fA∧Var W (n1+1) a3 a4 1 1 fB):=fun W hW=>⟨v1.later hW,v2.later hW⟩
 clear v1 v2
 have KM:Hid (Calls Tryz.prog 26 #[iv 2,sv none 0 0] X1 fun e w'=>Below X1.heap.size X1 w'∧∃ a c,e=.returned (.tuple #[sv a 3 c,iv 0])∧NodesAt w' (sv a 3 c) fmL) :=
  (make_v 2 [] none 0 X1 (ints_nil X1)).mono fun e w' ⟨h1,a,c,h2,h3,_⟩=>⟨h1,a,c,by rw[h2,fm_makeE,fm_make];rfl,by rw[fm_make] at h3;exact h3⟩
 go_upto_region 3 with (go_at_call 26;refine KM.out.mono ?_;rintro e X2 ⟨hb2,al,cl,rfl,hN2⟩)
 have hb2s:=hb2.size
 obtain⟨V1,V2⟩:=V.out X2 hb2
 have c10:X2.cell? (qa n1 0)=some (sv a1 1 1):=V1.c0
 have c11:X2.cell? (qa n1 1)=some (sv a2 1 1):=V1.c1
 have c20:X2.cell? (qa (n1+1) 0)=some (sv a3 1 1):=V2.c0
 have c21:X2.cell? (qa (n1+1) 1)=some (sv a4 1 1):=V2.c1
 have l1:=V1.lt
 have l2:=V2.lt
 have hAl:Below X2.heap.size X2 (X2.alloc (.cells #[sv a1 1 1,sv a2 1 1,sv a3 1 1,sv a4 1 1] 39)):=(Below.refl _ _).alloc (Nat.le_refl _) _
 have hPa:PartsAt (X2.alloc (.cells #[sv a1 1 1,sv a2 1 1,sv a3 1 1,sv a4 1 1] 39)) (sv (some (qa X2.heap.size 0)) [fA,fB].length 2) [fA,fB]:=by
  refine⟨fun j i=>(#[sv a1 1 1,sv a2 1 1,sv a3 1 1,sv a4 1 1]:Array Value).getD (j*2+i) undef,⟨_,_,rfl,by unfold maxLen;simp,.inr ⟨X2.heap.size,0,rfl,fun j i hj hi=>?_⟩⟩,fun j hj=>?_⟩
  ·rw[cellB (heap_alloc_new X2 _)]
   have hj:j<2:=hj
   rcases (by omega:j=0∨j=1) with rfl | rfl <;> rcases (by omega:i=0∨i=1) with rfl | rfl <;> rfl
  ·have hj:j<2:=hj
   rcases (by omega:j=0∨j=1) with rfl | rfl
   ·exact⟨V1.fr.later hAl,V1.df.later hAl⟩
   ·exact⟨V2.fr.later hAl,V2.df.later hAl⟩
 have KN:Hid (Calls Tryz.prog 15 #[sv (some (qa X2.heap.size 0)) 2 2,sv al 3 cl,iv 1] (X2.alloc (.cells #[sv a1 1 1,sv a2 1 1,sv a3 1 1,sv a4 1 1] 39)) fun e w'=>Below X2.heap.size X2 w'∧∃ y o,e=.returned (.tuple #[.agg #[sv y.p (M.newF [fA,fB] fmL 1).parts.length y.pc,sv y.l (M.newF [fA,fB] fmL 1).plan.length y.lc,iv (M.newF [fA,fB] fmL 1).now,sv y.d (M.newF [fA,fB] fmL 1).done.length y.dc,sv y.h (M.newF [fA,fB] fmL 1).got.length y.hc,sv y.g (M.newF [fA,fB] fmL 1).grants.length y.gc,sv y.k (M.newF [fA,fB] fmL 1).work.length y.kc,sv y.n (M.newF [fA,fB] fmL 1).net.length y.nc],iv 0])∧FmR X1.heap.size w' (M.newF [fA,fB] fmL 1) y o):=by
  refine (new_any [fA,fB] fmL 1 _ _ _ _ _ hPa (hN2.later hAl)).mono ?_
  rintro e w' ⟨hb,y,rfl,_,hR⟩
  rw[fm_newE,fm_new] at *
  obtain⟨o,hR⟩:=hR rfl
  exact⟨hAl.trans (hb.mono hAl.size),y,o,rfl,hR.base (Nat.le_trans hb2s hAl.size)⟩
 have HB2:Hid (Below X1.heap.size X1 X2):=hb2
 clear V1 V2 hAl hPa KM hN2 hb2
 obtain⟨f1,hf1⟩:∃ f1,f1=M.newF [fA,fB] fmL 1:=⟨_,rfl⟩
 have Hf1:Hid (f1=M.newF [fA,fB] fmL 1):=hf1
 rw[← hf1] at KN
 clear hf1
 go_upto_region 4 with (go_at_call 15;refine KN.out.mono ?_;rintro e X3 ⟨hb3,y,o,rfl,hR3⟩)
 have hAl:=(Below.refl X3.heap.size X3).alloc (Nat.le_refl _) (.cells (qm f1 y) 29)
 have h5:FBlk (X3.alloc (.cells (qm f1 y) 29)) X3.heap.size f1 y:=heap_alloc_new X3 _
 have hR4:=hR3.later hAl
 have hB4:=(HB2.out.trans (hb3.mono hb2s)).trans (hAl.mono (Nat.le_trans hb2s hb3.size))
 obtain⟨n5,hn5⟩:∃ n5,n5=X3.heap.size:=⟨_,rfl⟩
 have hn5B:X1.heap.size≤n5:=by rw[hn5];exact Nat.le_trans hb2s hb3.size
 rw[← hn5] at h5 ⊢
 clear hn5 hAl hb3 hR3 c10 c11 c20 c21 KN l1 l2 HB2
 generalize X3.alloc (.cells (qm f1 y) 29)=X4 at *
 have H4:Hid (FBlk X4 n5 f1 y∧FmR X1.heap.size X4 f1 y o∧Below X1.heap.size X1 X4):=⟨h5,hR4,hB4⟩
 clear h5 hR4 hB4
 go_upto_region 6 with fail
 go_loopw [7,30] (fun s7 s30 wr=>∃ (k:Nat),k≤3∧s30=iv k∧Hid (FBlk wr n5 f1 y∧FmR X1.heap.size wr f1 y o∧Below X1.heap.size X1 wr)∧Hid (wr.ownsRow X1.heap.size 31 3 s7 (k*4) ((scK k).flatMap encHap))) (fun _ s30 _=>3 - (intOf s30).toNat)
 case atStart=>exact⟨0,by omega,rfl,H4,World.ownsRow_nil _ _ _ _⟩
 case round =>
  obtain⟨k,hk,rfl,HI,HRw⟩:=hrel
  clear H4
  obtain⟨ad,nn,cc,rfl⟩:=own_form HRw.out
  have hsz:X1.heap.size≤wr.heap.size:=HI.out.2.2.size
  by_cases hlt:k<3
  ·have hkl:(k:Int)<3:=by omega
   have hrow:=HRw.out
   have hnews:∀ j u,(#[iv 1,iv 0,iv 0,iv 3,iv 0,iv 0,iv 2,iv 0,iv 0,iv 3,iv 0,iv 0]:Array Value).toList[j]?=some u→(wr.alloc (.cells #[iv 1,iv 0,iv 0,iv 3,iv 0,iv 0,iv 2,iv 0,iv 0,iv 3,iv 0,iv 0] 31)).cell? ((qa wr.heap.size 0).add j)=some u:=World.news_of_block (heap_alloc_new wr _)
   have HAp:Hid (∀ v' w3,(wr.alloc (.cells #[iv 1,iv 0,iv 0,iv 3,iv 0,iv 0,iv 2,iv 0,iv 0,iv 3,iv 0,iv 0] 31)).grownBy w3 (sv ad nn cc).ownBlock→w3.ownsRow X1.heap.size 31 3 v' (k*4+4) ((scK k).flatMap encHap ++ (#[iv 1,iv 0,iv 0,iv 3,iv 0,iv 0,iv 2,iv 0,iv 0,iv 3,iv 0,iv 0]:Array Value).toList)→Hid (FBlk w3 n5 f1 y∧FmR X1.heap.size w3 f1 y o∧Below X1.heap.size X1 w3)∧Hid (w3.ownsRow X1.heap.size 31 3 v' ((k+1)*4) ((scK (k+1)).flatMap encHap))):=fun v' w3 hg ho=>by
    have hb:=(Below.refl wr.heap.size wr).alloc (Nat.le_refl _) (.cells #[iv 1,iv 0,iv 0,iv 3,iv 0,iv 0,iv 2,iv 0,iv 0,iv 3,iv 0,iv 0] 31)
    have hr':=hrow.alloc (.cells #[iv 1,iv 0,iv 0,iv 3,iv 0,iv 0,iv 2,iv 0,iv 0,iv 3,iv 0,iv 0] 31)
    obtain⟨j1,j2,j3⟩:=HI.out
    refine⟨⟨block_keptP hr' hg ((hb.block _ (lt1 j1)).trans j1) (by decide),(j2.later hb).grown hr' hg,(j3.trans (hb.mono hsz)).grown hg (Nat.le_trans hsz hb.size) (fun k hk=>(hr'.lt k hk).1)⟩,?_⟩
    rw[Hid,show (k+1)*4=k*4+4 by omega,scK,List.flatMap_append];exact ho
   clear HI HRw
   go_wp2_with (at_builtin;refine wpList_append_own _ rfl _ _ 47 rfl X1.heap.size 31 i0 (.agg #[iv 0,iv 0,iv 0]) 3 24 Tryz.underlying47 hi0 hz0 hz1 hz2 rfl (by decide) _ _ _ rfl (hrow.alloc _) ⟨wr.heap.size,0,none⟩ 4 4 (#[iv 1,iv 0,iv 0,iv 3,iv 0,iv 0,iv 2,iv 0,iv 0,iv 3,iv 0,iv 0]:Array Value).toList rfl rfl hnews (List.all_eq_true.1 (show (#[iv 1,iv 0,iv 0,iv 3,iv 0,iv 0,iv 2,iv 0,iv 0,iv 3,iv 0,iv 0]:Array Value).toList.all (fun u=>u.oneCell')=true from rfl)) (by unfold maxLen;omega) (by omega) (by simp;omega) ?_;intro v' w3 hown' hgrow3 hnil3)
   go_roundw
   case rel =>
    obtain⟨j1,j2⟩:=HAp.out _ _ hgrow3 hown'
    exact⟨k+1,by omega,by go_num,j1,j2⟩
   case measure=>simp[intOf];omega
  ·obtain rfl:k=3:=by omega
   rw[show ((3:Nat):Int)=3 from rfl]
   obtain⟨j1,j2,j3⟩:=HI.out
   have hrow:=HRw.out
   obtain⟨sa,sc,hsl⟩:=own_len hrow
   cases hsl
   rw[show (3*4:Nat)=12 from rfl] at hrow ⊢
   have hNn:∀ g,(sv ad 12 cc).ownBlock=some g→g<wr.heap.size:=fun g hg=>(hrow.lt g hg).2
   have HH:Hid (FBlk wr n5 f1 y∧FmR X1.heap.size wr f1 y o∧Below X1.heap.size X1 wr∧wr.ownsRow X1.heap.size 31 3 (sv ad 12 cc) 12 ((scK 3).flatMap encHap)):=⟨j1,j2,j3,hrow⟩
   clear HI HRw j1 j2 j3 hrow
   go_upto_region 9 with fail
   refine wp_region_rel 12 (fun s W=>(Below X1.heap.size X1 W∧FmR X1.heap.size W f1 y o∧wr.heap.size≤W.heap.size)∧(s.getD 10 false=false→FBlk W n5 f1 y)∧(s.getD 4 false=false→W.ownsRow X1.heap.size 31 3 (sv ad 12 cc) 12 ((scK 3).flatMap encHap))) (fun v=>⟨#[.bool false,qv n1 0,qv (n1+1) 0,sv al 3 cl,iv 0,qv n5 0,iv 0,sv ad 12 cc,v 11,undef,undef,undef,undef,undef,.tuple #[.agg #[sv a1 1 1,sv a2 1 1],.agg #[sv a3 1 1,sv a4 1 1]],.tuple #[.agg #[sv a1 1 1,sv a2 1 1],.agg #[sv a3 1 1,sv a4 1 1]],.agg #[sv a1 1 1,sv a2 1 1],.agg #[sv a3 1 1,sv a4 1 1],.tuple #[sv al 3 cl,iv 0],.tuple #[sv al 3 cl,iv 0],sv al 3 cl,iv 0,.tuple #[.agg (qm f1 y),iv 0],.agg #[sv a1 1 1,sv a2 1 1],.agg #[sv a3 1 1,sv a4 1 1],sv (some (qa X2.heap.size 0)) 2 2,sv al 3 cl,.tuple #[.agg (qm f1 y),iv 0],.agg (qm f1 y),iv 0,iv 3,.bool false,u32,u33,u34,u35,u36,u37,u38,u39,v 6,v 0,v 1,v 2,v 3,v 4,v 5,v 7,v 8,v 9,undef,undef,undef,undef,undef,undef,undef,undef,undef,undef,undef,undef,undef,undef,undef,undef,undef,undef,undef,undef,undef,undef,undef,undef,undef,undef,undef,undef,undef,undef,undef,undef,undef,undef,undef,undef,undef,undef,undef,undef,undef,undef,undef,undef,undef,undef,undef,undef,undef,undef,undef],[]⟩) (fcR X1.heap.size wr.heap.size n5 f1 (M.runF f1 fmS).1 y ad cc) (fun _ _ _ _=>True) (by kernel_rfl) (by kernel_rfl) ⟨⟨HH.out.2.2.1.drew,HH.out.2.1.later (Below.refl _ _).drew,Nat.le_refl _⟩,fun _=>HH.out.1,fun _=>HH.out.2.2.2.kept (grown_of_below (Below.refl _ _).drew Option.none) own_self⟩ ⟨fun _=>undef,rfl⟩ ?_ ?_
   ·intro j op hj ho
    rcases (by omega:j=0∨j=1∨j=2∨j=3∨j=4∨j=5∨j=6∨j=7∨j=8∨j=9∨j=10∨j=11) with rfl | rfl | rfl | rfl | rfl | rfl | rfl | rfl | rfl | rfl | rfl | rfl
    all_goals cases ho
    all_goals refine relStep_of rfl rfl ?_
    all_goals rintro sd v W ⟨hC,h10,h4⟩ hin hsd hdep hdz
    ·have hd:sd.getD 10 false=false:=by
      cases h:sd.getD 10 false
      ·rfl
      ·have h7:=hin.closed 10 _ rfl h ⟨7,.data⟩ (by simp) rfl
       have h6:=hin.closed 7 _ rfl h7 ⟨6,.data⟩ (by simp) rfl
       have h5:=hin.closed 6 _ rfl h6 ⟨5,.data⟩ (by simp) rfl
       have h0:=hin.closed 5 _ rfl h5 ⟨0,.data⟩ (by simp) rfl
       rw[getD_both hsd] at h0
       cases h0
     have hf:=h10 hd
     obtain⟨k0,k1,k2,k3,k4,k5,k6,k7⟩:=cell8 hf
     exact wp_val (.agg (qm f1 y)) (by simp[execOp,Act.eval,go_sem,k0,k1,k2,k3,k4,k5,k6,k7]) ⟨_,rfl,⟨hC,fun h=>h10 (by rwa [getD_set_ne false (by decide)] at h),fun h=>h4 (by rwa [getD_set_ne false (by decide)] at h)⟩,fun _ _ _ _ h=>h,rfl,fun k hk _ hz=>⟨trivial,trivial⟩⟩
    ·exact wp_val (sv ad 12 cc) (by simp[execOp,Act.eval,go_sem]) ⟨_,rfl,⟨hC,fun h=>h10 (by rwa [getD_set_ne false (by decide)] at h),fun h=>h4 (by rwa [getD_set_ne false (by decide)] at h)⟩,fun _ _ _ _ h=>h,rfl,fun k hk _ hz=>⟨trivial,trivial⟩⟩
    ·exact wp_val (.agg #[iv 1,iv 0,iv 0]) (by simp[execOp,go_sem]) ⟨_,rfl,⟨hC,fun h=>h10 (by rwa [getD_set_ne false (by decide)] at h),fun h=>h4 (by rwa [getD_set_ne false (by decide)] at h)⟩,fun _ _ _ _ h=>h,rfl,fun k hk _ hz=>⟨trivial,trivial⟩⟩
    ·have hv:v 2=.agg #[iv 1,iv 0,iv 0]:=hdep ⟨2,.data⟩ (by simp) rfl
     have hA:=(Below.refl W.heap.size W).alloc (Nat.le_refl _) (.cells #[iv 1,iv 0,iv 0] 31)
     refine wp_valW (sv (some (qa W.heap.size 0)) 1 1) (W.alloc (.cells #[iv 1,iv 0,iv 0] 31)) (by simp[Act.eval,go_sem,hv]) ⟨_,rfl,⟨⟨hC.1.trans (hA.mono hC.1.size),hC.2.1.later hA,Nat.le_trans hC.2.2 hA.size⟩,fun h=>?_,fun h=>?_⟩,fun k x _ _=>fcR_later hA k x,⟨W.heap.size,rfl,hC.2.2,by simp,heap_alloc_new W _⟩,fun k hk _ hz=>⟨trivial,trivial⟩⟩
     ·have:=h10 (by rwa [getD_set_ne false (by decide)] at h)
      exact (hA.block _ (lt1 this)).trans this
     ·exact (h4 (by rwa [getD_set_ne false (by decide)] at h)).kept (grown_of_below hA Option.none) own_self
    ·have hv1:v 1=sv ad 12 cc:=hdep ⟨1,.data⟩ (by simp) rfl
     obtain⟨g,hv3,hNg,hgW,hgb⟩:fcR X1.heap.size wr.heap.size n5 f1 (M.runF f1 fmS).1 y ad cc 3 W (v 3):=hdep ⟨3,.data⟩ (by simp) rfl
     have hr:=h4 (getD_both hsd)
     refine wp_append_own W _ _ 47 rfl X1.heap.size 31 i0 (.agg #[iv 0,iv 0,iv 0]) 3 24 Tryz.underlying47 hi0 hz0 hz1 hz2 rfl (by decide) _ 12 _ hv1 hr ⟨g,0,none⟩ 1 1 (#[iv 1,iv 0,iv 0]:Array Value).toList hv3 rfl (World.news_of_block hgb) (List.all_eq_true.1 (show (#[iv 1,iv 0,iv 0]:Array Value).toList.all (fun u=>u.oneCell')=true from rfl)) (by unfold maxLen;omega) (by omega) hC.1.size ?_
     intro v' w3 hown' hgrow3 _
     obtain⟨a8,c8,rfl⟩:=own_len hown'
     refine⟨_,rfl,⟨⟨hC.1.grown hgrow3 hC.1.size (fun k hk=>(hr.lt k hk).1),hC.2.1.grown hr hgrow3,Nat.le_trans hC.2.2 hgrow3.size⟩,fun h=>?_,fun h=>?_⟩,fun k x hk _=>fcR_grow hr hgrow3 hNn k x hk,⟨a8,c8,rfl,hown'⟩,fun k hk _ hz=>⟨trivial,trivial⟩⟩
     ·have:=h10 (by rwa [getD_set_ne false (by decide)] at h)
      exact block_keptP hr hgrow3 this (by decide)
     ·have hsz:4<sd.size:=by rw[hin.size];decide
      simp[hsz] at h
    ·have hv0:v 0=.agg (qm f1 y):=hdep ⟨0,.data⟩ (by simp) rfl
     obtain⟨a8,c8,hv4,hr⟩:fcR X1.heap.size wr.heap.size n5 f1 (M.runF f1 fmS).1 y ad cc 4 W (v 4):=hdep ⟨4,.data⟩ (by simp) rfl
     rw[hv4] at hr
     refine wp_enter 14 #[.agg (qm f1 y),sv a8 13 c8] (by simp[Act.eval,go_sem,hv0,hv4]) ?_
     refine (run_any f1 y fmS a8 c8 W hC.2.1.at (row_haps hr)).mono ?_
     rintro e W2 ⟨hb2,y2,vS,rfl,⟨_,hR2⟩,hS2⟩
     have hE:M.runE f1 fmS=0:=by rw[Hf1.out];exact fm_runE
     have hRn:M.run f1 fmS=M.runF f1 fmS:=by rw[Hf1.out];exact fm_run
     have hSd:(M.runF f1 fmS).2=fmE:=by rw[Hf1.out];exact fm_said
     obtain⟨o2,hR2⟩:=hR2 hE
     rw[hRn] at hR2 hS2
     rw[hRn,hE]
     rw[hSd] at hS2
     obtain⟨a9,c9,rfl⟩:=own_len hS2
     exact⟨_,rfl,_,rfl,⟨⟨hC.1.trans (hb2.mono hC.1.size),hC.2.1.later hb2,Nat.le_trans hC.2.2 hb2.size⟩,fun h=>(by
      have:=h10 (by rwa [getD_set_ne false (by decide)] at h)
      exact (hb2.block _ (lt1 this)).trans this),fun h=>(h4 (by rwa [getD_set_ne false (by decide)] at h)).kept (grown_of_below hb2 Option.none) own_self⟩,fun k x _ _=>fcR_later hb2 k x,⟨y2,a9,c9,rfl,⟨o2,hR2.base hC.1.size⟩,row_base hS2 hC.1.size⟩,fun k hk _ hz=>⟨trivial,trivial⟩⟩
    ·obtain⟨y2,a9,c9,h5,hRz,hSz⟩:fcR X1.heap.size wr.heap.size n5 f1 (M.runF f1 fmS).1 y ad cc 5 W (v 5):=hdep ⟨5,.data⟩ (by simp) rfl
     exact wp_val (.tuple #[.agg #[sv y2.p (M.runF f1 fmS).1.parts.length y2.pc,sv y2.l (M.runF f1 fmS).1.plan.length y2.lc,iv (M.runF f1 fmS).1.now,sv y2.d (M.runF f1 fmS).1.done.length y2.dc,sv y2.h (M.runF f1 fmS).1.got.length y2.hc,sv y2.g (M.runF f1 fmS).1.grants.length y2.gc,sv y2.k (M.runF f1 fmS).1.work.length y2.kc,sv y2.n (M.runF f1 fmS).1.net.length y2.nc],sv a9 13 c9,iv 0]) (by simp[execOp,Act.eval,go_sem,h5]) ⟨_,rfl,⟨hC,fun h=>h10 (by rwa [getD_set_ne false (by decide)] at h),fun h=>h4 (by rwa [getD_set_ne false (by decide)] at h)⟩,fun _ _ _ _ h=>h,⟨y2,a9,c9,rfl,hRz,hSz⟩,fun k hk _ hz=>⟨trivial,trivial⟩⟩
    ·obtain⟨y2,a9,c9,h5,hRz,hSz⟩:fcR X1.heap.size wr.heap.size n5 f1 (M.runF f1 fmS).1 y ad cc 6 W (v 6):=hdep ⟨6,.data⟩ (by simp) rfl
     exact wp_val (.agg #[sv y2.p (M.runF f1 fmS).1.parts.length y2.pc,sv y2.l (M.runF f1 fmS).1.plan.length y2.lc,iv (M.runF f1 fmS).1.now,sv y2.d (M.runF f1 fmS).1.done.length y2.dc,sv y2.h (M.runF f1 fmS).1.got.length y2.hc,sv y2.g (M.runF f1 fmS).1.grants.length y2.gc,sv y2.k (M.runF f1 fmS).1.work.length y2.kc,sv y2.n (M.runF f1 fmS).1.net.length y2.nc]) (by simp[execOp,Act.eval,go_sem,h5]) ⟨_,rfl,⟨hC,fun h=>h10 (by rwa [getD_set_ne false (by decide)] at h),fun h=>h4 (by rwa [getD_set_ne false (by decide)] at h)⟩,fun _ _ _ _ h=>h,⟨y2,rfl,hRz⟩,fun k hk _ hz=>⟨trivial,trivial⟩⟩
    ·obtain⟨y2,a9,c9,h5,hRz,hSz⟩:fcR X1.heap.size wr.heap.size n5 f1 (M.runF f1 fmS).1 y ad cc 6 W (v 6):=hdep ⟨6,.data⟩ (by simp) rfl
     exact wp_val (sv a9 13 c9) (by simp[execOp,Act.eval,go_sem,h5]) ⟨_,rfl,⟨hC,fun h=>h10 (by rwa [getD_set_ne false (by decide)] at h),fun h=>h4 (by rwa [getD_set_ne false (by decide)] at h)⟩,fun _ _ _ _ h=>h,⟨a9,c9,rfl,hSz⟩,fun k hk _ hz=>⟨trivial,trivial⟩⟩
    ·obtain⟨y2,a9,c9,h5,hRz,hSz⟩:fcR X1.heap.size wr.heap.size n5 f1 (M.runF f1 fmS).1 y ad cc 6 W (v 6):=hdep ⟨6,.data⟩ (by simp) rfl
     exact wp_val (iv 0) (by simp[execOp,Act.eval,go_sem,h5]) ⟨_,rfl,⟨hC,fun h=>h10 (by rwa [getD_set_ne false (by decide)] at h),fun h=>h4 (by rwa [getD_set_ne false (by decide)] at h)⟩,fun _ _ _ _ h=>h,rfl,fun k hk _ hz=>⟨trivial,trivial⟩⟩
    ·obtain⟨y2,h7,o2,hRz⟩:fcR X1.heap.size wr.heap.size n5 f1 (M.runF f1 fmS).1 y ad cc 7 W (v 7):=hdep ⟨7,.data⟩ (by simp) rfl
     have hf:=h10 (getD_both hsd)
     obtain⟨k0,k1,k2,k3,k4,k5,k6,k7⟩:=cell8 hf
     have kf:=frozenB hf
     obtain⟨hs1,hs2⟩:=store8 W n5 (sv y.p f1.parts.length y.pc) (sv y.l f1.plan.length y.lc) (iv f1.now) (sv y.d f1.done.length y.dc) (sv y.h f1.got.length y.hc) (sv y.g f1.grants.length y.gc) (sv y.k f1.work.length y.kc) (sv y.n f1.net.length y.nc) (sv y2.p (M.runF f1 fmS).1.parts.length y2.pc) (sv y2.l (M.runF f1 fmS).1.plan.length y2.lc) (iv (M.runF f1 fmS).1.now) (sv y2.d (M.runF f1 fmS).1.done.length y2.dc) (sv y2.h (M.runF f1 fmS).1.got.length y2.hc) (sv y2.g (M.runF f1 fmS).1.grants.length y2.gc) (sv y2.k (M.runF f1 fmS).1.work.length y2.kc) (sv y2.n (M.runF f1 fmS).1.net.length y2.nc) 29 hf
     have wrF:Wr W (w8 W n5 (sv y2.p (M.runF f1 fmS).1.parts.length y2.pc) (sv y2.l (M.runF f1 fmS).1.plan.length y2.lc) (iv (M.runF f1 fmS).1.now) (sv y2.d (M.runF f1 fmS).1.done.length y2.dc) (sv y2.h (M.runF f1 fmS).1.got.length y2.hc) (sv y2.g (M.runF f1 fmS).1.grants.length y2.gc) (sv y2.k (M.runF f1 fmS).1.work.length y2.kc) (sv y2.n (M.runF f1 fmS).1.net.length y2.nc)) 29:=⟨n5,_,hf,hs2⟩
     refine wp_skipW (w8 W n5 (sv y2.p (M.runF f1 fmS).1.parts.length y2.pc) (sv y2.l (M.runF f1 fmS).1.plan.length y2.lc) (iv (M.runF f1 fmS).1.now) (sv y2.d (M.runF f1 fmS).1.done.length y2.dc) (sv y2.h (M.runF f1 fmS).1.got.length y2.hc) (sv y2.g (M.runF f1 fmS).1.grants.length y2.gc) (sv y2.k (M.runF f1 fmS).1.work.length y2.kc) (sv y2.n (M.runF f1 fmS).1.net.length y2.nc)) (by simp[execOp,Act.eval,go_sem,h7,k0,k1,k2,k3,k4,k5,k6,k7,kf]) ⟨undef,rfl,⟨⟨hC.1.grown hs2 hC.1.size (fun k hk=>by cases hk;exact hn5B),hC.2.1.wr wrF,Nat.le_trans hC.2.2 hs2.size⟩,fun h=>?_,fun h=>?_⟩,fun k x hk _=>fcR_wr wrF hs2.size k x hk,⟨y2,hs1,o2,hRz.wr wrF⟩,fun k hk _ hz=>⟨trivial,trivial⟩⟩
     ·have hsz:10<sd.size:=by rw[hin.size];decide
      simp[hsz] at h
     ·exact wrF.row (h4 (by rwa [getD_set_ne false (by decide)] at h)) (by decide)
    ·obtain⟨a9,c9,h8,hSz⟩:fcR X1.heap.size wr.heap.size n5 f1 (M.runF f1 fmS).1 y ad cc 8 W (v 8):=hdep ⟨8,.data⟩ (by simp) rfl
     exact wp_val (sv a9 13 c9) (by simp[execOp,Act.eval,go_sem,h8]) ⟨_,rfl,⟨hC,fun h=>h10 (by rwa [getD_set_ne false (by decide)] at h),fun h=>h4 (by rwa [getD_set_ne false (by decide)] at h)⟩,fun _ _ _ _ h=>h,⟨a9,c9,rfl,hSz⟩,fun k hk _ hz=>⟨trivial,trivial⟩⟩
   ·rintro sd v W ⟨hC,_,_⟩ hR hZ
    have h9:v 9=iv 0:=hR 9 (by decide)
    obtain⟨a9,c9,h11,hSz⟩:fcR X1.heap.size wr.heap.size n5 f1 (M.runF f1 fmS).1 y ad cc 11 W (v 11):=hR 11 (by decide)
    obtain⟨y2,hf,o2,hRz⟩:fcR X1.heap.size wr.heap.size n5 f1 (M.runF f1 fmS).1 y ad cc 10 W (v 10):=hR 10 (by decide)
    have hoE:M.outcomeE (M.runF f1 fmS).1=0:=by rw[Hf1.out];exact fm_outE
    have hsm:M.samePart (M.outcome (M.runF f1 fmS).1) (M.join fA fB).1=true:=by rw[Hf1.out];exact fm_same
    have hIn:IntsAt W (sv a9 13 c9) fmE:=row_errs (l:=fmE) hSz
    generalize (M.runF f1 fmS).1=z at *
    have KO:Hid (Calls Tryz.prog 7 #[.agg (qm z y2)] W fun e w'=>Below W.heap.size W w'∧∃ x1 y1 x2 y2,e=.returned (.tuple #[.agg #[sv x1 (M.outcome z).frags.length y1,sv x2 (M.outcome z).defs.length y2],iv 0])∧FragsAt w' (sv x1 (M.outcome z).frags.length y1) (M.outcome z).frags∧DefsAt w' (sv x2 (M.outcome z).defs.length y2) (M.outcome z).defs):=by
     have:=outcome_any z y2 W hRz.at
     rw[hoE] at this
     exact this
    simp only[List.drop_succ_cons,List.drop_zero]
    rw[h9,h11]
    obtain⟨k0,k1,k2,k3,k4,k5,k6,k7⟩:=cell8 hf
    have lf:=lt1 hf
    have Hsm:Hid (M.samePart (M.outcome z) (M.join fA fB).1=true):=hsm
    have HC:Hid (Below X1.heap.size X1 W):=hC.1
    have HIn:Hid (∀ W',Below W.heap.size W W'→IntsAt W' (sv a9 13 c9) fmE):=fun W' hW=>hIn.later hW
    clear hR hZ h9 h11 hSz hf hRz hoE hsm hIn hC HH hNn
    generalize M.outcome z=P at *
    go_upto_region 11 with (go_at_call 7;refine KO.out.mono ?_;rintro e W2 ⟨hb2,z1,u1,z2,u2,rfl,hF2,hD2⟩)
    have v3:=var_new (p:=P) hF2 hD2
    have hA3:=hb2.trans (((Below.refl W2.heap.size W2).alloc (Nat.le_refl _) (.cells #[sv z1 P.frags.length u1,sv z2 P.defs.length u2] 39)).mono hb2.size)
    clear KO k0 k1 k2 k3 k4 k5 k6 k7 lf hF2 hD2 hb2
    generalize W2.alloc (.cells #[sv z1 P.frags.length u1,sv z2 P.defs.length u2] 39)=W3 at *
    generalize W2.heap.size=n10 at *
    have HC3:Hid (Below X1.heap.size X1 W3):=HC.out.trans (hA3.mono HC.out.size)
    have HIn3:Hid (∀ W',Below W3.heap.size W3 W'→IntsAt W' (sv a9 13 c9) fmE):=fun W' hW=>HIn.out W' (hA3.trans (hW.mono hA3.size))
    have HV3:Hid (Var W3 n10 z1 z2 u1 u2 P):=v3
    obtain⟨V1,V2⟩:=V.out W3 HC3.out
    have c10:W3.cell? (qa n1 0)=some (sv a1 1 1):=V1.c0
    have c11:W3.cell? (qa n1 1)=some (sv a2 1 1):=V1.c1
    have c20:W3.cell? (qa (n1+1) 0)=some (sv a3 1 1):=V2.c0
    have c21:W3.cell? (qa (n1+1) 1)=some (sv a4 1 1):=V2.c1
    have l1:=V1.lt
    have l2:=V2.lt
    obtain⟨jp,hjp⟩:∃ jp,M.join fA fB=(jp,0):=⟨_,Prod.ext rfl fm_joinE⟩
    have KJ:Hid (Calls Tryz.prog 27 #[.agg #[sv a1 1 1,sv a2 1 1],.agg #[sv a3 1 1,sv a4 1 1]] W3 fun e w'=>Below W3.heap.size W3 w'∧∃ x1 y1 x2 y2,e=.returned (.tuple #[.agg #[sv x1 jp.frags.length y1,sv x2 jp.defs.length y2],iv 0])∧FragsAt w' (sv x1 jp.frags.length y1) jp.frags∧DefsAt w' (sv x2 jp.defs.length y2) jp.defs):=join_v (a:=fA) (b:=fB) V1.fr V1.df V2.fr V2.df jp 0 hjp
    have hsm:M.samePart P jp=true:=by have:=Hsm.out;rw[hjp] at this;exact this
    clear V1 V2 hA3 HC HIn Hsm hjp v3
    go_upto_region 12 with (go_at_call 27;refine KJ.out.mono ?_;rintro e W4 ⟨hb4,t1,s1,t2,s2,rfl,hF4,hD4⟩)
    have v5:=var_new (p:=jp) hF4 hD4
    have hA5:=hb4.trans (((Below.refl W4.heap.size W4).alloc (Nat.le_refl _) (.cells #[sv t1 jp.frags.length s1,sv t2 jp.defs.length s2] 39)).mono hb4.size)
    clear KJ c10 c11 c20 c21 l1 l2 hF4 hD4 hb4
    generalize W4.alloc (.cells #[sv t1 jp.frags.length s1,sv t2 jp.defs.length s2] 39)=W5 at *
    generalize W4.heap.size=n12 at *
    have HC5:Hid (Below w.heap.size w W5):=HX.out.trans ((HC3.out.trans (hA5.mono HC3.out.size)).mono HX.out.size)
    have v4:=HV3.out.later hA5
    obtain⟨eb,eo,rfl,e11,leb⟩:=IntsAt.cell (l:=fmE) (HIn3.out W5 hA5) 11 (by decide)
    obtain⟨eb',eo',hee,e12,_⟩:=IntsAt.cell (l:=fmE) (HIn3.out W5 hA5) 12 (by decide)
    cases hee
    have e11':W5.cell? (qa eb (eo+11))=some (iv 0):=e11
    have e12':W5.cell? (qa eb (eo+12))=some (iv 11):=e12
    have KS:Hid (Calls Tryz.prog 28 #[.agg #[sv z1 P.frags.length u1,sv z2 P.defs.length u2],.agg #[sv t1 jp.frags.length s1,sv t2 jp.defs.length s2]] W5 fun e w'=>e=.returned (.bool true)∧Below W5.heap.size W5 w'):=by
     have:=same_any P.frags jp.frags P.defs jp.defs _ _ _ _ _ _ _ _ W5 v4.fr v4.df v5.fr v5.df
     rw[show M.samePart ⟨P.frags,P.defs⟩ ⟨jp.frags,jp.defs⟩=true from hsm] at this
     exact this
    have p0:=v4.c0
    have p1:=v4.c1
    have q0:=v5.c0
    have q1:=v5.c1
    have lp:=v4.lt
    have lq:=v5.lt
    clear e11 e12 HIn3 v4 v5 HV3 hsm hA5
    go_wp2_with (go_at_call 28;refine KS.out.mono ?_;rintro e W6 ⟨rfl,hb6⟩)
    go_ret
    exact⟨rfl,HC5.out.trans (hb6.mono HC5.out.size)⟩
end Go.Proofs.YtebippbakbihiaaGreatDoor
