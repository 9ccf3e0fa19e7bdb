/-
  The contracts of plan.inOrder and of the function in it that calls itself. The contract of plan.Check.
-/
import Derived.Test.YtebippbakbihiaaGreatDoorPlMm
namespace Go.Proofs.YtebippbakbihiaaGreatDoor
open Go Go.RowKit
set_option linter.unusedVariables false
theorem run_store_fnP {P:Program} {w:World} {a:Addr} {m:Mode} (f:Fn) (x y:Array Value):(store a (.func f x y) m).run P w=stored P w a (.func f x y) m:=run_store P w a _ m rfl
attribute [local go_sem] run_store_fnP
theorem leavesF_enough {l:List M.Nd} (hbe:Behind l):∀ (f g i:Nat),i<l.length→i<f→i<g→M.leavesF l f i=M.leavesF l g i
 | 0,_,_,_,h,_=>by omega
 | _+1,0,_,_,_,h=>by omega
 | f+1,g+1,i,hi,hf,hg=>by
  rw[M.leavesF,M.leavesF]
  cases hx:((l.getD i M.nd0).leaf==-1)
  ·rfl
  ·have:=hbe i hi hx
   simp only[cond_true]
   rw[leavesF_enough hbe f g _ (by omega) (by omega) (by omega),leavesF_enough hbe f g (l.getD i M.nd0).right.toNat (by omega) (by omega) (by omega)]
theorem leavesOf_node {l:List M.Nd} (hbe:Behind l) (i:Nat) (hi:i<l.length) (hx:((l.getD i M.nd0).leaf==-1)=true) :
  M.leavesOf l i=M.leavesOf l (l.getD i M.nd0).left.toNat ++ M.leavesOf l (l.getD i M.nd0).right.toNat:=by
 have:=hbe i hi hx
 rw[M.leavesOf,M.leavesF,hx]
 simp only[cond_true,M.leavesOf]
 rw[leavesF_enough hbe i _ _ (by omega) (by omega) (Nat.lt_succ_self _),leavesF_enough hbe i _ (l.getD i M.nd0).right.toNat (by omega) (by omega) (Nat.lt_succ_self _)]
theorem leavesOf_leaf (l:List M.Nd) (i:Nat) (hx:((l.getD i M.nd0).leaf==-1)=false):M.leavesOf l i=[(l.getD i M.nd0).leaf]:=by
 rw[M.leavesOf,M.leavesF,hx];rfl
theorem leaves_many {l:List M.Nd} (hbe:Behind l):∀ (f i:Nat),i<l.length→i<f→(M.leavesOf l i).length≤2 ^ i
 | 0,_,_,h=>by omega
 | f+1,i,hi,hf=>by
  cases hx:((l.getD i M.nd0).leaf==-1)
  ·rw[leavesOf_leaf l i hx]
   exact Nat.one_le_two_pow
  ·have:=hbe i hi hx
   rw[leavesOf_node hbe i hi hx,List.length_append]
   have h1:=leaves_many hbe f (l.getD i M.nd0).left.toNat (by omega) (by omega)
   have h2:=leaves_many hbe f (l.getD i M.nd0).right.toNat (by omega) (by omega)
   obtain⟨j,rfl⟩:∃ j,i=j+1:=⟨i - 1,by omega⟩
   have h3:2 ^ (l.getD (j+1) M.nd0).left.toNat≤2 ^ j:=Nat.pow_le_pow_right (by decide) (by omega)
   have h4:2 ^ (l.getD (j+1) M.nd0).right.toNat≤2 ^ j:=Nat.pow_le_pow_right (by decide) (by omega)
   rw[Nat.pow_succ]
   omega
structure WI (w W:World) (v:Value) (s:Int × Bool):Prop where
 ql:W.heap[w.heap.size]?=some (.cells #[v] 23 (0,0))
 qn:W.heap[w.heap.size+1]?=some (.cells #[iv s.1] 3 (0,0))
 qf:W.heap[w.heap.size+2]?=some (.cells #[.bool s.2] 4 (0,0))
 qw:W.heap[w.heap.size+3]?=some (.cells #[.func (.func 93) #[] #[qv w.heap.size 0,qv (w.heap.size+3) 0,qv (w.heap.size+2) 0,qv (w.heap.size+1) 0]] 136 (0,0))
 below:Below w.heap.size w W
theorem WI.alloc {w W:World} {v:Value} {s:Int × Bool} (h:WI w W v s) (o:Obj):WI w (W.alloc o) v s :=
 have hb:=(Below.refl W.heap.size W).alloc (Nat.le_refl _) o
 ⟨(hb.block _ (lt1 h.ql)).trans h.ql,(hb.block _ (lt1 h.qn)).trans h.qn,(hb.block _ (lt1 h.qf)).trans h.qf,(hb.block _ (lt1 h.qw)).trans h.qw,h.below.trans (hb.mono h.below.size)⟩
theorem WI.setF {w W:World} {v:Value} {s:Int × Bool} (h:WI w W v s) (b:Bool):WI w (W.setCell (qa (w.heap.size+2) 0) (.bool b)) v (s.1,b) :=
 ⟨(Below.heap_setCell _ _ _ _ (by show w.heap.size≠w.heap.size+2;omega)).trans h.ql,(Below.heap_setCell _ _ _ _ (by show w.heap.size+1≠w.heap.size+2;omega)).trans h.qn,setB' h.qf _,(Below.heap_setCell _ _ _ _ (by show w.heap.size+3≠w.heap.size+2;omega)).trans h.qw,h.below.setCell (by show w.heap.size≤w.heap.size+2;omega) _⟩
theorem WI.setN {w W:World} {v:Value} {s:Int × Bool} (h:WI w W v s) (n:Int):WI w (W.setCell (qa (w.heap.size+1) 0) (iv n)) v (n,s.2) :=
 ⟨(Below.heap_setCell _ _ _ _ (by show w.heap.size≠w.heap.size+1;omega)).trans h.ql,setB' h.qn _,(Below.heap_setCell _ _ _ _ (by show w.heap.size+2≠w.heap.size+1;omega)).trans h.qf,(Below.heap_setCell _ _ _ _ (by show w.heap.size+3≠w.heap.size+1;omega)).trans h.qw,h.below.setCell (by show w.heap.size≤w.heap.size+1;omega) _⟩
structure Rest (B:Nat) (W X:World):Prop where
 size:W.heap.size≤X.heap.size
 keep:∀ k,B≤k→k<W.heap.size→X.heap[k]?=W.heap[k]?
theorem Rest.refl (B:Nat) (W:World):Rest B W W:=⟨Nat.le_refl _,fun _ _ _=>rfl⟩
theorem Rest.trans {B:Nat} {W X Y:World} (h:Rest B W X) (h':Rest B X Y):Rest B W Y:=⟨Nat.le_trans h.size h'.size,fun k h1 h2=>(h'.keep k h1 (Nat.lt_of_lt_of_le h2 h.size)).trans (h.keep k h1 h2)⟩
theorem Rest.alloc {B:Nat} {W X:World} (h:Rest B W X) (o:Obj):Rest B W (X.alloc o):=by
 have hb:=(Below.refl X.heap.size X).alloc (Nat.le_refl _) o
 exact⟨Nat.le_trans h.size hb.size,fun k h1 h2=>(hb.block k (Nat.lt_of_lt_of_le h2 h.size)).trans (h.keep k h1 h2)⟩
theorem Rest.set {B:Nat} {W X:World} (h:Rest B W X) (b i:Nat) (v:Value) (hb:b<B):Rest B W (X.setCell (qa b i) v) :=
 ⟨by simpa using h.size,fun k h1 h2=>(Below.heap_setCell _ _ _ _ (by show k≠b;omega)).trans (h.keep k h1 h2)⟩
set_option maxHeartbeats 4000000 in
set_option maxRecDepth 100000 in
theorem walk_any (l:List M.Nd) (a:Option Addr) (c:Nat) (w:World) (hn:NodesAt w (sv a l.length c) l) (hbe:Behind l):∀ (f i:Nat),i<f→i<l.length→∀ (W:World) (s:Int × Bool),WI w W (sv a l.length c) s→0≤s.1→s.1+(2 ^ i:Nat)≤4611686018427387904 →
  Calls Tryz.prog 93 #[iv i,qv w.heap.size 0,qv (w.heap.size+3) 0,qv (w.heap.size+2) 0,qv (w.heap.size+1) 0] W fun e w'=>e=.returned (.tuple #[])∧WI w w' (sv a l.length c) (M.walkS s (M.leavesOf l i))∧Rest (w.heap.size+4) W w'
 | 0,i,h,_,_,_,_,_,_=>by omega
 | f+1,i,hif,hil,W,s,hW,hs0,hs1=>by
  have IH:=walk_any l a c w hn hbe f
  obtain⟨b,off,rfl,e0,e1,e2⟩:=(hn.later hW.below).cells i hil
  have hbk:=hbe i hil
  have hlL:=leavesOf_leaf l i
  have hlN:=leavesOf_node hbe i hil
  have hmany:∀ j,j<l.length→(M.leavesOf l j).length≤2 ^ j:=fun j hj=>leaves_many hbe (j+1) j hj (Nat.lt_succ_self _)
  have hbr:b<W.heap.size:=World.block_lt_of_cell? _ _ e0
  have hi0:(0:Int)≤(i:Int):=by omega
  have hil':(i:Int)<(l.length:Int):=by omega
  have hz0:=lt1 hW.ql
  have z0:W.cell? (qa w.heap.size 0)=some (sv (some (qa b off)) l.length c):=cellB hW.ql 0
  have HW:Hid (WI w W (sv (some (qa b off)) l.length c) s):=hW
  clear hW hn
  generalize l.getD i M.nd0=n at *
  obtain⟨x,y,z⟩:=n
  simp only at e0 e1 e2 hbk hlL hlN
  go_enter Tryz.func93,Tryz.ntmps93
  go_upto_region 1 with fail
  have p1:=heap_alloc_new W (.cells #[iv x,iv y,iv z] 75)
  have HX:Hid (WI w (W.alloc (.cells #[iv x,iv y,iv z] 75)) (sv (some (qa b off)) l.length c) s):=HW.out.alloc _
  have HR0:Hid (Rest (w.heap.size+4) W (W.alloc (.cells #[iv x,iv y,iv z] 75))):=(Rest.refl _ _).alloc _
  have hnb:=lt1 HW.out.qw
  clear e0 e1 e2 z0 HW hbr hz0
  generalize W.alloc (.cells #[iv x,iv y,iv z] 75)=X at *
  generalize W.heap.size=nb at *
  have hlX:=lt1 p1
  have c0:=cellC p1 0 rfl
  have z2:X.cell? (qa (w.heap.size+2) 0)=some (.bool s.2):=cellB HX.out.qf 0
  have g2:=frozenB HX.out.qf 0
  have z1:X.cell? (qa (w.heap.size+1) 0)=some (iv s.1):=cellB HX.out.qn 0
  have g1:=frozenB HX.out.qn 0
  have l2:w.heap.size+2<X.heap.size:=by omega
  have l1:w.heap.size+1<X.heap.size:=by omega
  have l3:w.heap.size+3<X.heap.size:=by omega
  cases hx:(x==-1)
  ·have HR:Hid (M.walkS s (M.leavesOf l i)=(s.1+1,s.2&&x==s.1)):=by rw[Hid,hlL hx];rfl
   clear IH hbk hlL hlN hmany
   obtain⟨nx,fi⟩:=s
   simp only at hs0 hs1 z1 z2 HR HX
   have h2p:1≤2 ^ i:=Nat.one_le_two_pow
   generalize 2 ^ i=pw at *
   have HQ:Hid (∀ u v,Rest (w.heap.size+4) W ((X.setCell (qa (w.heap.size+2) 0) u).setCell (qa (w.heap.size+1) 0) v)):=fun u v=>(HR0.out.set _ _ _ (by omega)).set _ _ _ (by omega)
   have HE:Hid (∀ v,WI w ((X.setCell (qa (w.heap.size+2) 0) (.bool v)).setCell (qa (w.heap.size+1) 0) (iv (nx+1))) (sv (some (qa b off)) l.length c) (nx+1,v)):=fun v=>(HX.out.setF v).setN (nx+1)
   cases fi
   ·go_wp2_with fail
    refine bodyPost_end (v:=.tuple #[]) (by simp[results,Tryz.results93,go_sem]) rfl ?_
    exact⟨rfl,by rw[HR.out];exact HE.out _,HQ.out _ _⟩
   ·go_wp2_with fail
    refine bodyPost_end (v:=.tuple #[]) (by simp[results,Tryz.results93,go_sem]) rfl ?_
    exact⟨rfl,by rw[HR.out];exact HE.out _,HQ.out _ _⟩
  ·obtain⟨⟨hy0,hy1⟩,hz0',hz1'⟩:=hbk hx
   obtain⟨p,rfl⟩:∃ p:Nat,y=(p:Int):=⟨y.toNat,by omega⟩
   obtain⟨q,rfl⟩:∃ q:Nat,z=(q:Int):=⟨z.toNat,by omega⟩
   have HN:=hlN hx
   simp only[Int.toNat_natCast] at HN
   have hmp:=hmany p (by omega)
   have hmq:=hmany q (by omega)
   obtain⟨j,rfl⟩:∃ j,i=j+1:=⟨i - 1,by omega⟩
   have hpw:2 ^ p≤2 ^ j:=Nat.pow_le_pow_right (by decide) (by omega)
   have hqw:2 ^ q≤2 ^ j:=Nat.pow_le_pow_right (by decide) (by omega)
   rw[Nat.pow_succ] at hs1
   have hfst:=M.walk_fst (M.leavesOf l p) s
   have K1:Hid (Calls Tryz.prog 93 #[iv p,qv w.heap.size 0,qv (w.heap.size+3) 0,qv (w.heap.size+2) 0,qv (w.heap.size+1) 0] X fun e w'=>e=.returned (.tuple #[])∧WI w w' (sv (some (qa b off)) l.length c) (M.walkS s (M.leavesOf l p))∧Rest (w.heap.size+4) X w'):=IH p (by omega) (by omega) X s HX.out hs0 (by omega)
   have K2:Hid (∀ X',WI w X' (sv (some (qa b off)) l.length c) (M.walkS s (M.leavesOf l p))→Calls Tryz.prog 93 #[iv q,qv w.heap.size 0,qv (w.heap.size+3) 0,qv (w.heap.size+2) 0,qv (w.heap.size+1) 0] X' fun e w'=>e=.returned (.tuple #[])∧WI w w' (sv (some (qa b off)) l.length c) (M.walkS (M.walkS s (M.leavesOf l p)) (M.leavesOf l q))∧Rest (w.heap.size+4) X' w'):=fun X' hX'=>IH q (by omega) (by omega) X' _ hX' (by omega) (by omega)
   have HR:Hid (M.walkS s (M.leavesOf l (j+1))=M.walkS (M.walkS s (M.leavesOf l p)) (M.leavesOf l q)):=by rw[Hid,HN,M.walk_append]
   have c1:=cellC p1 1 rfl
   have z3:X.cell? (qa (w.heap.size+3) 0)=some (.func (.func 93) #[] #[qv w.heap.size 0,qv (w.heap.size+3) 0,qv (w.heap.size+2) 0,qv (w.heap.size+1) 0]):=cellB HX.out.qw 0
   clear IH hbk hlL hlN hmany HN hmp hmq hfst z1 z2 g1 g2 HX
   generalize M.walkS s (M.leavesOf l p)=s1 at *
   go_upto_region 3 with (go_at_call 93;refine K1.out.mono ?_;rintro e Y ⟨rfl,hY,hRY⟩)
   have HY:Hid (WI w Y (sv (some (qa b off)) l.length c) s1):=hY
   have p2:=(hRY.keep nb (by omega) hlX).trans p1
   have hsY:=hRY.size
   have HRY:Hid (Rest (w.heap.size+4) W Y):=HR0.out.trans hRY
   have KK:=K2.out Y hY
   have KK:Hid (Calls Tryz.prog 93 #[iv q,qv w.heap.size 0,qv (w.heap.size+3) 0,qv (w.heap.size+2) 0,qv (w.heap.size+1) 0] Y fun e w'=>e=.returned (.tuple #[])∧WI w w' (sv (some (qa b off)) l.length c) (M.walkS s1 (M.leavesOf l q))∧Rest (w.heap.size+4) Y w'):=KK
   clear K1 K2 hY hRY c0 c1 z3 HR0
   have c2:=cellC p2 2 rfl
   have z3:Y.cell? (qa (w.heap.size+3) 0)=some (.func (.func 93) #[] #[qv w.heap.size 0,qv (w.heap.size+3) 0,qv (w.heap.size+2) 0,qv (w.heap.size+1) 0]):=cellB HY.out.qw 0
   have m1:nb<Y.heap.size:=by omega
   have m2:w.heap.size+3<Y.heap.size:=by omega
   go_wp2_with (go_at_call 93;refine KK.out.mono ?_;rintro e Z ⟨rfl,hZ,hRZ⟩)
   refine bodyPost_ret (v:=.tuple #[]) (by simp[results,Tryz.results93,go_sem]) rfl ?_
   exact⟨rfl,by rw[HR.out];exact hZ,HRY.out.trans hRZ⟩
set_option maxHeartbeats 2000000 in
set_option maxRecDepth 100000 in
theorem inOrder_any (l:List M.Nd) (parts:Int) (a:Option Addr) (c:Nat) (w:World) (hn:NodesAt w (sv a l.length c) l) (h23:l.length≤23) (h0:0<l.length) (hbe:Behind l) :
  Calls Tryz.prog 71 #[sv a l.length c,iv parts] w fun e w'=>e=.returned (.bool (M.inOrder l parts))∧Below w.heap.size w w':=by
 obtain⟨m,hm⟩:∃ m:Nat,l.length=m+1:=⟨l.length - 1,by omega⟩
 have Hm:Hid (l.length=m+1):=hm
 have hms:((l.length:Int) - 1)=(m:Int):=by omega
 have HR:Hid (M.inOrder l parts=((M.walkS (0,true) (M.leavesOf l m)).2&&(M.walkS (0,true) (M.leavesOf l m)).1==parts)):=by rw[Hid,M.inOrder,show l.length - 1=m by omega]
 have hpw:2 ^ m≤2 ^ 23:=Nat.pow_le_pow_right (by decide) (by omega)
 have hpw2:(2:Nat) ^ 23=8388608:=by decide
 have KW:Hid (∀ W,WI w W (sv a l.length c) (0,true)→Calls Tryz.prog 93 #[iv m,qv w.heap.size 0,qv (w.heap.size+3) 0,qv (w.heap.size+2) 0,qv (w.heap.size+1) 0] W fun e w'=>e=.returned (.tuple #[])∧WI w w' (sv a l.length c) (M.walkS (0,true) (M.leavesOf l m))∧Rest (w.heap.size+4) W w'):=fun W hW=>walk_any l a c w hn hbe (m+1) m (Nat.lt_succ_self _) (by omega) W (0,true) hW (Int.le_refl _) (by show (0:Int)+_≤_;omega)
 have hlm:l.length≤maxLen:=hn.small
 clear hm hn hbe hpw hpw2
 generalize M.walkS (0,true) (M.leavesOf l m)=s at *
 go_enter Tryz.func71,Tryz.ntmps71
 go_upto_region 4 with fail
 rw[show w.heap.size+1+1+1=w.heap.size+3 from rfl,show w.heap.size+1+1=w.heap.size+2 from rfl]
 have HI:Hid (WI w ((((w.alloc (.cells #[sv a l.length c] 23)).alloc (.cells #[iv 0] 3)).alloc (.cells #[.bool true] 4)).alloc (.cells #[.func (.func 93) #[] #[qv w.heap.size 0,qv (w.heap.size+3) 0,qv (w.heap.size+2) 0,qv (w.heap.size+1) 0]] 136)) (sv a l.length c) (0,true)):=by
  refine⟨?_,?_,?_,?_,?_⟩
  ·exact (heap_alloc_old _ _ (by simp;omega)).trans ((heap_alloc_old _ _ (by simp;omega)).trans ((heap_alloc_old _ _ (by simp)).trans (heap_alloc_new _ _)))
  ·refine (heap_alloc_old _ _ (by simp)).trans ((heap_alloc_old _ _ (by simp)).trans ?_)
   have:=heap_alloc_new (w.alloc (.cells #[sv a l.length c] 23)) (.cells #[iv 0] 3)
   simpa using this
  ·refine (heap_alloc_old _ _ (by simp)).trans ?_
   have:=heap_alloc_new ((w.alloc (.cells #[sv a l.length c] 23)).alloc (.cells #[iv 0] 3)) (.cells #[.bool true] 4)
   simpa using this
  ·have:=heap_alloc_new (((w.alloc (.cells #[sv a l.length c] 23)).alloc (.cells #[iv 0] 3)).alloc (.cells #[.bool true] 4)) (.cells #[.func (.func 93) #[] #[qv w.heap.size 0,qv (w.heap.size+3) 0,qv (w.heap.size+2) 0,qv (w.heap.size+1) 0]] 136)
   simpa using this
  ·exact ((((Below.refl _ _).alloc (Nat.le_refl _) _).alloc (by simp) _).alloc (by simp;omega) _).alloc (by simp;omega) _
 generalize (((w.alloc (.cells #[sv a l.length c] 23)).alloc (.cells #[iv 0] 3)).alloc (.cells #[.bool true] 4)).alloc (.cells #[.func (.func 93) #[] #[qv w.heap.size 0,qv (w.heap.size+3) 0,qv (w.heap.size+2) 0,qv (w.heap.size+1) 0]] 136)=W at *
 have KK:Hid (Calls Tryz.prog 93 #[iv m,qv w.heap.size 0,qv (w.heap.size+3) 0,qv (w.heap.size+2) 0,qv (w.heap.size+1) 0] W fun e w'=>e=.returned (.tuple #[])∧WI w w' (sv a l.length c) s∧Rest (w.heap.size+4) W w'):=KW.out W HI.out
 clear KW
 have z3:W.cell? (qa (w.heap.size+3) 0)=some (.func (.func 93) #[] #[qv w.heap.size 0,qv (w.heap.size+3) 0,qv (w.heap.size+2) 0,qv (w.heap.size+1) 0]):=cellB HI.out.qw 0
 have z0:W.cell? (qa w.heap.size 0)=some (sv a l.length c):=cellB HI.out.ql 0
 have hl3:=lt1 HI.out.qw
 have hl0:w.heap.size<W.heap.size:=by omega
 go_upto_region 5 with (go_at_call 93;(try rw[hms]);refine KK.out.mono ?_;rintro e Y ⟨rfl,hY,hRY⟩)
 have HY:Hid (WI w Y (sv a l.length c) s):=hY
 clear hY hRY KK HI z3 z0 hl3 hl0
 have z1:Y.cell? (qa (w.heap.size+1) 0)=some (iv s.1):=cellB HY.out.qn 0
 have z2:Y.cell? (qa (w.heap.size+2) 0)=some (.bool s.2):=cellB HY.out.qf 0
 have hl2:=lt1 HY.out.qf
 have hl1:w.heap.size+1<Y.heap.size:=by omega
 have HB:Hid (Below w.heap.size w Y):=HY.out.below
 clear HY
 obtain⟨nx,fi⟩:=s
 simp only at z1 z2 HR
 cases fi
 ·go_wp2
  go_ret
  exact⟨ret_bool (by rw[HR.out];rfl),HB.out⟩
 ·go_wp2
  go_ret
  exact⟨ret_bool (by rw[HR.out];rfl),HB.out⟩
end Go.Proofs.YtebippbakbihiaaGreatDoor
namespace Go.Proofs.YtebippbakbihiaaGreatDoor
open Go Go.RowKit
set_option linter.unusedVariables false
theorem fitsFrom_step (parts:Int) (l:List M.Nd) (k:Nat) (h:k<l.length):M.fitsFrom parts k (l.drop k)=(M.fits (l.getD k M.nd0) k parts&&M.fitsFrom parts ((k+1:Nat):Int) (l.drop (k+1))):=by
 rw[drop_getD l M.nd0 k h];rfl
set_option maxHeartbeats 4000000 in
set_option maxRecDepth 100000 in
theorem planCheck_any (l:List M.Nd) (parts:Int) (a:Option Addr) (c:Nat) (w:World) (hn:NodesAt w (sv a l.length c) l) :
  Calls Tryz.prog 29 #[sv a l.length c,iv parts] w fun e w'=>e=.returned (iv (M.checkPlan l parts))∧Below w.heap.size w w':=by
 have hlm:l.length≤maxLen:=hn.small
 have KF:Hid (Calls Tryz.prog 59 #[iv parts] w fun e w'=>e=.returned (.bool (M.fewParts parts))∧w=w'):=(fewParts_any parts w).mono fun e w' ⟨h1,h2⟩=>⟨h1,h2.symm⟩
 have HX:Hid (M.checkPlan l parts=if M.fewParts parts=false then 3 else if 23<l.length then 2 else if l.length=0 then 4 else if M.fitsFrom parts 0 l=false then 3 else if M.isTree l=true∧M.inOrder l parts=true then 0 else 4):=rfl
 generalize M.checkPlan l parts=R at *
 cases hp:M.fewParts parts
 ·have HR:Hid (R=3):=by rw[Hid,HX.out,if_pos hp]
  rw[hp] at KF
  go_enter Tryz.func29,Tryz.ntmps29
  go_wp2_with (go_at_call 59;refine KF.out.mono ?_;rintro e w1 ⟨rfl,rfl⟩)
  go_ret
  exact⟨ret_int HR.out.symm,Below.refl _ _⟩
 rw[hp] at KF
 have HX:=HX.out
 rw[if_neg (by rw[hp];simp)] at HX
 by_cases h23:23<l.length
 ·have HR:Hid (R=2):=by rw[Hid,HX,if_pos h23]
  have h23':(23:Int)<(l.length:Int):=by omega
  clear HX h23
  go_enter Tryz.func29,Tryz.ntmps29
  go_wp2_with (go_at_call 59;refine KF.out.mono ?_;rintro e w1 ⟨rfl,rfl⟩)
  go_ret
  exact⟨ret_int HR.out.symm,Below.refl _ _⟩
 rw[if_neg h23] at HX
 have h23':¬ ((23:Int)<(l.length:Int)):=by omega
 by_cases h0:l.length=0
 ·have HR:Hid (R=4):=by rw[Hid,HX,if_pos h0]
  have h0':((l.length:Int)==0)=true:=by rw[beq_iff_eq];omega
  clear HX h0
  generalize l.length=n at *
  go_enter Tryz.func29,Tryz.ntmps29
  go_wp2_with (go_at_call 59;refine KF.out.mono ?_;rintro e w1 ⟨rfl,rfl⟩)
  go_ret
  exact⟨ret_int HR.out.symm,Below.refl _ _⟩
 rw[if_neg h0] at HX
 have h0':((l.length:Int)==0)=false:=by rw[beq_eq_false_iff_ne];omega
 have HX:Hid (R=if M.fitsFrom parts 0 l=false then 3 else if M.isTree l=true∧M.inOrder l parts=true then 0 else 4):=HX
 have HK:Hid (∀ W,Below w.heap.size w W→NodesAt W (sv a l.length c) l):=fun W hW=>hn.later hW
 have Hn:Hid (0<l.length∧l.length≤23):=⟨by omega,by omega⟩
 clear h0 h23 hn
 go_enter Tryz.func29,Tryz.ntmps29
 go_wp2_with (go_at_call 59;refine KF.out.mono ?_;rintro e w1 ⟨rfl,rfl⟩)
 go_loopw [21] (fun s21 wr=>∃ (k:Nat),k≤l.length∧s21=iv k∧Hid (M.fitsFrom parts 0 l=M.fitsFrom parts k (l.drop k))∧Hid (Below w.heap.size w wr)) (fun s21 _=>l.length - (intOf s21).toNat)
 case atStart=>exact⟨0,Nat.zero_le _,rfl,rfl,Below.refl _ _⟩
 case round =>
  obtain⟨k,hk,rfl,HF,HB⟩:=hrel
  have hw0:w.heap.size≤wr.heap.size:=HB.out.size
  by_cases hlt:k<l.length
  ·obtain⟨b,off,rfl,e0,e1,e2⟩:=(HK.out wr HB.out).cells k hlt
   have HF1:Hid (M.fitsFrom parts 0 l=(M.fits (l.getD k M.nd0) k parts&&M.fitsFrom parts ((k+1:Nat):Int) (l.drop (k+1)))):=by rw[Hid,HF.out,fitsFrom_step parts l k hlt]
   have hkl:(k:Int)<(l.length:Int):=by omega
   have hbr:b<wr.heap.size:=World.block_lt_of_cell? _ _ e0
   have hk23:(k:Int)<23:=by have:=Hn.out;omega
   clear HF
   generalize l.getD k M.nd0=n at *
   obtain⟨x,y,z⟩:=n
   simp only at e0 e1 e2
   have KT:Hid (Calls Tryz.prog 69 #[.agg #[iv x,iv y,iv z],iv k,iv parts] (wr.alloc (.cells #[iv x,iv y,iv z] 75)) fun e w'=>e=.returned (.bool (M.fits ⟨x,y,z⟩ k parts))∧Below (wr.alloc (.cells #[iv x,iv y,iv z] 75)).heap.size (wr.alloc (.cells #[iv x,iv y,iv z] 75)) w'):=fits_any x y z k parts _
   have HBA:Hid (Below w.heap.size w (wr.alloc (.cells #[iv x,iv y,iv z] 75))):=HB.out.alloc hw0 _
   cases hft:M.fits ⟨x,y,z⟩ k parts
   ·have HR:Hid (R=3):=by rw[Hid,HX.out,HF1.out,hft];rfl
    rw[hft] at KT
    go_wp2_with (go_at_call 69;refine KT.out.mono ?_;rintro e w1 ⟨rfl,hb1⟩)
    go_ret
    exact⟨ret_int HR.out.symm,HBA.out.trans (hb1.mono HBA.out.size)⟩
   ·have HF2:Hid (M.fitsFrom parts 0 l=M.fitsFrom parts ((k+1:Nat):Int) (l.drop (k+1))):=by rw[Hid,HF1.out,hft];rfl
    rw[hft] at KT
    clear HF1
    go_wp2_with (go_at_call 69;refine KT.out.mono ?_;rintro e w1 ⟨rfl,hb1⟩)
    go_roundw
    case rel=>exact⟨k+1,by omega,by go_num,HF2,HBA.out.trans (hb1.mono HBA.out.size)⟩
    case measure=>simp[intOf];omega
  ·have hkl:k=l.length:=by omega
   have HF1:Hid (M.fitsFrom parts 0 l=true):=by
    rw[Hid,HF.out,hkl,List.drop_eq_nil_of_le (Nat.le_refl _)];rfl
   have hbe:Behind l:=behind_of HF1.out
   have HX2:Hid (R=if M.isTree l=true∧M.inOrder l parts=true then 0 else 4):=by rw[Hid,HX.out,if_neg (by rw[HF1.out];simp)]
   have KT:Hid (Calls Tryz.prog 70 #[sv a l.length c] wr fun e w'=>e=.returned (.bool (M.isTree l))∧Below wr.heap.size wr w'):=isTree_any l a c wr (HK.out wr HB.out) Hn.out.2 Hn.out.1 hbe
   have KO:Hid (∀ W,Below wr.heap.size wr W→Calls Tryz.prog 71 #[sv a l.length c,iv parts] W fun e w'=>e=.returned (.bool (M.inOrder l parts))∧Below W.heap.size W w'):=fun W hW=>inOrder_any l parts a c W ((HK.out wr HB.out).later hW) Hn.out.2 Hn.out.1 hbe
   clear HF HX hbe
   subst hkl
   cases ht:M.isTree l
   ·have HR:Hid (R=4):=by rw[Hid,HX2.out,ht];simp
    rw[ht] at KT
    go_wp2_with (go_at_call 70;refine KT.out.mono ?_;rintro e w1 ⟨rfl,hb1⟩)
    go_ret
    exact⟨ret_int HR.out.symm,HB.out.trans (hb1.mono hw0)⟩
   ·rw[ht] at KT
    cases ho:M.inOrder l parts
    ·have HR:Hid (R=4):=by rw[Hid,HX2.out,ho];simp
     rw[ho] at KO
     go_wp2_with (first | (go_at_call 70;refine KT.out.mono ?_;rintro e w1 ⟨rfl,hb1⟩) | (go_at_call 71;refine (KO.out _ hb1).mono ?_;rintro e w2 ⟨rfl,hb2⟩))
     go_ret
     exact⟨ret_int HR.out.symm,HB.out.trans ((hb1.trans (hb2.mono hb1.size)).mono hw0)⟩
    ·have HR:Hid (R=0):=by rw[Hid,HX2.out,ht,ho];simp
     rw[ho] at KO
     go_wp2_with (first | (go_at_call 70;refine KT.out.mono ?_;rintro e w1 ⟨rfl,hb1⟩) | (go_at_call 71;refine (KO.out _ hb1).mono ?_;rintro e w2 ⟨rfl,hb2⟩))
     go_ret
     exact⟨ret_int HR.out.symm,HB.out.trans ((hb1.trans (hb2.mono hb1.size)).mono hw0)⟩
end Go.Proofs.YtebippbakbihiaaGreatDoor
