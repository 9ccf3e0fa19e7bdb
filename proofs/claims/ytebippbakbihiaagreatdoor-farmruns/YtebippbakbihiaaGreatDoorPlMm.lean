/-
  Integers in a row of memory. Plans in memory; the contracts of plan's small functions: fewParts, fits. The contract of plan.isTree.
-/
import Derived.Test.YtebippbakbihiaaGreatDoorMemA
import Derived.Test.YtebippbakbihiaaGreatDoorPlMa
import Derived.Lib.Hide
import Derived.Deep.DeepCutAuto
namespace Go.Proofs.YtebippbakbihiaaGreatDoor
open Go Go.RowKit
set_option linter.unusedVariables false
def IntsAt (w:World) (v:Value) (l:List Int):Prop:=SlAt w v 1 l.length (fun j _=>iv (l.getD j 0))
theorem IntsAt.later {w w':World} {v:Value} {l:List Int} (h:IntsAt w v l) (hb:Below w.heap.size w w'):IntsAt w' v l:=SlAt.later h hb
theorem flat_one:∀ l:List Int,(l.flatMap fun x=>[iv x])=l.map (Value.int .i64)
 | []=>rfl
 | x :: l=>by rw[List.flatMap_cons,flat_one l];rfl
theorem row_ints {w:World} {B:Nat} {v:Value} {l:List Int} (h:w.ownsRow B 3 1 v l.length (l.map (Value.int .i64))):IntsAt w v l:=by
 have h':w.ownsRow B 3 1 v l.length (l.flatMap fun x=>[iv x]):=by
  rwa [flat_one l]
 refine (row_slice (k:=1) (0:Int) (fun x=>[iv x]) (fun _=>rfl) l h').congr' (fun j i hj hi=>?_)
 obtain rfl:i=0:=by omega
 rfl
theorem IntsAt.cell {w:World} {a:Option Addr} {c:Nat} {l:List Int} (h:IntsAt w (sv a l.length c) l) (k:Nat) (hk:k<l.length) :
  ∃ b off,a=some (qa b off)∧w.cell? (qa b (off+k))=some (iv (l.getD k 0))∧b<w.heap.size:=by
 obtain⟨b,off,e,hc⟩:=SlAt.at h k hk
 have:=hc 0 (by omega)
 rw[Nat.mul_one,Nat.add_zero] at this
 exact⟨b,off,e,this,World.block_lt_of_cell? _ _ this⟩
theorem ints_nil (w:World):IntsAt w (sv none 0 0) []:=⟨none,0,rfl,Nat.zero_le _,.inl rfl⟩
def ndCell (n:M.Nd):Nat→Value
 | 0=>iv n.leaf
 | 1=>iv n.left
 | _=>iv n.right
def NodesAt (w:World) (v:Value) (l:List M.Nd):Prop:=SlAt w v 3 l.length (fun j i=>ndCell (l.getD j M.nd0) i)
theorem NodesAt.later {w w':World} {v:Value} {l:List M.Nd} (h:NodesAt w v l) (hb:Below w.heap.size w w'):NodesAt w' v l:=SlAt.later h hb
theorem NodesAt.cells {w:World} {a:Option Addr} {c:Nat} {l:List M.Nd} (h:NodesAt w (sv a l.length c) l) (k:Nat) (hk:k<l.length) :
  ∃ b off,a=some (qa b off)∧w.cell? (qa b (off+k*3))=some (iv (l.getD k M.nd0).leaf)∧w.cell? (qa b (off+k*3+1))=some (iv (l.getD k M.nd0).left)∧w.cell? (qa b (off+k*3+2))=some (iv (l.getD k M.nd0).right):=by
 obtain⟨b,off,rfl,hc⟩:=SlAt.at h k hk
 exact⟨b,off,rfl,hc 0 (by decide),hc 1 (by decide),hc 2 (by decide)⟩
theorem NodesAt.small {w:World} {a:Option Addr} {c:Nat} {l:List M.Nd} (h:NodesAt w (sv a l.length c) l):l.length≤maxLen:=by
 obtain⟨_,_,_,h⟩:=SlAt.form h
 exact h
def BoolsAt (w:World) (v:Value) (l:List Bool):Prop:=SlAt w v 1 l.length (fun j _=>.bool (l.getD j false))
theorem BoolsAt.later {w w':World} {v:Value} {l:List Bool} (h:BoolsAt w v l) (hb:Below w.heap.size w w'):BoolsAt w' v l:=SlAt.later h hb
theorem BoolsAt.cell {w:World} {a:Option Addr} {c:Nat} {l:List Bool} (h:BoolsAt w (sv a l.length c) l) (k:Nat) (hk:k<l.length) :
  ∃ b off,a=some (qa b off)∧w.cell? (qa b (off+k))=some (.bool (l.getD k false))∧b<w.heap.size:=by
 obtain⟨b,off,e,hc⟩:=SlAt.at h k hk
 have:=hc 0 (by omega)
 rw[Nat.mul_one,Nat.add_zero] at this
 exact⟨b,off,e,this,World.block_lt_of_cell? _ _ this⟩
theorem fewParts_any (n:Int) (w:World) :
  Calls Tryz.prog 59 #[iv n] w fun e w'=>e=.returned (.bool (M.fewParts n))∧w'=w:=by
 by_cases h1:1≤n <;> by_cases h2:n≤12
 all_goals
  go_enter Tryz.func59,Tryz.ntmps59
  go_wp2
  go_ret
  exact⟨ret_bool (by simp[M.fewParts,h1,h2]),rfl⟩
theorem ahead_any (k i:Int) (b:Nat) (w:World) (hc:w.cell? (qa b 0)=some (iv i)) :
  Calls Tryz.prog 92 #[iv k,qv b 0] w fun e w'=>e=.returned (.bool (M.ahead k i))∧w'=w:=by
 have hb:b<w.heap.size:=World.block_lt_of_cell? _ _ hc
 by_cases h1:0≤k
 ·by_cases h2:k<i
  all_goals
   go_enter Tryz.func92,Tryz.ntmps92
   go_wp2
   go_ret
   exact⟨ret_bool (by simp[M.ahead,h1,h2]),rfl⟩
 ·have HR:Hid (M.ahead k i=false):=by simp[Hid,M.ahead,h1]
  go_enter Tryz.func92,Tryz.ntmps92
  go_wp2
  go_ret
  exact⟨ret_bool HR.out.symm,rfl⟩
set_option maxHeartbeats 1000000 in
set_option maxRecDepth 100000 in
theorem fits_any (x y z i parts:Int) (w:World) :
  Calls Tryz.prog 69 #[.agg #[iv x,iv y,iv z],iv i,iv parts] w fun e w'=>e=.returned (.bool (M.fits ⟨x,y,z⟩ i parts))∧Below w.heap.size w w':=by
 have HB:Hid (∀ o o',Below w.heap.size w ((w.alloc o).alloc o')):=fun o o'=>((Below.refl _ _).alloc (Nat.le_refl _) _).alloc (by simp) _
 have KA:Hid (∀ k o,Calls Tryz.prog 92 #[iv k,qv (w.heap.size+1) 0] ((w.alloc o).alloc (.cells #[iv i] 3)) fun e w'=>e=.returned (.bool (M.ahead k i))∧((w.alloc o).alloc (.cells #[iv i] 3))=w'):=fun k o=>by
  refine (ahead_any k i (w.heap.size+1) _ ?_).mono fun e w' ⟨h1,h2⟩=>⟨h1,h2.symm⟩
  have h:=heap_alloc2_new w o (.cells #[iv i] 3)
  exact cellB h 0
 cases hx:(x==-1)
 ·have HF:Hid (M.fits ⟨x,y,z⟩ i parts=(decide (0≤x)&&decide (x<parts)&&y==0&&z==0)):=by
   simp only[Hid,M.fits,hx,cond_false]
  generalize M.fits ⟨x,y,z⟩ i parts=R at *
  by_cases h1:0≤x
  ·by_cases h2:x<parts
   ·cases h3:(y==0)
    ·have HR:Hid (R=false):=by rw[Hid,HF.out,h3];simp
     go_enter Tryz.func69,Tryz.ntmps69
     go_wp2
     go_ret
     exact⟨ret_bool HR.out.symm,HB.out _ _⟩
    ·have HR:Hid (R=(z==0)):=by rw[Hid,HF.out,h3];simp[h1,h2]
     go_enter Tryz.func69,Tryz.ntmps69
     go_wp2
     go_ret
     exact⟨ret_bool HR.out.symm,HB.out _ _⟩
   ·have HR:Hid (R=false):=by rw[Hid,HF.out];simp[h2]
    go_enter Tryz.func69,Tryz.ntmps69
    go_wp2
    go_ret
    exact⟨ret_bool HR.out.symm,HB.out _ _⟩
  ·have HR:Hid (R=false):=by rw[Hid,HF.out];simp[h1]
   go_enter Tryz.func69,Tryz.ntmps69
   go_wp2
   go_ret
   exact⟨ret_bool HR.out.symm,HB.out _ _⟩
 ·have HF:Hid (M.fits ⟨x,y,z⟩ i parts=(M.ahead y i&&M.ahead z i)):=by
   simp only[Hid,M.fits,hx,cond_true]
  generalize M.fits ⟨x,y,z⟩ i parts=R at *
  have K1:Hid (∀ o,Calls Tryz.prog 92 #[iv y,qv (w.heap.size+1) 0] ((w.alloc o).alloc (.cells #[iv i] 3)) fun e w'=>e=.returned (.bool (M.ahead y i))∧((w.alloc o).alloc (.cells #[iv i] 3))=w'):=fun o=>KA.out y o
  have K2:Hid (∀ o,Calls Tryz.prog 92 #[iv z,qv (w.heap.size+1) 0] ((w.alloc o).alloc (.cells #[iv i] 3)) fun e w'=>e=.returned (.bool (M.ahead z i))∧((w.alloc o).alloc (.cells #[iv i] 3))=w'):=fun o=>KA.out z o
  clear K1 K2
  cases h1:M.ahead y i
  ·have HR:Hid (R=false):=by rw[Hid,HF.out,h1];rfl
   go_enter Tryz.func69,Tryz.ntmps69
   go_wp2_with (go_at_call 92;refine (KA.out _ _).mono ?_;rintro e w1 ⟨rfl,rfl⟩)
   go_ret
   exact⟨ret_bool (by rw[HR.out]),HB.out _ _⟩
  ·have HR:Hid (R=M.ahead z i):=by rw[Hid,HF.out,h1];rfl
   go_enter Tryz.func69,Tryz.ntmps69
   go_wp2_with (go_at_call 92;refine (KA.out _ _).mono ?_;rintro e w1 ⟨rfl,rfl⟩)
   go_ret
   exact⟨ret_bool (by rw[HR.out]),HB.out _ _⟩
structure NumsF (C:Array Value) (n:Nat) (f:Nat→Int):Prop where
 size:C.size=n
 at':∀ i,i<n→C[i]?=some (iv (f i))
theorem NumsF.set {C:Array Value} {n:Nat} {f g:Nat→Int} (h:NumsF C n f) (p:Nat) (x:Int) (hp:p<n) (hg:∀ i,g i=if p=i then x else f i):NumsF (C.setIfInBounds p (iv x)) n g:=by
 refine⟨by simp[h.size],fun i hi=>?_⟩
 rw[Array.getElem?_setIfInBounds,hg i]
 by_cases e:p=i
 ·subst e
  rw[if_pos rfl,if_pos (by rw[h.size];exact hp),if_pos rfl]
 ·rw[if_neg e,if_neg e,h.at' i hi]
theorem NumsF.zero (n:Nat):NumsF (Array.replicate n (iv 0)) n (fun _=>0):=⟨by simp,fun i hi=>by simp[hi]⟩
theorem above_take (l:List M.Nd) (k i:Nat) (h:k<l.length):M.above (l.take (k+1)) i=M.above (l.take k) i+M.aboveOne (l.getD k M.nd0) i:=by
 have app:∀ (a:List M.Nd) (n:M.Nd),M.above (a ++ [n]) i=M.above a i+M.aboveOne n i:=by
  intro a n
  induction a with
  | nil=>simp[M.above]
  | cons x a ih=>simp only[List.cons_append,M.above,ih];omega
 rw[List.take_succ_eq_append_getElem h,app,List.getD_eq_getElem?_getD,List.getElem?_eq_getElem h]
 rfl
theorem eqN_bound (a:Int) (i:Nat):0≤M.eqN a i∧M.eqN a i≤1:=by
 unfold M.eqN
 cases (a==(i:Int)) <;> simp
theorem above_bound (l:List M.Nd) (i:Nat):0≤M.above l i∧M.above l i≤2*l.length:=by
 induction l with
 | nil=>simp[M.above]
 | cons n l ih =>
  have h1:=eqN_bound n.left i
  have h2:=eqN_bound n.right i
  simp only[M.above,M.aboveOne,List.length_cons]
  cases (n.leaf==-1)
  ·simp only[cond_false];omega
  ·simp only[cond_true];omega
def Behind (l:List M.Nd):Prop:=∀ k,k<l.length→((l.getD k M.nd0).leaf==-1)=true→(0≤(l.getD k M.nd0).left∧(l.getD k M.nd0).left<k)∧(0≤(l.getD k M.nd0).right∧(l.getD k M.nd0).right<k)
theorem fits_at (parts:Int):∀ (l:List M.Nd) (i:Int) (k:Nat),M.fitsFrom parts i l=true→k<l.length→M.fits (l.getD k M.nd0) (i+k) parts=true
 | [],_,_,_,h=>by simp at h
 | n :: l,i,0,h,_=>by
  simp only[M.fitsFrom,Bool.and_eq_true] at h
  simpa using h.1
 | n :: l,i,k+1,h,hk=>by
  simp only[M.fitsFrom,Bool.and_eq_true] at h
  have:=fits_at parts l (i+1) k h.2 (by simpa using hk)
  rw[List.getD_cons_succ]
  rw[show i+((k+1:Nat):Int)=i+1+(k:Int) by omega]
  exact this
theorem behind_of {parts:Int} {l:List M.Nd} (h:M.fitsFrom parts 0 l=true):Behind l:=fun k hk he=>by
 have:=fits_at parts l 0 k h hk
 unfold M.fits at this
 rw[he] at this
 simp only[cond_true,M.ahead,Bool.and_eq_true,decide_eq_true_eq] at this
 omega
def isTreeUpto (l:List M.Nd) (k:Nat):Bool:=(List.range k).all fun i=>M.above l i==1
theorem treeUpto_step (l:List M.Nd) (k:Nat):isTreeUpto l (k+1)=(isTreeUpto l k&&M.above l k==1):=by
 simp[isTreeUpto,List.range_succ]
theorem tree_no {l:List M.Nd} {k:Nat} (hk:k<l.length - 1) (h:(M.above l k==1)=false):M.isTree l=false:=by
 unfold M.isTree
 rw[List.all_eq_false]
 exact⟨k,List.mem_range.2 hk,by simp[h]⟩
set_option maxHeartbeats 4000000 in
set_option maxRecDepth 100000 in
theorem isTree_any (l:List M.Nd) (a:Option Addr) (c:Nat) (w:World) (hn:NodesAt w (sv a l.length c) l) (h23:l.length≤23) (h0:0<l.length) (hbe:Behind l) :
  Calls Tryz.prog 70 #[sv a l.length c] w fun e w'=>e=.returned (.bool (M.isTree l))∧Below w.heap.size w w':=by
 go_enter Tryz.func70,Tryz.ntmps70
 go_wp2_with fail
 go_loopw [9] (fun s9 wr=>∃ (k:Nat) (C:Array Value),k≤l.length∧s9=iv k∧Hid (NumsF C 23 (M.above (l.take k)))∧wr.heap[w.heap.size]?=some (.cells C 135 (0,0))∧Hid (Below w.heap.size w wr)) (fun s9 _=>l.length - (intOf s9).toNat)
 case atStart=>exact⟨0,_,Nat.zero_le _,rfl,NumsF.zero 23,heap_alloc_new _ _,(Below.refl _ _).alloc (Nat.le_refl _) _⟩
 case round =>
  obtain⟨k,C,hk,rfl,HC,q0,HB⟩:=hrel
  have hl0:=lt1 q0
  have hw0:w.heap.size≤wr.heap.size:=HB.out.size
  by_cases hlt:k<l.length
  ·obtain⟨b,off,rfl,e0,e1,e2⟩:=(hn.later HB.out).cells k hlt
   have HS:Hid (∀ i,M.above (l.take (k+1)) i=M.above (l.take k) i+M.aboveOne (l.getD k M.nd0) i):=fun i=>above_take l k i hlt
   have HA:Hid (∀ i,0≤M.above (l.take k) i∧M.above (l.take k) i≤46):=fun i=>by
    have h1:=above_bound (l.take k) i
    have h2:(l.take k).length≤23:=by simp;omega
    omega
   have hbk:=hbe k hlt
   have hbr:b<wr.heap.size:=World.block_lt_of_cell? _ _ e0
   have hkl:(k:Int)<(l.length:Int):=by omega
   have hk23:k<23:=by omega
   have HX:Hid (∀ f,(∀ i,f i=M.above (l.take k) i+M.aboveOne (l.getD k M.nd0) i)→f=M.above (l.take (k+1))):=fun f hf=>by
    funext i
    rw[hf i,HS.out i]
   clear HS hn
   generalize l.getD k M.nd0=n at *
   obtain⟨x,y,z⟩:=n
   simp only at e0 e1 e2 hbk
   go_upto_region 5 with fail
   have hA1:Below wr.heap.size wr (wr.alloc (.cells #[iv x,iv y,iv z] 75)):=(Below.refl _ _).alloc (Nat.le_refl _) _
   have q1:=(hA1.block _ hl0).trans q0
   have p1:=heap_alloc_new wr (.cells #[iv x,iv y,iv z] 75)
   have HB1:Hid (Below w.heap.size w (wr.alloc (.cells #[iv x,iv y,iv z] 75))):=HB.out.trans (hA1.mono hw0)
   clear e0 e1 e2 q0 HB hA1
   generalize wr.alloc (.cells #[iv x,iv y,iv z] 75)=X at *
   generalize wr.heap.size=nb at *
   have hlX:=lt1 p1
   have c0:=cellC p1 0 rfl
   have c1:=cellC p1 1 rfl
   cases hx:(x==-1)
   ·have HE:Hid (NumsF C 23 (M.above (l.take (k+1)))):=by
     have:=HX.out (M.above (l.take k)) (fun i=>by simp[M.aboveOne,hx])
     rw[Hid,← this];exact HC.out
    clear HX HC
    go_wp2_with fail
    go_roundw
    case rel=>exact⟨k+1,C,by omega,by go_num,HE,q1,HB1⟩
    case measure=>simp[intOf];omega
   ·obtain⟨⟨hy0,hy1⟩,hz0,hz1⟩:=hbk hx
    obtain⟨p,rfl⟩:∃ p:Nat,y=(p:Int):=⟨y.toNat,by omega⟩
    obtain⟨q,rfl⟩:∃ q:Nat,z=(q:Int):=⟨z.toNat,by omega⟩
    have hp23:(p:Int)<23:=by omega
    have hq23:(q:Int)<23:=by omega
    have HAp:=HA.out p
    have ap:Hid (∀ i,M.aboveOne ⟨x,p,q⟩ i=M.eqN p i+M.eqN q i):=fun i=>by simp[M.aboveOne,hx]
    have d1:X.cell? (qa w.heap.size p)=some (iv (M.above (l.take k) p)):=(cellB q1 p).trans (HC.out.at' p (by omega))
    have f1:=frozenB q1 p
    have hlw:=lt1 q1
    generalize hu:M.above (l.take k) p=u at d1 HAp
    go_upto_region 7 with fail
    have q2:=setB' (i:=p) q1 (iv (u+1))
    have hne:nb≠w.heap.size:=fun e=>by rw[e,q1] at p1;cases p1
    have p2:(X.setCell (qa w.heap.size p) (iv (u+1))).heap[nb]?=_:=(Below.heap_setCell _ _ _ _ (by show nb≠w.heap.size;exact hne)).trans p1
    have HB2:Hid (Below w.heap.size w (X.setCell (qa w.heap.size p) (iv (u+1)))):=HB1.out.setCell (Nat.le_refl _) _
    have HC2:Hid (NumsF (C.setIfInBounds p (iv (u+1))) 23 (fun i=>M.above (l.take k) i+M.eqN p i)):=HC.out.set p (u+1) (by omega) (fun i=>by
     by_cases e:p=i
     ·subst e;simp[M.eqN,hu]
     ·rw[if_neg e]
      have:((p:Int)==(i:Int))=false:=by simp;omega
      simp[M.eqN,this])
    clear q1 p1 HB1 HC c0 c1 d1 f1 hlX hlw
    generalize X.setCell (qa w.heap.size p) (iv (u+1))=Y at *
    generalize C.setIfInBounds p (iv (u+1))=C2 at *
    have c2:=cellC p2 2 rfl
    have hlY:=lt1 p2
    have hlw:=lt1 q2
    have d2:Y.cell? (qa w.heap.size q)=some (iv (M.above (l.take k) q+M.eqN p q)):=(cellB q2 q).trans (HC2.out.at' q (by omega))
    have f2:=frozenB q2 q
    have hv:0≤M.above (l.take k) q+M.eqN p q∧M.above (l.take k) q+M.eqN p q≤47:=by
     have h1:=HA.out q
     have h2:=eqN_bound p q
     omega
    generalize hv2:M.above (l.take k) q+M.eqN p q=v at d2 hv
    have HE:Hid (NumsF (C2.setIfInBounds q (iv (v+1))) 23 (M.above (l.take (k+1)))):=by
     have:=HX.out (fun i=>M.above (l.take k) i+M.eqN p i+M.eqN q i) (fun i=>by rw[ap.out i];omega)
     rw[Hid,← this]
     exact HC2.out.set q (v+1) (by omega) (fun i=>by
      by_cases e:q=i
      ·subst e;simp[M.eqN,← hv2]
      ·rw[if_neg e]
       have:((q:Int)==(i:Int))=false:=by simp;omega
       simp[M.eqN,this])
    have q3:=setB' (i:=q) q2 (iv (v+1))
    have HB3:Hid (Below w.heap.size w (Y.setCell (qa w.heap.size q) (iv (v+1)))):=HB2.out.setCell (Nat.le_refl _) _
    clear HX HC2 HA ap hu hv2 q2 p2 HB2
    go_wp2_with fail
    go_roundw
    case rel=>exact⟨k+1,_,by omega,by go_num,HE,q3,HB3⟩
    case measure=>simp[intOf];omega
  ·have hkl:k=l.length:=by omega
   subst hkl
   have HC1:Hid (NumsF C 23 (M.above l)):=by have:=HC.out;rwa [List.take_length] at this
   clear HC
   obtain⟨m,hm⟩:∃ m:Nat,l.length=m+1:=⟨l.length - 1,by omega⟩
   have Hm:Hid (l.length=m+1):=hm
   have hms:((l.length:Int) - 1)=(m:Int):=by omega
   have hm23:m<23:=by omega
   clear hm
   go_upto_region 10 with fail
   rw[show ((0:Int))=((0:Nat):Int) from rfl]
   try rw[hms]
   go_loopw [32] (fun s32 wq=>∃ (j:Nat),j≤m∧s32=iv j∧Hid (isTreeUpto l j=true)∧wr=wq) (fun s32 _=>m - (intOf s32).toNat)
   case atStart=>exact⟨0,Nat.zero_le _,rfl,rfl,rfl⟩
   case round =>
    obtain⟨j,hj,rfl,HT,rfl⟩:=hrel
    by_cases hjm:j<m
    ·have hjm':(j:Int)<(m:Int):=by omega
     have hj23:(j:Int)<23:=by omega
     have dj:wr.cell? (qa w.heap.size j)=some (iv (M.above l j)):=(cellB q0 j).trans (HC1.out.at' j (by omega))
     cases he:(M.above l j==1)
     ·have hne:(M.above l j !=1)=true:=by simpa using he
      have HR:Hid (M.isTree l=false):=tree_no (by have:=Hm.out;omega) he
      clear HT he
      generalize M.above l j=u at *
      go_wp2
      go_ret
      exact⟨ret_bool HR.out.symm,HB.out⟩
     ·have hne:(M.above l j !=1)=false:=by simpa using he
      have HT1:Hid (isTreeUpto l (j+1)=true):=by rw[Hid,treeUpto_step,HT.out,he];rfl
      clear HT he
      generalize M.above l j=u at *
      go_wp2_with fail
      go_roundw
      case rel=>exact⟨j+1,by omega,by go_num,HT1,trivial⟩
      case measure=>simp[intOf];omega
    ·have hjm':j=m:=by omega
     subst hjm'
     have HR:Hid (M.isTree l=true):=by
      have:=HT.out
      rw[Hid,M.isTree,show l.length - 1=j by have:=Hm.out;omega]
      exact this
     go_wp2
     go_ret
     exact⟨ret_bool HR.out.symm,HB.out⟩
end Go.Proofs.YtebippbakbihiaaGreatDoor
