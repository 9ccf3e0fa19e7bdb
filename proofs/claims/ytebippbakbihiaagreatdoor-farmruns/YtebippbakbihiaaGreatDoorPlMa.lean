/-
  The plain mathematics of plans: what is wrong with one, the plan that picks make, what is ready of one. Lists and integers alone; nothing of the program. What picks make is a plan; what it is without its last node, or of one part more, is none; picks that aren't wanted change nothing. The plain mathematics of a plan's evaluation. How the reference tells a plan: by a row of the nodes that are below others, in order; by a list of what is to be done. What is put behind a part is what stays of the other, its numbers shifted.
-/
import Derived.Test.YtebippbakbihiaaGreatDoorMathA
namespace Go.Proofs.YtebippbakbihiaaGreatDoor.M
structure Nd where
 leaf:Int
 left:Int
 right:Int
def nd0:Nd:=⟨0,0,0⟩
def sameNd (a b:Nd):Bool:=a.leaf==b.leaf&&a.left==b.left&&a.right==b.right
def fewParts (n:Int):Bool:=decide (1≤n)&&decide (n≤12)
def ahead (k i:Int):Bool:=decide (0≤k)&&decide (k<i)
def fits (n:Nd) (i parts:Int):Bool :=
 bif n.leaf==-1 then ahead n.left i&&ahead n.right i
 else decide (0≤n.leaf)&&decide (n.leaf<parts)&&n.left==0&&n.right==0
def fitsFrom (parts:Int):Int→List Nd→Bool
 | _,[]=>true
 | i,n :: l=>fits n i parts&&fitsFrom parts (i+1) l
def eqN (a:Int) (i:Nat):Int:=bif a==(i:Int) then 1 else 0
def aboveOne (n:Nd) (i:Nat):Int:=bif n.leaf==-1 then eqN n.left i+eqN n.right i else 0
def above:List Nd→Nat→Int
 | [],_=>0
 | n :: l,i=>aboveOne n i+above l i
def isTree (l:List Nd):Bool:=(List.range (l.length - 1)).all fun i=>above l i==1
def leavesF (l:List Nd):Nat→Nat→List Int
 | 0,_=>[]
 | f+1,i=>bif (l.getD i nd0).leaf==-1 then leavesF l f (l.getD i nd0).left.toNat ++ leavesF l f (l.getD i nd0).right.toNat else [(l.getD i nd0).leaf]
def leavesOf (l:List Nd) (i:Nat):List Int:=leavesF l (i+1) i
def walkS (s:Int × Bool) (xs:List Int):Int × Bool:=xs.foldl (fun s x=>(s.1+1,s.2&&x==s.1)) s
def inOrder (l:List Nd) (parts:Int):Bool:=(walkS (0,true) (leavesOf l (l.length - 1))).2&&(walkS (0,true) (leavesOf l (l.length - 1))).1==parts
def checkPlan (l:List Nd) (parts:Int):Int :=
 if fewParts parts=false then 3
 else if 23<l.length then 2
 else if l.length=0 then 4
 else if fitsFrom parts 0 l=false then 3
 else if isTree l=true∧inOrder l parts=true then 0 else 4
def IsT:Nat→List Nd→Nat→List Int→Prop
 | 0,_,_,_=>False
 | f+1,l,b,xs=>(∃ x,l=[⟨x,0,0⟩]∧xs=[x]) ∨
  ∃ l1 l2 x1 x2,IsT f l1 b x1∧IsT f l2 (b+l1.length) x2∧l=l1 ++ l2 ++ [⟨-1,(b+l1.length - 1:Nat),(b+l1.length+l2.length - 1:Nat)⟩]∧xs=x1 ++ x2
def pick:List Int→Int→Int × List Int
 | [],_=>(0,[])
 | p :: ps,n=>(p % n,ps)
def onLeft (ps:List Int) (n:Nat):Nat:=(pick ps ((n:Int) - 1)).1.toNat+1
def over (b:Nat) (l:List Nd) (r:List Nd × List Int):List Nd × List Int:=(l ++ r.1 ++ [⟨-1,(b+l.length - 1:Nat),(b+l.length+r.1.length - 1:Nat)⟩],r.2)
def growT:Nat→Int→Nat→List Int→Nat→List Nd × List Int
 | 0,first,_,ps,_=>([⟨first,0,0⟩],ps)
 | f+1,first,n,ps,b=>if n=1 then ([⟨first,0,0⟩],ps) else
  over b (growT f first (onLeft ps n) (pick ps ((n:Int) - 1)).2 b).1
   (growT f (first+(onLeft ps n:Nat)) (n - onLeft ps n) (growT f first (onLeft ps n) (pick ps ((n:Int) - 1)).2 b).2 (b+(growT f first (onLeft ps n) (pick ps ((n:Int) - 1)).2 b).1.length))
def makeL (n:Nat) (ps:List Int):List Nd:=(growT n 0 n ps 0).1
def makeE (n:Int) (ps:List Int):Int:=if fewParts n=false then 3 else if 23<ps.length then 2 else 0
def make (n:Int) (ps:List Int):List Nd:=if makeE n ps=0 then makeL n.toNat ps else []
def readyAt (l:List Nd) (d:List Bool) (i:Nat):Bool :=
 !(d.getD i false)&&(!((l.getD i nd0).leaf==-1) || (d.getD (l.getD i nd0).left.toNat false&&d.getD (l.getD i nd0).right.toNat false))
def readyUpto (l:List Nd) (d:List Bool) (k:Nat):List Int:=((List.range k).filter (readyAt l d)).map Int.ofNat
def ready (l:List Nd) (d:List Bool):List Int:=readyUpto l d l.length
def readyE (l:List Nd) (parts:Int) (d:List Bool):Int:=if checkPlan l parts=0 then (if d.length=l.length then 0 else 4) else checkPlan l parts
theorem t_pos:∀ (f:Nat) (l:List Nd) (b:Nat) (xs:List Int),IsT f l b xs→0<l.length∧l.length+1=2*xs.length
 | 0,_,_,_,h=>h.elim
 | f+1,l,b,xs,h=>by
  rcases h with ⟨x,rfl,rfl⟩ | ⟨l1,l2,x1,x2,h1,h2,rfl,rfl⟩
  ·exact⟨Nat.one_pos,rfl⟩
  ·have:=t_pos f _ _ _ h1
   have:=t_pos f _ _ _ h2
   simp only[List.length_append,List.length_cons,List.length_nil]
   omega
theorem t_more:∀ (f g:Nat) (l:List Nd) (b:Nat) (xs:List Int),f≤g→IsT f l b xs→IsT g l b xs
 | 0,_,_,_,_,_,h=>h.elim
 | f+1,0,_,_,_,hg,_=>by omega
 | f+1,g+1,l,b,xs,hg,h=>by
  rcases h with h | ⟨l1,l2,x1,x2,h1,h2,e1,e2⟩
  ·exact .inl h
  ·exact .inr ⟨l1,l2,x1,x2,t_more f g _ _ _ (by omega) h1,t_more f g _ _ _ (by omega) h2,e1,e2⟩
theorem fitsFrom_append (parts:Int):∀ (a b:List Nd) (i:Int),fitsFrom parts i (a ++ b)=(fitsFrom parts i a&&fitsFrom parts (i+a.length) b)
 | [],b,i=>by simp[fitsFrom]
 | n :: a,b,i=>by
  simp only[List.cons_append,fitsFrom,fitsFrom_append parts a b (i+1),Bool.and_assoc,List.length_cons]
  congr 3
  omega
theorem t_fits (parts:Int):∀ (f:Nat) (l:List Nd) (b:Nat) (xs:List Int),IsT f l b xs→(∀ x∈xs,0≤x∧x<parts)→fitsFrom parts b l=true
 | 0,_,_,_,h,_=>h.elim
 | f+1,l,b,xs,h,hx=>by
  rcases h with ⟨x,rfl,rfl⟩ | ⟨l1,l2,x1,x2,h1,h2,rfl,rfl⟩
  ·have:=hx x (by simp)
   have h1:(x==-1)=false:=by simp;omega
   simp[fitsFrom,fits,h1,this.1,this.2]
  ·have p1:=(t_pos f _ _ _ h1).1
   have p2:=(t_pos f _ _ _ h2).1
   have f1:=t_fits parts f _ _ _ h1 (fun x h=>hx x (by simp[h]))
   have f2:=t_fits parts f _ _ _ h2 (fun x h=>hx x (by simp[h]))
   simp only[fitsFrom_append,f1,List.length_append,Bool.true_and]
   have e:((b:Int)+(l1.length:Int))=((b+l1.length:Nat):Int):=by omega
   rw[e,f2]
   simp only[Bool.true_and,fitsFrom,fits,ahead,Bool.and_true]
   simp
   omega
theorem above_append:∀ (a b:List Nd) (i:Nat),above (a ++ b) i=above a i+above b i
 | [],b,i=>by simp[above]
 | n :: a,b,i=>by simp only[List.cons_append,above,above_append a b i];omega
theorem t_above:∀ (f:Nat) (l:List Nd) (b:Nat) (xs:List Int) (i:Nat),IsT f l b xs→(∀ x∈xs,0≤x)→above l i=if b≤i∧i+1<b+l.length then 1 else 0
 | 0,_,_,_,_,h,_=>h.elim
 | f+1,l,b,xs,i,h,hx=>by
  rcases h with ⟨x,rfl,rfl⟩ | ⟨l1,l2,x1,x2,h1,h2,rfl,rfl⟩
  ·have:=hx x (by simp)
   have h1:(x==-1)=false:=by simp;omega
   rw[if_neg (by simp only[List.length_cons,List.length_nil];omega)]
   simp[above,aboveOne,h1]
  ·have p1:=(t_pos f _ _ _ h1).1
   have p2:=(t_pos f _ _ _ h2).1
   have f1:=t_above f _ _ _ i h1 (fun x h=>hx x (by simp[h]))
   have f2:=t_above f _ _ _ i h2 (fun x h=>hx x (by simp[h]))
   simp only[above_append,f1,f2,above,aboveOne,eqN,beq_self_eq_true,cond_true,List.length_append,List.length_cons,List.length_nil]
   generalize l1.length=n1 at *
   generalize l2.length=n2 at *
   by_cases e1:b+n1 - 1=i
   ·have c1:(((b+n1 - 1:Nat):Int)==(i:Int))=true:=by simp;omega
    have c2:(((b+n1+n2 - 1:Nat):Int)==(i:Int))=false:=by simp;omega
    rw[c1,c2]
    rw[if_neg (by omega),if_neg (by omega),if_pos (by omega)]
    rfl
   ·have c1:(((b+n1 - 1:Nat):Int)==(i:Int))=false:=by simp;omega
    by_cases e2:b+n1+n2 - 1=i
    ·have c2:(((b+n1+n2 - 1:Nat):Int)==(i:Int))=true:=by simp;omega
     rw[c1,c2]
     rw[if_neg (by omega),if_neg (by omega),if_pos (by omega)]
     rfl
    ·have c2:(((b+n1+n2 - 1:Nat):Int)==(i:Int))=false:=by simp;omega
     rw[c1,c2]
     by_cases e3:b≤i∧i+1<b+n1
     ·rw[if_pos e3,if_neg (by omega),if_pos (by omega)];rfl
     ·by_cases e4:b+n1≤i∧i+1<b+n1+n2
      ·rw[if_neg e3,if_pos e4,if_pos (by omega)];rfl
      ·rw[if_neg e3,if_neg e4,if_neg (by omega)];rfl
theorem getD_mid {α:Type} (a b:List α) (x d:α):(a ++ x :: b).getD a.length d=x:=by
 rw[List.getD_eq_getElem?_getD];simp
theorem t_leaves:∀ (f:Nat) (l:List Nd) (xs:List Int) (g:Nat) (pre post:List Nd),IsT f l pre.length xs→(∀ x∈xs,0≤x)→l.length≤g→leavesF (pre ++ l ++ post) g (pre.length+l.length - 1)=xs
 | 0,_,_,_,_,_,h,_,_=>h.elim
 | f+1,l,xs,g,pre,post,h,hx,hg=>by
  rcases h with ⟨x,rfl,rfl⟩ | ⟨l1,l2,x1,x2,h1,h2,rfl,rfl⟩
  ·have:=hx x (by simp)
   have h1:(x==-1)=false:=by simp;omega
   obtain⟨g,rfl⟩:∃ q,g=q+1:=⟨g - 1,by simp at hg;omega⟩
   have e:(pre ++ [(⟨x,0,0⟩:Nd)] ++ post).getD (pre.length + [(⟨x,0,0⟩:Nd)].length - 1) nd0=⟨x,0,0⟩:=by
    simp only[List.length_cons,List.length_nil,Nat.zero_add,Nat.add_sub_cancel,List.append_assoc,List.cons_append,List.nil_append]
    exact getD_mid pre post _ nd0
   simp only[leavesF,e,h1,cond_false]
  ·have p1:=(t_pos f _ _ _ h1).1
   have p2:=(t_pos f _ _ _ h2).1
   simp only[List.length_append,List.length_cons,List.length_nil] at hg
   obtain⟨g,rfl⟩:∃ q,g=q+1:=⟨g - 1,by omega⟩
   have f1:=t_leaves f l1 x1 g pre (l2 ++ [⟨-1,(pre.length+l1.length - 1:Nat),(pre.length+l1.length+l2.length - 1:Nat)⟩] ++ post) h1 (fun x h=>hx x (by simp[h])) (by omega)
   have f2:=t_leaves f l2 x2 g (pre ++ l1) ([⟨-1,(pre.length+l1.length - 1:Nat),(pre.length+l1.length+l2.length - 1:Nat)⟩] ++ post) (by rw[List.length_append];exact h2) (fun x h=>hx x (by simp[h])) (by omega)
   have e:(pre ++ (l1 ++ l2 ++ [(⟨-1,(pre.length+l1.length - 1:Nat),(pre.length+l1.length+l2.length - 1:Nat)⟩:Nd)]) ++ post).getD (pre.length+(l1 ++ l2 ++ [(⟨-1,(pre.length+l1.length - 1:Nat),(pre.length+l1.length+l2.length - 1:Nat)⟩:Nd)]).length - 1) nd0=⟨-1,(pre.length+l1.length - 1:Nat),(pre.length+l1.length+l2.length - 1:Nat)⟩:=by
    have e1:pre ++ (l1 ++ l2 ++ [(⟨-1,(pre.length+l1.length - 1:Nat),(pre.length+l1.length+l2.length - 1:Nat)⟩:Nd)]) ++ post=(pre ++ l1 ++ l2) ++ ⟨-1,(pre.length+l1.length - 1:Nat),(pre.length+l1.length+l2.length - 1:Nat)⟩ :: post:=by
     simp only[List.append_assoc,List.cons_append,List.nil_append]
    have e2:pre.length+(l1 ++ l2 ++ [(⟨-1,(pre.length+l1.length - 1:Nat),(pre.length+l1.length+l2.length - 1:Nat)⟩:Nd)]).length - 1=(pre ++ l1 ++ l2).length:=by
     simp only[List.length_append,List.length_cons,List.length_nil];omega
    rw[e1,e2]
    exact getD_mid _ _ _ _
   rw[leavesF,e]
   simp only[beq_self_eq_true,cond_true,Int.toNat_natCast]
   congr 1
   ·refine Eq.trans ?_ f1
    simp only[List.append_assoc]
   ·refine Eq.trans ?_ f2
    simp only[List.append_assoc,List.length_append]
theorem walk_fst:∀ (xs:List Int) (s:Int × Bool),(walkS s xs).1=s.1+xs.length
 | [],s=>by simp[walkS]
 | x :: xs,s=>by
  have:=walk_fst xs (s.1+1,s.2&&x==s.1)
  simp only[walkS,List.foldl_cons] at this ⊢
  rw[this];simp;omega
theorem walk_append (s:Int × Bool) (xs ys:List Int):walkS s (xs ++ ys)=walkS (walkS s xs) ys:=by simp[walkS,List.foldl_append]
def rise (first:Int):Nat→List Int
 | 0=>[]
 | n+1=>first :: rise (first+1) n
theorem rise_len:∀ (n:Nat) (first:Int),(rise first n).length=n
 | 0,_=>rfl
 | n+1,first=>by simp[rise,rise_len n]
theorem rise_add:∀ (a b:Nat) (first:Int),rise first (a+b)=rise first a ++ rise (first+a) b
 | 0,b,first=>by simp[rise]
 | a+1,b,first=>by
  have e:a+1+b=(a+b)+1:=by omega
  rw[e,rise,rise_add a b (first+1),rise]
  simp only[List.cons_append,List.cons.injEq,true_and]
  congr 2
  omega
theorem rise_mem:∀ (n:Nat) (first x:Int),x∈rise first n→first≤x∧x<first+n
 | 0,_,_,h=>by cases h
 | n+1,first,x,h=>by
  rcases List.mem_cons.1 h with h | h
  ·omega
  ·have:=rise_mem n _ _ h;omega
theorem walk_rise:∀ (n:Nat) (first:Int),walkS (first,true) (rise first n)=(first+n,true)
 | 0,first=>by simp[rise,walkS]
 | n+1,first=>by
  have:=walk_rise n (first+1)
  simp only[walkS,rise,List.foldl_cons,beq_self_eq_true,Bool.and_self] at this ⊢
  rw[this]
  simp only[Prod.mk.injEq,and_true]
  omega
theorem pick_lt (ps:List Int) (n:Int) (h:0<n):0≤(pick ps n).1∧(pick ps n).1<n:=by
 cases ps with
 | nil=>simp[pick,h]
 | cons p ps=>exact⟨Int.emod_nonneg _ (by omega),Int.emod_lt_of_pos _ h⟩
theorem left_lt (ps:List Int) (n:Nat) (h:2≤n):1≤onLeft ps n∧onLeft ps n<n:=by
 have:=pick_lt ps ((n:Int) - 1) (by omega)
 unfold onLeft
 omega
theorem grow_t:∀ (f n:Nat) (first:Int) (ps:List Int) (b:Nat),1≤n→n≤f→IsT f (growT f first n ps b).1 b (rise first n)
 | 0,n,first,ps,b,h1,hf=>by omega
 | f+1,n,first,ps,b,h1,hf=>by
  by_cases h:n=1
  ·subst h
   exact .inl ⟨first,rfl,rfl⟩
  ·have hp:=left_lt ps n (by omega)
   rw[growT,if_neg h]
   refine .inr ⟨_,_,_,_,grow_t f (onLeft ps n) first (pick ps ((n:Int) - 1)).2 b (by omega) (by omega),grow_t f (n - onLeft ps n) (first+(onLeft ps n:Nat)) _ _ (by omega) (by omega),rfl,?_⟩
   rw[← rise_add]
   congr 1
   omega
theorem pick_len (ps:List Int) (n:Int):(pick ps n).2.length=ps.length - 1:=by cases ps <;> simp[pick]
theorem pick_more (a b:List Int) (n:Int) (h:1≤a.length):pick (a ++ b) n=((pick a n).1,(pick a n).2 ++ b):=by
 cases a with
 | nil=>simp at h
 | cons x a=>rfl
theorem grow_len:∀ (f n:Nat) (first:Int) (ps:List Int) (b:Nat),1≤n→n≤f→(growT f first n ps b).2.length=ps.length - (n - 1)
 | 0,n,first,ps,b,h1,hf=>by omega
 | f+1,n,first,ps,b,h1,hf=>by
  by_cases h:n=1
  ·subst h
   simp[growT]
  ·have hp:=left_lt ps n (by omega)
   rw[growT,if_neg h]
   simp only[over]
   rw[grow_len f _ _ _ _ (by omega) (by omega),grow_len f _ first _ _ (by omega) (by omega),pick_len]
   omega
theorem left_more (a b:List Int) (n:Nat) (h:1≤a.length):onLeft (a ++ b) n=onLeft a n:=by
 unfold onLeft
 rw[pick_more a b _ h]
theorem grow_more:∀ (f n:Nat) (first:Int) (a c:List Int) (b:Nat),1≤n→n≤f→n - 1≤a.length→growT f first n (a ++ c) b=((growT f first n a b).1,(growT f first n a b).2 ++ c)
 | 0,n,first,a,c,b,h1,hf,ha=>by omega
 | f+1,n,first,a,c,b,h1,hf,ha=>by
  by_cases h:n=1
  ·subst h
   simp[growT]
  ·have hp:=left_lt a n (by omega)
   have hl:=pick_len a ((n:Int) - 1)
   rw[growT,growT,if_neg h,if_neg h,left_more a c n (by omega),pick_more a c _ (by omega)]
   simp only
   have hg:=grow_len f (onLeft a n) first (pick a ((n:Int) - 1)).2 b (by omega) (by omega)
   rw[grow_more f _ first (pick a ((n:Int) - 1)).2 c b (by omega) (by omega) (by omega)]
   simp only
   rw[grow_more f _ _ (growT f first (onLeft a n) (pick a ((n:Int) - 1)).2 b).2 c _ (by omega) (by omega) (by omega)]
   rfl
theorem make_more (n:Nat) (a c:List Int) (h1:1≤n) (ha:n - 1≤a.length):makeL n (a ++ c)=makeL n a:=by
 unfold makeL
 rw[grow_more n n 0 a c 0 h1 (Nat.le_refl _) ha]
theorem makeL_t (n:Nat) (ps:List Int) (h:1≤n):IsT n (makeL n ps) 0 (rise 0 n):=grow_t n n 0 ps 0 h (Nat.le_refl _)
theorem t_size {f n:Nat} {l:List Nd} {b:Nat} (h:IsT f l b (rise 0 n)):l.length+1=2*n:=by
 have:=(t_pos f _ _ _ h).2
 rwa [rise_len] at this
theorem fewParts_iff (n:Int):fewParts n=true↔1≤n∧n≤12:=by simp[fewParts]
theorem t_tree {f:Nat} {l:List Nd} {xs:List Int} (ht:IsT f l 0 xs) (h:∀ x∈xs,0≤x):isTree l=true:=by
 unfold isTree
 rw[List.all_eq_true]
 intro i hi
 have:=List.mem_range.1 hi
 rw[t_above f l 0 xs i ht h,if_pos (by omega)]
 rfl
theorem t_leavesOf {f:Nat} {l:List Nd} {xs:List Int} (ht:IsT f l 0 xs) (h:∀ x∈xs,0≤x):leavesOf l (l.length - 1)=xs:=by
 have p:=(t_pos _ _ _ _ ht).1
 have:=t_leaves f l xs (l.length - 1+1) [] [] ht h (by omega)
 simp only[List.nil_append,List.length_nil,List.append_nil,Nat.zero_add] at this
 exact this
theorem rise_0 {n:Nat} {x:Int} (h:x∈rise 0 n):0≤x∧x<(n:Int):=by
 have:=rise_mem _ _ _ h
 omega
theorem t_order {f:Nat} {l:List Nd} {n:Nat} (ht:IsT f l 0 (rise 0 n)) (parts:Int):inOrder l parts=((n:Int)==parts):=by
 unfold inOrder
 rw[t_leavesOf ht (fun x hx=>(rise_0 hx).1),walk_rise]
 simp
theorem t_check {f:Nat} {l:List Nd} {n:Nat} (ht:IsT f l 0 (rise 0 n)) (h1:1≤n) (h12:n≤12):checkPlan l n=0:=by
 have hs:=t_size ht
 have hf:fewParts (n:Int)=true:=(fewParts_iff _).2 (by omega)
 unfold checkPlan
 rw[if_neg (by rw[hf];simp),if_neg (by omega),if_neg (by omega),if_neg (by rw[show (0:Int)=((0:Nat):Int) from rfl,t_fits _ f l 0 _ ht (fun x hx=>rise_0 hx)];simp),if_pos ⟨t_tree ht (fun x hx=>(rise_0 hx).1),by rw[t_order ht];simp⟩]
theorem t_other {f:Nat} {l:List Nd} {n:Nat} (ht:IsT f l 0 (rise 0 n)) (parts:Int) (hne:(n:Int)≠parts):checkPlan l parts≠0:=by
 unfold checkPlan
 split
 ·decide
 split
 ·decide
 split
 ·decide
 split
 ·decide
 rw[t_order ht,if_neg (by simp[hne])]
 decide
theorem t_less {f:Nat} {l:List Nd} {xs:List Int} (ht:IsT f l 0 xs) (h:∀ x∈xs,0≤x) (parts:Int):checkPlan (l.take (l.length - 1)) parts≠0:=by
 unfold checkPlan
 split
 ·decide
 split
 ·decide
 split
 ·decide
 rename_i hl
 split
 ·decide
 rw[if_neg]
 ·decide
 rintro⟨htr,_⟩
 cases f with
 | zero=>exact ht
 | succ f =>
  rcases ht with ⟨x,rfl,rfl⟩ | ⟨l1,l2,x1,x2,h1,h2,rfl,rfl⟩
  ·simp at hl
  ·have p1:=(t_pos f _ _ _ h1).1
   have p2:=(t_pos f _ _ _ h2).1
   rw[show (l1 ++ l2 ++ [(⟨-1,(0+l1.length - 1:Nat),(0+l1.length+l2.length - 1:Nat)⟩:Nd)]).length - 1=(l1 ++ l2).length by simp,List.take_left] at htr
   unfold isTree at htr
   rw[List.all_eq_true] at htr
   have h3:=htr (l1.length - 1) (List.mem_range.2 (by simp only[List.length_append];omega))
   rw[above_append,t_above f _ _ _ _ h1 (fun x hx=>h x (by simp[hx])),t_above f _ _ _ _ h2 (fun x hx=>h x (by simp[hx])),if_neg (by omega),if_neg (by omega)] at h3
   simp at h3
def evalLeft (out:List Prt) (n:Nd):Prt:=bif n.leaf==-1 then out.getD n.left.toNat nil else nil
def evalRight (parts out:List Prt) (n:Nd):Prt:=bif n.leaf==-1 then out.getD n.right.toNat nil else parts.getD n.leaf.toNat nil
def evalGo (parts:List Prt):List Prt→List Nd→List Prt × Int
 | out,[]=>(out,0)
 | out,n :: l=>if (join (evalLeft out n) (evalRight parts out n)).2=0 then evalGo parts (out ++ [(join (evalLeft out n) (evalRight parts out n)).1]) l else ([],(join (evalLeft out n) (evalRight parts out n)).2)
def checkEach:List Prt→Int
 | []=>0
 | p :: l=>if checkPart p=0 then checkEach l else checkPart p
def eval (l:List Nd) (parts:List Prt):List Prt × Int :=
 if checkPlan l parts.length=0 then (if checkEach parts=0 then evalGo parts [] l else ([],checkEach parts)) else ([],checkPlan l parts.length)
def twoOf (n:Nd):List Int:=bif n.leaf==-1 then [n.left,n.right] else []
def aboveL (l:List Nd):List Int:=l.flatMap twoOf
def inRow (l:List Int):List Int:=l.mergeSort fun x y=>decide (x≤y)
theorem count_two (n:Nd) (i:Nat):((twoOf n).count (i:Int):Int)=aboveOne n i:=by
 unfold twoOf aboveOne eqN
 cases (n.leaf==-1)
 ·simp
 ·simp only[cond_true,List.count_cons,List.count_nil]
  cases (n.left==(i:Int)) <;> cases (n.right==(i:Int)) <;> simp
theorem count_above:∀ (l:List Nd) (i:Nat),((aboveL l).count (i:Int):Int)=above l i
 | [],i=>by simp[aboveL,above]
 | n :: l,i=>by
  have:=count_above l i
  have h2:=count_two n i
  simp only[aboveL,List.flatMap_cons,List.count_append,above] at this ⊢
  omega
theorem rise_count:∀ (n:Nat) (a x:Int),(rise a n).count x=if a≤x∧x<a+n then 1 else 0
 | 0,a,x=>by
  have h:¬ (a≤x∧x<a+((0:Nat):Int)):=by omega
  rw[if_neg h];rfl
 | n+1,a,x=>by
  rw[rise,List.count_cons,rise_count n (a+1) x]
  by_cases h:a=x
  ·subst h
   have h1:¬ (a+1≤a∧a<a+1+(n:Int)):=by omega
   have h2:a≤a∧a<a+((n+1:Nat):Int):=by omega
   rw[if_neg h1,if_pos h2];simp
  ·have hb:(a==x)=false:=by simpa using h
   rw[hb]
   by_cases h2:a+1≤x∧x<a+1+(n:Int)
   ·have h3:a≤x∧x<a+((n+1:Nat):Int):=by omega
    rw[if_pos h2,if_pos h3];rfl
   ·have h3:¬ (a≤x∧x<a+((n+1:Nat):Int)):=by omega
    rw[if_neg h2,if_neg h3];rfl
theorem rise_sorted:∀ (n:Nat) (a:Int),(rise a n).Pairwise fun x y=>decide (x≤y)=true
 | 0,_=>List.Pairwise.nil
 | n+1,a=>by
  refine List.Pairwise.cons (fun y hy=>?_) (rise_sorted n (a+1))
  have:=rise_mem _ _ _ hy
  simp
  omega
theorem inRow_sorted (l:List Int):(inRow l).Pairwise fun x y=>decide (x≤y)=true :=
 List.pairwise_mergeSort (fun a b c h1 h2=>by simp at h1 h2 ⊢;omega) (fun a b=>by simp;omega) l
theorem inRow_perm (l:List Int):(inRow l).Perm l:=List.mergeSort_perm l _
theorem inRow_rise (l:List Int) (n:Nat):inRow l=rise 0 n↔∀ x,l.count x=if 0≤x∧x<(n:Int) then 1 else 0:=by
 constructor
 ·intro h x
  rw[← (inRow_perm l).count_eq,h,rise_count]
  simp
 ·intro h
  have hp:(inRow l).Perm (rise 0 n):=by
   rw[List.perm_iff_count]
   intro x
   rw[(inRow_perm l).count_eq,h x,rise_count]
   simp
  exact hp.eq_of_pairwise (fun a b _ _ h1 h2=>by simp at h1 h2;omega) (inRow_sorted l) (rise_sorted n 0)
theorem tree_row (l:List Nd) (h0:0<l.length) (hb:∀ k,k<l.length→((l.getD k nd0).leaf==-1)=true→(0≤(l.getD k nd0).left∧(l.getD k nd0).left<k)∧(0≤(l.getD k nd0).right∧(l.getD k nd0).right<k)):(inRow (aboveL l)=rise 0 (l.length - 1))↔isTree l=true:=by
 have hin:∀ x∈aboveL l,0≤x∧x<((l.length - 1:Nat):Int):=fun x hx=>by
  unfold aboveL at hx
  obtain⟨n,hn,hxn⟩:=List.mem_flatMap.1 hx
  obtain⟨k,hk,rfl⟩:=List.getElem_of_mem hn
  have hg:l.getD k nd0=l[k]:=by rw[List.getD_eq_getElem?_getD,List.getElem?_eq_getElem hk];rfl
  have:=hb k hk
  rw[hg] at this
  unfold twoOf at hxn
  cases hx2:(l[k].leaf==-1)
  ·rw[hx2] at hxn;cases hxn
  ·rw[hx2] at hxn
   have:=this hx2
   simp only[cond_true,List.mem_cons,List.not_mem_nil,or_false] at hxn
   rcases hxn with rfl | rfl <;> omega
 rw[inRow_rise]
 unfold isTree
 rw[List.all_eq_true]
 constructor
 ·intro h i hi
  have hi:=List.mem_range.1 hi
  have:=h (i:Int)
  rw[if_pos (by omega)] at this
  have h2:=count_above l i
  rw[this] at h2
  simp[← h2]
 ·intro h x
  by_cases hx:0≤x∧x<((l.length - 1:Nat):Int)
  ·rw[if_pos hx]
   obtain⟨i,rfl⟩:∃ i:Nat,x=(i:Int):=⟨x.toNat,by omega⟩
   have h1:=h i (List.mem_range.2 (by omega))
   have h2:=count_above l i
   have h3:above l i=1:=by simpa using h1
   omega
  ·rw[if_neg hx,List.count_eq_zero]
   intro hm
   exact hx (hin x hm)
theorem walk_false:∀ (xs:List Int) (a:Int),(walkS (a,false) xs).2=false
 | [],_=>rfl
 | x :: xs,a=>by
  have:=walk_false xs (a+1)
  simpa [walkS] using this
theorem order_row (xs:List Int):∀ (n:Nat) (a:Int),(xs=rise a n)↔((walkS (a,true) xs).2&&(walkS (a,true) xs).1==a+n)=true:=by
 induction xs with
 | nil =>
  intro n a
  cases n with
  | zero=>simp[rise,walkS]
  | succ n =>
   simp only[rise,walkS,List.foldl_nil,Bool.true_and,beq_iff_eq]
   constructor
   ·intro h;cases h
   ·intro h;omega
 | cons x xs ih =>
  intro n a
  have hs:walkS (a,true) (x :: xs)=walkS (a+1,x==a) xs:=by simp[walkS]
  rw[hs]
  cases hx:(x==a)
  ·rw[walk_false]
   simp only[Bool.false_and,Bool.false_eq_true,iff_false]
   intro h
   cases n with
   | zero=>cases h
   | succ n =>
    rw[rise] at h
    have:x=a:=(List.cons.inj h).1
    rw[this] at hx
    simp at hx
  ·have hxa:x=a:=by simpa using hx
   cases n with
   | zero =>
    constructor
    ·intro h;cases h
    ·intro h
     simp only[Bool.and_eq_true,beq_iff_eq] at h
     rw[walk_fst] at h
     simp only at h
     have:=h.2
     omega
   | succ n =>
    rw[rise,hxa]
    have:=ih n (a+1)
    rw[show a+((n+1:Nat):Int)=a+1+(n:Int) by omega,← this]
    constructor
    ·intro h;exact (List.cons.inj h).2
    ·intro h;rw[h]
theorem order_iff (l:List Nd) (n:Nat):(leavesOf l (l.length - 1)=rise 0 n)↔inOrder l n=true:=by
 rw[order_row _ n 0]
 unfold inOrder
 simp
structure Spn where
 start:Int
 n:Int
 up:Bool
 left:Int
structure Sk where
 nodes:List Nd
 todo:List Spn
 done:List Int
 picks:List Int
def stepS (s:Sk) (t:Spn) (todo:List Spn):Sk :=
 if t.up=true then ⟨s.nodes ++ [⟨-1,s.done.getD (s.done.length - 2) 0,s.done.getD (s.done.length - 1) 0⟩],todo,s.done.take (s.done.length - 2) ++ [(s.nodes.length:Int)],s.picks⟩
 else if t.n=1 then ⟨s.nodes ++ [⟨t.start,0,0⟩],todo,s.done ++ [(s.nodes.length:Int)],s.picks⟩
 else ⟨s.nodes,todo ++ [⟨0,0,true,0⟩,⟨t.start+(pick s.picks (t.n - 1)).1+1,t.n - (pick s.picks (t.n - 1)).1 - 1,false,0⟩,⟨t.start,(pick s.picks (t.n - 1)).1+1,false,0⟩],s.done,(pick s.picks (t.n - 1)).2⟩
def Reach (s s':Sk) (k:Nat):Prop:=∃ f:Nat→Sk,f 0=s∧f k=s'∧∀ i,i<k→∃ td t,(f i).todo=td ++ [t]∧f (i+1)=stepS (f i) t td
theorem Reach.trans {a b c:Sk} {m n:Nat} (h1:Reach a b m) (h2:Reach b c n):Reach a c (m+n):=by
 obtain⟨f,f0,fm,hf⟩:=h1
 obtain⟨g,g0,gn,hg⟩:=h2
 have F1:∀ i,i<m→(fun i=>if i<m then f i else g (i - m)) i=f i:=fun i h=>if_pos h
 have F2:∀ i,¬ i<m→(fun i=>if i<m then f i else g (i - m)) i=g (i - m):=fun i h=>if_neg h
 refine⟨fun i=>if i<m then f i else g (i - m),?_,?_,fun i hi=>?_⟩
 ·by_cases h:0<m
  ·rw[F1 0 h,f0]
  ·have hm:m=0:=by omega
   rw[F2 0 h,hm,Nat.sub_zero,g0,← fm,hm,f0]
 ·rw[F2 (m+n) (by omega),Nat.add_sub_cancel_left,gn]
 ·by_cases h:i<m
  ·obtain⟨td,t,h1,h2⟩:=hf i h
   rw[F1 i h]
   refine⟨td,t,h1,?_⟩
   by_cases h3:i+1<m
   ·rw[F1 (i+1) h3,h2]
   ·have e:i+1=m:=by omega
    rw[F2 (i+1) h3,e,Nat.sub_self,g0,← fm,← e,h2]
  ·obtain⟨td,t,h1,h2⟩:=hg (i - m) (by omega)
   rw[F2 i h]
   refine⟨td,t,h1,?_⟩
   rw[F2 (i+1) (by omega),show i+1 - m=i - m+1 by omega,h2]
theorem Reach.one (s:Sk) (td:List Spn) (t:Spn) (h:s.todo=td ++ [t]):Reach s (stepS s t td) 1 :=
 ⟨fun i=>if i=0 then s else stepS s t td,rfl,rfl,fun i hi=>by
  obtain rfl:i=0:=by omega
  exact⟨td,t,h,rfl⟩⟩
theorem reach_span:∀ (f n:Nat) (first:Int) (nodes:List Nd) (td:List Spn) (done:List Int) (ps:List Int),1≤n→n≤f →
  ∃ k,Reach ⟨nodes,td ++ [⟨first,n,false,0⟩],done,ps⟩ ⟨nodes ++ (growT f first n ps nodes.length).1,td,done ++ [((nodes.length+(growT f first n ps nodes.length).1.length - 1:Nat):Int)],(growT f first n ps nodes.length).2⟩ k
 | 0,n,_,_,_,_,_,h1,hf=>by omega
 | f+1,n,first,nodes,td,done,ps,h1,hf=>by
  by_cases h:n=1
  ·subst h
   refine⟨1,?_⟩
   have:=Reach.one ⟨nodes,td ++ [⟨first,(1:Nat),false,0⟩],done,ps⟩ td _ rfl
   simpa [stepS,growT] using this
  ·have hp:=left_lt ps n (by omega)
   have hpk:=pick_lt ps ((n:Int) - 1) (by omega)
   have hon:((onLeft ps n:Nat):Int)=(pick ps ((n:Int) - 1)).1+1:=by unfold onLeft;omega
   have s1:=Reach.one ⟨nodes,td ++ [⟨first,n,false,0⟩],done,ps⟩ td _ rfl
   have e1:stepS ⟨nodes,td ++ [⟨first,n,false,0⟩],done,ps⟩ ⟨first,n,false,0⟩ td=⟨nodes,td ++ [⟨0,0,true,0⟩,⟨first+(onLeft ps n:Nat),((n - onLeft ps n:Nat):Int),false,0⟩] ++ [⟨first,(onLeft ps n:Nat),false,0⟩],done,(pick ps ((n:Int) - 1)).2⟩:=by
    have hn1:¬ ((n:Int)=1):=by omega
    simp only[stepS,hn1,Bool.false_eq_true,if_false]
    rw[show first+(pick ps ((n:Int) - 1)).1+1=first+(onLeft ps n:Nat) by omega,show (n:Int) - (pick ps ((n:Int) - 1)).1 - 1=((n - onLeft ps n:Nat):Int) by omega,← hon]
    simp
   rw[e1] at s1
   obtain⟨k2,s2⟩:=reach_span f (onLeft ps n) first nodes (td ++ [⟨0,0,true,0⟩,⟨first+(onLeft ps n:Nat),((n - onLeft ps n:Nat):Int),false,0⟩]) done (pick ps ((n:Int) - 1)).2 (by omega) (by omega)
   have e2:td ++ [(⟨0,0,true,0⟩:Spn),⟨first+(onLeft ps n:Nat),((n - onLeft ps n:Nat):Int),false,0⟩]=td ++ [⟨0,0,true,0⟩] ++ [⟨first+(onLeft ps n:Nat),((n - onLeft ps n:Nat):Int),false,0⟩]:=by simp
   obtain⟨k3,s3⟩:=reach_span f (n - onLeft ps n) (first+(onLeft ps n:Nat)) (nodes ++ (growT f first (onLeft ps n) (pick ps ((n:Int) - 1)).2 nodes.length).1) (td ++ [⟨0,0,true,0⟩]) (done ++ [((nodes.length+(growT f first (onLeft ps n) (pick ps ((n:Int) - 1)).2 nodes.length).1.length - 1:Nat):Int)]) (growT f first (onLeft ps n) (pick ps ((n:Int) - 1)).2 nodes.length).2 (by omega) (by omega)
   rw[← e2,List.length_append] at s3
   have p1:=(t_pos f _ _ _ (grow_t f (onLeft ps n) first (pick ps ((n:Int) - 1)).2 nodes.length (by omega) (by omega))).1
   have hg:growT (f+1) first n ps nodes.length=over nodes.length (growT f first (onLeft ps n) (pick ps ((n:Int) - 1)).2 nodes.length).1
     (growT f (first+(onLeft ps n:Nat)) (n - onLeft ps n) (growT f first (onLeft ps n) (pick ps ((n:Int) - 1)).2 nodes.length).2 (nodes.length+(growT f first (onLeft ps n) (pick ps ((n:Int) - 1)).2 nodes.length).1.length)):=by rw[growT,if_neg h]
   have p2:=(t_pos f _ _ _ (grow_t f (n - onLeft ps n) (first+(onLeft ps n:Nat)) (growT f first (onLeft ps n) (pick ps ((n:Int) - 1)).2 nodes.length).2 (nodes.length+(growT f first (onLeft ps n) (pick ps ((n:Int) - 1)).2 nodes.length).1.length) (by omega) (by omega))).1
   generalize growT f first (onLeft ps n) (pick ps ((n:Int) - 1)).2 nodes.length=G1 at *
   generalize growT f (first+(onLeft ps n:Nat)) (n - onLeft ps n) G1.2 (nodes.length+G1.1.length)=G2 at *
   have s4:=Reach.one ⟨nodes ++ G1.1 ++ G2.1,td ++ [⟨0,0,true,0⟩],done ++ [((nodes.length+G1.1.length - 1:Nat):Int)] ++ [((nodes.length+G1.1.length+G2.1.length - 1:Nat):Int)],G2.2⟩ td _ rfl
   refine⟨1+k2+k3+1,?_⟩
   have hall:=((s1.trans s2).trans s3).trans s4
   rw[hg]
   simp only[stepS,if_true] at hall
   have q1:(done ++ [((nodes.length+G1.1.length - 1:Nat):Int)] ++ [((nodes.length+G1.1.length+G2.1.length - 1:Nat):Int)]).length - 2=done.length:=by simp
   have q2:(done ++ [((nodes.length+G1.1.length - 1:Nat):Int)] ++ [((nodes.length+G1.1.length+G2.1.length - 1:Nat):Int)]).length - 1=done.length+1:=by simp
   rw[q1,q2] at hall
   have q3:(done ++ [((nodes.length+G1.1.length - 1:Nat):Int)] ++ [((nodes.length+G1.1.length+G2.1.length - 1:Nat):Int)]).getD done.length 0=((nodes.length+G1.1.length - 1:Nat):Int):=by
    rw[List.append_assoc,List.getD_eq_getElem?_getD];simp
   have q4:(done ++ [((nodes.length+G1.1.length - 1:Nat):Int)] ++ [((nodes.length+G1.1.length+G2.1.length - 1:Nat):Int)]).getD (done.length+1) 0=((nodes.length+G1.1.length+G2.1.length - 1:Nat):Int):=by
    rw[List.append_assoc,List.getD_eq_getElem?_getD];simp
   have q5:(done ++ [((nodes.length+G1.1.length - 1:Nat):Int)] ++ [((nodes.length+G1.1.length+G2.1.length - 1:Nat):Int)]).take done.length=done:=by
    rw[List.append_assoc,List.take_left]
   rw[q3,q4,q5] at hall
   have r1:nodes ++ (over nodes.length G1.1 G2).1=nodes ++ G1.1 ++ G2.1 ++ [⟨-1,((nodes.length+G1.1.length - 1:Nat):Int),((nodes.length+G1.1.length+G2.1.length - 1:Nat):Int)⟩]:=by simp[over]
   have r2:nodes.length+(over nodes.length G1.1 G2).1.length - 1=(nodes ++ G1.1 ++ G2.1).length:=by simp[over];omega
   rw[r1,r2]
   exact hall
set_option linter.unusedVariables false
def shiftRel (n:Int) (r:Rel):Rel:=bif bare r.name&&!(r.frag==-1) then { r with frag:=r.frag+n } else r
def shiftFrg (n:Int) (f:Frg):Frg:={ f with rels:=f.rels.map (shiftRel n) }
def shift (n:Int) (p:Prt):Prt:=⟨p.frags.map (shiftFrg n),p.defs.map (shiftDfn n)⟩
theorem shift_rel (fs:List Frg) (l:List ByteArray) (n:Int) (hn:0≤n) (r:Rel) (hr:Fits fs.length r):movedRel (count l n fs) r=shiftRel n (movedRel (count l 0 fs) r):=by
 cases hb:bare r.name
 ·rw[movedRel_named hb,movedRel_named hb];unfold shiftRel;rw[hb];rfl
 ·cases hg:(r.frag==-1)
  ·obtain⟨h1,h2⟩:=hr hb
   have hne:r.frag≠-1:=by simpa using hg
   have hlt:r.frag.toNat<fs.length:=by omega
   have hget:fs[r.frag.toNat]?=some fs[r.frag.toNat]:=List.getElem?_eq_getElem hlt
   have e1:=num_get l fs n r.frag (by omega) _ hget
   have e2:=num_get l fs 0 r.frag (by omega) _ hget
   rw[movedRel_bare hb hg,movedRel_bare hb hg,e1,e2]
   unfold shiftRel
   cases hq:gone l fs[r.frag.toNat]
   ·simp only[hb,cond_false,Bool.true_and]
    have:(((0:Int)+((stays l (fs.take r.frag.toNat)).length:Int))==-1)=false:=by
     rw[beq_eq_false_iff_ne];omega
    rw[this]
    simp
    omega
   ·simp[hb]
  ·rw[movedRel_gone hg,movedRel_gone hg];unfold shiftRel;rw[hg];simp
theorem shift_frg (fs:List Frg) (l:List ByteArray) (n:Int) (hn:0≤n) (f:Frg) (hf:∀ r∈f.rels,Fits fs.length r):movedFrg (count l n fs) f=shiftFrg n (movedFrg (count l 0 fs) f):=by
 unfold movedFrg shiftFrg
 simp only[List.map_map]
 congr 1
 exact List.map_congr_left fun r hr=>shift_rel fs l n hn r (hf r hr)
theorem put_shift (a b:Prt) (l:List ByteArray) (hb:Ok b):put a l b=plus a (shift a.frags.length (drop b l)):=by
 have h1:=put_frags a b l
 have h2:=put_defs a b l hb
 have h3:(stays l b.frags).map (movedFrg (count l a.frags.length b.frags))=(drop b l).frags.map (shiftFrg a.frags.length):=by
  rw[drop_frags,List.map_map]
  exact List.map_congr_left fun f hf=>shift_frg b.frags l _ (Int.natCast_nonneg _) f (hb.fits f ((List.mem_filter.1 hf).1))
 rw[h3] at h1
 cases hp:put a l b with
 | mk x y =>
  rw[hp] at h1 h2
  simp only at h1 h2
  rw[h1,h2]
  rfl
theorem both_shift (a b:Prt) (ha:Ok a) (hb:Ok b):both a b=plus a (shift a.frags.length (drop b (groups a.frags))):=by
 rw[← put_shift a b _ hb]
 unfold both put
 rw[moved_id ha]
end Go.Proofs.YtebippbakbihiaaGreatDoor.M
