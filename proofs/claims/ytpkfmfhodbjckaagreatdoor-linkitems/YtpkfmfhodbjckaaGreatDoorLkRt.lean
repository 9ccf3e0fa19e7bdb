/-
  The reference's Bounds, ValueOf, WideOf; slices.Clone. The reference's Linked: bytes at addresses, in a map. The reference's Linked: its closure told, and what it calls.
-/
import Derived.Maps.OwnOps
import Derived.Maps.OwnSet
import Derived.Test.YtpkfmfhodbjckaaGreatDoorLkRm
set_option linter.unusedVariables false
set_option maxHeartbeats 1000000
set_option maxRecDepth 100000
namespace Go.Proofs.YtpkfmfhodbjckaaGreatDoor
open Go Go.RowKit Go.Maps
theorem wpList_insert_ownF{H:Type}{P:Program}(w:World){ops:Array Oper}{rest:List Oper}{o:Oper}{a:Act}{Q:Exit→Act→World→Prop}
  (hg:o.guard=none) (m x v:Operand) (t:TypeId) (hop:o.op=Op.insert t m x v)
  (k e:TypeId) (K:Keyed P k) (ht:P.underlying t=some (.map k e)) (R:Value→Option (DataW H × List MemPlace)) (b n:Nat) (D:DataW H)
  (hm:a.eval m=.map (some b)) (hown:w.ownsMap P k R b n D) (hn:n<maxLen) (key val:Value) (kl:Lit) (hx:a.eval x=key) (hv:a.eval v=val) (hkey:keyOf P k key=some kl)
  (d:DataW H) (ps:List MemPlace) (hval:R val=some (d,ps))
  (hK:∀w',w'.ownsMap P k R b (n+1) (D.put kl d)→w.grownBy w' (some b)→wpList P ops Q rest (a.put o.dst undef) w') :
  wpList P ops Q (o::rest) a w:=by
 refine wpList_plain hg fun K' hK'=>?_
 obtain⟨w',hrun,r1,r2⟩:=hown.update K ht hn hkey hval
 unfold Oper.wp
 simp[execOp,hop,hm,hx,hv,hrun,Result.andThen]
 exact hK' _ _ (hK w' r1 r2)
theorem law3F:Keyed Tryz.prog 3:=int_keyed Tryz.underlying3
theorem zero3F(w:World):(zeroValue 3).run Tryz.prog w=.ok (iv 0) w:=by kernel_rfl
def wideMapF:DataW Unit:=((((DataW.map []).put (.int .i64 1) (.lit (.int .i64 1))).put (.int .i64 2) (.lit (.int .i64 2))).put (.int .i64 3) (.lit (.int .i64 1))).put (.int .i64 4) (.lit (.int .i64 2))
theorem wideMap_eqF:wideMapF=.map [(.int .i64 1,.lit (.int .i64 1)),(.int .i64 2,.lit (.int .i64 2)),(.int .i64 3,.lit (.int .i64 1)),(.int .i64 4,.lit (.int .i64 2))]:=by
 kernel_rfl
theorem wideMap_atF(n c:Int)(h:wideMapF.atKey (.int .i64 n) (.lit (.int .i64 0))=.lit (.int .i64 c)):M.wide n=c:=by
 rw[wideMap_eqF] at h
 by_cases h1:n=1
 ·subst h1;simpa [DataW.atKey,Lit.sameKey,M.wide] using h
 by_cases h2:n=2
 ·subst h2;simpa [DataW.atKey,Lit.sameKey,M.wide] using h
 by_cases h3:n=3
 ·subst h3;simpa [DataW.atKey,Lit.sameKey,M.wide] using h
 by_cases h4:n=4
 ·subst h4;simpa [DataW.atKey,Lit.sameKey,M.wide] using h
 have g1:¬1=n:=fun e=>h1 e.symm
 have g2:¬2=n:=fun e=>h2 e.symm
 have g3:¬3=n:=fun e=>h3 e.symm
 have g4:¬4=n:=fun e=>h4 e.symm
 simpa [DataW.atKey,Lit.sameKey,M.wide,h1,h2,h3,h4,g1,g2,g3,g4] using h
theorem wideOf_anyF(n:Int)(w:World)(hn:(Lit.int .i64 n).wf=true) :
  Calls Tryz.prog 74 #[iv n] w fun e w'=>e=.returned (iv (M.wide n))∧Below w.heap.size w w':=by
 have hmm:=@run_makeMap Tryz.prog
 go_enter Tryz.func74,Tryz.ntmps74
 go_wp2_with (first|(refine wpList_insert_ownF (H:=Unit) _ rfl _ _ _ 161 rfl 3 3 law3F Tryz.underlying161 _ w.heap.size 3 _ rfl hown3 (by unfold maxLen;decide) _ _ _ rfl rfl (keyOf_int_mk Tryz.underlying3 (by decide)) _ [] (plainElem_int Tryz.underlying3 (by decide)) ?_;intro w4 hown4 hg4)|(refine wpList_insert_ownF (H:=Unit) _ rfl _ _ _ 161 rfl 3 3 law3F Tryz.underlying161 _ w.heap.size 2 _ rfl hown2 (by unfold maxLen;decide) _ _ _ rfl rfl (keyOf_int_mk Tryz.underlying3 (by decide)) _ [] (plainElem_int Tryz.underlying3 (by decide)) ?_;intro w3 hown3 hg3)|(refine wpList_insert_ownF (H:=Unit) _ rfl _ _ _ 161 rfl 3 3 law3F Tryz.underlying161 _ w.heap.size 1 _ rfl hown1 (by unfold maxLen;decide) _ _ _ rfl rfl (keyOf_int_mk Tryz.underlying3 (by decide)) _ [] (plainElem_int Tryz.underlying3 (by decide)) ?_;intro w2 hown2 hg2)|(refine wpList_insert_ownF (H:=Unit) _ rfl _ _ _ 161 rfl 3 3 law3F Tryz.underlying161 _ w.heap.size 0 _ rfl (World.ownsMap_made _ _ _ _) (by unfold maxLen;decide) _ _ _ rfl rfl (keyOf_int_mk Tryz.underlying3 (by decide)) _ [] (plainElem_int Tryz.underlying3 (by decide)) ?_;intro w1 hown1 hg1)|(at_lookup;refine wpList_lookup_own_int _ rfl _ _ 161 rfl 3 3 .i64 law3F Tryz.underlying161 Tryz.underlying3 (zero3F _) w.heap.size 4 _ rfl hown4 _ _ rfl (keyOf_int_mk Tryz.underlying3 hn) ?_;intro c hat hwc))
 go_ret
 have hb:Below w.heap.size w w4:=by
  have h0:=bra w (.map #[] 0)
  have h1:=h0.grown hg1 (by simp) (fun j hj=>by cases hj;exact Nat.le_refl _)
  have h2:=h1.grown hg2 h1.size (fun j hj=>by cases hj;exact Nat.le_refl _)
  have h3:=h2.grown hg3 h2.size (fun j hj=>by cases hj;exact Nat.le_refl _)
  exact h3.grown hg4 h3.size (fun j hj=>by cases hj;exact Nat.le_refl _)
 exact⟨ret_int (wideMap_atF n c hat).symm,hb⟩
def pairElem (v:Value):Option (DataW Unit × List MemPlace) :=
 match v with
 | .agg cs =>
  match cs.toList with
  | [.int .i64 a,.int .i64 b]=>some (.agg [.lit (.int .i64 a),.lit (.int .i64 b)],[])
  | _=>none
 | _=>none
theorem pairElem_inv{v:Value}{x:DataW Unit × List MemPlace}(h:pairElem v=some x):∃a b,v=.agg #[.int .i64 a,.int .i64 b]∧x.1=.agg [.lit (.int .i64 a),.lit (.int .i64 b)]:=by
 unfold pairElem at h
 split at h
 ·rename_i cs
  split at h
  ·rename_i a b hc
   cases h
   refine⟨a,b,?_,rfl⟩
   have:cs=#[iv a,iv b]:=by
    apply Array.toList_inj.1
    rw[hc]
   rw[this]
  ·cases h
 ·cases h
def pairD (a b:Int):DataW Unit:=.agg [.lit (.int .i64 a),.lit (.int .i64 b)]
def boundsMap:DataW Unit:=((((DataW.map []).put (.int .i64 1) (pairD 0 255)).put (.int .i64 2) (pairD 0 65535)).put (.int .i64 3) (pairD (-128) 127)).put (.int .i64 4) (pairD (-32768) 32767)
theorem boundsMap_eq:boundsMap=.map [(.int .i64 1,pairD 0 255),(.int .i64 2,pairD 0 65535),(.int .i64 3,pairD (-128) 127),(.int .i64 4,pairD (-32768) 32767)]:=by
 kernel_rfl
theorem pairD_inj{a b c d:Int}(h:pairD a b=.agg [.lit (.int .i64 c),.lit (.int .i64 d)]):a=c∧b=d:=by
 unfold pairD at h
 injection h with h
 injection h with h1 h2
 injection h2 with h2 h3
 injection h1 with h1
 injection h2 with h2
 injection h1 with _ h1
 injection h2 with _ h2
 exact⟨h1,h2⟩
theorem bounds_at(n x y:Int)(bb:Bool)(h:boundsMap.atKey (.int .i64 n) (pairD 0 0)=.agg [.lit (.int .i64 x),.lit (.int .i64 y)])(hb:Maps.has boundsMap (.int .i64 n)=bb) :
  bb=M.known n∧(M.known n=true→x=M.lo n∧y=M.hi n):=by
 rw[boundsMap_eq] at h hb
 by_cases h1:n=1
 ·subst h1
  have e:(DataW.map [(.int .i64 1,pairD 0 255),(.int .i64 2,pairD 0 65535),(.int .i64 3,pairD (-128) 127),(.int .i64 4,pairD (-32768) 32767)]).atKey (.int .i64 1) (pairD 0 0)=pairD 0 255:=by simp[DataW.atKey,Lit.sameKey]
  rw[e] at h
  obtain⟨rfl,rfl⟩:=pairD_inj h
  subst hb
  exact⟨by simp[Maps.has,Lit.sameKey,M.known,M.wide],fun _=>⟨rfl,rfl⟩⟩
 by_cases h2:n=2
 ·subst h2
  have e:(DataW.map [(.int .i64 1,pairD 0 255),(.int .i64 2,pairD 0 65535),(.int .i64 3,pairD (-128) 127),(.int .i64 4,pairD (-32768) 32767)]).atKey (.int .i64 2) (pairD 0 0)=pairD 0 65535:=by simp[DataW.atKey,Lit.sameKey]
  rw[e] at h
  obtain⟨rfl,rfl⟩:=pairD_inj h
  subst hb
  exact⟨by simp[Maps.has,Lit.sameKey,M.known,M.wide],fun _=>⟨rfl,rfl⟩⟩
 by_cases h3:n=3
 ·subst h3
  have e:(DataW.map [(.int .i64 1,pairD 0 255),(.int .i64 2,pairD 0 65535),(.int .i64 3,pairD (-128) 127),(.int .i64 4,pairD (-32768) 32767)]).atKey (.int .i64 3) (pairD 0 0)=pairD (-128) 127:=by simp[DataW.atKey,Lit.sameKey]
  rw[e] at h
  obtain⟨rfl,rfl⟩:=pairD_inj h
  subst hb
  exact⟨by simp[Maps.has,Lit.sameKey,M.known,M.wide],fun _=>⟨rfl,rfl⟩⟩
 by_cases h4:n=4
 ·subst h4
  have e:(DataW.map [(.int .i64 1,pairD 0 255),(.int .i64 2,pairD 0 65535),(.int .i64 3,pairD (-128) 127),(.int .i64 4,pairD (-32768) 32767)]).atKey (.int .i64 4) (pairD 0 0)=pairD (-32768) 32767:=by simp[DataW.atKey,Lit.sameKey]
  rw[e] at h
  obtain⟨rfl,rfl⟩:=pairD_inj h
  subst hb
  exact⟨by simp[Maps.has,Lit.sameKey,M.known,M.wide],fun _=>⟨rfl,rfl⟩⟩
 have g1:¬1=n:=fun e=>h1 e.symm
 have g2:¬2=n:=fun e=>h2 e.symm
 have g3:¬3=n:=fun e=>h3 e.symm
 have g4:¬4=n:=fun e=>h4 e.symm
 have hk:M.known n=false:=by simp[M.known,M.wide,h1,h2,h3,h4]
 refine⟨?_,fun h=>absurd h (by rw[hk];decide)⟩
 rw[←hb,hk]
 simp[Maps.has,Lit.sameKey,g1,g2,g3,g4]
theorem wpList_lookup_pair{P:Program}(w:World){ops:Array Oper}{rest:List Oper}{o:Oper}{a:Act}{Q:Exit→Act→World→Prop}(hg:o.guard=none)(m x:Operand)(t:TypeId)(hop:o.op=Op.lookup t m x true)
  (k e:TypeId) (K:Keyed P k) (ht:P.underlying t=some (.map k e)) (hz:(zeroValue e).run P w=.ok (.agg #[.int .i64 0,.int .i64 0]) w) (b n:Nat) (D:DataW Unit)
  (hm:a.eval m=.map (some b)) (hown:w.ownsMap P k pairElem b n D) (key:Value) (kl:Lit) (hx:a.eval x=key) (hkey:keyOf P k key=some kl)
  (hK:∀c d bb,D.atKey kl (pairD 0 0)=.agg [.lit (.int .i64 c),.lit (.int .i64 d)]→Maps.has D kl=bb→wpList P ops Q rest (a.put o.dst (.tuple #[.agg #[.int .i64 c,.int .i64 d],.bool bb])) w) :
  wpList P ops Q (o::rest) a w :=
 wpList_lookup_own_ok w hg m x t hop k e K ht pairElem hz (pairD 0 0) [] rfl b n D hm hown key kl hx hkey (fun v ps hv=>by
  obtain⟨c,d,rfl,hc⟩:=pairElem_inv hv
  exact hK c d _ hc rfl)
theorem zeroP(w:World):(zeroValue 69).run Tryz.prog w=.ok (.agg #[iv 0,iv 0]) w:=by kernel_rfl
theorem bounds_any(n:Int)(w:World)(hn:(Lit.int .i64 n).wf=true) :
  Calls Tryz.prog 73 #[iv n] w fun e w'=>e=.returned (.tuple #[iv (M.lo n),iv (M.hi n)])∧Below w.heap.size w w':=by
 have HL:Hid (M.known n=false→M.lo n=1∧M.hi n=0):=fun h=>by
  have:M.wide n=0:=by
   have h1:=of_decide_eq_false h
   have h2:0≤M.wide n:=by unfold M.wide;repeat' split;all_goals omega
   omega
  unfold M.wide at this
  by_cases a1:n=1∨n=3
  ·rw[if_pos a1] at this;omega
  ·rw[if_neg a1] at this
   by_cases a2:n=2∨n=4
   ·rw[if_pos a2] at this;omega
   ·unfold M.lo M.hi
    rw[if_neg (by omega),if_neg (by omega),if_neg (by omega),if_neg (by omega),if_neg (by omega),if_neg (by omega),if_neg (by omega)]
    exact⟨rfl,rfl⟩
 have HA:Hid (∀x y bb,boundsMap.atKey (.int .i64 n) (pairD 0 0)=.agg [.lit (.int .i64 x),.lit (.int .i64 y)]→Maps.has boundsMap (.int .i64 n)=bb→bb=M.known n∧(M.known n=true→x=M.lo n∧y=M.hi n)):=fun x y bb=>bounds_at n x y bb
 generalize M.lo n=lo at *
 generalize M.hi n=hi at *
 generalize M.known n=kn at *
 have hmm:=@run_makeMap Tryz.prog
 go_enter Tryz.func73,Tryz.ntmps73
 go_wp2_with (first|(refine wpList_insert_ownF (H:=Unit) _ rfl _ _ _ 159 rfl 3 69 law3F Tryz.underlying159 pairElem w.heap.size 3 _ rfl hown3 (by unfold maxLen;decide) _ _ _ rfl rfl (keyOf_int_mk Tryz.underlying3 (by decide)) _ [] rfl ?_;intro w4 hown4 hg4)|(refine wpList_insert_ownF (H:=Unit) _ rfl _ _ _ 159 rfl 3 69 law3F Tryz.underlying159 pairElem w.heap.size 2 _ rfl hown2 (by unfold maxLen;decide) _ _ _ rfl rfl (keyOf_int_mk Tryz.underlying3 (by decide)) _ [] rfl ?_;intro w3 hown3 hg3)|(refine wpList_insert_ownF (H:=Unit) _ rfl _ _ _ 159 rfl 3 69 law3F Tryz.underlying159 pairElem w.heap.size 1 _ rfl hown1 (by unfold maxLen;decide) _ _ _ rfl rfl (keyOf_int_mk Tryz.underlying3 (by decide)) _ [] rfl ?_;intro w2 hown2 hg2)|(refine wpList_insert_ownF (H:=Unit) _ rfl _ _ _ 159 rfl 3 69 law3F Tryz.underlying159 pairElem w.heap.size 0 _ rfl (World.ownsMap_made _ _ _ _) (by unfold maxLen;decide) _ _ _ rfl rfl (keyOf_int_mk Tryz.underlying3 (by decide)) _ [] rfl ?_;intro w1 hown1 hg1)|(at_lookup;refine wpList_lookup_pair _ rfl _ _ 159 rfl 3 69 law3F Tryz.underlying159 (zeroP _) w.heap.size 4 _ rfl hown4 _ _ rfl (keyOf_int_mk Tryz.underlying3 hn) ?_;intro c d bb hat hbb;refine Hid.out ?_))
 refine Lib.hid ?_
 have hb:Hid (Below w.heap.size w w4):=by
  have h0:=bra w (.map #[] 0)
  have h1:=h0.grown hg1 (by simp) (fun j hj=>by cases hj;exact Nat.le_refl _)
  have h2:=h1.grown hg2 h1.size (fun j hj=>by cases hj;exact Nat.le_refl _)
  have h3:=h2.grown hg3 h2.size (fun j hj=>by cases hj;exact Nat.le_refl _)
  exact h3.grown hg4 h3.size (fun j hj=>by cases hj;exact Nat.le_refl _)
 obtain⟨rfl,hxy⟩:=HA.out c d bb hat hbb
 clear HA hat hbb hown1 hown2 hown3 hown4 hg1 hg2 hg3 hg4 hmm
 cases bb
 ·obtain⟨rfl,rfl⟩:=HL.out rfl
  clear hxy HL
  go_wp2
  go_ret2
  exact⟨rfl,hb.out.alloc hb.out.size _⟩
 ·obtain⟨rfl,rfl⟩:=hxy rfl
  clear hxy HL
  go_wp2_with fail
  go_region
  all_goals
   go_wp2
   go_ret2
   exact⟨rfl,(hb.out.alloc hb.out.size _).drew⟩
theorem zeroU8(w:World):(zeroValue 5).run Tryz.prog w=.ok (.int .u8 0) w:=by kernel_rfl
def MAt (w:World) (b N:Nat) (m:Int→Int):Prop :=
 ∃n D,n≤N∧w.ownsMap (H:=Unit) Tryz.prog 3 (plainElem Tryz.prog 5) b n D∧IsMap D∧∀x:Int,D.atKey (.int .i64 x) (.lit (.int .u8 0))=.lit (.int .u8 (m x))
theorem MAt.mono{w:World}{b N N':Nat}{m:Int→Int}(h:MAt w b N m)(hn:N≤N'):MAt w b N' m :=
 let ⟨n,D,h1,h2⟩:=h
 ⟨n,D,Nat.le_trans h1 hn,h2⟩
theorem MAt.later{w w':World}{b N:Nat}{m:Int→Int}(h:MAt w b N m)(hb:Below w.heap.size w w'):MAt w' b N m:=by
 obtain⟨n,D,h1,⟨es,clock,hm,h3⟩,h4⟩:=h
 exact⟨n,D,h1,⟨es,clock,(hb.block b (lt1 hm)).trans hm,h3⟩,h4⟩
theorem MAt.kept{w w':World}{b N:Nat}{m:Int→Int}{r:Option Nat}(h:MAt w b N m)(hb:w.grownBy w' r)(hr:r≠some b):MAt w' b N m:=by
 obtain⟨n,D,h1,⟨es,clock,hm,h3⟩,h4⟩:=h
 exact⟨n,D,h1,⟨es,clock,(hb.block b (lt1 hm) (fun e=>hr e.symm)).trans hm,h3⟩,h4⟩
theorem MAt.nil(w:World):MAt (w.alloc (.map #[] 0)) w.heap.size 0 (fun _=>0) :=
 ⟨0,.map [],Nat.le_refl _,World.ownsMap_made _ _ _ _,isMap_empty,fun s=>rfl⟩
theorem MAt.look{w:World}{b N:Nat}{m:Int→Int}(h:MAt w b N m)(x:Int)(hx:(Lit.int .i64 x).wf=true) :
  (Instr.lookup 84 (.map (some b)) (iv x) false).run Tryz.prog w=.ok (.int .u8 (m x)) w:=by
 obtain⟨n,D,h1,hown,_,hat⟩:=h
 obtain⟨c,hrun,hc,_⟩:=hown.lookup_int law3F Tryz.underlying84 Tryz.underlying5 (zeroU8 w) (keyOf_int_mk Tryz.underlying3 hx)
 rw[hat] at hc
 have hc':m x=c:=by
  simp only[DataW.lit.injEq,Lit.int.injEq,true_and] at hc
  exact hc
 rw[hrun,hc']
theorem MAt.put{w:World}{b N:Nat}{m:Int→Int}(h:MAt w b N m)(hN:N<maxLen)(x v:Int)(hx:(Lit.int .i64 x).wf=true)(hv:(Lit.int .u8 v).wf=true) :
  ∃w',(Instr.mapUpdate 84 (.map (some b)) (iv x) (.int .u8 v)).run Tryz.prog w=.ok () w'∧MAt w' b (N+1) (wrB m x v)∧w.grownBy w' (some b):=by
 obtain⟨n,D,h1,hown,him,hat⟩:=h
 obtain⟨w',hrun,ho,hg⟩:=hown.update law3F Tryz.underlying84 (Nat.lt_of_le_of_lt h1 hN) (keyOf_int_mk Tryz.underlying3 hx) (plainElem_int Tryz.underlying5 hv)
 refine⟨w',hrun,⟨n+1,_,by omega,ho,him.put _ _,fun t=>?_⟩,hg⟩
 by_cases e:t=x
 ·subst e
  rw[atKey_put_same him (by trivial),wrB_self]
 ·rw[atKey_put_other (fun e'=>e (by injection e')),hat,wrB_ne e]
theorem MAt.keep{w w':World}{b N b1 b2:Nat}{m:Int→Int}{c1 c2:Array Value}{t1 t2:TypeId}(h:MAt w b N m)(hg:w.grownBy w' (some b))(h1:w.heap[b1]?=some (.cells c1 t1 (0,0)))(h2:w.heap[b2]?=some (.cells c2 t2 (0,0))):w'.heap[b1]?=w.heap[b1]?∧w'.heap[b2]?=w.heap[b2]?:=by
 obtain⟨n,D,_,⟨es,ck,hq,_⟩,_⟩:=h
 exact⟨hg.block _ (lt1 h1) (fun e=>by cases e;rw[hq] at h1;cases h1),hg.block _ (lt1 h2) (fun e=>by cases e;rw[hq] at h2;cases h2)⟩
end Go.Proofs.YtpkfmfhodbjckaaGreatDoor
namespace Go.Proofs.YtpkfmfhodbjckaaGreatDoor
open Go Go.RowKit
def toldF (s:ByteArray) (f:Flt):Bool:=f.name.toList==s.toList&&f.name.toList !=[]
def told (l:List Flt) (s:ByteArray):Bool:=l.any (toldF s)
theorem told_faulty{s:ByteArray}(hs:s.toList≠[])(l:List Flt):told l s=M.faulty l s:=by
 unfold told M.faulty
 congr 1
 funext f
 unfold toldF
 cases h:(f.name.toList==s.toList)
 ·rfl
 ·have:f.name.toList=s.toList:=by simpa using h
  rw[this]
  simp[hs]
theorem toldFn_any(f:Flt)(n:Nat)(s:ByteArray)(w:World)(hs:w.cell? (qa n 0)=some (.string s)) :
  Calls Tryz.prog 35 #[.agg #[iv f.e,.string f.name,iv f.frag,iv f.pos],qv n 0] w fun e w'=>e=.returned (.bool (toldF s f))∧Below w.heap.size w w':=by
 obtain⟨e,nm,fr,pos⟩:=f
 have hA:Below w.heap.size w (w.alloc (.cells #[iv e,.string nm,iv fr,iv pos] 49)):=bra _ _
 have hnw:n<w.heap.size:=wlt hs
 have HT:Hid (toldF s ⟨e,nm,fr,pos⟩=(nm.toList==s.toList&&nm.toList !=[])):=rfl
 generalize toldF s ⟨e,nm,fr,pos⟩=R at *
 simp only
 cases h1:(nm.toList==s.toList)
 ·obtain rfl:R=false:=by have:=HT.out;rw[h1] at this;exact this
  clear HT
  go_enter Tryz.func35,Tryz.ntmps35
  go_wp2
  go_ret
  exact⟨rfl,hA⟩
 ·have HT2:Hid (R=(nm.toList !=[])):=by have:=HT.out;rw[h1] at this;exact this
  clear HT
  go_enter Tryz.func35,Tryz.ntmps35
  go_wp2
  go_ret
  refine⟨?_,hA⟩
  rw[HT2.out]
  simp
  cases nm.toList<;>rfl
theorem indexTold_any(l:List Flt)(a:Option Addr)(c n:Nat)(s:ByteArray)(w:World)(h:FltsAt w (sv a l.length c) l)(hs:w.cell? (qa n 0)=some (.string s)) :
  Calls Tryz.prog 72 #[sv a l.length c,.func (.func 35) #[] #[qv n 0]] w fun e w'=>(∃x,e=.returned (iv x)∧decide (0≤x)=told l s)∧Below w.heap.size w w':=by
 have hn:l.length≤maxLen:=by obtain⟨_,_,_,h⟩:=SlAt.form h;exact h
 unfold maxLen at hn
 have HH:Hid (∀W,Below w.heap.size w W→FltsAt W (sv a l.length c) l∧W.cell? (qa n 0)=some (.string s)):=fun W hW=>⟨h.later hW,cell_later hW hs⟩
 clear h hs
 have HA0:Hid (told (l.take 0) s=false):=rfl
 go_enter Tryz.func72,Tryz.ntmps72
 go_wp2_with fail
 go_loopw [8] (fun s8 wr=>∃(k:Nat),k≤l.length∧s8=iv k∧Hid (told (l.take k) s=false)∧Hid (Below w.heap.size w wr)) (fun s8 _=>l.length-(intOf s8).toNat)
 case atStart=>exact⟨0,Nat.zero_le _,rfl,HA0,Below.refl _ _⟩
 case round =>
  obtain⟨k,hk,rfl,HA,HB⟩:=hrel
  clear HA0
  by_cases hlt:k<l.length
  ·obtain⟨bb,off,rfl,e0,e1,e2,e3⟩:=(HH.out wr HB.out).1.cells k hlt
   have hkl:(k:Int)<(l.length:Int):=by omega
   have KC:Hid (Calls Tryz.prog 35 #[.agg #[iv (l.getD k flt0).e,.string (l.getD k flt0).name,iv (l.getD k flt0).frag,iv (l.getD k flt0).pos],qv n 0] wr fun e w'=>e=.returned (.bool (toldF s (l.getD k flt0)))∧Below wr.heap.size wr w'):=toldFn_any (l.getD k flt0) n s wr (HH.out wr HB.out).2
   have HN:Hid (told (l.take (k+1)) s=(toldF s (l.getD k flt0))):=by
    have:=HA.out
    unfold told at this ⊢
    rw[Hid,List.take_succ_eq_append_getElem hlt,List.any_append,this,List.getD_eq_getElem?_getD,List.getElem?_eq_getElem hlt];simp
   have HT:Hid ((toldF s (l.getD k flt0))=true→told l s=true):=fun h=>List.any_eq_true.2 ⟨_,getD_mem l flt0 k hlt,h⟩
   clear HA
   generalize (toldF s (l.getD k flt0))=R at *
   generalize l.getD k flt0=d at *
   obtain⟨er,nm,fr,pos⟩:=d
   simp only at e0 e1 e2 e3 KC
   cases R
   ·clear HT
    go_wp2_with (go_at_call 35;refine KC.out.mono ?_;rintro e w1 ⟨rfl,hb1⟩)
    go_roundw
    case rel=>exact⟨k+1,by omega,by go_num,HN,HB.out.trans (hb1.mono HB.out.size)⟩
    case measure=>simp[intOf];omega
   ·have HAn:Hid _:=HT.out rfl
    clear HT HN
    go_wp2_with (go_at_call 35;refine KC.out.mono ?_;rintro e w1 ⟨rfl,hb1⟩)
    go_ret
    exact⟨⟨_,rfl,by rw[HAn.out];simp⟩,HB.out.trans (hb1.mono HB.out.size)⟩
  ·obtain rfl:k=l.length:=by omega
   have HAn:Hid (told l s=false):=by have:=HA.out;rwa [List.take_length] at this
   clear HA
   go_wp2
   go_ret
   exact⟨⟨_,rfl,by rw[HAn.out];decide⟩,HB.out⟩
theorem containsTold_any(l:List Flt)(a:Option Addr)(c n:Nat)(s:ByteArray)(w:World)(h:FltsAt w (sv a l.length c) l)(hs:w.cell? (qa n 0)=some (.string s)) :
  Calls Tryz.prog 34 #[sv a l.length c,.func (.func 35) #[] #[qv n 0]] w fun e w'=>e=.returned (.bool (told l s))∧Below w.heap.size w w':=by
 have HK:Hid _:=indexTold_any l a c n s w h hs
 generalize told l s=R at *
 clear h hs
 go_enter Tryz.func34,Tryz.ntmps34
 go_wp2_with (go_at_call 72;refine Calls.mono HK.out ?_;rintro e w1 ⟨⟨x,rfl,hx⟩,hb1⟩)
 go_ret
 exact⟨by simp_all,hb1⟩
theorem told_any(l:List Flt)(a:Option Addr)(c b:Nat)(s:ByteArray)(w:World)(hb:w.cell? (qa b 0)=some (sv a l.length c))(h:FltsAt w (sv a l.length c) l) :
  Calls Tryz.prog 33 #[.string s,qv b 0] w fun e w'=>e=.returned (.bool (told l s))∧Below w.heap.size w w':=by
 have hA:Below w.heap.size w (w.alloc (.cells #[.string s] 9)):=bra _ _
 have q:=heap_alloc_new w (.cells #[.string s] 9)
 have hbw:b<w.heap.size:=wlt hb
 have HK:Hid (Calls Tryz.prog 34 #[sv a l.length c,.func (.func 35) #[] #[qv w.heap.size 0]] (w.alloc (.cells #[.string s] 9)) _):=containsTold_any l a c w.heap.size s _ (h.later hA) (cellB q 0)
 clear q h
 generalize told l s=R at *
 go_enter Tryz.func33,Tryz.ntmps33
 go_wp2_with (go_at_call 34;refine Calls.mono HK.out ?_;rintro e w1 ⟨rfl,hb1⟩)
 go_ret
 exact⟨rfl,hA.trans (hb1.mono hA.size)⟩
end Go.Proofs.YtpkfmfhodbjckaaGreatDoor
