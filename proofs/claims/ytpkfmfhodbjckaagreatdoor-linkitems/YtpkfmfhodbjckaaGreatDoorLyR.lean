/-
  The contract of the reference's next: step by step up to the next multiple. Plain mathematics: the reference's way of laying fragments out (a twin is looked for among those ahead) comes to M's (texts that stand are remembered). What the reference's LaidOut has in memory. What the reference's LaidOut has in memory while it lays out common names.
-/
import Derived.Lib.Hide
import Derived.Test.YtpkfmfhodbjckaaGreatDoorMathC
set_option linter.unusedVariables false
namespace Go.Proofs.YtpkfmfhodbjckaaGreatDoor
open Go Go.RowKit
theorem next_self{a d:Int}(hd:M.AlignOk d)(h:a % d=0):M.next a d=a:=by
 unfold M.next
 rcases hd with rfl|rfl|rfl|rfl|rfl<;>omega
theorem next_step{a d:Int}(hd:M.AlignOk d)(h:a % d≠0):M.next (a+1) d=M.next a d∧a<M.next a d:=by
 unfold M.next
 rcases hd with rfl|rfl|rfl|rfl|rfl<;>omega
set_option maxHeartbeats 1000000 in
theorem rnext_any(a d:Int)(w:World)(ha:0≤a)(hb:a≤1000000)(hd:M.AlignOk d) :
  Calls Tryz.prog 69 #[iv a,iv d] w fun e w'=>e=.returned (iv (M.next a d))∧w=w':=by
 obtain⟨n,hn⟩:∃n,M.next a d=n:=⟨_,rfl⟩
 have hbd:=M.next_bounds ha hd
 have hp:=hd.pos
 rw[hn] at hbd ⊢
 have HN:Hid (M.next a d=n):=hn
 clear hn
 go_enter Tryz.func69,Tryz.ntmps69
 go_wp2_with fail
 go_loopw [0] (fun s0 wr=>∃x:Int,s0=iv x∧a≤x∧x≤n∧Hid (M.next x d=n)∧w=wr) (fun s0 _=>(n-intOf s0).toNat)
 case atStart=>exact⟨a,rfl,Int.le_refl _,hbd.1,HN,rfl⟩
 case round =>
  obtain⟨x,rfl,h1,h2,HX,rfl⟩:=hrel
  have ht:x.tmod d=x % d:=Int.tmod_eq_emod_of_nonneg (by omega)
  have hz:(d==0)=false:=by simp;omega
  have hz':¬d=0:=by omega
  cases hc:(x % d==0)
  ·have hne:x % d≠0:=by simpa using hc
   have hst:=next_step hd hne
   have hlt:x<n:=by have:=hst.2;rw[HX.out] at this;exact this
   have HX2:Hid (M.next (x+1) d=n):=hst.1.trans HX.out
   have e1:(x.tmod d !=0)=true:=by rw[ht];simpa using hc
   have e2:(x % d !=0)=true:=by simpa using hc
   have w1:IntKind.i64.wrap (x+1)=x+1:=by rw[IntKind.wrap_i64];omega
   clear hst hne hc HX
   go_wp2_with fail
   go_roundw
   case rel=>exact⟨x+1,rfl,by omega,by omega,HX2,by trivial⟩
   case measure=>simp[intOf];omega
  ·have heq:x % d=0:=by simpa using hc
   have hxn:Hid (x=n):=by rw[Hid,←HX.out,next_self hd heq]
   have e1:(x.tmod d !=0)=false:=by rw[ht];simpa using heq
   have e2:(x % d !=0)=false:=by simpa using heq
   clear HX heq hc
   go_wp2
   go_ret
   exact⟨by rw[hxn.out];rfl,rfl⟩
end Go.Proofs.YtpkfmfhodbjckaaGreatDoor
namespace Go.Proofs.YtpkfmfhodbjckaaGreatDoor
open Go
def lsAt (sect:Int) (adr:List Int) (pos:Int) (fs:List M.Frg) (i:Nat):M.LS:=M.layGo sect ⟨adr,pos,[]⟩ 0 (fs.take i)
theorem lsAt_0(sect:Int)(adr:List Int)(pos:Int)(fs:List M.Frg):lsAt sect adr pos fs 0=⟨adr,pos,[]⟩:=by
 unfold lsAt;rw[List.take_zero];rfl
theorem lsAt_succ(sect:Int)(adr:List Int)(pos:Int)(fs:List M.Frg){i:Nat}(hi:i<fs.length):lsAt sect adr pos fs (i+1)=M.layStep sect (lsAt sect adr pos fs i) i (fs.getD i frg0):=by
 unfold lsAt
 have e:fs.take (i+1)=fs.take i++[fs.getD i frg0]:=by
  rw[List.take_succ_eq_append_getElem hi,List.getD_eq_getElem?_getD,List.getElem?_eq_getElem hi];rfl
 rw[e,M.layGo_snoc,Nat.zero_add,List.length_take,Nat.min_eq_left (by omega)]
theorem lsAt_all(sect:Int)(adr:List Int)(pos:Int)(fs:List M.Frg):lsAt sect adr pos fs fs.length=M.layFrags sect adr fs pos:=by
 unfold lsAt M.layFrags;rw[List.take_length]
theorem lsAt_len(sect:Int)(adr:List Int)(pos:Int)(fs:List M.Frg)(i:Nat):(lsAt sect adr pos fs i).adr.length=adr.length:=M.layGo_len ..
theorem lsAt_ap{sect:Int}{adr:List Int}{pos:Int}{fs:List M.Frg}(h0:0≤pos)(hl:adr.length=fs.length)(hf:∀f∈fs,M.FrgOk f):∀i,i≤fs.length→M.Ap sect pos fs i (lsAt sect adr pos fs i)
 | 0,_=>by
  rw[lsAt_0]
  exact⟨Int.le_refl _,hl,fun j _ hj=>absurd hj (Nat.not_lt_zero _),fun _ j _ hj=>absurd hj (Nat.not_lt_zero _),fun _=>rfl,(fun x hx=>by cases hx),(fun x hx=>by cases hx),fun _ j _ _ _ _ hj=>absurd hj (Nat.not_lt_zero _)⟩
 | i+1,hi=>by
  rw[lsAt_succ sect adr pos fs (by omega)]
  exact(lsAt_ap h0 hl hf i (by omega)).step h0 (getElem?_getD fs frg0 i (by omega)) (hf _ (getD_mem fs frg0 i (by omega)))
theorem lsAt_pos{sect:Int}{adr:List Int}{pos:Int}{fs:List M.Frg}(h0:0≤pos)(hf:∀f∈fs,M.FrgOk f)(i:Nat):pos≤(lsAt sect adr pos fs i).pos∧(lsAt sect adr pos fs i).pos≤pos+71*fs.length:=by
 have h:=M.layGo_pos (sect:=sect) (fs.take i) ⟨adr,pos,[]⟩ 0 (fun f hm=>hf f (List.mem_of_mem_take hm)) h0
 have hl:(fs.take i).length≤fs.length:=by rw[List.length_take];omega
 unfold lsAt
 simp only at h
 omega
theorem seen_from{sect:Int}{adr:List Int}{pos:Int}{fs:List M.Frg} : ∀i,i≤fs.length→∀x∈(lsAt sect adr pos fs i).seen,∃j,j<i∧(fs.getD j frg0).sect=sect∧(fs.getD j frg0).bytes=x.1∧(fs.getD j frg0).align=x.2.1
 | 0,_,x,hx=>by rw[lsAt_0] at hx;cases hx
 | i+1,hi,x,hx=>by
  rw[lsAt_succ sect adr pos fs (by omega)] at hx
  have keep:x∈(lsAt sect adr pos fs i).seen→∃j,j<i+1∧(fs.getD j frg0).sect=sect∧(fs.getD j frg0).bytes=x.1∧(fs.getD j frg0).align=x.2.1:=fun h=>by
   obtain⟨j,h1,h2⟩:=seen_from i (by omega) x h
   exact⟨j,by omega,h2⟩
  unfold M.layStep at hx
  split at hx
  ·rename_i hs
   cases hl:M.look (lsAt sect adr pos fs i).seen (fs.getD i frg0).bytes (fs.getD i frg0).align with
   | none =>
    rw[hl] at hx
    have hx':x∈(M.layNew sect (lsAt sect adr pos fs i) i (fs.getD i frg0)).seen:=hx
    unfold M.layNew at hx'
    simp only at hx'
    split at hx'
    ·rcases List.mem_cons.1 hx' with rfl|h
     ·exact⟨i,by omega,hs,rfl,rfl⟩
     ·exact keep h
    ·exact keep hx'
   | some y =>
    rw[hl] at hx
    exact keep hx
  ·exact keep hx
def isTwin (sect:Int) (fs:List M.Frg) (i k:Nat):Bool:=sect==3&&((fs.getD k frg0).sect==sect&&((fs.getD k frg0).align==(fs.getD i frg0).align&&M.allTwo (fun x y=>x==y) (fs.getD k frg0).bytes (fs.getD i frg0).bytes))
theorem allTwo_eq':∀xs ys:List Int,M.allTwo (fun x y=>x==y) xs ys=true↔xs=ys
 | [],[]=>by simp[M.allTwo]
 | [],y::ys=>by simp[M.allTwo]
 | x::xs,[]=>by simp[M.allTwo]
 | x::xs,y::ys=>by
  show ((x==y)&&M.allTwo (fun x y=>x==y) xs ys)=true↔_
  rw[Bool.and_eq_true,allTwo_eq' xs ys,beq_iff_eq,List.cons.injEq]
theorem isTwin_iff{sect:Int}{fs:List M.Frg}{i k:Nat} : isTwin sect fs i k=true↔sect=3∧(fs.getD k frg0).sect=sect∧(fs.getD k frg0).align=(fs.getD i frg0).align∧(fs.getD k frg0).bytes=(fs.getD i frg0).bytes:=by
 unfold isTwin
 simp only[Bool.and_eq_true,beq_iff_eq,allTwo_eq']
theorem twin_some{sect:Int}{adr:List Int}{pos:Int}{fs:List M.Frg}(h0:0≤pos)(hl:adr.length=fs.length)(hf:∀f∈fs,M.FrgOk f){i k:Nat}(hi:i<fs.length)(hk:k<i)(ht:isTwin sect fs i k=true)(hs:(fs.getD i frg0).sect=sect) :
  lsAt sect adr pos fs (i+1)=⟨(lsAt sect adr pos fs i).adr.set i ((lsAt sect adr pos fs i).adr.getD k 0),(lsAt sect adr pos fs i).pos,(lsAt sect adr pos fs i).seen⟩:=by
 obtain⟨t1,t2,t3,t4⟩:=isTwin_iff.1 ht
 have hap:=lsAt_ap (sect:=sect) h0 hl hf i (by omega)
 have hsn:=hap.seen t1 k (fs.getD k frg0) hk (getElem?_getD fs frg0 k (by omega)) t2
 rw[t3,t4] at hsn
 rw[lsAt_succ sect adr pos fs hi]
 unfold M.layStep
 rw[if_pos hs,hsn]
 rfl
theorem twin_none{sect:Int}{adr:List Int}{pos:Int}{fs:List M.Frg}(h0:0≤pos)(hl:adr.length=fs.length)(hf:∀f∈fs,M.FrgOk f){i:Nat}(hi:i<fs.length)(ht:∀k,k<i→isTwin sect fs i k=false)(hs:(fs.getD i frg0).sect=sect) :
  (lsAt sect adr pos fs (i+1)).adr=(lsAt sect adr pos fs i).adr.set i (M.next (lsAt sect adr pos fs i).pos (fs.getD i frg0).align)∧(lsAt sect adr pos fs (i+1)).pos=M.next (lsAt sect adr pos fs i).pos (fs.getD i frg0).align+M.long (fs.getD i frg0):=by
 have hap:=lsAt_ap (sect:=sect) h0 hl hf i (by omega)
 have hlk:M.look (lsAt sect adr pos fs i).seen (fs.getD i frg0).bytes (fs.getD i frg0).align=none:=by
  cases hl2:M.look (lsAt sect adr pos fs i).seen (fs.getD i frg0).bytes (fs.getD i frg0).align with
  | none=>rfl
  | some x =>
   exfalso
   by_cases h3:sect=3
   ·obtain⟨j,j1,j2,j3,j4⟩:=seen_from i (by omega) _ (M.look_mem hl2)
    have:=isTwin_iff.2 ⟨h3,j2,j4,j3⟩
    rw[ht j j1] at this
    cases this
   ·rw[hap.none h3] at hl2
    cases hl2
 rw[lsAt_succ sect adr pos fs hi]
 unfold M.layStep
 rw[if_pos hs,hlk]
 exact⟨rfl,rfl⟩
theorem lsAt_skip{sect:Int}{adr:List Int}{pos:Int}{fs:List M.Frg}{i:Nat}(hi:i<fs.length)(hs:(fs.getD i frg0).sect≠sect):lsAt sect adr pos fs (i+1)=lsAt sect adr pos fs i:=by
 rw[lsAt_succ sect adr pos fs hi]
 unfold M.layStep
 rw[if_neg hs]
theorem fr_put(vF vN vC:Value)(p:M.Prt)(base:Int)(t:Nat→Int){k:Nat}(hk:k<5) :
  (layArr vF vN vC (M.frAt p base k) t).setIfInBounds (3+(k+1)) (iv (M.next (M.secN p.frags base k).2 16))=layArr vF vN vC (M.frAt p base (k+1)) t:=by
 have hc:k=0∨k=1∨k=2∨k=3∨k=4:=by omega
 rcases hc with rfl|rfl|rfl|rfl|rfl<;>rfl
theorem ti_put(vF vN vC:Value)(p:M.Prt)(base:Int)(f:Nat→Int){k:Nat}(hk:k<5) :
  (layArr vF vN vC f (M.tiAt p base k)).setIfInBounds (9+(k+1)) (iv (M.tillOf p base (k+1)))=layArr vF vN vC f (M.tiAt p base (k+1)):=by
 have hc:k=0∨k=1∨k=2∨k=3∨k=4:=by omega
 rcases hc with rfl|rfl|rfl|rfl|rfl<;>rfl
end Go.Proofs.YtpkfmfhodbjckaaGreatDoor
namespace Go.Proofs.YtpkfmfhodbjckaaGreatDoor
open Go Go.RowKit
structure YR (w W:World) (a1 a2:Option Addr) (c1 c2:Nat) (p:M.Prt) (B g b:Nat) (adr:List Int) (vN vC:Value) (N:List ByteArray) (C:List Int) (f t:Nat→Int):Prop where
 yi:YI w W a1 a2 c1 c2 p g b adr vN vC f t
 names:W.ownsRow B 9 1 vN N.length (N.map Value.string)
 coms:W.ownsRow B 3 1 vC C.length (C.map (Value.int .i64))
 low:b<B∧g<B
section
variable {w W X : World} {a1 a2 : Option Addr} {c1 c2 : Nat} {p : M.Prt} {B g b : Nat} {adr : List Int} {vN vC : Value} {N : List ByteArray} {C : List Int} {f t : Nat → Int}
theorem YR.later(h:YR w W a1 a2 c1 c2 p B g b adr vN vC N C f t)(hb:Below W.heap.size W X):YR w X a1 a2 c1 c2 p B g b adr vN vC N C f t :=
 ⟨h.yi.later hb,h.names.kept (grown_of_below hb none) own_self,h.coms.kept (grown_of_below hb none) own_self,h.low⟩
theorem own_not{w:World}{B k n:Nat}{e:TypeId}{v:Value}{xs:List Value}(h:w.ownsRow B e k v n xs){q:Nat}(hq:q<B):v.ownBlock≠some q:=fun e=>by
 have:=(h.lt q e).1
 omega
theorem YR.store(h:YR w W a1 a2 c1 c2 p B g b adr vN vC N C f t)(j:Nat)(x:Int)(hj:j<adr.length):YR w (W.setCell (qa g j) (iv x)) a1 a2 c1 c2 p B g b (adr.set j x) vN vC N C f t:=by
 have hs:=h.yi.row.stored j (iv x)
 refine⟨h.yi.call hs.2 ?_,ownsRow_setCell_other h.names (own_not h.names h.low.2) _,ownsRow_setCell_other h.coms (own_not h.coms h.low.2) _,h.low⟩
 rw[List.map_set]
 exact hs.1
theorem YR.put(h:YR w W a1 a2 c1 c2 p B g b adr vN vC N C f t)(i:Nat)(u:Value)(f' t':Nat→Int)
  (hs:(layArr (sv (some (qa g 0)) p.frags.length p.frags.length) vN vC f t).setIfInBounds i u=layArr (sv (some (qa g 0)) p.frags.length p.frags.length) vN vC f' t'):YR w (W.setCell (qa b i) u) a1 a2 c1 c2 p B g b adr vN vC N C f' t' :=
 ⟨h.yi.put i u vN vC f' t' hs,ownsRow_setCell_other h.names (own_not h.names h.low.1) _,ownsRow_setCell_other h.coms (own_not h.coms h.low.1) _,h.low⟩
end
end Go.Proofs.YtpkfmfhodbjckaaGreatDoor
namespace Go.Proofs.YtpkfmfhodbjckaaGreatDoor
open Go Go.RowKit
theorem step_append_srcL{P:Program}{w:World}{ops:Array Oper}{o:Oper}{a:Act}{K:Act→World→Prop}{Q:Exit→Act→World→Prop}{E:Prop}(hgd:o.guard=none)(s x:Operand)(t:TypeId)
  (ho:o.op=.call { callee:=.builtin .append,args:=#[s,x],argTypes:=#[t,t] })
  (base:Nat) (e:TypeId) (i:TypeInfo) (z:Value) (size bytes:Nat) (ht:P.underlying t=some (.slice e)) (hi:P.info? e=some i) (hz:i.zero=some z)
  (hsize:i.size=size) (hby:i.bytes=bytes) (hzs:z.cells.size=size) (hsz:0<size)
  (v:Value) (n:Nat) (xs:List Value) (hs:a.eval s=v) (hown:w.ownsRow base e size v n xs)
  (u:Value) (m:Nat) (news:List Value) (hx:a.eval x=u) (hsrc:Src w u m news) (hl:news.length=m*size) (h1:∀u∈news,u.oneCell'=true)
  (h63:n+m≤maxLen) (hbytes:(n+m)*bytes≤140737488355328) (hbase:base≤w.heap.size)
  (h:∀v' w',w'.ownsRow base e size v' (n+m) (xs++news)→w.grownBy w' v.ownBlock→K (a.put o.dst v') w'):if Region.wanted o (yielded ops a.tmps)=true then Oper.wp P o a w K Q else E:=by
 rw[if_pos (show Region.wanted o (yielded ops a.tmps)=true by simp[Region.wanted,hgd])]
 exact wp_append_src w s x t ho base e i z size bytes ht hi hz hsize hby hzs hsz v n xs hs hown u m news hx hsrc hl h1 h63 hbytes hbase h
theorem own_low{w:World}{B B' k n:Nat}{e:TypeId}{v:Value}{xs:List Value}(h:w.ownsRow B e k v n xs)(hb:B'≤B):w.ownsRow B' e k v n xs:=by
 refine⟨h.1,?_⟩
 rcases h.2 with h1|⟨g,cap,cur,h1,h2,h3⟩
 ·exact .inl h1
 ·exact .inr ⟨g,cap,cur,h1,Nat.le_trans hb h2,h3⟩
structure YQ (w W:World) (a1 a2:Option Addr) (c1 c2:Nat) (p:M.Prt) (B g b dn Bm ml:Nat) (mv:Value) (mx:List Value) (dc:Array Value) (adr:List Int) (cN cC vN vC:Value) (N:List ByteArray) (C:List Int) (f t:Nat→Int):Prop where
 yi:YI w W a1 a2 c1 c2 p g b adr cN cC f t
 names:W.ownsRow B 9 1 vN N.length (N.map Value.string)
 coms:W.ownsRow B 3 1 vC C.length (C.map (Value.int .i64))
 low:b<B∧g<B
 dv:W.heap[dn]?=some (.cells dc 72 (0,0))
 mr:W.ownsRow Bm 9 1 mv ml mx
 mlow:b<Bm∧g<Bm
 mhi:∀q,mv.ownBlock=some q→q<B
 big:B≤W.heap.size
section
variable {w W X : World} {a1 a2 : Option Addr} {c1 c2 : Nat} {p : M.Prt} {B g b dn Bm ml : Nat} {mv : Value} {mx : List Value} {dc : Array Value} {adr : List Int} {cN cC vN vC : Value} {N : List ByteArray} {C : List Int} {f t : Nat → Int}
theorem YQ.later(h:YQ w W a1 a2 c1 c2 p B g b dn Bm ml mv mx dc adr cN cC vN vC N C f t)(hb:Below W.heap.size W X):YQ w X a1 a2 c1 c2 p B g b dn Bm ml mv mx dc adr cN cC vN vC N C f t :=
 ⟨h.yi.later hb,h.names.kept (grown_of_below hb none) own_self,h.coms.kept (grown_of_below hb none) own_self,h.low,(hb.block _ (lt1 h.dv)).trans h.dv,h.mr.kept (grown_of_below hb none) own_self,h.mlow,h.mhi,Nat.le_trans h.big hb.size⟩
theorem YI.grow{q:Option Nat}(h:YI w W a1 a2 c1 c2 p g b adr cN cC f t)(hg:W.grownBy X q)(hq:∀k,q=some k→w.heap.size+1<k∧k≠b∧k≠g):YI w X a1 a2 c1 c2 p g b adr cN cC f t:=by
 have hgg:=row_high h.row
 refine⟨(hg.block _ (lt1 h.part) ?_).trans h.part,(hg.block _ (lt1 h.res) ?_).trans h.res,(hg.block _ (lt1 h.blk) ?_).trans h.blk,h.row.kept hg (.inr ?_),h.below.grown hg h.below.size (fun k hk=>by have:=(hq k hk).1;omega),h.high⟩
 ·intro e;have:=(hq _ e.symm).1;omega
 ·intro e;have:=(hq _ e.symm).1;omega
 ·intro e;exact(hq _ e.symm).2.1 rfl
 ·intro e;exact(hq g e.symm).2.2 rfl
theorem YQ.growN{v1:Value}{s:ByteArray}(h:YQ w W a1 a2 c1 c2 p B g b dn Bm ml mv mx dc adr cN cC vN vC N C f t)(hB:w.heap.size+1<B)(ho:X.ownsRow B 9 1 v1 (N.length+1) (N.map Value.string++[.string s]))(hg:W.grownBy X vN.ownBlock) :
  YQ w X a1 a2 c1 c2 p B g b dn Bm ml mv mx dc adr cN cC v1 vC (N++[s]) C f t:=by
 have hlt:=fun k hk=>(h.names.lt k hk).1
 refine⟨h.yi.grow hg (fun k hk=>⟨by have:=hlt k hk;omega,by have:=hlt k hk;have:=h.low;omega,by have:=hlt k hk;have:=h.low;omega⟩),?_,h.coms.kept hg (own_apart h.coms h.names (by decide)),h.low,block_kept h.names hg h.dv (by decide),h.mr.kept hg ?_,h.mlow,h.mhi,Nat.le_trans h.big hg.size⟩
 ·rw[List.length_append,List.map_append];exact ho
 ·cases hm:mv.ownBlock with
  | none=>exact .inl rfl
  | some q =>
   refine .inr fun e=>?_
   have h1:=h.mhi q hm
   have h2:=hlt q e.symm
   omega
theorem YQ.growC{v2:Value}{x:Int}(h:YQ w W a1 a2 c1 c2 p B g b dn Bm ml mv mx dc adr cN cC vN vC N C f t)(hB:w.heap.size+1<B)(ho:X.ownsRow B 3 1 v2 (C.length+1) (C.map (Value.int .i64)++[iv x]))(hg:W.grownBy X vC.ownBlock) :
  YQ w X a1 a2 c1 c2 p B g b dn Bm ml mv mx dc adr cN cC vN v2 N (C++[x]) f t:=by
 have hlt:=fun k hk=>(h.coms.lt k hk).1
 refine⟨h.yi.grow hg (fun k hk=>⟨by have:=hlt k hk;omega,by have:=hlt k hk;have:=h.low;omega,by have:=hlt k hk;have:=h.low;omega⟩),h.names.kept hg (own_apart h.names h.coms (by decide)),?_,h.low,block_kept h.coms hg h.dv (by decide),h.mr.kept hg ?_,h.mlow,h.mhi,Nat.le_trans h.big hg.size⟩
 ·rw[List.length_append,List.map_append];exact ho
 ·cases hm:mv.ownBlock with
  | none=>exact .inl rfl
  | some q =>
   refine .inr fun e=>?_
   have h1:=h.mhi q hm
   have h2:=hlt q e.symm
   omega
theorem YQ.put(h:YQ w W a1 a2 c1 c2 p B g b dn Bm ml mv mx dc adr cN cC vN vC N C f t)(i:Nat)(u:Value)(cN' cC':Value)(f' t':Nat→Int)
  (hs:(layArr (sv (some (qa g 0)) p.frags.length p.frags.length) cN cC f t).setIfInBounds i u=layArr (sv (some (qa g 0)) p.frags.length p.frags.length) cN' cC' f' t'):YQ w (W.setCell (qa b i) u) a1 a2 c1 c2 p B g b dn Bm ml mv mx dc adr cN' cC' vN vC N C f' t' :=
 ⟨h.yi.put i u cN' cC' f' t' hs,ownsRow_setCell_other h.names (own_not h.names h.low.1) _,ownsRow_setCell_other h.coms (own_not h.coms h.low.1) _,h.low,
  (Below.heap_setCell _ _ _ _ (by
    show dn≠b
    intro e
    have h1:=h.dv
    rw[e,h.yi.blk] at h1
    cases h1)).trans h.dv,ownsRow_setCell_other h.mr (own_not h.mr h.mlow.1) _,h.mlow,h.mhi,by have:=h.big;simpa using this⟩
end
end Go.Proofs.YtpkfmfhodbjckaaGreatDoor
