/-
  The contracts of the reference's two small functions of Dropped: is a fragment gone; what its number becomes. What the reference's Dropped has in memory: its variables, the fragments of its own that are still to come, those that stay. What is put behind a part is what stays of the other, its numbers shifted. What the reference's Joined has in memory: its variables, the part that grows, the fragments of the other that are still to come.
-/
import Derived.Test.YtpkfmfhodbjckaaGreatDoorRefX
import Derived.BigQuiet
import Derived.Deep.DeepCutAuto
set_option linter.unusedVariables false
set_option maxHeartbeats 2000000
set_option maxRecDepth 100000
namespace Go.Proofs.YtpkfmfhodbjckaaGreatDoor
open Go Go.RowKit
attribute [local go_sem] lat_cell
theorem gone_bare(l:List ByteArray)(s al sz:Int)(g:ByteArray)(bs:List Int)(rs:List M.Rel)(h:g.toList.isEmpty=true):M.gone l ⟨s,al,g,bs,sz,rs⟩=false:=by
 unfold M.gone M.bare
 rw[h];rfl
theorem gone_has(l:List ByteArray)(s al sz:Int)(g:ByteArray)(bs:List Int)(rs:List M.Rel)(h:g.toList.isEmpty=false):M.gone l ⟨s,al,g,bs,sz,rs⟩=M.has l g:=by
 unfold M.gone M.bare
 rw[h];simp
theorem gone_any(fs:List M.Frg)(l:List ByteArray)(i:Nat)(a1 a3:Option Addr)(c1 c3 P L:Nat)(w:World)(hf:FragsAt w (sv a1 fs.length c1) fs)(hl:StrsAt w (sv a3 l.length c3) l)
  (cP:w.cell? (qa P 0)=some (sv a1 fs.length c1)) (cL:w.cell? (qa L 0)=some (sv a3 l.length c3)) (hi:i<fs.length) :
  Calls Tryz.prog 98 #[iv i,qv P 0,qv L 0] w fun e w'=>e=.returned (.bool (M.gone l (fs.getD i frg0)))∧Below w.heap.size w w':=by
 obtain⟨b,off,ab,cb,ar,cr,rfl,e0,e1,e2,e3,e4,e5,_,_,_,_⟩:=hf.cells i hi
 have hi0:(0:Int)≤(i:Int):=by omega
 have hil:(i:Int)<(fs.length:Int):=by omega
 have KC:Hid (∀W s,Below w.heap.size w W→Calls Tryz.prog 91 #[sv a3 l.length c3,.string s] W fun e w'=>e=.returned (.bool (M.has l s))∧w'=W):=fun W s hW=>containsS_any l s a3 c3 W (hl.later hW)
 clear hf hl e0 e1 e3 e4 e5
 generalize fs.getD i frg0=f at *
 obtain⟨s,al,g,bs,sz,rs⟩:=f
 simp only at e2
 cases hb:g.toList.isEmpty
 ·have HG:Hid (M.gone l ⟨s,al,g,bs,sz,rs⟩=M.has l g):=gone_has l s al sz g bs rs hb
  rw[HG.out]
  go_enter Tryz.func98,Tryz.ntmps98
  go_wp2_with fail
  refine wp_region_lat (by kernel_rfl) (by kernel_rfl) ?_
  intro hne
  repeat (go_big_quiet_step ((go_at_call 91;exact lat_of_same (KC.out _ _ (Lat.below _)))))
  refine wpQuiet_nil ?_
  intro w1 hb1
  have hb:=lat_out hb1
  clear hb1
  go_wp2
  go_ret
  exact⟨rfl,hb⟩
 ·have HG:Hid (M.gone l ⟨s,al,g,bs,sz,rs⟩=false):=gone_bare l s al sz g bs rs hb
  rw[HG.out]
  go_enter Tryz.func98,Tryz.ntmps98
  go_wp2_with fail
  refine wp_region_lat (by kernel_rfl) (by kernel_rfl) ?_
  intro hne
  repeat (go_big_quiet_step (fail))
  refine wpQuiet_nil ?_
  intro w1 hb1
  have hb:=lat_out hb1
  clear hb1
  go_wp2
  go_ret
  exact⟨rfl,hb⟩
def toN (l:List ByteArray) (fs:List M.Frg) (i:Int):Int:=if i<0 then -1 else M.num (M.count l 0 fs) i
theorem stays_takeN(l:List ByteArray)(fs:List M.Frg)(k:Nat)(h:k<fs.length):(M.stays l (fs.take (k+1))).length=(M.stays l (fs.take k)).length+bif M.gone l (fs.getD k frg0) then 0 else 1:=by
 unfold M.stays
 rw[List.take_succ_eq_append_getElem h,List.filter_append,List.length_append,List.getD_eq_getElem?_getD,List.getElem?_eq_getElem h]
 simp only[Option.getD_some,List.filter_cons,List.filter_nil]
 cases M.gone l fs[k]<;>rfl
theorem stays_le(l:List ByteArray)(fs:List M.Frg):(M.stays l fs).length≤fs.length:=List.length_filter_le _ _
theorem to_any(fs:List M.Frg)(l:List ByteArray)(i:Int)(a1 a3:Option Addr)(c1 c3 P L G:Nat)(w:World)(hf:FragsAt w (sv a1 fs.length c1) fs)(hl:StrsAt w (sv a3 l.length c3) l)
  (cP:w.cell? (qa P 0)=some (sv a1 fs.length c1)) (cL:w.cell? (qa L 0)=some (sv a3 l.length c3)) (cG:w.cell? (qa G 0)=some (.func (.func 98) #[] #[qv P 0,qv L 0]))
  (hi0:-1≤i) (hi:i<fs.length) (h60:fs.length≤60) :
  Calls Tryz.prog 99 #[iv i,qv G 0] w fun e w'=>e=.returned (iv (toN l fs i))∧Below w.heap.size w w':=by
 have KG:Hid (∀(j:Nat) W,j<fs.length→Below w.heap.size w W→Calls Tryz.prog 98 #[iv j,qv P 0,qv L 0] W fun e w'=>e=.returned (.bool (M.gone l (fs.getD j frg0)))∧Below W.heap.size W w'):=fun j W hj hW =>
  gone_any fs l j a1 a3 c1 c3 P L W (hf.later hW) (hl.later hW) (cell_later hW cP) (cell_later hW cL) hj
 have hG:G<w.heap.size:=wlt cG
 clear hf hl cP cL
 by_cases hneg:i<0
 ·have HT:Hid (toN l fs i=-1):=if_pos hneg
  generalize toN l fs i=R at *
  go_enter Tryz.func99,Tryz.ntmps99
  go_wp2
  go_ret
  exact⟨ret_int HT.out.symm,Below.refl _ _⟩
 ·obtain⟨n,rfl⟩:∃n:Nat,i=(n:Int):=⟨i.toNat,by omega⟩
  have hn:n<fs.length:=by omega
  have HT:Hid (toN l fs n=bif M.gone l (fs.getD n frg0) then -1 else ((M.stays l (fs.take n)).length:Int)):=by
   have hget:fs[((n:Nat):Int).toNat]?=some (fs.getD n frg0):=by simpa using getElem?_getD fs frg0 n hn
   rw[Hid,toN,if_neg (by omega),M.num_get l fs 0 n (by omega) _ hget]
   simp
  generalize toN l fs n=R at *
  have hnn:¬((n:Int)<0):=by omega
  cases hgo:M.gone l (fs.getD n frg0)
  ·have HT2:Hid (R=((M.stays l (fs.take n)).length:Int)):=by have:=HT.out;rw[hgo] at this;exact this
   clear HT
   have KG0:Hid (Calls Tryz.prog 98 #[iv n,qv P 0,qv L 0] w fun e w'=>e=.returned (.bool false)∧Below w.heap.size w w'):=by
    have:=KG.out n w hn (Below.refl _ _)
    rwa [hgo] at this
   clear hgo
   go_enter Tryz.func99,Tryz.ntmps99
   go_upto_region 5 with (go_at_call 98;refine KG0.out.mono ?_;rintro e w1 ⟨rfl,hb1⟩)
   go_loopw [4,14] (fun s4 s14 wr=>∃(k:Nat),k≤n∧s14=iv k∧s4=iv ((M.stays l (fs.take k)).length:Nat)∧Hid (Below w.heap.size w wr)) (fun _ s14 _=>n-(intOf s14).toNat)
   case atStart=>exact⟨0,Nat.zero_le _,rfl,rfl,hb1⟩
   case round =>
    obtain⟨k,hk,rfl,rfl,HB⟩:=hrel
    clear hb1 KG0
    have cG':=cell_later HB.out cG
    have hGr:G<wr.heap.size:=wlt cG'
    by_cases hlt:k<n
    ·have hkn:(k:Int)<(n:Int):=by omega
     have hst:=stays_takeN l fs k (by omega)
     have hsl:(M.stays l (fs.take k)).length≤60:=by
      have h1:=stays_le l (fs.take k)
      have h2:(fs.take k).length≤k:=List.length_take_le _ _
      omega
     have KGk:Hid (Calls Tryz.prog 98 #[iv k,qv P 0,qv L 0] wr fun e w'=>e=.returned (.bool (M.gone l (fs.getD k frg0)))∧Below wr.heap.size wr w'):=KG.out k wr (by omega) HB.out
     have HSt:Hid ((M.stays l (fs.take (k+1))).length=(M.stays l (fs.take k)).length+bif M.gone l (fs.getD k frg0) then 0 else 1):=hst
     clear hst
     generalize (M.stays l (fs.take k)).length=m at *
     generalize M.gone l (fs.getD k frg0)=gk at *
     cases gk
     ·have HS2:Hid ((M.stays l (fs.take (k+1))).length=m+1):=HSt.out
      clear HSt
      go_wp2_with (go_at_call 98;refine KGk.out.mono ?_;rintro e w2 ⟨rfl,hb2⟩)
      go_roundw
      case rel=>exact⟨k+1,by omega,by go_num,by rw[HS2.out];go_num,HB.out.trans (hb2.mono HB.out.size)⟩
      case measure=>simp[intOf];omega
     ·have HS2:Hid ((M.stays l (fs.take (k+1))).length=m):=HSt.out
      clear HSt
      go_wp2_with (go_at_call 98;refine KGk.out.mono ?_;rintro e w2 ⟨rfl,hb2⟩)
      go_roundw
      case rel=>exact⟨k+1,by omega,by go_num,by rw[HS2.out],HB.out.trans (hb2.mono HB.out.size)⟩
      case measure=>simp[intOf];omega
    ·have hkn:k=n:=by omega
     subst hkn
     go_wp2
     go_ret
     exact⟨ret_int HT2.out.symm,HB.out⟩
  ·have HT2:Hid (R=-1):=by have:=HT.out;rw[hgo] at this;exact this
   clear HT
   have KG0:Hid (Calls Tryz.prog 98 #[iv n,qv P 0,qv L 0] w fun e w'=>e=.returned (.bool true)∧Below w.heap.size w w'):=by
    have:=KG.out n w hn (Below.refl _ _)
    rwa [hgo] at this
   clear hgo
   go_enter Tryz.func99,Tryz.ntmps99
   go_wp2_with (go_at_call 98;refine KG0.out.mono ?_;rintro e w1 ⟨rfl,hb1⟩)
   go_ret
   exact⟨ret_int HT2.out.symm,hb1⟩
end Go.Proofs.YtpkfmfhodbjckaaGreatDoor
namespace Go.Proofs.YtpkfmfhodbjckaaGreatDoor
open Go Go.RowKit
structure DVars (w wr:World) (vp:Array Value) (vl:Value) (vF vD:Value):Prop where
 b0:wr.heap[w.heap.size]?=some (.cells vp 43 (0,0))
 b1:wr.heap[w.heap.size+1]?=some (.cells #[vl] 39 (0,0))
 b2:wr.heap[w.heap.size+2]?=some (.cells #[sv none 0 0,sv none 0 0] 43 (0,0))
 b3:wr.heap[w.heap.size+3]?=some (.cells #[.func (.func 98) #[] #[qv w.heap.size 0,qv (w.heap.size+1) 0]] 121 (0,0))
 b4:wr.heap[w.heap.size+4]?=some (.cells #[vF,vD] 43 (0,0))
 below:Below w.heap.size w wr
theorem DVars.keep{w wr X:World}{vp:Array Value}{vl vF vD:Value}(h:DVars w wr vp vl vF vD)(hk:∀(g:Nat) (cs:Array Value) (t:TypeId),wr.heap[g]?=some (.cells cs t (0,0))→t=43∨t=39∨t=121→X.heap[g]?=some (.cells cs t (0,0)))(hb:Below w.heap.size w X):DVars w X vp vl vF vD :=
 ⟨hk _ _ _ h.b0 (.inl rfl),hk _ _ _ h.b1 (.inr (.inl rfl)),hk _ _ _ h.b2 (.inl rfl),hk _ _ _ h.b3 (.inr (.inr rfl)),hk _ _ _ h.b4 (.inl rfl),hb⟩
theorem DVars.later{w wr X:World}{vp:Array Value}{vl vF vD:Value}(h:DVars w wr vp vl vF vD)(hb:Below wr.heap.size wr X):DVars w X vp vl vF vD :=
 h.keep (fun g cs t hg _=>blk hb hg) (h.below.trans (hb.mono h.below.size))
theorem DVars.grown{w wr X:World}{vp:Array Value}{vl vF vD v:Value}{B k n:Nat}{e:TypeId}{xs:List Value}(h:DVars w wr vp vl vF vD)(ho:wr.ownsRow B e k v n xs)(hB:w.heap.size≤B)(hg:wr.grownBy X v.ownBlock)(h1:e≠43)(h2:e≠39)(h3:e≠121):DVars w X vp vl vF vD :=
 h.keep (fun g cs t hq ht=>block_kept ho hg hq (by rcases ht with rfl|rfl|rfl<;>assumption)) (h.below.grown hg h.below.size (fun k hk=>Nat.le_trans hB (ho.lt k hk).1))
def EntAt (w:World) (B:Nat) (e:Ent):Prop :=
 w.ownsRow B 5 1 e.bv e.f.bytes.length (e.f.bytes.map (Value.int .u8))∧w.ownsRow B 89 5 e.rv e.f.rels.length (e.f.rels.flatMap encRel) ∧
 (∀b∈e.f.bytes,0≤b∧b<256)∧e.f.group.size≤maxLen∧∀r∈e.f.rels,r.name.size≤maxLen∧(Lit.int .i64 r.kind).wf=true
theorem EntAt.later{w X:World}{B:Nat}{e:Ent}(h:EntAt w B e)(hb:Below w.heap.size w X):EntAt X B e :=
 ⟨h.1.kept (grown_of_below hb none) own_self,h.2.1.kept (grown_of_below hb none) own_self,h.2.2⟩
structure DFr (w wr:World) (vp:Array Value) (vl:Value) (N:Nat) (vS:Value) (es0 es rest:List Ent) (vF:Value):Prop where
 vars:DVars w wr vp vl vF (sv none 0 0)
 pr:PR wr w.heap.size es [] vF (sv none 0 0)
 hi:wr.ownsRow N 87 6 vF es.length (es.flatMap entCells)
 src:wr.ownsRow w.heap.size 87 6 vS es0.length (es0.flatMap entCells)
 lo:∀g,vS.ownBlock=some g→g<N
 come:∀e∈rest,EntAt wr w.heap.size e
 ap:(es++rest).Pairwise Apart
 size:w.heap.size≤N
 top:N≤wr.heap.size
theorem DFr.later{w wr X:World}{vp:Array Value}{vl vS vF:Value}{N:Nat}{es0 es rest:List Ent}(h:DFr w wr vp vl N vS es0 es rest vF)(hb:Below wr.heap.size wr X):DFr w X vp vl N vS es0 es rest vF :=
 ⟨h.vars.later hb,h.pr.later hb,h.hi.kept (grown_of_below hb none) own_self,h.src.kept (grown_of_below hb none) own_self,h.lo,fun e he=>(h.come e he).later hb,h.ap,h.size,Nat.le_trans h.top hb.size⟩
theorem DFr.skip{w wr:World}{vp:Array Value}{vl vS vF:Value}{N:Nat}{es0 es rest:List Ent}{e:Ent}(h:DFr w wr vp vl N vS es0 es (e::rest) vF):DFr w wr vp vl N vS es0 es rest vF :=
 ⟨h.vars,h.pr,h.hi,h.src,h.lo,fun x hx=>h.come x (List.mem_cons_of_mem _ hx),h.ap.sublist (List.Sublist.append (List.Sublist.refl _) (List.sublist_cons_self _ _)),h.size,h.top⟩
def setFrag (e:Ent) (k:Nat) (n:Int):Ent:={ e with f:={ e.f with rels:=e.f.rels.set k { (e.f.rels.getD k rel0) with frag:=n } } }
theorem flat_set(rs:List M.Rel)(k:Nat)(hk:k<rs.length)(n:Int):(rs.flatMap encRel).set (k*5+3) (iv n)=(rs.set k { (rs.getD k rel0) with frag:=n }).flatMap encRel:=by
 apply List.ext_getElem?
 intro q
 have e:q=q / 5*5+q % 5:=by omega
 have h5:q % 5<5:=Nat.mod_lt _ (by decide)
 rw[List.getElem?_set]
 have hR:=flat_get 5 encRel (fun _=>rfl) (rs.set k { (rs.getD k rel0) with frag:=n }) (q / 5) (q % 5) h5
 have hL:=flat_get 5 encRel (fun _=>rfl) rs (q / 5) (q % 5) h5
 rw[←e] at hR hL
 rw[hR,hL,List.getElem?_set]
 by_cases hq:k=q / 5
 ·subst hq
  rw[if_pos rfl,if_pos hk,getElem?_getD rs rel0 _ hk]
  have hl:q / 5*5+3<(rs.flatMap encRel).length:=by rw[flat_len 5 encRel (fun _=>rfl)];omega
  rcases(by omega:q % 5=0∨q % 5=1∨q % 5=2∨q % 5=3∨q % 5=4) with h|h|h|h|h<;>rw[h]
  ·rw[if_neg (by omega)];rfl
  ·rw[if_neg (by omega)];rfl
  ·rw[if_neg (by omega)];rfl
  ·rw[if_pos (by omega),if_pos hl];rfl
  ·rw[if_neg (by omega)];rfl
 ·rw[if_neg (by omega),if_neg hq]
theorem DFr.setRel{w wr:World}{vp:Array Value}{vl vS vF:Value}{N g cap k:Nat}{es0 es rest:List Ent}{e:Ent}(h:DFr w wr vp vl N vS es0 es (e::rest) vF)(hv:e.rv=sv (some (qa g 0)) e.f.rels.length cap)(hk:k<e.f.rels.length)(n:Int) :
  DFr w (wr.setCell (qa g (k*5+3)) (iv n)) vp vl N vS es0 es (setFrag e k n::rest) vF:=by
 obtain⟨hb,hr,h3,h4,h5⟩:=h.come e (by simp)
 have hown:e.rv.ownBlock=some g:=by rw[hv];rfl
 have hg:wr.grownBy (wr.setCell (qa g (k*5+3)) (iv n)) e.rv.ownBlock:=by rw[hown];exact grown_set wr g _ _
 obtain⟨cs,hcs⟩:∃cs,wr.heap[g]?=some (.cells cs 89 (0,0)):=by
  rcases hr.2 with ⟨h1,_⟩|⟨g',cap',cur,h1,_,h2,_⟩
  ·rw[hv] at h1;cases h1
  ·rw[hv] at h1;cases h1;exact⟨cur,h2⟩
 have keep:∀ {B k' n':Nat} {t:TypeId} {v:Value} {xs:List Value},wr.ownsRow B t k' v n' xs→t≠89→(wr.setCell (qa g (k*5+3)) (iv n)).ownsRow B t k' v n' xs:=fun ho ht=>row_setc ho hcs ht
 have away:∀x:Ent,(x.rv.ownBlock=none∨x.rv.ownBlock≠e.rv.ownBlock)→wr.ownsRow w.heap.size 89 5 x.rv x.f.rels.length (x.f.rels.flatMap encRel)→(wr.setCell (qa g (k*5+3)) (iv n)).ownsRow w.heap.size 89 5 x.rv x.f.rels.length (x.f.rels.flatMap encRel):=fun x hx ho=>ho.kept hg hx
 have hap:=List.pairwise_append.1 h.ap
 refine⟨h.vars.grown hr (Nat.le_refl _) hg (by decide) (by decide) (by decide),?_,keep h.hi (by decide),keep h.src (by decide),h.lo,?_,?_,h.size,by simpa using h.top⟩
 ·refine⟨keep h.pr.rowF (by decide),keep h.pr.rowD (by decide),fun x hx=>keep (h.pr.bytes x hx) (by decide),h.pr.small,h.pr.smallD,fun x hx=>away x ?_ (h.pr.rels x hx)⟩
  rcases hap.2.2 x hx e (by simp) with h1|h1|h1
  ·exact .inl h1
  ·rw[hown] at h1;cases h1
  ·exact .inr h1
 ·intro x hx
  rcases List.mem_cons.1 hx with rfl|hx
  ·refine⟨keep hb (by decide),?_,h3,h4,?_⟩
   ·have hs:=row_set (i:=k*5+3) (u:=iv n) (show wr.ownsRow w.heap.size 89 5 (sv (some (qa g 0)) e.f.rels.length cap) e.f.rels.length (e.f.rels.flatMap encRel) by rw[←hv];exact hr) (by rw[flat_len 5 encRel (fun _=>rfl)];omega)
    rw[flat_set _ _ hk,←hv] at hs
    show World.ownsRow _ _ _ _ e.rv (e.f.rels.set k _).length _
    rw[List.length_set]
    exact hs
   ·intro r hr'
    rcases List.mem_or_eq_of_mem_set hr' with h6|rfl
    ·exact h5 r h6
    ·have:=h5 _ (getD_mem e.f.rels rel0 k hk)
     exact this
  ·obtain⟨xb,xr,x3⟩:=h.come x (List.mem_cons_of_mem _ hx)
   refine⟨keep xb (by decide),away x ?_ xr,x3⟩
   rcases(List.pairwise_cons.1 hap.2.1).1 x hx with h1|h1|h1
   ·rw[hown] at h1;cases h1
   ·exact .inl h1
   ·exact .inr (fun e'=>h1 e'.symm)
 ·refine List.pairwise_append.2 ⟨hap.1,?_,fun a ha b hb'=>?_⟩
  ·exact List.pairwise_cons.2 ⟨(List.pairwise_cons.1 hap.2.1).1,(List.pairwise_cons.1 hap.2.1).2⟩
  ·rcases List.mem_cons.1 hb' with rfl|hb'
   ·exact hap.2.2 a ha e (by simp)
   ·exact hap.2.2 a ha b (List.mem_cons_of_mem _ hb')
theorem DFr.add{w X w5:World}{vp:Array Value}{vl vS vF v':Value}{N:Nat}{es0 es rest:List Ent}{e:Ent}(h:DFr w X vp vl N vS es0 es (e::rest) vF)(hg:X.grownBy w5 vF.ownBlock)
  (hrow:w5.ownsRow N 87 6 v' (es.length+1) (es.flatMap entCells++entCells e)) :
  DFr w (w5.setCell (qa (w.heap.size+4) 0) v') vp vl N vS es0 (es++[e]) rest v':=by
 obtain⟨hb,hr,h3⟩:=h.come e (by simp)
 have hV:=h.vars.grown h.hi h.size hg (by decide) (by decide) (by decide)
 have hne:∀k,k<4→w.heap.size+k≠w.heap.size+4:=fun k hk=>by omega
 have hsrc:w5.ownsRow w.heap.size 87 6 vS es0.length (es0.flatMap entCells):=h.src.kept hg (by
  cases hv:vS.ownBlock with
  | none=>exact .inl rfl
  | some g =>
   right
   intro he
   have h1:=h.lo g hv
   have h2:=(h.hi.lt g he.symm).1
   omega)
 have hpr:PR w5 w.heap.size (es++[e]) [] v' (sv none 0 0):=h.pr.growF hg (by simpa using row_base hrow h.size) (fun x hx=>by rw[List.mem_singleton.1 hx];exact hb) (fun x hx=>by rw[List.mem_singleton.1 hx];exact hr) (fun x hx=>by rw[List.mem_singleton.1 hx];exact h3)
 refine⟨⟨(Below.heap_setCell _ _ _ _ (by show w.heap.size≠w.heap.size+4;omega)).trans hV.b0,(Below.heap_setCell _ _ _ _ (hne 1 (by omega))).trans hV.b1,(Below.heap_setCell _ _ _ _ (hne 2 (by omega))).trans hV.b2,(Below.heap_setCell _ _ _ _ (hne 3 (by omega))).trans hV.b3,setB' hV.b4 v',hV.below.setCell (by show w.heap.size≤w.heap.size+4;omega) _⟩,hpr.set hV.b4,?_,row_setc hsrc hV.b4 (by decide),h.lo,?_,?_,h.size,by simpa using Nat.le_trans h.top hg.size⟩
 ·rw[List.length_append,List.flatMap_append]
  simpa using row_setc hrow hV.b4 (by decide)
 ·intro x hx
  obtain⟨xb,xr,x3⟩:=h.come x (List.mem_cons_of_mem _ hx)
  exact⟨row_setc (xb.kept hg (own_apart xb h.hi (by decide))) hV.b4 (by decide),row_setc (xr.kept hg (own_apart xr h.hi (by decide))) hV.b4 (by decide),x3⟩
 ·rw[List.append_assoc]
  exact h.ap
def mvR (l:List ByteArray) (fs:List M.Frg) (r:M.Rel):M.Rel:=bif M.bare r.name then { r with frag:=toN l fs r.frag } else r
def curE (l:List ByteArray) (fs:List M.Frg) (e:Ent) (k:Nat):Ent:={ e with f:={ e.f with rels:=(e.f.rels.take k).map (mvR l fs)++e.f.rels.drop k } }
theorem cur_len(l:List ByteArray)(fs:List M.Frg)(e:Ent)(k:Nat)(hk:k≤e.f.rels.length):(curE l fs e k).f.rels.length=e.f.rels.length:=by
 simp only[curE,List.length_append,List.length_map,List.length_take,List.length_drop];omega
theorem cur_zero(l:List ByteArray)(fs:List M.Frg)(e:Ent):curE l fs e 0=e:=by simp[curE]
theorem cur_get(l:List ByteArray)(fs:List M.Frg)(e:Ent)(k:Nat)(hk:k<e.f.rels.length):(curE l fs e k).f.rels.getD k rel0=e.f.rels.getD k rel0:=by
 have hl:((e.f.rels.take k).map (mvR l fs)).length=k:=by simp;omega
 simp only[curE,List.getD_eq_getElem?_getD]
 rw[List.getElem?_append_right (by omega),hl,Nat.sub_self,List.getElem?_drop,Nat.add_zero]
theorem set_mid{α:Type}(f:α→α)(xs:List α)(k:Nat)(x:α)(hx:xs[k]?=some x):((xs.take k).map f++xs.drop k).set k (f x)=(xs.take (k+1)).map f++xs.drop (k+1):=by
 have hk:=(List.getElem?_eq_some_iff.1 hx).1
 have hl:((xs.take k).map f).length=k:=by simp;omega
 rw[List.set_append_right _ _ (by omega),hl,Nat.sub_self,List.drop_eq_getElem_cons hk,List.set_cons_zero,List.take_succ_eq_append_getElem hk,List.map_append]
 rw[List.getElem?_eq_getElem hk] at hx
 cases hx
 simp
theorem cur_bare(l:List ByteArray)(fs:List M.Frg)(e:Ent)(k:Nat)(hk:k<e.f.rels.length)(hb:M.bare (e.f.rels.getD k rel0).name=true):setFrag (curE l fs e k) k (toN l fs (e.f.rels.getD k rel0).frag)=curE l fs e (k+1):=by
 have h:=set_mid (mvR l fs) e.f.rels k _ (getElem?_getD e.f.rels rel0 k hk)
 have hm:mvR l fs (e.f.rels.getD k rel0)={ (e.f.rels.getD k rel0) with frag:=toN l fs (e.f.rels.getD k rel0).frag }:=by unfold mvR;rw[hb];rfl
 unfold setFrag
 rw[cur_get l fs e k hk,←hm]
 show ({ f:={ sect:=_,align:=_,group:=_,bytes:=_,size:=_,rels:=((e.f.rels.take k).map (mvR l fs)++e.f.rels.drop k).set k _ },bv:=_,rv:=_ } : Ent)=_
 rw[h]
 rfl
theorem cur_named(l:List ByteArray)(fs:List M.Frg)(e:Ent)(k:Nat)(hk:k<e.f.rels.length)(hb:M.bare (e.f.rels.getD k rel0).name=false):curE l fs e (k+1)=curE l fs e k:=by
 have hm:mvR l fs (e.f.rels.getD k rel0)=e.f.rels.getD k rel0:=by unfold mvR;rw[hb];rfl
 have e1:(e.f.rels.take (k+1)).map (mvR l fs)++e.f.rels.drop (k+1)=(e.f.rels.take k).map (mvR l fs)++e.f.rels.drop k:=by
  rw[drop_getD e.f.rels rel0 k hk,List.take_succ_eq_append_getElem hk,List.map_append]
  rw[List.getD_eq_getElem?_getD,List.getElem?_eq_getElem hk] at hm ⊢
  simp only[Option.getD_some] at hm ⊢
  simp[hm]
 unfold curE
 rw[e1]
theorem mvR_moved(l:List ByteArray)(fs:List M.Frg)(r:M.Rel)(h:M.bare r.name=true→-1≤r.frag):mvR l fs r=M.movedRel (M.count l 0 fs) r:=by
 unfold mvR M.movedRel
 cases hb:M.bare r.name
 ·rfl
 ·have h1:=h hb
  cases hf:(r.frag==-1)
  ·rw[beq_eq_false_iff_ne] at hf
   simp only[cond_true,Bool.not_false,Bool.and_self,toN]
   rw[if_neg (by omega)]
  ·have hf':r.frag=-1:=by simpa using hf
   simp only[cond_true,Bool.not_true,Bool.and_false,cond_false,toN,hf']
   obtain⟨_,_,_,_,_⟩:=r
   simp only at hf'
   subst hf'
   rfl
theorem cur_all(l:List ByteArray)(fs:List M.Frg)(e:Ent)(h:∀r∈e.f.rels,M.bare r.name=true→-1≤r.frag):(curE l fs e e.f.rels.length).f=M.movedFrg (M.count l 0 fs) e.f:=by
 unfold curE M.movedFrg
 simp only[List.take_length,List.drop_length,List.append_nil]
 congr 1
 exact List.map_congr_left fun r hr=>mvR_moved l fs r (h r hr)
theorem dd_add{w X w5:World}{vp:Array Value}{vl vF vD v':Value}{es:List Ent}{gs:List M.Dfn}{d:M.Dfn}(hV:DVars w X vp vl vF vD)(hP:PR X w.heap.size es gs vF vD)(hg:X.grownBy w5 vD.ownBlock)
  (hrow:w5.ownsRow w.heap.size 72 6 v' (gs.length+1) (gs.flatMap encDfn++encDfn d)) (hs:d.name.size≤maxLen) :
  DVars w (w5.setCell (qa (w.heap.size+4) 1) v') vp vl vF v'∧PR (w5.setCell (qa (w.heap.size+4) 1) v') w.heap.size es (gs++[d]) vF v':=by
 have hV5:=hV.grown hP.rowD (Nat.le_refl _) hg (by decide) (by decide) (by decide)
 have hne:∀k,k<4→w.heap.size+k≠w.heap.size+4:=fun k hk=>by omega
 have hP5:PR w5 w.heap.size es (gs++[d]) vF v':=hP.growD hg (by simpa using hrow) (fun x hx=>by rw[List.mem_singleton.1 hx];exact hs)
 exact⟨⟨(Below.heap_setCell _ _ _ _ (by show w.heap.size≠w.heap.size+4;omega)).trans hV5.b0,(Below.heap_setCell _ _ _ _ (hne 1 (by omega))).trans hV5.b1,(Below.heap_setCell _ _ _ _ (hne 2 (by omega))).trans hV5.b2,(Below.heap_setCell _ _ _ _ (hne 3 (by omega))).trans hV5.b3,setB' hV5.b4 v',hV5.below.setCell (by show w.heap.size≤w.heap.size+4;omega) _⟩,hP5.set hV5.b4⟩
theorem DVars.set_def{w wr:World}{vp:Array Value}{vl vF vD u:Value}{b i:Nat}{cs:Array Value}(h:DVars w wr vp vl vF vD)(hq:wr.heap[b]?=some (.cells cs 72 (0,0)))(hb:w.heap.size≤b:=by omega):DVars w (wr.setCell (qa b i) u) vp vl vF vD :=
 h.keep (fun g cs' t hg ht=>(Below.heap_setCell _ _ _ _ (fun e=>by
  have e':g=b:=e
  rw[e',hq] at hg
  cases hg
  rcases ht with ht|ht|ht<;>exact absurd ht (by decide))).trans hg) (h.below.setCell hb _)
theorem PR.set_def{w:World}{B b i:Nat}{es:List Ent}{ds:List M.Dfn}{vF vD u:Value}{cs:Array Value}(h:PR w B es ds vF vD)(hq:w.heap[b]?=some (.cells cs 72 (0,0)))(hlt:∀g,vD.ownBlock=some g→g<b):PR (w.setCell (qa b i) u) B es ds vF vD :=
 ⟨row_setc h.rowF hq (by decide),h.rowD.kept (grown_set w b i u) (by
  cases hv:vD.ownBlock with
  | none=>exact .inl rfl
  | some g =>
   right
   intro he
   cases he
   have:=hlt b hv
   omega),fun e he=>row_setc (h.bytes e he) hq (by decide),h.small,h.smallD,fun e he=>row_setc (h.rels e he) hq (by decide)⟩
end Go.Proofs.YtpkfmfhodbjckaaGreatDoor
namespace Go.Proofs.YtpkfmfhodbjckaaGreatDoor.M
def shiftRel (n:Int) (r:Rel):Rel:=bif bare r.name&&!(r.frag==-1) then { r with frag:=r.frag+n } else r
def shiftFrg (n:Int) (f:Frg):Frg:={ f with rels:=f.rels.map (shiftRel n) }
def shift (n:Int) (p:Prt):Prt:=⟨p.frags.map (shiftFrg n),p.defs.map (shiftDfn n)⟩
theorem shift_rel(fs:List Frg)(l:List ByteArray)(n:Int)(hn:0≤n)(r:Rel)(hr:Fits fs.length r):movedRel (count l n fs) r=shiftRel n (movedRel (count l 0 fs) r):=by
 cases hb:bare r.name
 ·rw[movedRel_named hb,movedRel_named hb];unfold shiftRel;rw[hb];rfl
 ·cases hg:(r.frag==-1)
  ·obtain⟨h1,h2⟩:=hr hb
   have hne:r.frag≠-1:=by simpa using hg
   have hlt:r.frag.toNat<fs.length:=by omega
   have hget:fs[r.frag.toNat]?=some fs[r.frag.toNat]:=List.getElem?_eq_getElem hlt
   have e1:=num_get l fs n r.frag (by omega) _ hget
   have e2:=num_get l fs 0 r.frag (by omega) _ hget
   rw[movedRel_bare hb hg,movedRel_bare hb hg,e1,e2]
   unfold shiftRel
   cases hq:gone l fs[r.frag.toNat]
   ·simp only[hb,cond_false,Bool.true_and]
    have:(((0:Int)+((stays l (fs.take r.frag.toNat)).length:Int))==-1)=false:=by
     rw[beq_eq_false_iff_ne];omega
    rw[this]
    simp
    omega
   ·simp[hb]
  ·rw[movedRel_gone hg,movedRel_gone hg];unfold shiftRel;rw[hg];simp
theorem shift_frg(fs:List Frg)(l:List ByteArray)(n:Int)(hn:0≤n)(f:Frg)(hf:∀r∈f.rels,Fits fs.length r):movedFrg (count l n fs) f=shiftFrg n (movedFrg (count l 0 fs) f):=by
 unfold movedFrg shiftFrg
 simp only[List.map_map]
 congr 1
 exact List.map_congr_left fun r hr=>shift_rel fs l n hn r (hf r hr)
theorem put_shift(a b:Prt)(l:List ByteArray)(hb:Ok b):put a l b=plus a (shift a.frags.length (drop b l)):=by
 have h1:=put_frags a b l
 have h2:=put_defs a b l hb
 have h3:(stays l b.frags).map (movedFrg (count l a.frags.length b.frags))=(drop b l).frags.map (shiftFrg a.frags.length):=by
  rw[drop_frags,List.map_map]
  exact List.map_congr_left fun f hf=>shift_frg b.frags l _ (Int.natCast_nonneg _) f (hb.fits f ((List.mem_filter.1 hf).1))
 rw[h3] at h1
 cases hp:put a l b with
 | mk x y =>
  rw[hp] at h1 h2
  simp only at h1 h2
  rw[h1,h2]
  rfl
theorem both_shift(a b:Prt)(ha:Ok a)(hb:Ok b):both a b=plus a (shift a.frags.length (drop b (groups a.frags))):=by
 rw[←put_shift a b _ hb]
 unfold both put
 rw[moved_id ha]
end Go.Proofs.YtpkfmfhodbjckaaGreatDoor.M
namespace Go.Proofs.YtpkfmfhodbjckaaGreatDoor
open Go Go.RowKit
structure JVars (w wr:World) (q6 q8:Nat) (vF vD cF cD:Value):Prop where
 b2:wr.heap[w.heap.size+2]?=some (.cells #[sv none 0 0,sv none 0 0] 43 (0,0))
 b6:wr.heap[q6]?=some (.cells #[vF,vD] 43 (0,0))
 b8:wr.heap[q8]?=some (.cells #[cF,cD] 43 (0,0))
 below:Below w.heap.size w wr
 lo6:w.heap.size+2<q6
 ne:q6≠q8
theorem JVars.keep{w wr X:World}{q6 q8:Nat}{vF vD cF cD:Value}(h:JVars w wr q6 q8 vF vD cF cD)(hk:∀(g:Nat) (cs:Array Value) (t:TypeId),wr.heap[g]?=some (.cells cs t (0,0))→t=43→X.heap[g]?=some (.cells cs t (0,0)))(hb:Below w.heap.size w X):JVars w X q6 q8 vF vD cF cD :=
 ⟨hk _ _ _ h.b2 rfl,hk _ _ _ h.b6 rfl,hk _ _ _ h.b8 rfl,hb,h.lo6,h.ne⟩
theorem JVars.later{w wr X:World}{q6 q8:Nat}{vF vD cF cD:Value}(h:JVars w wr q6 q8 vF vD cF cD)(hb:Below wr.heap.size wr X):JVars w X q6 q8 vF vD cF cD :=
 h.keep (fun g cs t hg _=>blk hb hg) (h.below.trans (hb.mono h.below.size))
theorem JVars.grown{w wr X:World}{q6 q8:Nat}{vF vD cF cD v:Value}{B k n:Nat}{e:TypeId}{xs:List Value}(h:JVars w wr q6 q8 vF vD cF cD)(ho:wr.ownsRow B e k v n xs)(hB:w.heap.size≤B)(hg:wr.grownBy X v.ownBlock)(h1:e≠43):JVars w X q6 q8 vF vD cF cD :=
 h.keep (fun g cs t hq ht=>block_kept ho hg hq (by rw[ht];exact h1)) (h.below.grown hg h.below.size (fun k hk=>Nat.le_trans hB (ho.lt k hk).1))
theorem JVars.set_def{w wr:World}{q6 q8:Nat}{vF vD cF cD u:Value}{b i:Nat}{cs:Array Value}(h:JVars w wr q6 q8 vF vD cF cD)(hq:wr.heap[b]?=some (.cells cs 72 (0,0)))(hb:w.heap.size≤b):JVars w (wr.setCell (qa b i) u) q6 q8 vF vD cF cD :=
 h.keep (fun g cs' t hg ht=>(Below.heap_setCell _ _ _ _ (fun e=>by
  have e':g=b:=e
  rw[e',hq] at hg
  cases hg
  exact absurd ht (by decide))).trans hg) (h.below.setCell hb _)
structure JFr (w wr:World) (q6 q8:Nat) (esc es rest:List Ent) (ds dc:List M.Dfn) (vF vD cF cD:Value):Prop where
 vars:JVars w wr q6 q8 vF vD cF cD
 pr:PR wr w.heap.size es ds vF vD
 src:wr.ownsRow w.heap.size 87 6 cF esc.length (esc.flatMap entCells)
 srcD:wr.ownsRow w.heap.size 72 6 cD dc.length (dc.flatMap encDfn)
 apF:cF.ownBlock=none∨cF.ownBlock≠vF.ownBlock
 apD:cD.ownBlock=none∨cD.ownBlock≠vD.ownBlock
 come:∀e∈rest,EntAt wr w.heap.size e
 ap:(es++rest).Pairwise Apart
 smallC:∀d∈dc,d.name.size≤maxLen
section
variable {w wr X w5 : World} {q6 q8 : Nat} {esc es rest : List Ent} {ds dc : List M.Dfn} {vF vD cF cD v' : Value} {e : Ent}
theorem JFr.later(h:JFr w wr q6 q8 esc es rest ds dc vF vD cF cD)(hb:Below wr.heap.size wr X):JFr w X q6 q8 esc es rest ds dc vF vD cF cD :=
 ⟨h.vars.later hb,h.pr.later hb,h.src.kept (grown_of_below hb none) own_self,h.srcD.kept (grown_of_below hb none) own_self,h.apF,h.apD,fun e he=>(h.come e he).later hb,h.ap,h.smallC⟩
theorem JFr.setRel{g cap k:Nat}(h:JFr w wr q6 q8 esc es (e::rest) ds dc vF vD cF cD)(hv:e.rv=sv (some (qa g 0)) e.f.rels.length cap)(hk:k<e.f.rels.length)(n:Int) :
  JFr w (wr.setCell (qa g (k*5+3)) (iv n)) q6 q8 esc es (setFrag e k n::rest) ds dc vF vD cF cD:=by
 obtain⟨hb,hr,h3,h4,h5⟩:=h.come e (by simp)
 have hown:e.rv.ownBlock=some g:=by rw[hv];rfl
 have hg:wr.grownBy (wr.setCell (qa g (k*5+3)) (iv n)) e.rv.ownBlock:=by rw[hown];exact grown_set wr g _ _
 obtain⟨cs,hcs⟩:∃cs,wr.heap[g]?=some (.cells cs 89 (0,0)):=by
  rcases hr.2 with ⟨h1,_⟩|⟨g',cap',cur,h1,_,h2,_⟩
  ·rw[hv] at h1;cases h1
  ·rw[hv] at h1;cases h1;exact⟨cur,h2⟩
 have keep:∀ {B k' n':Nat} {t:TypeId} {v:Value} {xs:List Value},wr.ownsRow B t k' v n' xs→t≠89→(wr.setCell (qa g (k*5+3)) (iv n)).ownsRow B t k' v n' xs:=fun ho ht=>row_setc ho hcs ht
 have away:∀x:Ent,(x.rv.ownBlock=none∨x.rv.ownBlock≠e.rv.ownBlock)→wr.ownsRow w.heap.size 89 5 x.rv x.f.rels.length (x.f.rels.flatMap encRel)→(wr.setCell (qa g (k*5+3)) (iv n)).ownsRow w.heap.size 89 5 x.rv x.f.rels.length (x.f.rels.flatMap encRel):=fun x hx ho=>ho.kept hg hx
 have hap:=List.pairwise_append.1 h.ap
 refine⟨h.vars.grown hr (Nat.le_refl _) hg (by decide),?_,keep h.src (by decide),keep h.srcD (by decide),h.apF,h.apD,?_,?_,h.smallC⟩
 ·refine⟨keep h.pr.rowF (by decide),keep h.pr.rowD (by decide),fun x hx=>keep (h.pr.bytes x hx) (by decide),h.pr.small,h.pr.smallD,fun x hx=>away x ?_ (h.pr.rels x hx)⟩
  rcases hap.2.2 x hx e (by simp) with h1|h1|h1
  ·exact .inl h1
  ·rw[hown] at h1;cases h1
  ·exact .inr h1
 ·intro x hx
  rcases List.mem_cons.1 hx with rfl|hx
  ·refine⟨keep hb (by decide),?_,h3,h4,?_⟩
   ·have hs:=row_set (i:=k*5+3) (u:=iv n) (show wr.ownsRow w.heap.size 89 5 (sv (some (qa g 0)) e.f.rels.length cap) e.f.rels.length (e.f.rels.flatMap encRel) by rw[←hv];exact hr) (by rw[flat_len 5 encRel (fun _=>rfl)];omega)
    rw[flat_set _ _ hk,←hv] at hs
    show World.ownsRow _ _ _ _ e.rv (e.f.rels.set k _).length _
    rw[List.length_set]
    exact hs
   ·intro r hr'
    rcases List.mem_or_eq_of_mem_set hr' with h6|rfl
    ·exact h5 r h6
    ·have:=h5 _ (getD_mem e.f.rels rel0 k hk)
     exact this
  ·obtain⟨xb,xr,x3⟩:=h.come x (List.mem_cons_of_mem _ hx)
   refine⟨keep xb (by decide),away x ?_ xr,x3⟩
   rcases(List.pairwise_cons.1 hap.2.1).1 x hx with h1|h1|h1
   ·rw[hown] at h1;cases h1
   ·exact .inl h1
   ·exact .inr (fun e'=>h1 e'.symm)
 ·refine List.pairwise_append.2 ⟨hap.1,?_,fun a ha b hb'=>?_⟩
  ·exact List.pairwise_cons.2 ⟨(List.pairwise_cons.1 hap.2.1).1,(List.pairwise_cons.1 hap.2.1).2⟩
  ·rcases List.mem_cons.1 hb' with rfl|hb'
   ·exact hap.2.2 a ha e (by simp)
   ·exact hap.2.2 a ha b (List.mem_cons_of_mem _ hb')
theorem ap_grown{B k n:Nat}{t:TypeId}{xs:List Value}{v:Value}(hs:X.ownsRow B t k cF n xs)(ha:cF.ownBlock=none∨cF.ownBlock≠v.ownBlock)(hat:v'.ownBlock=v.ownBlock∨v'.ownBlock=some X.heap.size):cF.ownBlock=none∨cF.ownBlock≠v'.ownBlock:=by
 rcases hat with h1|h1
 ·rw[h1];exact ha
 ·cases hc:cF.ownBlock with
  | none=>exact .inl rfl
  | some g =>
   right
   rw[h1]
   intro he
   cases he
   have:=(hs.lt _ hc).2
   omega
theorem JFr.add(h:JFr w X q6 q8 esc es (e::rest) ds dc vF vD cF cD)(hg:X.grownBy w5 vF.ownBlock)
  (hrow:w5.ownsRow w.heap.size 87 6 v' (es.length+1) (es.flatMap entCells++entCells e)) (hat:v'.ownBlock=vF.ownBlock∨v'.ownBlock=some X.heap.size) :
  JFr w (w5.setCell (qa q6 0) v') q6 q8 esc (es++[e]) rest ds dc v' vD cF cD:=by
 obtain⟨hb,hr,h3⟩:=h.come e (by simp)
 have hV:=h.vars.grown h.pr.rowF (Nat.le_refl _) hg (by decide)
 have hlo:=h.vars.lo6
 have hne:=h.vars.ne
 have hsrc:=h.src.kept hg h.apF
 have hsrcD:=h.srcD.kept hg (own_apart h.srcD h.pr.rowF (by decide))
 have hpr:PR w5 w.heap.size (es++[e]) ds v' vD:=h.pr.growF hg (by simpa using hrow) (fun x hx=>by rw[List.mem_singleton.1 hx];exact hb) (fun x hx=>by rw[List.mem_singleton.1 hx];exact hr) (fun x hx=>by rw[List.mem_singleton.1 hx];exact h3)
 refine⟨⟨(Below.heap_setCell _ _ _ _ (by show w.heap.size+2≠q6;omega)).trans hV.b2,setB' hV.b6 v',(Below.heap_setCell _ _ _ _ (by show q8≠q6;exact fun e=>hne e.symm)).trans hV.b8,hV.below.setCell (by show w.heap.size≤q6;omega) _,hlo,hne⟩,hpr.set hV.b6,row_setc hsrc hV.b6 (by decide),row_setc hsrcD hV.b6 (by decide),ap_grown h.src h.apF hat,h.apD,?_,?_,h.smallC⟩
 ·intro x hx
  obtain⟨xb,xr,x3⟩:=h.come x (List.mem_cons_of_mem _ hx)
  exact⟨row_setc (xb.kept hg (own_apart xb h.pr.rowF (by decide))) hV.b6 (by decide),row_setc (xr.kept hg (own_apart xr h.pr.rowF (by decide))) hV.b6 (by decide),x3⟩
 ·rw[List.append_assoc]
  exact h.ap
theorem JFr.addD{d:M.Dfn}(h:JFr w X q6 q8 esc es [] ds dc vF vD cF cD)(hg:X.grownBy w5 vD.ownBlock)
  (hrow:w5.ownsRow w.heap.size 72 6 v' (ds.length+1) (ds.flatMap encDfn++encDfn d)) (hat:v'.ownBlock=vD.ownBlock∨v'.ownBlock=some X.heap.size) (hs:d.name.size≤maxLen) :
  JFr w (w5.setCell (qa q6 1) v') q6 q8 esc es [] (ds++[d]) dc vF v' cF cD:=by
 have hV:=h.vars.grown h.pr.rowD (Nat.le_refl _) hg (by decide)
 have hlo:=h.vars.lo6
 have hne:=h.vars.ne
 have hsrcD:=h.srcD.kept hg h.apD
 have hsrc:=h.src.kept hg (own_apart h.src h.pr.rowD (by decide))
 have hpr:PR w5 w.heap.size es (ds++[d]) vF v':=h.pr.growD hg (by simpa using hrow) (fun x hx=>by rw[List.mem_singleton.1 hx];exact hs)
 exact⟨⟨(Below.heap_setCell _ _ _ _ (by show w.heap.size+2≠q6;omega)).trans hV.b2,setB' hV.b6 v',(Below.heap_setCell _ _ _ _ (by show q8≠q6;exact fun e=>hne e.symm)).trans hV.b8,hV.below.setCell (by show w.heap.size≤q6;omega) _,hlo,hne⟩,hpr.set hV.b6,row_setc hsrc hV.b6 (by decide),row_setc hsrcD hV.b6 (by decide),h.apF,ap_grown h.srcD h.apD hat,(fun x hx=>by cases hx),h.ap,h.smallC⟩
theorem JFr.set_def{b i:Nat}{u:Value}{cs:Array Value}(h:JFr w wr q6 q8 esc es [] ds dc vF vD cF cD)(hq:wr.heap[b]?=some (.cells cs 72 (0,0)))(hb:w.heap.size≤b)(h1:∀g,vD.ownBlock=some g→g<b)(h2:∀g,cD.ownBlock=some g→g<b) :
  JFr w (wr.setCell (qa b i) u) q6 q8 esc es [] ds dc vF vD cF cD:=by
 refine⟨h.vars.set_def hq hb,h.pr.set_def hq h1,row_setc h.src hq (by decide),?_,h.apF,h.apD,(fun x hx=>by cases hx),h.ap,h.smallC⟩
 refine h.srcD.kept (grown_set wr b i u) ?_
 cases hv:cD.ownBlock with
 | none=>exact .inl rfl
 | some g =>
  right
  intro he
  cases he
  have:=h2 b hv
  omega
theorem JFr.first{N:Nat}{eC:List Ent}(hV:JVars w wr q6 q8 vF vD cF cD)(hP:PR wr w.heap.size es ds vF vD)(hC:PR wr N eC dc cF cD)(hN:w.heap.size≤N)(hes:∀g,vF.ownBlock=some g→g<N)(hds:∀g,vD.ownBlock=some g→g<N)(hrs:∀e∈es,∀g,e.rv.ownBlock=some g→g<N)(h1:es.Pairwise Apart)(h2:eC.Pairwise Apart) :
  JFr w wr q6 q8 eC es eC ds dc vF vD cF cD:=by
 have hC0:=hC.base hN
 have apart:∀ {k n:Nat} {t:TypeId} {u v:Value} {xs:List Value},wr.ownsRow N t k u n xs→(∀g,v.ownBlock=some g→g<N)→u.ownBlock=none∨u.ownBlock≠v.ownBlock:=fun {k n t u v xs} ho hv=>by
  cases hu:u.ownBlock with
  | none=>exact .inl rfl
  | some g =>
   right
   intro he
   have a1:=(ho.lt g hu).1
   have a2:=hv g he.symm
   omega
 refine⟨hV,hP,hC0.rowF,hC0.rowD,apart hC.rowF hes,apart hC.rowD hds,fun e he=>⟨hC0.bytes e he,hC0.rels e he,hC.small e he⟩,List.pairwise_append.2 ⟨h1,h2,fun a ha b hb=>?_⟩,hC.smallD⟩
 rcases apart (hC.rels b hb) (hrs a ha) with h3|h3
 ·exact .inr (.inl h3)
 ·exact .inr (.inr fun e=>h3 e.symm)
end
def shE (n:Int) (e:Ent) (k:Nat):Ent:={ e with f:={ e.f with rels:=(e.f.rels.take k).map (M.shiftRel n)++e.f.rels.drop k } }
theorem sh_len(n:Int)(e:Ent)(k:Nat)(hk:k≤e.f.rels.length):(shE n e k).f.rels.length=e.f.rels.length:=by
 simp only[shE,List.length_append,List.length_map,List.length_take,List.length_drop];omega
theorem sh_zero(n:Int)(e:Ent):shE n e 0=e:=by simp[shE]
theorem sh_get(n:Int)(e:Ent)(k:Nat)(hk:k<e.f.rels.length):(shE n e k).f.rels.getD k rel0=e.f.rels.getD k rel0:=by
 have hl:((e.f.rels.take k).map (M.shiftRel n)).length=k:=by simp;omega
 simp only[shE,List.getD_eq_getElem?_getD]
 rw[List.getElem?_append_right (by omega),hl,Nat.sub_self,List.getElem?_drop,Nat.add_zero]
theorem sh_set(n:Int)(e:Ent)(k:Nat)(hk:k<e.f.rels.length)(hb:(M.bare (e.f.rels.getD k rel0).name&&!((e.f.rels.getD k rel0).frag==-1))=true):setFrag (shE n e k) k ((e.f.rels.getD k rel0).frag+n)=shE n e (k+1):=by
 have h:=set_mid (M.shiftRel n) e.f.rels k _ (getElem?_getD e.f.rels rel0 k hk)
 have hm:M.shiftRel n (e.f.rels.getD k rel0)={ (e.f.rels.getD k rel0) with frag:=(e.f.rels.getD k rel0).frag+n }:=by unfold M.shiftRel;rw[hb];rfl
 unfold setFrag
 rw[sh_get n e k hk,←hm]
 show ({ f:={ sect:=_,align:=_,group:=_,bytes:=_,size:=_,rels:=((e.f.rels.take k).map (M.shiftRel n)++e.f.rels.drop k).set k _ },bv:=_,rv:=_ } : Ent)=_
 rw[h]
 rfl
theorem sh_same(n:Int)(e:Ent)(k:Nat)(hk:k<e.f.rels.length)(hb:(M.bare (e.f.rels.getD k rel0).name&&!((e.f.rels.getD k rel0).frag==-1))=false):shE n e (k+1)=shE n e k:=by
 have hm:M.shiftRel n (e.f.rels.getD k rel0)=e.f.rels.getD k rel0:=by unfold M.shiftRel;rw[hb];rfl
 have e1:(e.f.rels.take (k+1)).map (M.shiftRel n)++e.f.rels.drop (k+1)=(e.f.rels.take k).map (M.shiftRel n)++e.f.rels.drop k:=by
  rw[drop_getD e.f.rels rel0 k hk,List.take_succ_eq_append_getElem hk,List.map_append]
  rw[List.getD_eq_getElem?_getD,List.getElem?_eq_getElem hk] at hm ⊢
  simp only[Option.getD_some] at hm ⊢
  simp[hm]
 unfold shE
 rw[e1]
theorem sh_all(n:Int)(e:Ent):(shE n e e.f.rels.length).f=M.shiftFrg n e.f:=by
 unfold shE M.shiftFrg
 simp only[List.take_length,List.drop_length,List.append_nil]
theorem map_take_succ{α β:Type}(f:α→β)(d:α)(xs:List α)(k:Nat)(h:k<xs.length):(xs.take (k+1)).map f=(xs.take k).map f++[f (xs.getD k d)]:=by
 rw[List.take_succ_eq_append_getElem h,List.map_append,List.getD_eq_getElem?_getD,List.getElem?_eq_getElem h]
 rfl
structure J0 (w X:World) (q6:Nat) (es:List Ent) (ds:List M.Dfn) (vF vD:Value):Prop where
 b2:X.heap[w.heap.size+2]?=some (.cells #[sv none 0 0,sv none 0 0] 43 (0,0))
 b6:X.heap[q6]?=some (.cells #[vF,vD] 43 (0,0))
 below:Below w.heap.size w X
 lo6:w.heap.size+2<q6
 pr:PR X w.heap.size es ds vF vD
 ap:es.Pairwise Apart
theorem j_new{w X w2:World}{q6 N:Nat}{es eC:List Ent}{ds dc:List M.Dfn}{vF vD cF cD:Value}(h:J0 w X q6 es ds vF vD)(hX:Below X.heap.size X w2)(hP:PR w2 N eC dc cF cD)(hN:X.heap.size≤N)(hap:eC.Pairwise Apart) :
  JFr w (w2.alloc (.cells #[cF,cD] 43)) q6 w2.heap.size eC es eC ds dc vF vD cF cD:=by
 have hb:Below w2.heap.size w2 (w2.alloc (.cells #[cF,cD] 43)):=bra _ _
 have hXY:=hX.trans (hb.mono hX.size)
 have l2:=lt1 h.b2
 have l6:=lt1 h.b6
 have hz:=hX.size
 have hw:=h.below.size
 refine JFr.first (N:=N) ⟨(hXY.block _ l2).trans h.b2,(hXY.block _ l6).trans h.b6,heap_alloc_new _ _,h.below.trans (hXY.mono hw),h.lo6,by omega⟩ (h.pr.later hXY) (hP.later hb) (by omega) (fun g hg=>?_) (fun g hg=>?_) (fun e he g hg=>?_) h.ap hap
 ·have:=(h.pr.rowF.lt g hg).2;omega
 ·have:=(h.pr.rowD.lt g hg).2;omega
 ·have:=((h.pr.rels e he).lt g hg).2;omega
theorem j_set{w X w2:World}{q6 q N:Nat}{es eC:List Ent}{ds dc:List M.Dfn}{vF vD cF cD:Value}(h:J0 w X q6 es ds vF vD)(hX:Below X.heap.size X w2)(hq:w2.heap[q]?=some (.cells #[sv none 0 0,sv none 0 0] 43 (0,0)))(hXq:X.heap.size≤q)(hP:PR w2 N eC dc cF cD)(hN:X.heap.size≤N)(hap:eC.Pairwise Apart) :
  JFr w ((w2.setCell (qa q 0) cF).setCell (qa q 1) cD) q6 q eC es eC ds dc vF vD cF cD:=by
 have hXY:Below X.heap.size X ((w2.setCell (qa q 0) cF).setCell (qa q 1) cD):=(hX.setCell hXq _).setCell hXq _
 have l2:=lt1 h.b2
 have l6:=lt1 h.b6
 have hz:=hX.size
 have hw:=h.below.size
 refine JFr.first (N:=N) ⟨(hXY.block _ l2).trans h.b2,(hXY.block _ l6).trans h.b6,setB' (setB' hq cF) cD,h.below.trans (hXY.mono hw),h.lo6,by omega⟩ (h.pr.later hXY) ((hP.set hq).set (setB' hq cF)) (by omega) (fun g hg=>?_) (fun g hg=>?_) (fun e he g hg=>?_) h.ap hap
 ·have:=(h.pr.rowF.lt g hg).2;omega
 ·have:=(h.pr.rowD.lt g hg).2;omega
 ·have:=((h.pr.rels e he).lt g hg).2;omega
end Go.Proofs.YtpkfmfhodbjckaaGreatDoor
