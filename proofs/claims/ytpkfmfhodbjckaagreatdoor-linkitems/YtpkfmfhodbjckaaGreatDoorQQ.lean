/-
  A region that draws its order: one operation that may come up, and what the others can do ahead of it. A region that draws its order, whose last operation waits for all others: a condition S that all operations but the last one keep; an operation ahead of the last that yields its value in every world that meets S may be taken first. (The kit's 'held' walk asks for S behind the last operation too: here that one may break it.) A region that draws its order, whose first n operations make memory of their own, each with a value that keeps to a relation of its own (it stands while memory grows), and whose rest comes behind them, one after another: each of the first is walked once.
-/
import Derived.StillTail
import Derived.OrdersHeld
set_option linter.unusedVariables false
namespace Go.Proofs.YtpkfmfhodbjckaaGreatDoor
open Go
section
variable {md : Region.Mode} {ops : Array Oper} {m i j : Nat} {oi oj : Oper} {l0 l : Array Bool} {G : Array Bool → Prop}
structure Waits (md:Region.Mode) (ops:Array Oper) (m:Nat) (G:Array Bool→Prop):Prop where
 out:∀l,HeadInv md ops m l→G l→∀i,i<m→l.getD i true=false→∀t∈Region.ready md ops l,t<m
 keep:∀l j,G l→G (l.setIfInBounds j true)
theorem waits_all(hs:Region.sinkB md ops m=true)(hc:Region.chainB md ops m=true)(hm:m<ops.size):Waits md ops m fun _=>True where
 out _ inv _ i him hu t ht:=Nat.lt_of_not_le fun h=>tail_waits hs hc hm inv _ i rfl him hu t h ht
 keep _ _ h:=h
structure Past (md:Region.Mode) (ops:Array Oper) (m:Nat) (G:Array Bool→Prop) (i:Nat) (l0 l:Array Bool):Prop where
 inv:HeadInv md ops m l
 more:G l
 up:i∈Region.ready md ops l
 sub:∀k,l.getD k true=false→l0.getD k true=false
theorem Past.busy(h:Past md ops m G i l0 l):Region.ready md ops l≠[]:=List.ne_nil_of_mem h.up
theorem Past.head(h:Past md ops m G i l0 l)(hW:Waits md ops m G)(him:i<m)(hj:j∈Region.ready md ops l):j<m :=
 hW.out l h.inv h.more i him (mem_ready.1 h.up).1 j hj
theorem Past.set(h:Past md ops m G i l0 l)(hW:Waits md ops m G)(him:i<m)(hj:j∈Region.ready md ops l)(hne:j≠i):Past md ops m G i l0 (l.setIfInBounds j true) where
 inv:=h.inv.set hj (h.head hW him hj)
 more:=hW.keep _ _ h.more
 up:=ready_mono h.up (Ne.symm hne)
 sub k hk:=h.sub k (by
  rcases Nat.decEq j k with e|rfl
  ·rwa [getD_set_ne true e] at hk
  ·exact(mem_ready.1 hj).1)
theorem Past.apart(h:Past md ops m G i l0 l)(hi:ops[i]?=some oi)(hF:Region.free md ops l0 i=true)(hj:j∈Region.ready md ops l)(hne:j≠i)(ho:ops[j]?=some oj):oi.apart ops oj=true:=by
 obtain⟨hu,o,ho',hw⟩:=mem_ready.1 hj
 cases ho'.symm.trans ho
 refine Region.free_spec hi hF j _ ho hne (h.sub j hu) fun e he hb hon=>?_
 have h1:=hw e he hb
 rw[hon,getD_both (mem_ready.1 h.up).1] at h1
 exact Bool.noConfusion h1
theorem start_inv(md:Region.Mode)(ops:Array Oper)(m:Nat):HeadInv md ops m (Array.replicate ops.size false) where
 size:=Array.size_replicate
 closed j _ _ h:=by rw[getD_replicate_false] at h;exact Bool.noConfusion h
 tail t _ ht:=getD_in (by rwa [Array.size_replicate]) (getD_replicate_false _ t)
end
end Go.Proofs.YtpkfmfhodbjckaaGreatDoor
namespace Go.Proofs.YtpkfmfhodbjckaaGreatDoor
open Go
section
variable {P : Program} {ops : Array Oper} {Q : Exit → Act → World → Prop} {md : Region.Mode} {S : World → Prop} {m : Nat}
def wpAnyL (P:Program) (md:Region.Mode) (ops:Array Oper) (Q:Exit→Act→World→Prop) (S:World→Prop) (m:Nat):Nat→Array Bool→Act→World→Prop
 | 0,l,a,w=>wpAny P md ops Q 0 l a w
 | f+1,l,a,w=>(Region.ready md ops l=[]→Q .normal a w)∧∀i∈Region.ready md ops l,wpOp P ops Q i (fun a' w'=>(i<m→S w')∧wpAnyL P md ops Q S m f (l.setIfInBounds i true) a' w') a w
theorem wpAny_of_last:∀(f:Nat) (listed:Array Bool) (a:Act) (w:World),wpAnyL P md ops Q S m f listed a w→wpAny P md ops Q f listed a w
 | 0,_,_,_,h=>h
 | f+1,_,_,_,h=>⟨h.1,fun i hi=>wpOp_mono (fun a' w' h'=>wpAny_of_last f _ a' w' h'.2) (h.2 i hi)⟩
section
variable {i : Nat} {oi : Oper} {l0 : Array Bool} {G : Array Bool → Prop}
theorem Past.first{v:Value}(hi:ops[i]?=some oi)(hF:Region.free md ops l0 i=true)(hn:Region.noSelect ops=true)(hQ:∀c a w,Q (.panic c) (a.put oi.dst v) w→Q (.panic c) a w)
  (hW:Waits md ops m G) (him:i<m) (f:Nat) :
  ∀ {l:Array Bool} {a:Act} {w:World},Past md ops m G i l0 l→YieldsIf P ops S oi v a→S w→wpAnyL P md ops Q S m f (l.setIfInBounds i true) (a.put oi.dst v) w→wpAnyL P md ops Q S m (f+1) l a w:=by
 induction f with
 | zero =>
  intro l a w h hy hS H
  have alone:∀j∈Region.ready md ops l,j=i:=fun j hj=>Decidable.byContradiction fun hne=>List.not_mem_nil (H.1▸ready_mono (i:=i) hj hne)
  exact⟨fun hb=>absurd hb h.busy,fun j hj=>by rw[alone j hj];exact hy.wpOp hi hS ⟨fun _=>hS,H⟩⟩
 | succ f ih =>
  intro l a w h hy hS H
  refine⟨fun hb=>absurd hb h.busy,fun j hj=>?_⟩
  rcases Nat.decEq j i with hne|rfl
  ·have hjm:=h.head hW him hj
   obtain⟨oj,hoj⟩:∃oj,ops[j]?=some oj:=let ⟨_,o,ho,_⟩:=mem_ready.1 hj;⟨o,ho⟩
   refine wpOp_mono ?_ (wpOp_putIf hoj (h.apart hi hF hj hne hoj) (fun _ _=>Region.noSelect_spec hn _ _ _ _ hi) (fun _ _=>Region.noSelect_spec hn _ _ _ _ hoj) hQ hy (H.2 j (ready_mono hj hne)))
   rintro a' w' ⟨hy',hk,H'⟩
   exact⟨hk,ih (h.set hW him hj hne) hy' (hk hjm) (by rwa [Array.setIfInBounds_comm _ _ hne])⟩
  ·exact hy.wpOp hi hS ⟨fun _=>hS,H⟩
end
theorem wpAnyL_take{i:Nat}{oi:Oper}{v:Value}{f:Nat}{listed:Array Bool}{a:Act}{w:World}(hi:ops[i]?=some oi)
  (hB:(Region.noSelect ops&&Region.free md ops listed i&&(Region.ready md ops listed).contains i&&Region.sinkB md ops m&&Region.chainB md ops m&&decide (m<ops.size)&&decide (i<m))=true) (inv:HeadInv md ops m listed)
  (hQ:∀c a w,Q (.panic c) (a.put oi.dst v) w→Q (.panic c) a w) (hy:YieldsIf P ops S oi v a) (hS:S w)
  (h:HeadInv md ops m (listed.setIfInBounds i true)→wpAnyL P md ops Q S m f (listed.setIfInBounds i true) (a.put oi.dst v) w):wpAnyL P md ops Q S m (f+1) listed a w:=by
 simp only[Bool.and_eq_true,decide_eq_true_eq] at hB
 obtain⟨⟨⟨⟨⟨⟨h1,h2⟩,h3⟩,h4⟩,h5⟩,h6⟩,h7⟩:=hB
 have h3':i∈Region.ready md ops listed:=by simpa using h3
 exact Past.first hi h2 h1 hQ (waits_all h4 h5 h6) h7 f ⟨inv,trivial,h3',fun _ hk=>hk⟩ hy hS (h (inv.set h3' h7))
theorem wpAnyL_one{i:Nat}{f:Nat}{listed:Array Bool}{a:Act}{w:World}(hr:Region.ready md ops listed=[i])
  (h:wpOp P ops Q i (fun a' w'=>(i<m→S w')∧wpAnyL P md ops Q S m f (listed.setIfInBounds i true) a' w') a w):wpAnyL P md ops Q S m (f+1) listed a w :=
 ⟨fun h0=>(by rw[hr] at h0;cases h0),fun j hj=>by rw[hr] at hj;obtain rfl:=List.mem_singleton.1 hj;exact h⟩
theorem wpAnyL_done{listed:Array Bool}{a:Act}{w:World}(hr:Region.ready md ops listed=[])(h:Q .normal a w):∀f,wpAnyL P md ops Q S m f listed a w
 | 0=>⟨hr,h⟩
 | _+1=>⟨fun _=>h,fun j hj=>absurd (hr▸hj) List.not_mem_nil⟩
theorem wpOp_of_if{i:Nat}{o:Oper}{K:Act→World→Prop}{a:Act}{w:World}(ho:ops[i]?=some o)(h:if Region.wanted o (yielded ops a.tmps)=true then Oper.wp P o a w K Q else K (a.put o.dst undef) w):wpOp P ops Q i K a w:=by
 unfold wpOp
 simp only[ho]
 split
 ·rename_i hw
  rw[if_pos hw] at h
  exact .inl h
 ·rename_i hw
  rw[if_neg hw] at h
  exact h
theorem wp_region_last{id:Nat}{a:Act}{w:World}(m:Nat)(S:World→Prop)(hm:P.follows .mixedOrders=true)
  (h:HeadInv .any ops m (Array.replicate ops.size false)→wpAnyL P .any ops Q S m ops.size (Array.replicate ops.size false) a w.drew):(Code.region id ops true).wp P Q a w :=
 wp_region_any hm (wpAny_of_last _ _ _ _ (h (start_inv .any ops m)))
end
end Go.Proofs.YtpkfmfhodbjckaaGreatDoor
namespace Go.Proofs.YtpkfmfhodbjckaaGreatDoor
open Go
def upd (v:Nat→Value) (j:Nat) (u:Value):Nat→Value:=fun k=>bif Nat.beq k j then u else v k
theorem upd_self(v:Nat→Value)(j:Nat)(u:Value):upd v j u j=u:=by simp[upd]
theorem upd_ne(v:Nat→Value)(j k:Nat)(u:Value)(h:k≠j):upd v j u k=v k:=by
 have:Nat.beq k j=false:=by cases e:Nat.beq k j;rfl;exact absurd (Nat.eq_of_beq_eq_true e) h
 simp[upd,this]
def headDone (n m:Nat):Array Bool:=(List.range m).toArray.map fun j=>decide (j<n)
def relB (l:List Oper) (n:Nat):Bool :=
 decide (n<l.length)&&Region.sinkB .any l.toArray n&&Region.chainB .any l.toArray n&&Region.seqB .any l.toArray (l.length-n) n (headDone n l.length) &&
 (List.range l.length).all fun j=>match l[j]? with
   | some o=>o.after.all fun e=>!Region.binds .any e || decide (e.on<j)
   | none=>true
section
variable {P : Program} {Q : Exit → Act → World → Prop} {l : List Oper} {n : Nat} {C : Array Bool → World → Prop} {fr : (Nat → Value) → Act} {R : Nat → World → Value → Prop} {Z : Nat → Nat → Value → Value → Prop}
structure RelI (l:List Oper) (n:Nat) (C:Array Bool→World→Prop) (fr:(Nat→Value)→Act) (R:Nat→World→Value→Prop) (Z:Nat→Nat→Value→Value→Prop) (s:Array Bool) (a:Act) (w:World):Prop where
 inv:HeadInv .any l.toArray n s
 cls:C s w
 ex:∃v,a=fr v∧(∀j,j<n→s.getD j false=true→R j w (v j))∧∀j k,j<n→k<n→j≠k→s.getD j false=true→s.getD k false=true→Z j k (v j) (v k)
def RelStep (P:Program) (Q:Exit→Act→World→Prop) (l:List Oper) (n:Nat) (C:Array Bool→World→Prop) (fr:(Nat→Value)→Act) (R:Nat→World→Value→Prop) (Z:Nat→Nat→Value→Value→Prop) (j:Nat) (o:Oper):Prop :=
 ∀s v w,C s w→HeadInv .any l.toArray n s→s.getD j true=false→(∀e∈o.after,Region.binds .any e=true→R e.on w (v e.on))→(∀e∈o.after,∀e'∈o.after,Region.binds .any e=true→Region.binds .any e'=true→e.on≠e'.on→Z e.on e'.on (v e.on) (v e'.on)) →
  wpOp P l.toArray Q j (fun a' w'=>∃u,a'=fr (upd v j u)∧C (s.setIfInBounds j true) w'∧(∀k x,k≠j→s.getD k false=true→R k w x→R k w' x)∧R j w' u∧∀k,k≠j→s.getD k false=true→R k w (v k)→Z j k u (v k)∧Z k j (v k) u) (fr v) w
theorem any_rel(hlt:n<l.length)(hs:Region.sinkB .any l.toArray n=true)(hc:Region.chainB .any l.toArray n=true)(hq:Region.seqB .any l.toArray (l.length-n) n (headDone n l.length)=true)
  (hd:∀(j:Nat) (o:Oper),l[j]?=some o→∀e∈o.after,Region.binds .any e=true→e.on<j) (hstep:∀(j:Nat) (o:Oper),j<n→l[j]?=some o→RelStep P Q l n C fr R Z j o)
  (hend:∀s v w,C s w→(∀j,j<n→R j w (v j))→(∀j k,j<n→k<n→j≠k→Z j k (v j) (v k))→wpList P l.toArray Q (l.drop n) (fr v) w) :
  ∀(f:Nat) (s:Array Bool) (a:Act) (w:World) (und:List Nat),und.length=f→und.Nodup→(∀j,j∈und↔j<n∧s.getD j false=false)→RelI l n C fr R Z s a w→wpAny P .any l.toArray Q (l.length-n+f) s a w:=by
 intro f
 have hsz:l.toArray.size=l.length:=by simp
 induction f with
 | zero =>
  intro s a w und hl _ hm h
  have hnil:und=[]:=List.length_eq_zero_iff.1 hl
  subst hnil
  have hall:∀j,j<n→s.getD j false=true:=fun j hj=>by
   cases e:s.getD j false
   ·exact absurd ((hm j).2 ⟨hj,e⟩) (by simp)
   ·rfl
  have hse:s=headDone n l.length:=by
   apply Array.ext
   ·rw[h.inv.size];simp[headDone]
   ·intro i h1 h2
    have hil:i<l.length:=by simpa [headDone] using h2
    have e2:(headDone n l.length)[i]=decide (i<n):=by simp[headDone]
    rw[e2]
    by_cases hi:i<n
    ·have:=hall i hi
     simp[h1] at this
     simp[this,hi]
    ·have:=h.inv.tail i (by omega) (by rw[hsz];exact hil)
     simp[h1] at this
     simp[this,hi]
  obtain⟨v,rfl,hR,hZ⟩:=h.ex
  have h1:=wpAny_of_seq (P:=P) (md:=.any) (Q':=Q) (l.drop n) n s (fr v) w (fun j=>by rw[List.getElem?_drop,List.getElem?_toArray]) (by rw[List.length_drop,hse];exact hq)
   (hend s v w h.cls (fun j hj=>hR j hj (hall j hj)) (fun j k hj hk hne=>hZ j k hj hk hne (hall j hj) (hall k hk)))
  rwa [List.length_drop] at h1
 | succ f ih =>
  intro s a w und hl hnd hm h
  have hex:∃i,i∈und:=by
   cases und with
   | nil=>cases hl
   | cons x xs=>exact⟨x,by simp⟩
  have hun:∀i,i∈und→s.getD i true=false:=fun i hi=>by
   obtain⟨h1,h2⟩:=(hm i).1 hi
   exact getD_in (by rw[h.inv.size,hsz];omega) h2
  refine⟨fun h0=>?_,fun i hi=>?_⟩
  ·-- the first that isn't done comes up
   exfalso
   have key:∀m i,i≤m→i∈und→False:=by
    intro m
    induction m with
    | zero =>
     intro i hi hmem
     obtain rfl:i=0:=by omega
     have hir:0∈Region.ready .any l.toArray s:=mem_ready.2 ⟨hun 0 hmem,l[0]'(by omega),by rw[List.getElem?_toArray,List.getElem?_eq_getElem],fun e he hb=>absurd (hd 0 _ (List.getElem?_eq_getElem (by omega)) e he hb) (Nat.not_lt_zero _)⟩
     rw[h0] at hir;cases hir
    | succ m ihm =>
     intro i hi hmem
     have hil:i<l.length:=by have:=((hm i).1 hmem).1;omega
     by_cases hall:∀e∈(l[i]'hil).after,Region.binds .any e=true→s.getD e.on false=true
     ·have hir:i∈Region.ready .any l.toArray s:=mem_ready.2 ⟨hun i hmem,l[i]'hil,by rw[List.getElem?_toArray,List.getElem?_eq_getElem],hall⟩
      rw[h0] at hir;cases hir
     ·simp only[Classical.not_forall] at hall
      obtain⟨e,he,hb,hf⟩:=hall
      have hlt':=hd i _ (List.getElem?_eq_getElem hil) e he hb
      exact ihm e.on (by omega) ((hm e.on).2 ⟨by have:=((hm i).1 hmem).1;omega,by simpa using hf⟩)
   obtain⟨i,hi⟩:=hex
   exact key i i (Nat.le_refl _) hi
  ·obtain⟨hu,o,ho,hdep⟩:=mem_ready.1 hi
   obtain⟨x,hx⟩:=hex
   have hin:i<n:=Nat.lt_of_not_le fun hle=>tail_waits hs hc (by rw[hsz];exact hlt) h.inv _ x rfl ((hm x).1 hx).1 (hun x hx) i hle hi
   rw[List.getElem?_toArray] at ho
   obtain⟨v,rfl,hR,hZ⟩:=h.ex
   have hdn:∀e∈o.after,Region.binds .any e=true→R e.on w (v e.on):=fun e he hb=>hR e.on (by have:=hd i o ho e he hb;omega) (hdep e he hb)
   have hdz:∀e∈o.after,∀e'∈o.after,Region.binds .any e=true→Region.binds .any e'=true→e.on≠e'.on→Z e.on e'.on (v e.on) (v e'.on):=fun e he e' he' hb hb' hne =>
    hZ e.on e'.on (by have:=hd i o ho e he hb;omega) (by have:=hd i o ho e' he' hb';omega) hne (hdep e he hb) (hdep e' he' hb')
   refine wpOp_mono ?_ (hstep i o hin ho s v w h.cls h.inv hu hdn hdz)
   rintro a' w' ⟨u,rfl,hC',hst,hRu,hZu⟩
   refine ih _ _ _ (und.erase i) ?_ (hnd.erase _) ?_ ⟨h.inv.set hi hin,hC',upd v i u,rfl,?_,?_⟩
   ·rw[List.length_erase_of_mem ((hm i).2 ⟨hin,getD_both hu⟩),hl];rfl
   ·intro j
    rw[hnd.mem_erase_iff,hm j]
    by_cases hji:j=i
    ·subst hji
     constructor
     ·rintro⟨h1,_⟩;exact absurd rfl h1
     ·rintro⟨_,h2⟩
      have hsi:j<s.size:=by rw[h.inv.size,hsz];omega
      simp[hsi] at h2
    ·rw[getD_set_ne false (Ne.symm hji)]
     exact⟨fun h1=>h1.2,fun h1=>⟨hji,h1⟩⟩
   ·intro j hj hsj
    by_cases hji:j=i
    ·subst hji;rw[upd_self];exact hRu
    ·rw[getD_set_ne false (Ne.symm hji)] at hsj
     rw[upd_ne v i j u hji];exact hst _ _ hji hsj (hR j hj hsj)
   ·intro j k hj hk hne hsj hsk
    by_cases hji:j=i
    ·subst hji
     rw[getD_set_ne false hne] at hsk
     rw[upd_self,upd_ne v j k u (Ne.symm hne)]
     exact(hZu k (Ne.symm hne) hsk (hR k hk hsk)).1
    ·rw[getD_set_ne false (Ne.symm hji)] at hsj
     by_cases hki:k=i
     ·subst hki
      rw[upd_self,upd_ne v k j u hji]
      exact(hZu j hji hsj (hR j hj hsj)).2
     ·rw[getD_set_ne false (Ne.symm hki)] at hsk
      rw[upd_ne v i j u hji,upd_ne v i k u hki]
      exact hZ j k hj hk hne hsj hsk
theorem wp_region_rel{id:Nat}{a:Act}{w:World}(n:Nat)(C:Array Bool→World→Prop)(fr:(Nat→Value)→Act)(R:Nat→World→Value→Prop)(Z:Nat→Nat→Value→Value→Prop)(hm:P.follows .mixedOrders=true)(hB:relB l n=true)
  (hC:C (Array.replicate l.toArray.size false) { w with drawn:=w.drawn+1 }) (ha:∃v,a=fr v) (hstep:∀(j:Nat) (o:Oper),j<n→l[j]?=some o→RelStep P Q l n C fr R Z j o)
  (hend:∀s v w,C s w→(∀j,j<n→R j w (v j))→(∀j k,j<n→k<n→j≠k→Z j k (v j) (v k))→wpList P l.toArray Q (l.drop n) (fr v) w):(Code.region id l.toArray true).wp P Q a w:=by
 unfold relB at hB
 simp only[Bool.and_eq_true,decide_eq_true_eq] at hB
 obtain⟨⟨⟨⟨h1,h2⟩,h3⟩,h4⟩,h5⟩:=hB
 obtain⟨v,rfl⟩:=ha
 have hd:∀(j:Nat) (o:Oper),l[j]?=some o→∀e∈o.after,Region.binds .any e=true→e.on<j:=fun j o ho e he hb=>by
  have:=List.all_eq_true.1 h5 j (List.mem_range.2 (List.getElem?_eq_some_iff.1 ho).1)
  rw[ho] at this
  have:=Array.all_eq_true_iff_forall_mem.1 this e he
  rw[hb] at this
  exact of_decide_eq_true this
 have:=any_rel h1 h2 h3 h4 hd hstep hend n (Array.replicate l.toArray.size false) (fr v) _ (List.range n) (by simp) List.nodup_range
  (fun j=>by rw[List.mem_range,getD_replicate_false];simp) ⟨start_inv .any l.toArray n,hC,v,rfl,(fun j _ h=>by rw[getD_replicate_false] at h;cases h),(fun j k _ _ _ h=>by rw[getD_replicate_false] at h;cases h)⟩
 rw[Nat.sub_add_cancel (Nat.le_of_lt h1)] at this
 exact wp_region_any hm (by simpa using this)
theorem relStep_of{j:Nat}{o:Oper}(ho:l[j]?=some o)(hw:o.guard=none)
  (h:∀s v w,C s w→HeadInv .any l.toArray n s→s.getD j true=false→(∀e∈o.after,Region.binds .any e=true→R e.on w (v e.on))→(∀e∈o.after,∀e'∈o.after,Region.binds .any e=true→Region.binds .any e'=true→e.on≠e'.on→Z e.on e'.on (v e.on) (v e'.on))→o.wp P (fr v) w (fun a' w'=>∃u,a'=fr (upd v j u)∧C (s.setIfInBounds j true) w'∧(∀k x,k≠j→s.getD k false=true→R k w x→R k w' x)∧R j w' u∧∀k,k≠j→s.getD k false=true→R k w (v k)→Z j k u (v k)∧Z k j (v k) u) Q):RelStep P Q l n C fr R Z j o:=by
 intro s v w hC hi hs hR hZ
 have hw':∀y,Region.wanted o y=true:=fun y=>by simp[Region.wanted,hw]
 unfold wpOp
 rw[List.getElem?_toArray,ho]
 simp only[hw',if_true]
 exact .inl (h s v w hC hi hs hR hZ)
theorem wp_val{P:Program}{o:Oper}{a:Act}{w:World}{K:Act→World→Prop}{Q:Exit→Act→World→Prop}(u:Value)(h:(execOp a.eval o).run P w=.ok (.value u) w)(hk:K (a.put o.dst u) w):o.wp P a w K Q:=by
 unfold Oper.wp
 rw[h]
 exact hk
theorem wp_valW{P:Program}{o:Oper}{a:Act}{w:World}{K:Act→World→Prop}{Q:Exit→Act→World→Prop}(u:Value)(w':World)(h:(execOp a.eval o).run P w=.ok (.value u) w')(hk:K (a.put o.dst u) w'):o.wp P a w K Q:=by
 unfold Oper.wp
 rw[h]
 exact hk
end
end Go.Proofs.YtpkfmfhodbjckaaGreatDoor
