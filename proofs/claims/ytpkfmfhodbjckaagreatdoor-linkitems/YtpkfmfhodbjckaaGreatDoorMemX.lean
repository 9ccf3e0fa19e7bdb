/-
  Where parts lie in memory: a slice's cells, a fragment's, a part's; and that what lies there lies there still in a world that has grown. The contracts of the small functions: within, alignment, nameByte, Wide. The contracts of slices.Index, slices.Contains and slices.Equal at texts. Rows of memory that a call owns: what they hold, and what stays as it was while other memory grows. The contracts of Long, LongOf, WideOf, Name. The contracts of checkTarget, formed, checkCommon. A region that draws its order and whose callees make memory of their own but turn nothing that was there: one walk, in the order of the text. (Over the kit's 'wp_region_quiet', at the class of the worlds that have grown.)
-/
import Derived.Test.YtpkfmfhodbjckaaGreatDoorAbb
import Derived.Test.YtpkfmfhodbjckaaGreatDoorMathX
import Derived.WalkKit
import Derived.WalkSpells
import Derived.Below
import Derived.Test.YtpkfmfhodbjckaaGreatDoorChecked
import Derived.Deep.AppendLies
import Derived.Deep.DeepMust
import Derived.BigQuiet
import Derived.Deep.RegionHeld
set_option linter.unusedVariables false
set_option maxHeartbeats 1000000
set_option maxRecDepth 100000
namespace Go.Proofs.YtpkfmfhodbjckaaGreatDoor
open Go.RowKit
def SlAt (w:World) (v:Value) (k n:Nat) (cell:Nat→Nat→Value):Prop :=
 ∃a c,v=sv a n c∧n≤maxLen∧(n=0∨∃b off,a=some (qa b off)∧∀j i,j<n→i<k→w.cell? (qa b (off+j*k+i))=some (cell j i))
theorem SlAt.later{w w':World}{v:Value}{k n:Nat}{cell:Nat→Nat→Value}(h:SlAt w v k n cell)(hb:Below w.heap.size w w'):SlAt w' v k n cell:=by
 obtain⟨a,c,rfl,hn,h⟩:=h
 refine⟨a,c,rfl,hn,?_⟩
 rcases h with h|⟨b,off,rfl,h⟩
 ·exact .inl h
 ·exact .inr ⟨b,off,rfl,fun j i hj hi=>cell_later hb (h j i hj hi)⟩
def rel0:M.Rel:=⟨0,0,⟨#[]⟩,0,0⟩
def dfn0:M.Dfn:=⟨⟨#[]⟩,0,0,0,0,0⟩
def frg0:M.Frg:=⟨0,0,⟨#[]⟩,[],0,[]⟩
def relCell (r:M.Rel):Nat→Value
 | 0=>iv r.pos
 | 1=>iv r.kind
 | 2=>.string r.name
 | 3=>iv r.frag
 | _=>iv r.add
def dfnCell (d:M.Dfn):Nat→Value
 | 0=>.string d.name
 | 1=>iv d.kind
 | 2=>iv d.frag
 | 3=>iv d.pos
 | 4=>iv d.size
 | _=>iv d.align
def RelsAt (w:World) (v:Value) (rs:List M.Rel):Prop :=
 SlAt w v 5 rs.length (fun j i=>relCell (rs.getD j rel0) i)∧∀r∈rs,r.name.size≤maxLen∧(Lit.int .i64 r.kind).wf=true
def DefsAt (w:World) (v:Value) (ds:List M.Dfn):Prop :=
 SlAt w v 6 ds.length (fun j i=>dfnCell (ds.getD j dfn0) i)∧∀d∈ds,d.name.size≤maxLen
def BytesAt (w:World) (v:Value) (bs:List Int):Prop :=
 SlAt w v 1 bs.length (fun j _=>.int .u8 (bs.getD j 0))∧∀b∈bs,0≤b∧b<256
structure FrgAt (w:World) (cell:Nat→Value) (f:M.Frg):Prop where
 sect:cell 0=iv f.sect
 align:cell 1=iv f.align
 group:cell 2=.string f.group
 bytes:BytesAt w (cell 3) f.bytes
 size:cell 4=iv f.size
 rels:RelsAt w (cell 5) f.rels
 ok:f.group.size≤maxLen
def FragsAt (w:World) (v:Value) (fs:List M.Frg):Prop :=
 ∃cell,SlAt w v 6 fs.length cell∧∀j,j<fs.length→FrgAt w (cell j) (fs.getD j frg0)
def PrtAt (w:World) (v:Value) (p:M.Prt):Prop :=
 ∃v1 v2,v=.agg #[v1,v2]∧FragsAt w v1 p.frags∧DefsAt w v2 p.defs
theorem RelsAt.later{w w':World}{v:Value}{rs:List M.Rel}(h:RelsAt w v rs)(hb:Below w.heap.size w w'):RelsAt w' v rs:=⟨h.1.later hb,h.2⟩
theorem DefsAt.later{w w':World}{v:Value}{rs:List M.Dfn}(h:DefsAt w v rs)(hb:Below w.heap.size w w'):DefsAt w' v rs:=⟨h.1.later hb,h.2⟩
theorem BytesAt.later{w w':World}{v:Value}{rs:List Int}(h:BytesAt w v rs)(hb:Below w.heap.size w w'):BytesAt w' v rs:=⟨h.1.later hb,h.2⟩
theorem FrgAt.later{w w':World}{cell:Nat→Value}{f:M.Frg}(h:FrgAt w cell f)(hb:Below w.heap.size w w'):FrgAt w' cell f :=
 ⟨h.sect,h.align,h.group,h.bytes.later hb,h.size,h.rels.later hb,h.ok⟩
theorem FragsAt.later{w w':World}{v:Value}{fs:List M.Frg}(h:FragsAt w v fs)(hb:Below w.heap.size w w'):FragsAt w' v fs :=
 let ⟨cell,h1,h2⟩:=h
 ⟨cell,h1.later hb,fun j hj=>(h2 j hj).later hb⟩
theorem PrtAt.later{w w':World}{v:Value}{p:M.Prt}(h:PrtAt w v p)(hb:Below w.heap.size w w'):PrtAt w' v p :=
 let ⟨v1,v2,e,h1,h2⟩:=h
 ⟨v1,v2,e,h1.later hb,h2.later hb⟩
theorem SlAt.form{w:World}{v:Value}{k n:Nat}{cell:Nat→Nat→Value}(h:SlAt w v k n cell):∃a c,v=sv a n c∧n≤maxLen :=
 let ⟨a,c,e,hn,_⟩:=h
 ⟨a,c,e,hn⟩
theorem SlAt.at{w:World}{a:Option Addr}{c k n:Nat}{cell:Nat→Nat→Value}(h:SlAt w (sv a n c) k n cell)(j:Nat)(hj:j<n) :
  ∃b off,a=some (qa b off)∧∀i,i<k→w.cell? (qa b (off+j*k+i))=some (cell j i):=by
 obtain⟨a',c',e,hn,h⟩:=h
 cases e
 rcases h with h|⟨b,off,rfl,h⟩
 ·omega
 ·exact⟨b,off,rfl,fun i hi=>h j i hj hi⟩
theorem getD_mem{α:Type}(l:List α)(d:α)(j:Nat)(h:j<l.length):l.getD j d∈l:=by
 rw[List.getD_eq_getElem?_getD,List.getElem?_eq_getElem h];exact List.getElem_mem h
theorem drop_getD{α:Type}(l:List α)(d:α)(j:Nat)(h:j<l.length):l.drop j=l.getD j d::l.drop (j+1):=by
 rw[List.getD_eq_getElem?_getD,List.getElem?_eq_getElem h];exact List.drop_eq_getElem_cons h
theorem getElem?_getD{α:Type}(l:List α)(d:α)(j:Nat)(h:j<l.length):l[j]?=some (l.getD j d):=by
 rw[List.getD_eq_getElem?_getD,List.getElem?_eq_getElem h];rfl
theorem ret_int{k:IntKind}{a b:Int}(h:a=b):Ending.returned (.int k a)=.returned (.int k b):=by rw[h]
theorem ret_bool{a b:Bool}(h:a=b):Ending.returned (.bool a)=.returned (.bool b):=by rw[h]
theorem within_any(n a b:Int)(w:World) :
  Calls Tryz.prog 102 #[iv n,iv a,iv b] w fun e w'=>e=.returned (.bool (M.within n a b))∧w'=w:=by
 by_cases h1:a≤n<;>by_cases h2:n≤b
 all_goals
  go_enter Tryz.func102,Tryz.ntmps102
  go_wp2
  go_ret
  exact⟨ret_bool (by simp[M.within,h1,h2]),rfl⟩
theorem alignment_any(n:Int)(w:World) :
  Calls Tryz.prog 103 #[iv n] w fun e w'=>e=.returned (.bool (M.isAlign n))∧w'=w:=by
 by_cases h1:n=1
 ·subst h1
  go_enter Tryz.func103,Tryz.ntmps103
  go_wp2
  go_ret
  exact⟨rfl,rfl⟩
 by_cases h2:n=2
 ·subst h2
  go_enter Tryz.func103,Tryz.ntmps103
  go_wp2
  go_ret
  exact⟨rfl,rfl⟩
 by_cases h4:n=4
 ·subst h4
  go_enter Tryz.func103,Tryz.ntmps103
  go_wp2
  go_ret
  exact⟨rfl,rfl⟩
 have b1:(n==1)=false:=by simp[h1]
 have b2:(n==2)=false:=by simp[h2]
 have b4:(n==4)=false:=by simp[h4]
 have hx:M.isAlign n=(n==8):=by simp[M.isAlign,b1,b2,b4]
 have HX:Hid (M.isAlign n=(n==8)):=hx
 clear hx h1 h2 h4
 go_enter Tryz.func103,Tryz.ntmps103
 go_wp2
 go_ret
 exact⟨ret_bool HX.out.symm,rfl⟩
theorem wide_any(n:Int)(w:World) :
  Calls Tryz.prog 127 #[iv n] w fun e w'=>e=.returned (iv (M.wide n))∧w'=w:=by
 by_cases h1:n=1
 ·subst h1
  go_enter Tryz.func127,Tryz.ntmps127
  go_wp2
  go_ret
  exact⟨rfl,rfl⟩
 by_cases h2:n=2
 ·subst h2
  go_enter Tryz.func127,Tryz.ntmps127
  go_wp2
  go_ret
  exact⟨rfl,rfl⟩
 by_cases h3:n=3
 ·subst h3
  go_enter Tryz.func127,Tryz.ntmps127
  go_wp2
  go_ret
  exact⟨rfl,rfl⟩
 by_cases h4:n=4
 ·subst h4
  go_enter Tryz.func127,Tryz.ntmps127
  go_wp2
  go_ret
  exact⟨rfl,rfl⟩
 have b1:(n==1)=false:=by simp[h1]
 have b2:(n==2)=false:=by simp[h2]
 have b3:(n==3)=false:=by simp[h3]
 have b4:(n==4)=false:=by simp[h4]
 have HX:Hid (M.wide n=0):=by simp[Hid,M.wide,h1,h2,h3,h4]
 clear h1 h2 h3 h4
 go_enter Tryz.func127,Tryz.ntmps127
 go_wp2
 go_ret
 exact⟨ret_int HX.out.symm,rfl⟩
theorem nameByte_any(c:Int)(w:World) :
  Calls Tryz.prog 38 #[.int .u8 c] w fun e w'=>e=.returned (.bool (M.nameByte c))∧w'=w:=by
 by_cases h1:97≤c<;>by_cases h2:c≤122<;>by_cases h3:48≤c<;>by_cases h4:c≤57
 all_goals
  first
  | omega
  | (have HX:Hid (M.nameByte c=true):=by simp[Hid,M.nameByte,h1,h2,h3,h4]
     go_enter Tryz.func38,Tryz.ntmps38
     go_wp2
     go_ret
     exact⟨ret_bool HX.out.symm,rfl⟩)
  | (have HX:Hid (M.nameByte c=(c==95)):=by simp[Hid,M.nameByte,h1,h2,h3,h4]
     go_enter Tryz.func38,Tryz.ntmps38
     go_wp2
     go_ret
     exact⟨ret_bool HX.out.symm,rfl⟩)
def str0:ByteArray:=⟨#[]⟩
def StrsAt (w:World) (v:Value) (l:List ByteArray):Prop :=
 SlAt w v 1 l.length (fun j _=>.string (l.getD j str0))∧∀s∈l,s.size≤maxLen
theorem StrsAt.later{w w':World}{v:Value}{l:List ByteArray}(h:StrsAt w v l)(hb:Below w.heap.size w w'):StrsAt w' v l:=⟨h.1.later hb,h.2⟩
theorem StrsAt.cell{w:World}{a:Option Addr}{c:Nat}{l:List ByteArray}(h:StrsAt w (sv a l.length c) l)(k:Nat)(hk:k<l.length) :
  ∃b off,a=some (qa b off)∧w.cell? (qa b (off+k))=some (.string (l.getD k str0))∧b<w.heap.size:=by
 obtain⟨b,off,ha,hc⟩:=h.1.at k hk
 have:=hc 0 (by omega)
 simp only[Nat.mul_one,Nat.add_zero] at this
 exact⟨b,off,ha,this,wlt this⟩
def idx (l:List ByteArray) (s:ByteArray) (k:Nat):Int :=
 match (l.drop k).findIdx? (fun x=>x.toList==s.toList) with
  | some j=>((k+j:Nat):Int)
  | none=>-1
theorem idx_end(l:List ByteArray)(s:ByteArray)(k:Nat)(h:¬k<l.length):idx l s k=-1:=by
 unfold idx
 rw[List.drop_eq_nil_of_le (by omega)]
 rfl
theorem idx_step(l:List ByteArray)(s:ByteArray)(k:Nat)(h:k<l.length):idx l s k=bif s.toList==(l.getD k str0).toList then (k:Int) else idx l s (k+1):=by
 unfold idx
 rw[drop_getD l str0 k h,List.findIdx?_cons,BEq.comm (a:=(l.getD k str0).toList)]
 cases s.toList==(l.getD k str0).toList
 ·simp only[Bool.false_eq_true,if_false,cond_false]
  cases (l.drop (k+1)).findIdx? (fun x=>x.toList==s.toList) with
  | none=>rfl
  | some j=>simp;omega
 ·simp
theorem idx_has(l:List ByteArray)(s:ByteArray):M.has l s=decide (0≤idx l s 0):=by
 unfold idx M.has
 rw[List.drop_zero]
 cases h:l.findIdx? (fun x=>x.toList==s.toList) with
 | none =>
  rw[List.findIdx?_eq_none_iff] at h
  rw[List.any_eq_false.2 (by simpa using h)]
  rfl
 | some j =>
  obtain⟨hj,hp,_⟩:=List.findIdx?_eq_some_iff_getElem.1 h
  rw[List.any_eq_true.2 ⟨_,List.getElem_mem hj,hp⟩]
  simp only[Nat.zero_add]
  exact(decide_eq_true (by omega)).symm
theorem indexS_any(l:List ByteArray)(s:ByteArray)(a:Option Addr)(c:Nat)(w:World)(h:StrsAt w (sv a l.length c) l) :
  Calls Tryz.prog 71 #[sv a l.length c,.string s] w fun e w'=>e=.returned (iv (idx l s 0))∧w'=w:=by
 have hn:l.length≤maxLen:=by obtain⟨_,_,_,h⟩:=h.1.form;exact h
 unfold maxLen at hn
 have HX:Hid (idx l s 0=idx l s 0):=rfl
 generalize hR:idx l s 0=R at HX ⊢
 have HR0:Hid (R=idx l s 0):=hR.symm
 clear hR HX
 go_enter Tryz.func71,Tryz.ntmps71
 go_wp2_with fail
 go_loopw [8] (fun s8 wr=>∃(k:Nat),k≤l.length∧s8=iv k∧wr=w∧Hid (R=idx l s k)) (fun s8 _=>l.length-(intOf s8).toNat)
 case atStart=>exact⟨0,Nat.zero_le _,rfl,rfl,HR0⟩
 case round =>
  obtain⟨k,hk,rfl,rfl,HR⟩:=hrel
  clear HR0
  by_cases hlt:k<l.length
  ·obtain⟨b,off,rfl,hc,hb⟩:=h.cell k hlt
   have HR1:=HR.out
   rw[idx_step l s k hlt] at HR1
   have hkl:(k:Int)<(l.length:Int):=by omega
   clear HR
   generalize l.getD k str0=x at *
   cases hx:(s.toList==x.toList)
   ·rw[hx] at HR1
    have HR2:Hid (R=idx l s (k+1)):=HR1
    clear HR1
    go_wp2
    go_roundw
    case rel=>exact⟨k+1,by omega,by go_num,by trivial,HR2⟩
    case measure=>simp[intOf];omega
   ·rw[hx] at HR1
    have HR2:Hid (R=(k:Int)):=HR1
    clear HR1
    go_wp2
    go_ret
    exact⟨ret_int HR2.out.symm,rfl⟩
  ·have hkl:k=l.length:=by omega
   have HR1:=HR.out
   rw[idx_end l s k hlt] at HR1
   have HR2:Hid (R=-1):=HR1
   clear HR1 HR
   subst hkl
   go_wp2
   go_ret
   exact⟨ret_int HR2.out.symm,rfl⟩
theorem containsS_any(l:List ByteArray)(s:ByteArray)(a:Option Addr)(c:Nat)(w:World)(h:StrsAt w (sv a l.length c) l) :
  Calls Tryz.prog 91 #[sv a l.length c,.string s] w fun e w'=>e=.returned (.bool (M.has l s))∧w'=w:=by
 have HK:Hid (Calls Tryz.prog 71 #[sv a l.length c,.string s] w fun e w'=>e=.returned (iv (idx l s 0))∧w'=w):=indexS_any l s a c w h
 rw[idx_has]
 generalize idx l s 0=R at *
 clear h
 go_enter Tryz.func91,Tryz.ntmps91
 go_wp2_with (go_at_call 71;refine HK.out.mono ?_;rintro e w1 ⟨rfl,rfl⟩)
 go_ret
 exact⟨by simp,rfl⟩
end Go.Proofs.YtpkfmfhodbjckaaGreatDoor
namespace Go.Proofs.YtpkfmfhodbjckaaGreatDoor
open Go Go.RowKit
theorem grown_of_below{w w':World}(h:Below w.heap.size w w')(r:Option Nat):w.grownBy w' r :=
 ⟨h.os,h.tape,h.output,h.size,fun k hk _=>h.block k hk⟩
theorem own_form{w:World}{B k n:Nat}{e:TypeId}{v:Value}{xs:List Value}(h:w.ownsRow B e k v n xs):∃ad nn cc,v=sv ad nn cc:=by
 rcases h.2 with ⟨h1,_⟩|⟨g,cap,cur,h1,_⟩
 ·exact⟨_,_,_,h1⟩
 ·exact⟨_,_,_,h1⟩
theorem own_len{w:World}{B k n:Nat}{e:TypeId}{v:Value}{xs:List Value}(h:w.ownsRow B e k v n xs):∃ad cc,v=sv ad n cc:=by
 rcases h.2 with ⟨h1,h2⟩|⟨g,cap,cur,h1,_⟩
 ·exact⟨none,0,by rw[h1,h2]⟩
 ·exact⟨_,_,h1⟩
theorem cellB{w:World}{g:Nat}{cs:Array Value}{t:TypeId}{fr:Nat × Nat}(h:w.heap[g]?=some (.cells cs t fr))(i:Nat):w.cell? (qa g i)=cs[i]?:=by simp[World.cell?,h]
theorem frozenB{w:World}{g:Nat}{cs:Array Value}{t:TypeId}(h:w.heap[g]?=some (.cells cs t (0,0)))(i:Nat):w.frozen? (qa g i)=false:=by simp[World.frozen?,h]
theorem own_self{v:Value} : v.ownBlock=none∨v.ownBlock≠none:=by cases v.ownBlock<;>simp
theorem own_ne{w:World}{B k n g:Nat}{e e':TypeId}{v:Value}{xs:List Value}{cs:Array Value}{fr:Nat × Nat}(h:w.ownsRow B e k v n xs)(hb:w.heap[g]?=some (.cells cs e' fr))(hne:e≠e'):v.ownBlock=none∨v.ownBlock≠some g:=by
 right
 intro hv
 rcases h.2 with ⟨h1,_⟩|⟨g',cap,cur,h1,_,h2,_⟩
 ·rw[h1] at hv;simp[Value.ownBlock] at hv
 ·rw[h1] at hv
  simp only[Value.ownBlock,Option.some.injEq] at hv
  subst hv
  rw[hb] at h2
  cases h2
  exact hne rfl
theorem own_apart{w:World}{B B' k n k' n':Nat}{e e':TypeId}{v v':Value}{xs xs':List Value}(h:w.ownsRow B e k v n xs)(h':w.ownsRow B' e' k' v' n' xs')(hne:e≠e'):v.ownBlock=none∨v.ownBlock≠v'.ownBlock:=by
 rcases h'.2 with ⟨h1,_⟩|⟨g',cap,cur,h1,_,h2,_⟩
 ·rw[h1];exact own_self
 ·have:=own_ne h h2 hne
  rw[h1];exact this
theorem grown_set(w:World)(g i:Nat)(v:Value):w.grownBy (w.setCell (qa g i) v) (some g) :=
 ⟨rfl,rfl,rfl,by simp,fun k hk hne=>Below.heap_setCell _ _ _ _ (fun h=>hne (by rw[h]))⟩
theorem flat_get{α:Type}(k:Nat)(f:α→List Value)(hf:∀x,(f x).length=k):∀(l:List α) (j i:Nat),i<k→(l.flatMap f)[j*k+i]?=(l[j]?).bind fun x=>(f x)[i]?
 | [],j,i,_=>by simp
 | x::l,0,i,hi=>by
  rw[List.flatMap_cons,List.getElem?_append_left (by rw[hf];omega)]
  simp
 | x::l,j+1,i,hi=>by
  have e:(j+1)*k+i=k+(j*k+i):=by rw[Nat.add_mul];omega
  rw[List.flatMap_cons,e,List.getElem?_append_right (by rw[hf];omega),hf,Nat.add_sub_cancel_left,flat_get k f hf l j i hi]
  simp
theorem row_slice{α:Type}{w:World}{B k:Nat}{e:TypeId}{v:Value}(d:α)(f:α→List Value)(hf:∀x,(f x).length=k)(l:List α)(h:w.ownsRow B e k v l.length (l.flatMap f)) :
  SlAt w v k l.length (fun j i=>(f (l.getD j d)).getD i undef):=by
 rcases h.2 with ⟨h1,h2⟩|⟨g,cap,cur,h1,hb,h2,h3,h4,h5,h6⟩
 ·rw[h1,h2];exact⟨_,_,rfl,Nat.zero_le _,.inl rfl⟩
 ·refine⟨_,_,h1,by omega,.inr ⟨g,0,rfl,fun j i hj hi=>?_⟩⟩
  have hown:v.ownBlock=some g:=by rw[h1];rfl
  have hc:=h.cells hown (j*k+i) ((f (l.getD j d)).getD i undef) (by
   rw[flat_get k f hf l j i hi,getElem?_getD l d j hj]
   simp only[Option.bind_some]
   exact getElem?_getD _ _ _ (by rw[hf];exact hi))
  have e:(qa g (0+j*k+i))=(qa g 0).add (j*k+i):=by simp[Addr.add]
  rw[e]
  exact hc
theorem SlAt.congr'{w:World}{v:Value}{k n:Nat}{cell cell':Nat→Nat→Value}(h:SlAt w v k n cell)(e:∀j i,j<n→i<k→cell j i=cell' j i):SlAt w v k n cell':=by
 obtain⟨a,c,rfl,hn,h⟩:=h
 refine⟨a,c,rfl,hn,?_⟩
 rcases h with h|⟨b,off,rfl,h⟩
 ·exact .inl h
 ·exact .inr ⟨b,off,rfl,fun j i hj hi=>by rw[h j i hj hi,e j i hj hi]⟩
theorem setB'{w:World}{g i:Nat}{cs:Array Value}{t:TypeId}{fr:Nat × Nat}(h:w.heap[g]?=some (.cells cs t fr))(v:Value):(w.setCell (qa g i) v).heap[g]?=some (.cells (cs.setIfInBounds i v) t fr):=by
 simp[World.setCell,Array.getElem?_modify,h]
theorem row_set{w:World}{B k n g i cap:Nat}{e:TypeId}{xs:List Value}{u:Value}(h:w.ownsRow B e k (sv (some (qa g 0)) n cap) n xs)(hi:i<xs.length) :
  (w.setCell (qa g i) u).ownsRow B e k (sv (some (qa g 0)) n cap) n (xs.set i u):=by
 refine⟨by rw[List.length_set];exact h.1,?_⟩
 rcases h.2 with ⟨h1,_⟩|⟨g',cap',cur,h1,hb,h2,h3,h4,h5,h6⟩
 ·cases h1
 ·cases h1
  refine .inr ⟨g,cap,cur.setIfInBounds i u,rfl,hb,setB' h2 u,h3,h4,by simp[h5],?_⟩
  rw[Array.toList_setIfInBounds,←h6,List.take_set]
structure Ent where
 f:M.Frg
 bv:Value
 rv:Value
def entCells (e:Ent):List Value:=[iv e.f.sect,iv e.f.align,.string e.f.group,e.bv,iv e.f.size,e.rv]
def ent0:Ent:=⟨frg0,sv none 0 0,sv none 0 0⟩
end Go.Proofs.YtpkfmfhodbjckaaGreatDoor
namespace Go.Proofs.YtpkfmfhodbjckaaGreatDoor
open Go.RowKit
theorem long_any(s al sz:Int)(g:ByteArray)(a:Option Addr)(n c:Nat)(vr:Value)(w:World) :
  Calls Tryz.prog 108 #[.agg #[iv s,iv al,.string g,sv a n c,iv sz,vr]] w fun e w' =>
   e=.returned (iv (M.lng s sz n))∧Below w.heap.size w w':=by
 by_cases h:s=5
 ·subst h
  go_enter Tryz.func108,Tryz.ntmps108
  go_wp2
  go_ret
  exact⟨rfl,bra _ _⟩
 ·have b:(s==5)=false:=by simp[h]
  have HX:Hid (M.lng s sz n=n):=if_neg h
  clear h
  go_enter Tryz.func108,Tryz.ntmps108
  go_wp2
  go_ret
  exact⟨ret_int HX.out.symm,bra _ _⟩
theorem longOf_any(s al sz:Int)(g:ByteArray)(a:Option Addr)(n c:Nat)(vr:Value)(w:World) :
  Calls Tryz.prog 63 #[.agg #[iv s,iv al,.string g,sv a n c,iv sz,vr]] w fun e w' =>
   e=.returned (iv (M.lng s sz n))∧Below w.heap.size w w':=by
 by_cases h:s=5
 ·subst h
  go_enter Tryz.func63,Tryz.ntmps63
  go_wp2
  go_ret
  exact⟨rfl,bra _ _⟩
 ·have b:(s==5)=false:=by simp[h]
  have HX:Hid (M.lng s sz n=n):=if_neg h
  clear h
  go_enter Tryz.func63,Tryz.ntmps63
  go_wp2
  go_ret
  exact⟨ret_int HX.out.symm,bra _ _⟩
theorem all_take_succ(l:List UInt8)(f:UInt8→Bool)(k:Nat)(h:k<l.length):(l.take (k+1)).all f=((l.take k).all f&&f l[k]):=by
 rw[List.take_succ_eq_append_getElem h,List.all_append];simp
theorem all_false_of(l:List UInt8)(f:UInt8→Bool)(k:Nat)(h:k<l.length)(hf:f l[k]=false):l.all f=false:=by
 rw[List.all_eq_false]
 exact⟨l[k],List.getElem_mem h,by simp[hf]⟩
theorem name_any(s:ByteArray)(w:World)(hs:s.size≤maxLen) :
  Calls Tryz.prog 14 #[.string s] w fun e w'=>e=.returned (.bool (M.isName s))∧w'=w:=by
 unfold maxLen at hs
 by_cases h1:1≤s.size
 ·by_cases h2:s.size≤8
  ·have HX:Hid (M.isName s=s.data.toList.all fun c=>M.nameByte c.toNat):=by simp[Hid,M.isName,h1,h2]
   go_enter Tryz.func14,Tryz.ntmps14
   go_wp2_with fail
   go_loop [14] (fun i=>∃k:Nat,k≤s.size∧i=iv k∧Hid ((s.data.toList.take k).all (fun c=>M.nameByte c.toNat)=true)) (fun i=>s.size-(intOf i).toNat)
   case atStart=>exact⟨0,Nat.zero_le _,rfl,rfl⟩
   case round =>
    obtain⟨k,hk,rfl,HA⟩:=hrel
    by_cases hlt:k<s.size
    ·have hl:k<s.data.toList.length:=by simpa using hlt
     have HS:Hid ((s.data.toList.take (k+1)).all (fun c=>M.nameByte c.toNat)=M.nameByte s[k].toNat):=by
      show _=_
      rw[all_take_succ _ _ _ hl,HA.out];rfl
     have HF:Hid (M.nameByte s[k].toNat=false→M.isName s=false):=fun hf=>by rw[HX.out];exact all_false_of _ _ k hl hf
     clear HA HX
     go_wp2_with (go_at_call 38;refine(nameByte_any _ _).mono ?_;rintro e w' ⟨rfl,rfl⟩)
     ·go_ret
      refine⟨ret_bool (HF.out ?_).symm,rfl⟩
      simp_all
     ·go_round
      case rel=>exact⟨k+1,by omega,by go_num,by show _=_;rw[HS.out];simp_all⟩
      case measure=>simp[intOf];omega
    ·have hk':k=s.size:=by omega
     have HT:Hid (M.isName s=true):=by
      show _=_
      rw[HX.out]
      have:=HA.out
      rwa [hk',List.take_of_length_le (by simp)] at this
     clear HA HX hk'
     go_wp2
     go_ret
     exact⟨ret_bool HT.out.symm,rfl⟩
  ·have HX:Hid (M.isName s=false):=by simp[Hid,M.isName,h2]
   go_enter Tryz.func14,Tryz.ntmps14
   go_wp2
   go_ret
   exact⟨ret_bool HX.out.symm,rfl⟩
 ·have HX:Hid (M.isName s=false):=by simp[Hid,M.isName,h1]
  go_enter Tryz.func14,Tryz.ntmps14
  go_wp2
  go_ret
  exact⟨ret_bool HX.out.symm,rfl⟩
theorem target_any(pos kind:Int)(name:ByteArray)(frag add many:Int)(w:World)(hn:name.size≤maxLen)(h0:0≤many)(h1:many≤1000) :
  Calls Tryz.prog 128 #[.agg #[iv pos,iv kind,.string name,iv frag,iv add],iv many] w fun e w' =>
   e=.returned (iv (M.target ⟨pos,kind,name,frag,add⟩ many))∧Below w.heap.size w w':=by
 cases hE:name.toList.isEmpty
 ·cases hI:M.isName name
  ·have HX:Hid (M.target ⟨pos,kind,name,frag,add⟩ many=1):=by simp[Hid,M.target,hE,hI]
   go_enter Tryz.func128,Tryz.ntmps128
   go_wp2_with (go_at_call 14;refine(name_any _ _ hn).mono ?_;rintro e w' ⟨rfl,rfl⟩)
   go_ret
   exact⟨ret_int HX.out.symm,bra _ _⟩
  ·cases hF:(frag !=0)
   ·have HX:Hid (M.target ⟨pos,kind,name,frag,add⟩ many=0):=by simp[Hid,M.target,hE,hI];simpa using hF
    go_enter Tryz.func128,Tryz.ntmps128
    go_wp2_with (go_at_call 14;refine(name_any _ _ hn).mono ?_;rintro e w' ⟨rfl,rfl⟩)
    go_ret
    exact⟨ret_int HX.out.symm,bra _ _⟩
   ·have HX:Hid (M.target ⟨pos,kind,name,frag,add⟩ many=1):=by simp[Hid,M.target,hE,hI];simpa using hF
    go_enter Tryz.func128,Tryz.ntmps128
    go_wp2_with (go_at_call 14;refine(name_any _ _ hn).mono ?_;rintro e w' ⟨rfl,rfl⟩)
    go_ret
    exact⟨ret_int HX.out.symm,bra _ _⟩
 ·cases hI:M.within frag (-1) (many-1)
  ·have HX:Hid (M.target ⟨pos,kind,name,frag,add⟩ many=5):=by simp[Hid,M.target,hE,hI]
   go_enter Tryz.func128,Tryz.ntmps128
   go_wp2_with (go_at_call 102;refine(within_any _ _ _ _).mono ?_;rintro e w' ⟨rfl,rfl⟩)
   go_ret
   exact⟨ret_int HX.out.symm,bra _ _⟩
  ·have HX:Hid (M.target ⟨pos,kind,name,frag,add⟩ many=0):=by simp[Hid,M.target,hE,hI]
   go_enter Tryz.func128,Tryz.ntmps128
   go_wp2_with (go_at_call 102;refine(within_any _ _ _ _).mono ?_;rintro e w' ⟨rfl,rfl⟩)
   go_ret
   exact⟨ret_int HX.out.symm,bra _ _⟩
def frm (s sz:Int) (n m:Nat):Bool :=
 if s=5 then n==0&&m==0&&M.within sz 0 64
 else if s=3 then sz==0&&m==0
 else sz==0
theorem nat_b{n:Nat}{b:Bool}(h:(n==0)=b):((n:Int)==0)=b:=by
 rw[←h];cases n<;>rfl
theorem formed_any(s al sz:Int)(g:ByteArray)(a a':Option Addr)(n c m c':Nat)(w:World) :
  Calls Tryz.prog 104 #[.agg #[iv s,iv al,.string g,sv a n c,iv sz,sv a' m c']] w fun e w' =>
   e=.returned (.bool (frm s sz n m))∧Below w.heap.size w w':=by
 by_cases h5:s=5
 ·subst h5
  cases hn:(n==0)<;>cases hm:(m==0)
  ·have HX:Hid (frm 5 sz n m=false):=by simp[Hid,frm,hn]
   have hn':=nat_b hn
   clear hn hm
   go_enter Tryz.func104,Tryz.ntmps104
   go_wp2_with (go_at_call 102;refine(within_any _ _ _ _).mono ?_;rintro e w' ⟨rfl,rfl⟩)
   go_ret
   exact⟨ret_bool HX.out.symm,bra _ _⟩
  ·have HX:Hid (frm 5 sz n m=false):=by simp[Hid,frm,hn]
   have hn':=nat_b hn
   clear hn hm
   go_enter Tryz.func104,Tryz.ntmps104
   go_wp2_with (go_at_call 102;refine(within_any _ _ _ _).mono ?_;rintro e w' ⟨rfl,rfl⟩)
   go_ret
   exact⟨ret_bool HX.out.symm,bra _ _⟩
  ·have HX:Hid (frm 5 sz n m=false):=by simp[Hid,frm,hm]
   have hn':=nat_b hn
   have hm':=nat_b hm
   clear hn hm
   go_enter Tryz.func104,Tryz.ntmps104
   go_wp2_with (go_at_call 102;refine(within_any _ _ _ _).mono ?_;rintro e w' ⟨rfl,rfl⟩)
   go_ret
   exact⟨ret_bool HX.out.symm,bra _ _⟩
  ·have HX:Hid (frm 5 sz n m=M.within sz 0 64):=by simp[Hid,frm,hn,hm]
   have hn':=nat_b hn
   have hm':=nat_b hm
   clear hn hm
   go_enter Tryz.func104,Tryz.ntmps104
   go_wp2_with (go_at_call 102;refine(within_any _ _ _ _).mono ?_;rintro e w' ⟨rfl,rfl⟩)
   go_ret
   exact⟨ret_bool HX.out.symm,bra _ _⟩
 ·have b5:(s==5)=false:=by simp[h5]
  by_cases h3:s=3
  ·subst h3
   cases hz:(sz==0)
   ·have HX:Hid (frm 3 sz n m=false):=by simp[Hid,frm,hz]
    clear h5
    go_enter Tryz.func104,Tryz.ntmps104
    go_wp2
    go_ret
    exact⟨ret_bool HX.out.symm,bra _ _⟩
   ·have HX:Hid (frm 3 sz n m=((m:Int)==0)):=by
     simp only[Hid,frm,hz]
     cases m<;>rfl
    clear h5
    go_enter Tryz.func104,Tryz.ntmps104
    go_wp2
    go_ret
    exact⟨ret_bool HX.out.symm,bra _ _⟩
  ·have b3:(s==3)=false:=by simp[h3]
   have HX:Hid (frm s sz n m=(sz==0)):=by simp[Hid,frm,h5,h3]
   clear h5 h3
   go_enter Tryz.func104,Tryz.ntmps104
   go_wp2
   go_ret
   exact⟨ret_bool HX.out.symm,bra _ _⟩
def cmn (frag pos size align:Int):Bool:=frag==0&&pos==0&&M.within size 1 64&&M.isAlign align
theorem bne_of{x:Int}{b:Bool}(h:(x==0)=b):(x !=0)=!b:=by rw[←h];rfl
theorem common_any(name:ByteArray)(kind frag pos size align:Int)(w:World) :
  Calls Tryz.prog 107 #[.agg #[.string name,iv kind,iv frag,iv pos,iv size,iv align]] w fun e w' =>
   e=.returned (iv (bif cmn frag pos size align then 0 else 3))∧Below w.heap.size w w':=by
 have arm:∀r:Int,r=(bif cmn frag pos size align then 0 else 3)→Hid ((bif cmn frag pos size align then (0:Int) else 3)=r):=fun r h=>h.symm
 cases hf:(frag==0)
 ·have HX:=arm 3 (by simp[cmn,hf]);have bf:=bne_of hf;clear arm hf
  generalize (bif cmn frag pos size align then (0:Int) else 3)=R at *
  go_enter Tryz.func107,Tryz.ntmps107
  go_wp2
  go_ret
  exact⟨ret_int HX.out.symm,bra _ _⟩
 cases hp:(pos==0)
 ·have HX:=arm 3 (by simp[cmn,hp]);have bf:=bne_of hf;have bp:=bne_of hp;clear arm hf hp
  generalize (bif cmn frag pos size align then (0:Int) else 3)=R at *
  go_enter Tryz.func107,Tryz.ntmps107
  go_wp2
  go_ret
  exact⟨ret_int HX.out.symm,bra _ _⟩
 cases hs:M.within size 1 64
 ·have HX:=arm 3 (by simp[cmn,hs]);have bf:=bne_of hf;have bp:=bne_of hp;clear arm hf hp
  generalize (bif cmn frag pos size align then (0:Int) else 3)=R at *
  go_enter Tryz.func107,Tryz.ntmps107
  go_wp2_with (go_at_call 102;refine(within_any _ _ _ _).mono ?_;rintro e w' ⟨rfl,rfl⟩)
  go_ret
  exact⟨ret_int HX.out.symm,bra _ _⟩
 cases ha:M.isAlign align
 ·have HX:=arm 3 (by simp[cmn,ha]);have bf:=bne_of hf;have bp:=bne_of hp;clear arm hf hp
  generalize (bif cmn frag pos size align then (0:Int) else 3)=R at *
  go_enter Tryz.func107,Tryz.ntmps107
  go_wp2_with (first|(go_at_call 102;refine(within_any _ _ _ _).mono ?_;rintro e w' ⟨rfl,rfl⟩)|(go_at_call 103;refine(alignment_any _ _).mono ?_;rintro e w' ⟨rfl,rfl⟩))
  go_ret
  exact⟨ret_int HX.out.symm,bra _ _⟩
 ·have HX:=arm 0 (by simp[cmn,ha,hs,hf,hp]);have bf:=bne_of hf;have bp:=bne_of hp;clear arm hf hp
  generalize (bif cmn frag pos size align then (0:Int) else 3)=R at *
  go_enter Tryz.func107,Tryz.ntmps107
  go_wp2_with (first|(go_at_call 102;refine(within_any _ _ _ _).mono ?_;rintro e w' ⟨rfl,rfl⟩)|(go_at_call 103;refine(alignment_any _ _).mono ?_;rintro e w' ⟨rfl,rfl⟩))
  go_ret
  exact⟨ret_int HX.out.symm,bra _ _⟩
end Go.Proofs.YtpkfmfhodbjckaaGreatDoor
namespace Go.Proofs.YtpkfmfhodbjckaaGreatDoor
open Go Go.RowKit
structure Lat (W:World) where
 world:World
 below:Below W.heap.size W world
def lat (W:World) (x:Lat W):World:=x.world
theorem lat_cell(W:World)(x:Lat W)(a:Addr)(h:(W.cell? a).isSome=true):(lat W x).cell? a=W.cell? a:=by
 obtain⟨u,hu⟩:=Option.isSome_iff_exists.1 h
 exact x.below.cell (World.block_lt_of_cell? W a hu)
theorem lat_of{P:Program}{f:FuncId}{args:Array Value}{W:World}{x:Lat W}{v:Value}
  (h:Calls P f args (lat W x) fun e w'=>e=.returned v∧Below (lat W x).heap.size (lat W x) w'):Calls P f args (lat W x) fun e w''=>e=.returned v∧∃y:Lat W,w''=lat W y :=
 h.mono fun _ w'' ⟨he,hb⟩=>⟨he,⟨w'',x.below.trans (hb.mono x.below.size)⟩,rfl⟩
theorem lat_of_same{P:Program}{f:FuncId}{args:Array Value}{W:World}{x:Lat W}{v:Value}
  (h:Calls P f args (lat W x) fun e w'=>e=.returned v∧w'=lat W x):Calls P f args (lat W x) fun e w''=>e=.returned v∧∃y:Lat W,w''=lat W y :=
 h.mono fun _ _ ⟨he,hb⟩=>⟨he,x,hb⟩
theorem wp_region_lat{P:Program}{id:Nat}{Q:Exit→Act→World→Prop}{a:Act}{w:World}{l:List Oper}(hm:P.follows .mixedOrders=true)(hB:Region.lexB .any l.toArray=true)
  (h:Nonempty (Lat w)→wpQuiet P l.toArray (fun w'=>∃x:Lat w,w'=lat w x) (fun a'=>∀w',(∃x:Lat w,w'=lat w x)→Q .normal a' w') l a):(Code.region id l.toArray true).wp P Q a w :=
 wp_region_quiet (C:=fun w'=>∃x:Lat w,w'=lat w x) hm hB ⟨⟨_,(Below.refl _ _).drew⟩,rfl⟩ (by simpa using h ⟨⟨_,Below.refl _ _⟩⟩)
theorem bcell{W w1:World}(hb:Below W.heap.size W w1):(∀b o,b<W.heap.size→w1.cell? (qa b o)=W.cell? (qa b o))∧(∀b o,b<W.heap.size→w1.frozen? (qa b o)=W.frozen? (qa b o)) :=
 ⟨fun b o h=>hb.cell (p:=⟨b,o,none⟩) h,fun b o h=>hb.frozen (p:=⟨b,o,none⟩) h⟩
theorem lat_out{W w1:World}(h:∃x:Lat W,w1=lat W x):Below W.heap.size W w1:=by
 obtain⟨x,rfl⟩:=h
 exact x.below
end Go.Proofs.YtpkfmfhodbjckaaGreatDoor
