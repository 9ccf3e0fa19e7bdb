/-
  The library's Sort at a row of integers of one's own. The reference: what is wrong with a plan.
-/
import Derived.Test.YtebippbakbihiaaGreatDoorPlShelf3
import Derived.Sort.KeysCollected
import Derived.Lib.RowBridge
import Derived.Test.YtebippbakbihiaaGreatDoorPlRl
import Derived.Maps.AppendAt
namespace Go.Proofs.YtebippbakbihiaaGreatDoor
open Go Go.RowKit Go.Sort Go.Shelf
set_option linter.unusedVariables false
theorem putRow_heapI (w:World) (g q:Nat) (d:Array (Int)) (os:Array Obj) (k:Nat) (hk:k<w.heap.size):(grow (putRow (Value.int .i64) (Sort.ahead w q) g 0 d) os).heap[k]?=if g=k then (w.heap[k]?).map (onCells (putCells (Value.int .i64) 0 d)) else w.heap[k]?:=by
 unfold grow putRow mapBlock
 simp only[heap_ahead]
 rw[Array.getElem?_append_left (by simpa using hk),Array.getElem?_modify]
theorem grown_putI (w:World) (g q:Nat) (d:Array (Int)) (os:Array Obj):w.grownBy (grow (putRow (Value.int .i64) (Sort.ahead w q) g 0 d) os) (some g):=by
 refine⟨rfl,rfl,rfl,?_,fun k hk hne=>?_⟩
 ·simp[grow,putRow,mapBlock]
 ·rw[putRow_heapI w g q d os k hk,if_neg (fun e=>hne (by rw[e]))]
theorem take_putI (cur:Array Value) (d:List (Int)) (h:d.length≤cur.size):(putCells (Value.int .i64) 0 d.toArray cur).toList.take d.length=d.map (Value.int .i64):=by
 apply List.ext_getElem?
 intro k
 by_cases hk:k<d.length
 ·rw[List.getElem?_take,if_pos hk,Array.getElem?_toList]
  unfold putCells
  rw[Array.getElem?_mapIdx,Array.getElem?_eq_getElem (by omega),Option.map_some,if_pos ⟨Nat.zero_le _,by simpa using hk⟩,List.getElem?_map,List.getElem?_eq_getElem hk]
  simp[hk]
 ·rw[List.getElem?_take,if_neg hk,List.getElem?_eq_none (by simp;omega)]
theorem own_putI {w:World} {B g n cap m:Nat} {e:TypeId} {xs:List Value} (h:w.ownsRow B e 1 (sv (some (qa g 0)) n cap) n xs) (q:Nat) (os:Array Obj) (d:List (Int)) (hd:d.length=n) (hm:m≤n) :
  (grow (putRow (Value.int .i64) (Sort.ahead w q) g 0 d.toArray) os).ownsRow B e 1 (sv (some (qa g 0)) m cap) m ((d.take m).map (Value.int .i64)):=by
 refine⟨by simp;omega,?_⟩
 rcases h.2 with ⟨h1,_⟩ | ⟨g',cap',cur,h1,hb,h2,h3,h4,h5,h6⟩
 ·cases h1
 ·cases h1
  have hg:=lt1 h2
  refine .inr ⟨g,cap,putCells (Value.int .i64) 0 d.toArray cur,rfl,hb,?_,by omega,h4,by simp[putCells,h5],?_⟩
  ·rw[putRow_heapI w g q _ os g hg,if_pos rfl,h2];rfl
  ·have:=take_putI cur d (by omega)
   rw[List.map_take,← this,List.take_take,Nat.mul_one,Nat.min_eq_left (by omega)]
theorem holds_rowI {w:World} {B g n cap:Nat} {e:TypeId} {l:List Int} (h:w.ownsRow B e 1 (sv (some (qa g 0)) n cap) n (l.map (Value.int .i64))) (hn:n=l.length):Holds (Value.int .i64) w g 0 l.toArray:=by
 intro j hj
 have hj':j<l.length:=by simpa using hj
 have hc:=h.cells (show Value.ownBlock (sv (some (qa g 0)) n cap)=some g from rfl) j (iv l[j]) (by rw[List.getElem?_map,List.getElem?_eq_getElem hj'];rfl)
 rw[← addr_add] at hc
 refine⟨?_,?_⟩
 ·rw[hc,getElem!_pos _ j hj]
  simp
 ·rcases h.2 with ⟨h1,_⟩ | ⟨g',cap',cur,h1,hb,h2,h3,h4,h5,h6⟩
  ·cases h1
  ·cases h1
   exact frozenB h2 _
theorem sortI_own (l:List Int) (B:Nat) (v:Value) (w:World) (h:w.ownsRow B 3 1 v l.length (l.map (Value.int .i64))) (hl:l.length≤100000) :
  Calls Tryz.prog 50 #[v] w fun e w'=>e=.returned (.tuple #[])∧w.grownBy w' v.ownBlock∧w'.ownsRow B 3 1 v l.length ((M.inRow l).map (Value.int .i64)):=by
 rcases h.2 with ⟨h1,h0⟩ | ⟨g,cap,cur,h1,hb,h2,h3,h4,h5,h6⟩
 ·subst h1
  have hnil:l=[]:=List.length_eq_zero_iff.1 h0
  subst hnil
  exact (Any.slices_Sort_int_none Tryz.lays189 none 0 w).mono fun e w' ⟨he,hw⟩=>⟨he,by rw[hw];exact grown_of_below (Below.refl _ _) _,by rw[hw];simpa [M.inRow] using h⟩
 ·subst h1
  have hgl:=lt1 h2
  have hH:=holds_rowI h rfl
  have:=Any.slices_Sort_int Tryz.lays189 g 0 cap l w hH hgl (by omega)
  refine this.mono fun e w' ⟨he,n,os,hw⟩=>⟨he,?_,?_⟩
  ·rw[hw];exact grown_putI w g n _ os
  ·have hsl:(l.mergeSort fun x y=>decide (x≤y)).length=l.length:=by simp
   have hO:=own_putI (m:=l.length) h n os _ hsl (Nat.le_refl _)
   rw[List.take_of_length_le (by omega)] at hO
   rw[hw]
   exact hO
end Go.Proofs.YtebippbakbihiaaGreatDoor
namespace Go.Proofs.YtebippbakbihiaaGreatDoor
open Go Go.RowKit
set_option linter.unusedVariables false
theorem aboveL_take (l:List M.Nd) (k:Nat) (h:k<l.length):M.aboveL (l.take (k+1))=M.aboveL (l.take k) ++ M.twoOf (l.getD k M.nd0):=by
 unfold M.aboveL
 rw[List.take_succ_eq_append_getElem h,List.flatMap_append,List.getD_eq_getElem?_getD,List.getElem?_eq_getElem h]
 simp
theorem two_len (n:M.Nd):(M.twoOf n).length≤2:=by
 unfold M.twoOf
 cases (n.leaf==-1) <;> simp
theorem aboveL_len (l:List M.Nd):(M.aboveL l).length≤2*l.length:=by
 induction l with
 | nil=>simp[M.aboveL]
 | cons n l ih =>
  have:=two_len n
  simp only[M.aboveL,List.flatMap_cons,List.length_append,List.length_cons] at ih ⊢
  omega
def Begins (l:List Int) (j:Nat):Prop:=∀ i,i<j→i<l.length∧l.getD i 0=(i:Int)
theorem rise_getD:∀ (n:Nat) (a:Int) (i:Nat),i<n→(M.rise a n).getD i 0=a+i
 | 0,_,_,h=>by omega
 | n+1,a,0,_=>by simp[M.rise]
 | n+1,a,i+1,h=>by
  rw[M.rise,List.getD_cons_succ,rise_getD n (a+1) i (by omega)]
  omega
theorem begins_rise {l:List Int} {n:Nat} (h:Begins l n) (hl:l.length=n):l=M.rise 0 n:=by
 apply List.ext_getElem?
 intro i
 by_cases hi:i<n
 ·rw[getElem?_getD l 0 i (by omega),getElem?_getD (M.rise 0 n) 0 i (by rw[M.rise_len];exact hi),(h i hi).2,rise_getD n 0 i hi]
  simp
 ·rw[List.getElem?_eq_none (by omega),List.getElem?_eq_none (by rw[M.rise_len];omega)]
theorem rise_begins (n:Nat):Begins (M.rise 0 n) n:=fun i hi=>⟨by rw[M.rise_len];exact hi,by rw[rise_getD n 0 i hi];simp⟩
set_option maxHeartbeats 16000000 in
set_option maxRecDepth 100000 in
theorem rcheckPlan_any (l:List M.Nd) (parts:Int) (a:Option Addr) (c:Nat) (w:World) (hn:NodesAt w (sv a l.length c) l) :
  Calls Tryz.prog 16 #[sv a l.length c,iv parts] w fun e w'=>e=.returned (iv (M.checkPlan l parts))∧Below w.heap.size w w':=by
 obtain⟨i1,hi1,hq0,hq1,hq2⟩:=info_parts (P:=Tryz.prog) (e:=3) (z:=iv 0) (size:=1) (bytes:=8) (by kernel_rfl)
 have hlm:l.length≤maxLen:=hn.small
 unfold maxLen at hlm
 have HX:Hid (M.checkPlan l parts=if M.fewParts parts=false then 3 else if 23<l.length then 2 else if l.length=0 then 4 else if M.fitsFrom parts 0 l=false then 3 else if M.isTree l=true∧M.inOrder l parts=true then 0 else 4):=rfl
 generalize M.checkPlan l parts=R at *
 by_cases hp1:parts<1
 ·have HR:Hid (R=3):=by rw[Hid,HX.out,if_pos (by simp[M.fewParts];omega)]
  go_enter Tryz.func16,Tryz.ntmps16
  go_wp2_with fail
  go_ret
  exact⟨ret_int HR.out.symm,Below.refl _ _⟩
 by_cases hp12:12<parts
 ·have HR:Hid (R=3):=by rw[Hid,HX.out,if_pos (by simp[M.fewParts];omega)]
  go_enter Tryz.func16,Tryz.ntmps16
  go_wp2_with fail
  go_ret
  exact⟨ret_int HR.out.symm,Below.refl _ _⟩
 replace HX:=HX.out
 rw[if_neg (by simp[M.fewParts];omega)] at HX
 by_cases h23:23<l.length
 ·have HR:Hid (R=2):=by rw[Hid,HX,if_pos h23]
  have h23':(23:Int)<(l.length:Int):=by omega
  clear HX h23
  go_enter Tryz.func16,Tryz.ntmps16
  go_wp2_with fail
  go_ret
  exact⟨ret_int HR.out.symm,Below.refl _ _⟩
 rw[if_neg h23] at HX
 have h23':¬ ((23:Int)<(l.length:Int)):=by omega
 by_cases h0:l.length=0
 ·have HR:Hid (R=4):=by rw[Hid,HX,if_pos h0]
  have h0':((l.length:Int)==0)=true:=by rw[beq_iff_eq];omega
  clear HX h0
  generalize l.length=n at *
  go_enter Tryz.func16,Tryz.ntmps16
  go_wp2_with fail
  go_ret
  exact⟨ret_int HR.out.symm,Below.refl _ _⟩
 rw[if_neg h0] at HX
 have h0':((l.length:Int)==0)=false:=by rw[beq_eq_false_iff_ne];omega
 replace HX:Hid (R=if M.fitsFrom parts 0 l=false then 3 else if M.isTree l=true∧M.inOrder l parts=true then 0 else 4):=HX
 have HK:Hid (∀ W,Below w.heap.size w W→NodesAt W (sv a l.length c) l):=fun W hW=>hn.later hW
 have Hn:Hid (0<l.length∧l.length≤23):=⟨by omega,by omega⟩
 have HHn:Hid (NodesAt w (sv a l.length c) l):=hn
 clear h0 h23 hn
 go_enter Tryz.func16,Tryz.ntmps16
 go_wp2_with fail
 go_loopw [5,25] (fun s5 s25 wr=>∃ (k:Nat) (r:List Int),k≤l.length∧s25=iv k∧Hid (r=M.aboveL (l.take k))∧r.length≤2*k∧wr.ownsRow w.heap.size 3 1 s5 r.length (r.map (Value.int .i64))∧Hid (M.fitsFrom parts 0 l=M.fitsFrom parts k (l.drop k))∧Hid (Below w.heap.size w wr)) (fun _ s25 _=>l.length - (intOf s25).toNat)
 case atStart=>exact⟨0,[],Nat.zero_le _,rfl,rfl,Nat.le_refl _,World.ownsRow_nil _ _ _ _,rfl,Below.refl _ _⟩
 case round =>
  obtain⟨k,r,hk,rfl,HA,hrk,hown,HF,HB⟩:=hrel
  have hw0:w.heap.size≤wr.heap.size:=HB.out.size
  by_cases hlt:k<l.length
  ·obtain⟨b,off,ha,e0,e1,e2⟩:=(HK.out wr HB.out).cells k hlt
   have HF1:Hid (M.fitsFrom parts 0 l=(M.fits (l.getD k M.nd0) k parts&&M.fitsFrom parts ((k+1:Nat):Int) (l.drop (k+1)))):=by rw[Hid,HF.out,fitsFrom_step parts l k hlt]
   have HA1:Hid (M.aboveL (l.take (k+1))=r ++ M.twoOf (l.getD k M.nd0)):=by rw[Hid,aboveL_take l k hlt,HA.out]
   have hkl:(k:Int)<(l.length:Int):=by omega
   have hbr:b<wr.heap.size:=World.block_lt_of_cell? _ _ e0
   have hk23:k<23:=by have:=Hn.out;omega
   obtain⟨ad,nn,cc,rfl⟩:=own_form hown
   have hrow2:=hown.alloc
   subst ha
   clear HF HA
   generalize l.getD k M.nd0=n at *
   obtain⟨x,y,z⟩:=n
   simp only at e0 e1 e2
   go_upto_region 11 with fail
   have p1:=heap_alloc_new wr (.cells #[iv x,iv y,iv z] 75)
   have HBX:Hid (Below w.heap.size w (wr.alloc (.cells #[iv x,iv y,iv z] 75))):=HB.out.alloc hw0 _
   have hrowX:=hown.alloc (.cells #[iv x,iv y,iv z] 75)
   clear e0 e1 e2 hrow2 hown HB
   generalize wr.alloc (.cells #[iv x,iv y,iv z] 75)=X at *
   generalize wr.heap.size=nb at *
   have hlX:=lt1 p1
   have hwX:w.heap.size≤X.heap.size:=by omega
   have c0:=cellC p1 0 rfl
   have c1:=cellC p1 1 rfl
   have c2:=cellC p1 2 rfl
   have hbad:M.fits ⟨x,y,z⟩ k parts=false→Hid (R=3):=fun h=>by rw[Hid,HX.out,HF1.out,h];rfl
   have hgood:M.fits ⟨x,y,z⟩ k parts=true→Hid (M.fitsFrom parts 0 l=M.fitsFrom parts ((k+1:Nat):Int) (l.drop (k+1))):=fun h=>by rw[Hid,HF1.out,h];rfl
   have hfx:M.fits ⟨x,y,z⟩ k parts=(bif x==-1 then M.ahead y k&&M.ahead z k else decide (0≤x)&&decide (x<parts)&&y==0&&z==0):=rfl
   clear HF1
   by_cases hxp:parts≤x
   ·have HR:=hbad (by
     have h1:(x==-1)=false:=by rw[beq_eq_false_iff_ne];omega
     rw[hfx,h1];simp;omega)
    clear hbad hgood hfx HX
    go_wp2_with fail
    go_ret
    exact⟨ret_int HR.out.symm,HBX.out⟩
   by_cases hxm:x < -1
   ·have HR:=hbad (by
     have h1:(x==-1)=false:=by rw[beq_eq_false_iff_ne];omega
     rw[hfx,h1];simp;omega)
    clear hbad hgood hfx HX
    go_wp2_with fail
    go_ret
    exact⟨ret_int HR.out.symm,HBX.out⟩
   by_cases hx0:0≤x
   ·have h1:(x==-1)=false:=by rw[beq_eq_false_iff_ne];omega
    have hxn:¬ x<0:=by omega
    cases hy:(y==0)
    ·have HR:=hbad (by rw[hfx,h1,hy];simp)
     have hyn:(y !=0)=true:=by simpa using hy
     clear hbad hgood hfx HX h1
     go_wp2_with fail
     go_ret
     exact⟨ret_int HR.out.symm,HBX.out⟩
    ·have hyn:(y !=0)=false:=by simpa using hy
     cases hz:(z==0)
     ·have HR:=hbad (by rw[hfx,h1,hz];simp)
      have hzn:(z !=0)=true:=by simpa using hz
      clear hbad hgood hfx HX h1
      go_wp2_with fail
      go_ret
      exact⟨ret_int HR.out.symm,HBX.out⟩
     ·have hzn:(z !=0)=false:=by simpa using hz
      have HG:=hgood (by rw[hfx,h1,hy,hz];simp;omega)
      have HA2:Hid (r=M.aboveL (l.take (k+1))):=by rw[Hid,HA1.out];simp[M.twoOf,h1]
      clear hbad hgood hfx h1 HA1
      go_wp2_with fail
      go_roundw
      case rel=>exact⟨k+1,r,by omega,by go_num,HA2,by omega,hrowX,HG,HBX⟩
      case measure=>simp[intOf];omega
   ·have hx1:x=-1:=by omega
    have h1:(x==-1)=true:=by rw[beq_iff_eq];exact hx1
    have hxn:x<0:=by omega
    have hxn':¬ 0≤x:=hx0
    have hxe:¬ parts≤x:=hxp
    clear hx1
    by_cases hy0:y<0
    ·have HR:=hbad (by rw[hfx,h1];simp[M.ahead];omega)
     clear hbad hgood hfx HX h1
     go_wp2_with fail
     go_ret
     exact⟨ret_int HR.out.symm,HBX.out⟩
    by_cases hyk:(k:Int)≤y
    ·have HR:=hbad (by rw[hfx,h1];simp[M.ahead];omega)
     clear hbad hgood hfx HX h1
     go_wp2_with fail
     go_ret
     exact⟨ret_int HR.out.symm,HBX.out⟩
    by_cases hz0:z<0
    ·have HR:=hbad (by rw[hfx,h1];simp[M.ahead];omega)
     clear hbad hgood hfx HX h1
     go_wp2_with fail
     go_ret
     exact⟨ret_int HR.out.symm,HBX.out⟩
    by_cases hzk:(k:Int)≤z
    ·have HR:=hbad (by rw[hfx,h1];simp[M.ahead];omega)
     clear hbad hgood hfx HX h1
     go_wp2_with fail
     go_ret
     exact⟨ret_int HR.out.symm,HBX.out⟩
    have HG:=hgood (by rw[hfx,h1];simp[M.ahead];omega)
    have HA2:Hid (r ++ [y,z]=M.aboveL (l.take (k+1))):=by rw[Hid,HA1.out];simp[M.twoOf,h1]
    have hnews:∀ j u,(#[iv y,iv z]:Array Value).toList[j]?=some u→(X.alloc (.cells #[iv y,iv z] 3)).cell? ((qa X.heap.size 0).add j)=some u:=World.news_of_block (heap_alloc_new X _)
    clear hbad hgood hfx h1 HA1
    go_wp2_with (at_builtin;refine wpList_append_own _ rfl _ _ 26 rfl w.heap.size 3 i1 (iv 0) 1 8 Tryz.underlying26 hi1 hq0 hq1 hq2 rfl (by decide) _ _ _ rfl (hrowX.alloc _) ⟨X.heap.size,0,none⟩ 2 2 (#[iv y,iv z]:Array Value).toList rfl rfl hnews (fun u hu=>by simp at hu;rcases hu with rfl | rfl <;> rfl) (by unfold maxLen;omega) (by omega) (by simp;omega) ?_;intro v' w3 hown' hgrow3 hnil3)
    go_roundw
    case rel=>exact⟨k+1,r ++ [y,z],by omega,by go_num,HA2,by simp;omega,by rw[List.length_append,List.map_append];exact hown',HG,(HBX.out.alloc hwX _).grown hgrow3 (by simp;omega) (fun k hk=>(hrowX.lt k hk).1)⟩
    case measure=>simp[intOf];omega
  ·have hkl:k=l.length:=by omega
   have HF1:Hid (M.fitsFrom parts 0 l=true):=by
    rw[Hid,HF.out,hkl,List.drop_eq_nil_of_le (Nat.le_refl _)];rfl
   have HA1:Hid (r=M.aboveL l):=by rw[Hid,HA.out,hkl,List.take_length]
   have HX2:Hid (R=if M.isTree l=true∧M.inOrder l parts=true then 0 else 4):=by rw[Hid,HX.out,if_neg (by rw[HF1.out];simp)]
   have HTr:Hid ((M.inRow r=M.rise 0 (l.length - 1))↔M.isTree l=true):=by rw[Hid,HA1.out];exact M.tree_row l Hn.out.1 (behind_of HF1.out)
   have hrl:r.length≤46:=by have:=Hn.out;omega
   have hsl:(M.inRow r).length=r.length:=by simp[M.inRow]
   obtain⟨a5,c5,rfl⟩:=own_len hown
   have KS:Hid (Calls Tryz.prog 50 #[sv a5 r.length c5] wr fun e w'=>e=.returned (.tuple #[])∧wr.grownBy w' (sv a5 r.length c5).ownBlock∧w'.ownsRow w.heap.size 3 1 (sv a5 r.length c5) r.length ((M.inRow r).map (Value.int .i64))):=sortI_own r w.heap.size _ wr hown (by omega)
   have KL:Hid (∀ W,Below w.heap.size w W→Calls Tryz.prog 51 #[sv a l.length c,iv ((l.length:Int) - 1)] W fun e w'=>LvOut W w' e (M.leavesOf l (l.length - 1))):=fun W hW=>by
    have:=leavesR_any l parts a c w HHn.out HF1.out Hn.out.2 l.length (l.length - 1) (by have:=Hn.out;omega) (by have:=Hn.out;omega) W hW
    rwa [show ((l.length - 1:Nat):Int)=(l.length:Int) - 1 by have:=Hn.out;omega] at this
   clear HF HA HX
   subst hkl
   go_upto_region 20 with (go_at_call 50;refine KS.out.mono ?_;rintro e w2 ⟨rfl,hg2,ho2⟩)
   have HB2:Hid (Below w.heap.size w w2):=HB.out.grown hg2 hw0 (fun k hk=>(hown.lt k hk).1)
   have HI2:Hid (IntsAt w2 (sv a5 (M.inRow r).length c5) (M.inRow r)):=row_ints (by rw[hsl];exact ho2)
   rw[← hsl]
   clear hown KS hg2 ho2 HB hw0 HA1
   generalize M.inRow r=sr at *
   have hsr:sr.length≤46:=by omega
   clear hsl hrl hrk
   obtain⟨m,hm⟩:∃ m:Nat,l.length=m+1:=⟨l.length - 1,by have:=Hn.out;omega⟩
   have Hm:Hid (l.length=m+1):=hm
   have hms:((l.length:Int) - 1)=(m:Int):=by omega
   have hm23:m<23:=by have:=Hn.out;omega
   rw[show l.length - 1=m by omega] at HTr
   replace HTr:Hid ((sr=M.rise 0 m)↔M.isTree l=true):=HTr
   clear hm
   go_upto_region 21 with fail
   try rw[hms]
   go_loopw [96] (fun s96 wq=>∃ (j:Nat),j≤m∧s96=iv j∧Hid (Begins sr j)∧w2=wq) (fun s96 _=>m - (intOf s96).toNat)
   case atStart=>exact⟨0,Nat.zero_le _,rfl,(fun i hi=>absurd hi (Nat.not_lt_zero _)),rfl⟩
   case round =>
    obtain⟨j,hj,rfl,HBg,rfl⟩:=hrel
    by_cases hjm:j<m
    ·have hjm':(j:Int)<(m:Int):=by omega
     have hbad:¬ Begins sr (j+1)→Hid (R=4):=fun h=>by
      have h1:¬ M.isTree l=true:=fun ht=>h (by
       have e:=HTr.out.2 ht
       have:=rise_begins m
       rw[← e] at this
       exact fun i hi=>this i (by omega))
      rw[Hid,HX2.out,if_neg (fun h2=>h1 h2.1)]
     by_cases hjs:sr.length≤j
     ·have HR:=hbad (fun h=>by have:=(h j (by omega)).1;omega)
      have hjs':(sr.length:Int)≤(j:Int):=by omega
      clear hbad HX2
      go_wp2_with fail
      go_ret
      exact⟨ret_int HR.out.symm,HB2.out⟩
     ·have hjs':¬ (sr.length:Int)≤(j:Int):=by omega
      have hjs2:(j:Int)<(sr.length:Int):=by omega
      have hj0:(0:Int)≤(j:Int):=by omega
      obtain⟨b6,o6,ha5,d6,lb6⟩:=HI2.out.cell j (by omega)
      subst ha5
      cases he:(sr.getD j 0==(j:Int))
      ·have HR:=hbad (fun h=>by have:=(h j (by omega)).2;rw[this] at he;simp at he)
       have hne:(sr.getD j 0 !=(j:Int))=true:=by simpa using he
       clear hbad HX2 he
       generalize sr.getD j 0=u at *
       go_wp2_with fail
       go_ret
       exact⟨ret_int HR.out.symm,HB2.out⟩
      ·have hne:(sr.getD j 0 !=(j:Int))=false:=by simpa using he
       have HBg1:Hid (Begins sr (j+1)):=fun i hi=>by
        by_cases h:i=j
        ·subst h
         exact⟨by omega,by simpa using he⟩
        ·exact HBg.out i (by omega)
       clear hbad he
       generalize sr.getD j 0=u at *
       go_wp2_with fail
       go_roundw
       case rel=>exact⟨j+1,by omega,by go_num,HBg1,trivial⟩
       case measure=>simp[intOf];omega
    ·have hjm':j=m:=by omega
     subst hjm'
     by_cases hle:sr.length=j
     ·have hEq:sr=M.rise 0 j:=begins_rise HBg.out hle
      have hTree:=HTr.out.1 hEq
      have HX3:Hid (R=if M.inOrder l parts=true then 0 else 4):=by rw[Hid,HX2.out];simp[hTree]
      have hln:((sr.length:Int) !=(j:Int))=false:=by simp;omega
      have KL2:=KL.out w2 HB2.out
      rw[hms] at KL2
      replace KL2:Hid (Calls Tryz.prog 51 #[sv a l.length c,iv j] w2 fun e w'=>LvOut w2 w' e (M.leavesOf l (l.length - 1))):=KL2
      obtain⟨np,hnp⟩:∃ np:Nat,parts=(np:Int):=⟨parts.toNat,by omega⟩
      subst hnp
      have HOr:Hid ((M.leavesOf l (l.length - 1)=M.rise 0 np)↔M.inOrder l np=true):=M.order_iff l np
      clear HX2 HTr HBg hle hEq hTree HI2 KL
      generalize M.leavesOf l (l.length - 1)=od at *
      go_upto_region 29 with (go_at_call 51;refine KL2.out.mono ?_;rintro e w5 hO5;have hb5:=hO5.below;obtain⟨a7,c7,rfl,ho7⟩:=hO5.ex)
      have HB5:Hid (Below w.heap.size w w5):=HB2.out.trans (hb5.mono HB2.out.size)
      have HI5:Hid (IntsAt w5 (sv a7 od.length c7) od):=row_intsR ho7
      have hod:od.length≤maxLen:=by obtain⟨_,_,_,h⟩:=SlAt.form HI5.out;exact h
      unfold maxLen at hod
      clear hb5 hO5 ho7 KL2 HB2
      go_upto_region 30 with fail
      go_loopw [124] (fun s124 wq=>∃ (i:Nat),i≤np∧s124=iv i∧Hid (Begins od i)∧w5=wq) (fun s124 _=>np - (intOf s124).toNat)
      case atStart=>exact⟨0,Nat.zero_le _,rfl,(fun i hi=>absurd hi (Nat.not_lt_zero _)),rfl⟩
      case round =>
       obtain⟨i,hi,rfl,HBi,rfl⟩:=hrel
       by_cases hin:i<np
       ·have hin':(i:Int)<(np:Int):=by omega
        have hbad:¬ Begins od (i+1)→Hid (R=4):=fun h=>by
         have h1:¬ M.inOrder l np=true:=fun ht=>h (by
          have e:=HOr.out.2 ht
          have:=rise_begins np
          rw[← e] at this
          exact fun i hi=>this i (by omega))
         rw[Hid,HX3.out,if_neg h1]
        by_cases his:od.length≤i
        ·have HR:=hbad (fun h=>by have:=(h i (by omega)).1;omega)
         have his':(od.length:Int)≤(i:Int):=by omega
         clear hbad HX3
         go_wp2_with fail
         go_ret
         exact⟨ret_int HR.out.symm,HB5.out⟩
        ·have his':¬ (od.length:Int)≤(i:Int):=by omega
         have his2:(i:Int)<(od.length:Int):=by omega
         have hi0:(0:Int)≤(i:Int):=by omega
         obtain⟨b8,o8,ha7,d8,lb8⟩:=HI5.out.cell i (by omega)
         subst ha7
         cases he:(od.getD i 0==(i:Int))
         ·have HR:=hbad (fun h=>by have:=(h i (by omega)).2;rw[this] at he;simp at he)
          have hne:(od.getD i 0 !=(i:Int))=true:=by simpa using he
          clear hbad HX3 he
          generalize od.getD i 0=u at *
          go_wp2_with fail
          go_ret
          exact⟨ret_int HR.out.symm,HB5.out⟩
         ·have hne:(od.getD i 0 !=(i:Int))=false:=by simpa using he
          have HBi1:Hid (Begins od (i+1)):=fun t ht=>by
           by_cases h:t=i
           ·subst h
            exact⟨by omega,by simpa using he⟩
           ·exact HBi.out t (by omega)
          clear hbad he
          generalize od.getD i 0=u at *
          go_wp2_with fail
          go_roundw
          case rel=>exact⟨i+1,by omega,by go_num,HBi1,trivial⟩
          case measure=>simp[intOf];omega
       ·have hin':i=np:=by omega
        subst hin'
        by_cases hol:od.length=i
        ·have HR:Hid (R=0):=by rw[Hid,HX3.out,if_pos (HOr.out.1 (begins_rise HBi.out hol))]
         have hln2:((od.length:Int) !=(i:Int))=false:=by simp;omega
         clear HX3 hol
         go_wp2_with fail
         go_ret
         exact⟨ret_int HR.out.symm,HB5.out⟩
        ·have HR:Hid (R=4):=by
          rw[Hid,HX3.out,if_neg (fun h=>by have:=HOr.out.2 h;rw[this,M.rise_len] at hol;exact hol rfl)]
         have hln2:((od.length:Int) !=(i:Int))=true:=by simp;omega
         clear HX3 hol
         go_wp2_with fail
         go_ret
         exact⟨ret_int HR.out.symm,HB5.out⟩
     ·have HR:Hid (R=4):=by
       have h1:¬ M.isTree l=true:=fun ht=>by
        have:=HTr.out.2 ht
        rw[this,M.rise_len] at hle
        exact hle rfl
       rw[Hid,HX2.out,if_neg (fun h2=>h1 h2.1)]
      have hln:((sr.length:Int) !=(j:Int))=true:=by simp;omega
      clear HX2 hle
      go_wp2_with fail
      go_ret
      exact⟨ret_int HR.out.symm,HB2.out⟩
end Go.Proofs.YtebippbakbihiaaGreatDoor
