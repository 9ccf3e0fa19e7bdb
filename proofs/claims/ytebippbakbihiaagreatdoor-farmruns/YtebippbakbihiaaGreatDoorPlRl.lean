/-
  The reference: what is ready of a right plan. The reference: the leaves below a node of a plan, from left to right.
-/
import Derived.Test.YtebippbakbihiaaGreatDoorPlReady
import Derived.Test.YtebippbakbihiaaGreatDoorRowsB
import Derived.Deep.RegionHeld3
namespace Go.Proofs.YtebippbakbihiaaGreatDoor
open Go Go.RowKit
set_option linter.unusedVariables false
theorem leaf_of {l:List M.Nd} {parts:Int} (h:M.fitsFrom parts 0 l=true) {q:Nat} (hq:q<l.length) (hx:((l.getD q M.nd0).leaf==-1)=false):0≤(l.getD q M.nd0).leaf∧(l.getD q M.nd0).leaf<parts:=by
 have:=fits_at parts l 0 q h hq
 unfold M.fits at this
 rw[hx] at this
 simp only[cond_false,Bool.and_eq_true,decide_eq_true_eq] at this
 exact⟨this.1.1.1,this.1.1.2⟩
set_option maxHeartbeats 4000000 in
set_option maxRecDepth 100000 in
theorem isReady_any (l:List M.Nd) (parts:Int) (d:List Bool) (a a':Option Addr) (c c':Nat) (w:World) (hn:NodesAt w (sv a l.length c) l) (hd:BoolsAt w (sv a' d.length c') d) (hlen:d.length=l.length) (hfit:M.fitsFrom parts 0 l=true) (h23:l.length≤23) :
  Calls Tryz.prog 47 #[sv a l.length c,sv a' d.length c'] w fun e w'=>Below w.heap.size w w'∧∃ v,e=.returned v∧w'.ownsRow w.heap.size 3 1 v (M.ready l d).length ((M.ready l d).map (Value.int .i64)):=by
 obtain⟨i1,hi1,hy0,hy1,hy2⟩:=info_parts (P:=Tryz.prog) (e:=3) (z:=iv 0) (size:=1) (bytes:=8) (by kernel_rfl)
 have hbe:=behind_of hfit
 rw[hlen] at hd ⊢
 have HL:Hid (d.length=l.length):=hlen
 have HD:Hid (∀ W,Below w.heap.size w W→NodesAt W (sv a l.length c) l∧BoolsAt W (sv a' d.length c') d):=fun W hW=>⟨hn.later hW,by rw[hlen];exact hd.later hW⟩
 have hdl:l.length≤2 ^ 63 - 1:=by omega
 clear hlen hn hd
 go_enter Tryz.func47,Tryz.ntmps47
 go_wp2_with fail
 go_loopw [5,10] (fun s5 s10 wr=>∃ (k:Nat) (r:List Int),k≤l.length∧s10=iv k∧Hid (r=M.readyUpto l d k)∧r.length≤k∧wr.ownsRow w.heap.size 3 1 s5 r.length (r.map (Value.int .i64))∧Hid (Below w.heap.size w wr)) (fun _ s10 _=>l.length - (intOf s10).toNat)
 case atStart=>exact⟨0,[],Nat.zero_le _,rfl,rfl,Nat.le_refl _,World.ownsRow_nil _ _ _ _,Below.refl _ _⟩
 case round =>
  obtain⟨k,r,hk,rfl,HR,hrk,hown,HB⟩:=hrel
  have hw0:w.heap.size≤wr.heap.size:=HB.out.size
  by_cases hlt:k<l.length
  ·obtain⟨b,off,ha,e0,e1,e2⟩:=(HD.out wr HB.out).1.cells k hlt
   have hdk:=(HD.out wr HB.out).2
   have hdc:∀ j,j<l.length→∃ b off,a'=some (qa b off)∧wr.cell? (qa b (off+j))=some (.bool (d.getD j false))∧b<wr.heap.size:=fun j hj=>hdk.cell j (by rw[HL.out];exact hj)
   obtain⟨b',off',rfl,g0,hb'⟩:=hdc k hlt
   have HR1:Hid (M.readyUpto l d (k+1)=r ++ bif M.readyAt l d k then [(k:Int)] else []):=by rw[Hid,readyUpto_step,HR.out]
   have hbk:=hbe k hlt
   have hlf:=leaf_of hfit hlt
   have hkl:(k:Int)<(l.length:Int):=by omega
   have hbr:b<wr.heap.size:=World.block_lt_of_cell? _ _ e0
   have hk23:(k:Int)<23:=by omega
   have hrow2:∀ o,(wr.alloc o).ownsRow w.heap.size 3 1 u5 r.length (r.map (Value.int .i64)):=fun o=>hown.alloc o
   obtain⟨ad,nn,cc,rfl⟩:=own_form hown
   subst ha
   unfold M.readyAt at HR1
   clear HR hdk
   generalize l.getD k M.nd0=n at *
   obtain⟨x,y,z⟩:=n
   simp only at e0 e1 e2 hbk HR1 hlf
   have hk0:(0:Int)≤(k:Int):=by omega
   go_upto_region 5 with fail
   have hA1:Below wr.heap.size wr (wr.alloc (.cells #[iv x,iv y,iv z] 75)):=(Below.refl _ _).alloc (Nat.le_refl _) _
   have p1:=heap_alloc_new wr (.cells #[iv x,iv y,iv z] 75)
   have HBX:Hid (Below w.heap.size w (wr.alloc (.cells #[iv x,iv y,iv z] 75))):=HB.out.trans (hA1.mono hw0)
   have hrowX:=hrow2 (.cells #[iv x,iv y,iv z] 75)
   replace g0:=cell_later hA1 g0
   have hdX:∀ j,j<l.length→(wr.alloc (.cells #[iv x,iv y,iv z] 75)).cell? (qa b' (off' + j))=some (.bool (d.getD j false)):=fun j hj=>by
    obtain⟨b2,o2,e,h,_⟩:=hdc j hj
    cases e
    exact cell_later hA1 h
   clear e0 e1 e2 hrow2 hown HB hA1 hdc
   generalize wr.alloc (.cells #[iv x,iv y,iv z] 75)=X at *
   generalize wr.heap.size=nb at *
   have hlX:=lt1 p1
   have hbX:b' < X.heap.size:=by omega
   have hwX:w.heap.size≤X.heap.size:=by omega
   have c0:=cellC p1 0 rfl
   have c1:=cellC p1 1 rfl
   have c2:=cellC p1 2 rfl
   cases hdk:d.getD k false
   ·rw[hdk] at g0 HR1
    cases hx:(x==-1)
    ·have hxn:¬ x<0:=by have:=hlf hx;omega
     have HR2:Hid (r ++ [(k:Int)]=M.readyUpto l d (k+1)):=by rw[Hid,HR1.out,hx];rfl
     clear HR1
     go_wp2_with (at_builtin;refine wpList_append_own _ rfl _ _ 26 rfl w.heap.size 3 i1 (iv 0) 1 8 Tryz.underlying26 hi1 hy0 hy1 hy2 rfl (by decide) _ _ _ rfl (hrowX.alloc _) ⟨X.heap.size,0,none⟩ 1 1 [iv k] rfl rfl (cell_one_new _ _ _) (fun u hu=>by simp at hu;subst hu;rfl) (by unfold maxLen;omega) (by omega) (by simp;omega) ?_;intro v' w3 hown' hgrow3 hnil3)
     go_roundw
     case rel=>exact⟨k+1,r ++ [(k:Int)],by omega,by go_num,HR2,by simp;omega,by rw[List.length_append,List.map_append];exact hown',(HBX.out.alloc hwX _).grown hgrow3 (by simp;omega) (fun k hk=>(hrowX.lt k hk).1)⟩
     case measure=>simp[intOf];omega
    ·have hxn:x<0:=by have h:=beq_iff_eq.1 hx;omega
     obtain⟨⟨hy0',hy1'⟩,hz0',hz1'⟩:=hbk hx
     obtain⟨p,rfl⟩:∃ p:Nat,y=(p:Int):=⟨y.toNat,by omega⟩
     obtain⟨q,rfl⟩:∃ q:Nat,z=(q:Int):=⟨z.toNat,by omega⟩
     have gp:=hdX p (by omega)
     have gq:=hdX q (by omega)
     simp only[Int.toNat_natCast] at HR1
     have hpl:(p:Int)<(l.length:Int):=by omega
     have hql:(q:Int)<(l.length:Int):=by omega
     clear hdX
     cases hdp:d.getD p false
     ·rw[hdp] at gp HR1
      have HR2:Hid (r=M.readyUpto l d (k+1)):=by rw[Hid,HR1.out,hx];simp
      clear HR1
      go_wp2_with fail
      go_roundw
      case rel=>exact⟨k+1,r,by omega,by go_num,HR2,by omega,hrowX,HBX⟩
      case measure=>simp[intOf];omega
     ·rw[hdp] at gp HR1
      cases hdq:d.getD q false
      ·rw[hdq] at gq HR1
       have HR2:Hid (r=M.readyUpto l d (k+1)):=by rw[Hid,HR1.out,hx];simp
       clear HR1
       go_wp2_with fail
       go_roundw
       case rel=>exact⟨k+1,r,by omega,by go_num,HR2,by omega,hrowX,HBX⟩
       case measure=>simp[intOf];omega
      ·rw[hdq] at gq HR1
       have HR2:Hid (r ++ [(k:Int)]=M.readyUpto l d (k+1)):=by rw[Hid,HR1.out,hx];rfl
       clear HR1
       go_wp2_with (at_builtin;refine wpList_append_own _ rfl _ _ 26 rfl w.heap.size 3 i1 (iv 0) 1 8 Tryz.underlying26 hi1 hy0 hy1 hy2 rfl (by decide) _ _ _ rfl (hrowX.alloc _) ⟨X.heap.size,0,none⟩ 1 1 [iv k] rfl rfl (cell_one_new _ _ _) (fun u hu=>by simp at hu;subst hu;rfl) (by unfold maxLen;omega) (by omega) (by simp;omega) ?_;intro v' w3 hown' hgrow3 hnil3)
       go_roundw
       case rel=>exact⟨k+1,r ++ [(k:Int)],by omega,by go_num,HR2,by simp;omega,by rw[List.length_append,List.map_append];exact hown',(HBX.out.alloc hwX _).grown hgrow3 (by simp;omega) (fun k hk=>(hrowX.lt k hk).1)⟩
       case measure=>simp[intOf];omega
   ·rw[hdk] at g0 HR1
    have HR2:Hid (r=M.readyUpto l d (k+1)):=by rw[Hid,HR1.out];simp
    clear HR1
    go_wp2_with fail
    go_roundw
    case rel=>exact⟨k+1,r,by omega,by go_num,HR2,by omega,hrowX,HBX⟩
    case measure=>simp[intOf];omega
  ·have hkl:k=l.length:=by omega
   have HR2:Hid (r=M.ready l d):=by rw[Hid,HR.out,hkl];rfl
   clear HR
   subst hkl
   obtain⟨ad,cc,rfl⟩:=own_len hown
   go_wp2
   go_ret
   exact⟨HB.out,_,rfl,by rw[← HR2.out];exact hown⟩
def encIR (l:List Int):List Value:=l.map (Value.int .i64)
theorem encIR_one (l:List Int):∀ u∈encIR l,u.oneCell'=true:=fun u hu=>by
 obtain⟨b,_,rfl⟩:=List.mem_map.1 hu
 rfl
theorem encIR_len (l:List Int):(encIR l).length=l.length:=List.length_map _
theorem row_intsR {w:World} {B:Nat} {v:Value} {l:List Int} (h:w.ownsRow B 3 1 v l.length (encIR l)):IntsAt w v l:=row_ints h
theorem own_new1 (w:World) (x:Int):(w.alloc (.cells #[iv x] 3)).ownsRow w.heap.size 3 1 (sv (some (qa w.heap.size 0)) 1 1) 1 (encIR [x]) :=
 ⟨rfl,.inr ⟨w.heap.size,1,_,rfl,Nat.le_refl _,heap_alloc_new _ _,Nat.le_refl _,by unfold maxLen;omega,rfl,rfl⟩⟩
theorem step_append_srcP {P:Program} {w:World} {ops:Array Oper} {o:Oper} {a:Act} {K:Act→World→Prop} {Q:Exit→Act→World→Prop} {E:Prop} (hgd:o.guard=none) (s x:Operand) (t:TypeId)
  (ho:o.op=.call { callee:=.builtin .append,args:=#[s,x],argTypes:=#[t,t] })
  (base:Nat) (e:TypeId) (i:TypeInfo) (z:Value) (size bytes:Nat) (ht:P.underlying t=some (.slice e)) (hi:P.info? e=some i) (hz:i.zero=some z)
  (hsize:i.size=size) (hby:i.bytes=bytes) (hzs:z.cells.size=size) (hsz:0<size)
  (v:Value) (n:Nat) (xs:List Value) (hs:a.eval s=v) (hown:w.ownsRow base e size v n xs)
  (u:Value) (m:Nat) (news:List Value) (hx:a.eval x=u) (hsrc:Src w u m news) (hl:news.length=m*size) (h1:∀ u∈news,u.oneCell'=true)
  (h63:n+m≤maxLen) (hbytes:(n+m)*bytes≤140737488355328) (hbase:base≤w.heap.size)
  (h:∀ v' w',w'.ownsRow base e size v' (n+m) (xs ++ news)→w.grownBy w' v.ownBlock→K (a.put o.dst v') w'):if Region.wanted o (yielded ops a.tmps)=true then Oper.wp P o a w K Q else E:=by
 have hw:Region.wanted o (yielded ops a.tmps)=true:=by simp[Region.wanted,hgd]
 rw[if_pos hw]
 exact wp_append_src w s x t ho base e i z size bytes ht hi hz hsize hby hzs hsz v n xs hs hown u m news hx hsrc hl h1 h63 hbytes hbase h
theorem grown_belowP {B k n:Nat} {e:TypeId} {X w w':World} {v:Value} {xs:List Value} (h:Below B X w) (hb:B≤w.heap.size) (ho:w.ownsRow B e k v n xs) (hg:w.grownBy w' v.ownBlock):Below B X w':=h.grown hg hb (fun k hk=>(ho.lt k hk).1)
structure LvOut (X w':World) (e:Ending) (xs:List Int):Prop where
 below:Below X.heap.size X w'
 ex:∃ x y,e=.returned (sv x xs.length y)∧w'.ownsRow X.heap.size 3 1 (sv x xs.length y) xs.length (encIR xs)
set_option maxHeartbeats 8000000 in
set_option maxRecDepth 100000 in
theorem leavesR_any (l:List M.Nd) (parts:Int) (a:Option Addr) (c:Nat) (w:World) (hn:NodesAt w (sv a l.length c) l) (hfit:M.fitsFrom parts 0 l=true) (h23:l.length≤23):∀ (f i:Nat),i<f→i<l.length→∀ (W:World),Below w.heap.size w W →
  Calls Tryz.prog 51 #[sv a l.length c,iv i] W fun e w'=>LvOut W w' e (M.leavesOf l i)
 | 0,i,h,_,_,_=>by omega
 | f+1,i,hif,hil,W,hW=>by
  have IH:=leavesR_any l parts a c w hn hfit h23 f
  have hbe:=behind_of hfit
  obtain⟨b,off,rfl,e0,e1,e2⟩:=(hn.later hW).cells i hil
  have hbk:=hbe i hil
  have hlf:=leaf_of hfit hil
  have hlL:=leavesOf_leaf l i
  have hlN:=leavesOf_node hbe i hil
  have hmany:∀ j,j<l.length→(M.leavesOf l j).length≤8388608:=fun j hj=>by
   have h1:=leaves_many hbe (j+1) j hj (Nat.lt_succ_self _)
   have h2:2 ^ j≤2 ^ 23:=Nat.pow_le_pow_right (by decide) (by omega)
   have h3:(2:Nat) ^ 23=8388608:=by decide
   omega
  have hbr:b<W.heap.size:=World.block_lt_of_cell? _ _ e0
  have hi0:(0:Int)≤(i:Int):=by omega
  have hil':(i:Int)<(l.length:Int):=by omega
  clear hn
  generalize l.getD i M.nd0=n at *
  obtain⟨x,y,z⟩:=n
  simp only at e0 e1 e2 hbk hlL hlN hlf
  cases hx:(x==-1)
  ·have hx0:=hlf hx
   have HR:Hid (M.leavesOf l i=[x]):=hlL hx
   have hxn:0≤x:=hx0.1
   clear IH hbk hlL hlN hmany hlf hx0
   go_enter Tryz.func51,Tryz.ntmps51
   go_wp2
   go_ret
   rw[HR.out]
   exact⟨(Below.refl _ _).alloc (Nat.le_refl _) _,_,_,rfl,own_new1 W x⟩
  ·obtain⟨⟨hy0,hy1⟩,hz0',hz1'⟩:=hbk hx
   obtain⟨p,rfl⟩:∃ p:Nat,y=(p:Int):=⟨y.toNat,by omega⟩
   obtain⟨q,rfl⟩:∃ q:Nat,z=(q:Int):=⟨z.toNat,by omega⟩
   obtain⟨i1,hi1,hq0,hq1,hq2⟩:=info_parts (P:=Tryz.prog) (e:=3) (z:=iv 0) (size:=1) (bytes:=8) (by kernel_rfl)
   have HN:=hlN hx
   simp only[Int.toNat_natCast] at HN
   have HN:Hid (M.leavesOf l i=M.leavesOf l p ++ M.leavesOf l q):=HN
   have hmp:=hmany p (by omega)
   have hmq:=hmany q (by omega)
   have hxn:¬ 0≤x:=by have h:=beq_iff_eq.1 hx;omega
   have hW0:Below W.heap.size W W.drew:=(Below.refl _ _).drew
   have K:Hid (∀ X (j:Nat),j<i→Below W.heap.size W X→Calls Tryz.prog 51 #[sv (some (qa b off)) l.length c,iv j] X fun e w'=>LvOut X w' e (M.leavesOf l j)):=fun X j hj hX=>IH j (by omega) (by omega) X (hW.trans (hX.mono hW.size))
   have HS:Hid (∀ X,Below W.heap.size W X→X.cell? (qa b (off+i*3+1))=some (iv p)∧X.cell? (qa b (off+i*3+2))=some (iv q)):=fun X hX=>⟨cell_later hX e1,cell_later hX e2⟩
   clear IH hbk hlL hlN hmany hlf hx
   have hpi:p<i:=by omega
   have hqi:q<i:=by omega
   go_enter Tryz.func51,Tryz.ntmps51
   go_upto_region 3 with fail
   go_region_held3 (fun w'=>w'.cell? (qa b (off+i*3+1))=some (iv p)∧w'.cell? (qa b (off+i*3+2))=some (iv q)) (first | exact HS.out _ hW0 | exact HS.out _ hV3 | exact HS.out _ hV2 | exact HS.out _ hV1) (first | (go_at_call 51;refine (K.out _ _ hqi hV1).mono ?_;rintro e V2 hO2;have hV12:=hO2.below;obtain⟨x2,y2,rfl,ho2⟩:=hO2.ex;have hV2:Below W.heap.size W V2:=hV1.trans (hV12.mono hV1.size);have ho1':=ho1.kept (grown_of_below hV12 none) own_self) | (go_at_call 51;refine (K.out _ _ hpi hW0).mono ?_;rintro e V1 hO1;have hV01:=hO1.below;obtain⟨x1,y1,rfl,ho1⟩:=hO1.ex;have hV1:Below W.heap.size W V1:=hW0.trans (hV01.mono hW0.size)) | (refine step_append_srcP (by rfl) _ _ _ (by rfl) W.heap.size 3 i1 (iv 0) 1 8 Tryz.underlying26 hi1 hq0 hq1 hq2 rfl (by decide) (sv x1 (M.leavesOf l p).length y1) (M.leavesOf l p).length (encIR (M.leavesOf l p)) (by rfl) ho1' (sv x2 (M.leavesOf l q).length y2) (M.leavesOf l q).length (encIR (M.leavesOf l q)) (by rfl) (row_src ho2) (by simp[encIR]) (encIR_one _) (by unfold maxLen;omega) (by omega) hV2.size ?_;intro v3 w3 ho3 hg3;have hV3:Below W.heap.size W w3:=grown_belowP hV2 hV2.size ho1' hg3;obtain⟨x3,y3,rfl⟩:=own_len ho3))
   all_goals
    go_wp2
    go_ret
    rw[HN.out]
    exact⟨hV3,x3,y3,by rw[List.length_append];rfl,by rw[List.length_append];simpa [encIR] using ho3⟩
end Go.Proofs.YtebippbakbihiaaGreatDoor
