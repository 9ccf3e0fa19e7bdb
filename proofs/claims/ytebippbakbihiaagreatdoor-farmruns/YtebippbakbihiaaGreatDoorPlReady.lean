/-
  The contract of plan.Ready.
-/
import Derived.Test.YtebippbakbihiaaGreatDoorPlCk
import Derived.Maps.AppendAt
namespace Go.Proofs.YtebippbakbihiaaGreatDoor
open Go Go.RowKit
set_option linter.unusedVariables false
theorem readyUpto_step (l:List M.Nd) (d:List Bool) (k:Nat):M.readyUpto l d (k+1)=M.readyUpto l d k ++ bif M.readyAt l d k then [(k:Int)] else []:=by
 unfold M.readyUpto
 rw[List.range_succ,List.filter_append,List.map_append]
 congr 1
 cases h:M.readyAt l d k <;> simp[h]
theorem readyUpto_len (l:List M.Nd) (d:List Bool) (k:Nat):(M.readyUpto l d k).length≤k:=by
 unfold M.readyUpto
 rw[List.length_map]
 exact Nat.le_trans (List.length_filter_le _ _) (by simp)
theorem check_ok {l:List M.Nd} {parts:Int} (h:M.checkPlan l parts=0):M.fewParts parts=true∧l.length≤23∧0<l.length∧M.fitsFrom parts 0 l=true∧M.isTree l=true∧M.inOrder l parts=true:=by
 unfold M.checkPlan at h
 split at h
 ·exact absurd h (by decide)
 rename_i h1
 split at h
 ·exact absurd h (by decide)
 split at h
 ·exact absurd h (by decide)
 split at h
 ·exact absurd h (by decide)
 rename_i h4
 split at h
 ·rename_i h5
  exact⟨by simpa using h1,by omega,by omega,by simpa using h4,h5.1,h5.2⟩
 ·exact absurd h (by decide)
set_option maxHeartbeats 4000000 in
set_option maxRecDepth 100000 in
theorem ready_any (l:List M.Nd) (parts:Int) (d:List Bool) (a a':Option Addr) (c c':Nat) (w:World) (hn:NodesAt w (sv a l.length c) l) (hd:BoolsAt w (sv a' d.length c') d) :
  Calls Tryz.prog 117 #[sv a l.length c,iv parts,sv a' d.length c'] w fun e w'=>Below w.heap.size w w'∧∃ v,e=.returned (.tuple #[v,iv (M.readyE l parts d)])∧w'.ownsRow w.heap.size 3 1 v (if M.readyE l parts d=0 then M.ready l d else []).length ((if M.readyE l parts d=0 then M.ready l d else []).map (Value.int .i64)):=by
 obtain⟨i1,hi1,hy0,hy1,hy2⟩:=info_parts (P:=Tryz.prog) (e:=3) (z:=iv 0) (size:=1) (bytes:=8) (by kernel_rfl)
 have KC:Hid (Calls Tryz.prog 29 #[sv a l.length c,iv parts] w fun e w'=>e=.returned (iv (M.checkPlan l parts))∧Below w.heap.size w w'):=planCheck_any l parts a c w hn
 have hdl:d.length≤maxLen:=by obtain⟨_,_,_,h⟩:=SlAt.form hd;exact h
 have hll:l.length≤maxLen:=hn.small
 unfold maxLen at hdl hll
 by_cases hck:M.checkPlan l parts=0
 ·obtain⟨_,h23,h0,hfit,_,_⟩:=check_ok hck
  have hbe:=behind_of hfit
  rw[hck] at KC
  by_cases hlen:d.length=l.length
  ·have HE:Hid (M.readyE l parts d=0):=by rw[Hid,M.readyE,if_pos hck,if_pos hlen]
   rw[HE.out,if_pos rfl]
   rw[hlen] at hd hdl ⊢
   have HL:Hid (d.length=l.length):=hlen
   have HD:Hid (∀ W,Below w.heap.size w W→NodesAt W (sv a l.length c) l∧BoolsAt W (sv a' d.length c') d):=fun W hW=>⟨hn.later hW,by rw[hlen];exact hd.later hW⟩
   have hll2:((l.length:Int) !=(l.length:Int))=false:=by simp
   clear hck hlen hn hd hfit
   go_enter Tryz.func117,Tryz.ntmps117
   go_wp2_with (go_at_call 29;refine KC.out.mono ?_;rintro e w1 ⟨rfl,hb1⟩)
   have HB1:Hid (Below w.heap.size w w1):=hb1
   clear hb1
   go_loopw [9,25] (fun s9 s25 wr=>∃ (k:Nat) (r:List Int),k≤l.length∧s25=iv k∧Hid (r=M.readyUpto l d k)∧r.length≤k∧wr.ownsRow w.heap.size 3 1 s9 r.length (r.map (Value.int .i64))∧Hid (Below w.heap.size w wr)) (fun _ s25 _=>l.length - (intOf s25).toNat)
   case atStart=>exact⟨0,[],Nat.zero_le _,rfl,rfl,Nat.le_refl _,World.ownsRow_nil _ _ _ _,HB1⟩
   case round =>
    obtain⟨k,r,hk,rfl,HR,hrk,hown,HB⟩:=hrel
    have hw0:w.heap.size≤wr.heap.size:=HB.out.size
    by_cases hlt:k<l.length
    ·obtain⟨b,off,ha,e0,e1,e2⟩:=(HD.out wr HB.out).1.cells k hlt
     have hdk:=(HD.out wr HB.out).2
     have hdc:∀ j,j<l.length→∃ b off,a'=some (qa b off)∧wr.cell? (qa b (off+j))=some (.bool (d.getD j false))∧b<wr.heap.size:=fun j hj=>hdk.cell j (by rw[HL.out];exact hj)
     obtain⟨b',off',rfl,g0,hb'⟩:=hdc k hlt
     have HR1:Hid (M.readyUpto l d (k+1)=r ++ bif M.readyAt l d k then [(k:Int)] else []):=by rw[Hid,readyUpto_step,HR.out]
     have hbk:=hbe k hlt
     have hkl:(k:Int)<(l.length:Int):=by omega
     have hbr:b<wr.heap.size:=World.block_lt_of_cell? _ _ e0
     have hk23:(k:Int)<23:=by omega
     have hrow2:∀ o,(wr.alloc o).ownsRow w.heap.size 3 1 u9 r.length (r.map (Value.int .i64)):=fun o=>hown.alloc o
     obtain⟨ad,nn,cc,rfl⟩:=own_form hown
     subst ha
     unfold M.readyAt at HR1
     clear HR hdk
     generalize l.getD k M.nd0=n at *
     obtain⟨x,y,z⟩:=n
     simp only at e0 e1 e2 hbk HR1
     have hk0:(0:Int)≤(k:Int):=by omega
     go_upto_region 10 with fail
     have hA1:Below wr.heap.size wr (wr.alloc (.cells #[iv x,iv y,iv z] 75)):=(Below.refl _ _).alloc (Nat.le_refl _) _
     have p1:=heap_alloc_new wr (.cells #[iv x,iv y,iv z] 75)
     have HBX:Hid (Below w.heap.size w (wr.alloc (.cells #[iv x,iv y,iv z] 75))):=HB.out.trans (hA1.mono hw0)
     have hrowX:=hrow2 (.cells #[iv x,iv y,iv z] 75)
     replace g0:=cell_later hA1 g0
     have hdX:∀ j,j<l.length→(wr.alloc (.cells #[iv x,iv y,iv z] 75)).cell? (qa b' (off' + j))=some (.bool (d.getD j false)):=fun j hj=>by
      obtain⟨b2,o2,e,h,_⟩:=hdc j hj
      cases e
      exact cell_later hA1 h
     clear e0 e1 e2 hrow2 hown HB hA1 hdc
     generalize wr.alloc (.cells #[iv x,iv y,iv z] 75)=X at *
     generalize wr.heap.size=nb at *
     have hlX:=lt1 p1
     have hbX:b' < X.heap.size:=by omega
     have hwX:w.heap.size≤X.heap.size:=by omega
     have c0:=cellC p1 0 rfl
     have c1:=cellC p1 1 rfl
     have c2:=cellC p1 2 rfl
     cases hdk:d.getD k false
     ·rw[hdk] at g0 HR1
      cases hx:(x==-1)
      ·have hxn:(x !=-1)=true:=by simpa using hx
       have HR2:Hid (r ++ [(k:Int)]=M.readyUpto l d (k+1)):=by rw[Hid,HR1.out,hx];rfl
       clear HR1
       go_wp2_with (at_builtin;refine wpList_append_own _ rfl _ _ 26 rfl w.heap.size 3 i1 (iv 0) 1 8 Tryz.underlying26 hi1 hy0 hy1 hy2 rfl (by decide) _ _ _ rfl (hrowX.alloc _) ⟨X.heap.size,0,none⟩ 1 1 [iv k] rfl rfl (cell_one_new _ _ _) (fun u hu=>by simp at hu;subst hu;rfl) (by unfold maxLen;omega) (by omega) (by simp;omega) ?_;intro v' w3 hown' hgrow3 hnil3)
       go_roundw
       case rel=>exact⟨k+1,r ++ [(k:Int)],by omega,by go_num,HR2,by simp;omega,by rw[List.length_append,List.map_append];exact hown',(HBX.out.alloc hwX _).grown hgrow3 (by simp;omega) (fun k hk=>(hrowX.lt k hk).1)⟩
       case measure=>simp[intOf];omega
      ·have hxn:(x !=-1)=false:=by simpa using hx
       obtain⟨⟨hy0',hy1'⟩,hz0',hz1'⟩:=hbk hx
       obtain⟨p,rfl⟩:∃ p:Nat,y=(p:Int):=⟨y.toNat,by omega⟩
       obtain⟨q,rfl⟩:∃ q:Nat,z=(q:Int):=⟨z.toNat,by omega⟩
       have gp:=hdX p (by omega)
       have gq:=hdX q (by omega)
       simp only[Int.toNat_natCast] at HR1
       have hpl:(p:Int)<(l.length:Int):=by omega
       have hql:(q:Int)<(l.length:Int):=by omega
       clear hdX
       cases hdp:d.getD p false
       ·rw[hdp] at gp HR1
        have HR2:Hid (r=M.readyUpto l d (k+1)):=by rw[Hid,HR1.out,hx];simp
        clear HR1
        go_wp2_with fail
        go_roundw
        case rel=>exact⟨k+1,r,by omega,by go_num,HR2,by omega,hrowX,HBX⟩
        case measure=>simp[intOf];omega
       ·rw[hdp] at gp HR1
        cases hdq:d.getD q false
        ·rw[hdq] at gq HR1
         have HR2:Hid (r=M.readyUpto l d (k+1)):=by rw[Hid,HR1.out,hx];simp
         clear HR1
         go_wp2_with fail
         go_roundw
         case rel=>exact⟨k+1,r,by omega,by go_num,HR2,by omega,hrowX,HBX⟩
         case measure=>simp[intOf];omega
        ·rw[hdq] at gq HR1
         have HR2:Hid (r ++ [(k:Int)]=M.readyUpto l d (k+1)):=by rw[Hid,HR1.out,hx];rfl
         clear HR1
         go_wp2_with (at_builtin;refine wpList_append_own _ rfl _ _ 26 rfl w.heap.size 3 i1 (iv 0) 1 8 Tryz.underlying26 hi1 hy0 hy1 hy2 rfl (by decide) _ _ _ rfl (hrowX.alloc _) ⟨X.heap.size,0,none⟩ 1 1 [iv k] rfl rfl (cell_one_new _ _ _) (fun u hu=>by simp at hu;subst hu;rfl) (by unfold maxLen;omega) (by omega) (by simp;omega) ?_;intro v' w3 hown' hgrow3 hnil3)
         go_roundw
         case rel=>exact⟨k+1,r ++ [(k:Int)],by omega,by go_num,HR2,by simp;omega,by rw[List.length_append,List.map_append];exact hown',(HBX.out.alloc hwX _).grown hgrow3 (by simp;omega) (fun k hk=>(hrowX.lt k hk).1)⟩
         case measure=>simp[intOf];omega
     ·rw[hdk] at g0 HR1
      have HR2:Hid (r=M.readyUpto l d (k+1)):=by rw[Hid,HR1.out];simp
      clear HR1
      go_wp2_with fail
      go_roundw
      case rel=>exact⟨k+1,r,by omega,by go_num,HR2,by omega,hrowX,HBX⟩
      case measure=>simp[intOf];omega
    ·have hkl:k=l.length:=by omega
     have HR2:Hid (r=M.ready l d):=by rw[Hid,HR.out,hkl];rfl
     clear HR
     subst hkl
     obtain⟨ad,cc,rfl⟩:=own_len hown
     go_wp2
     go_ret2
     exact⟨HB.out,_,rfl,by rw[← HR2.out];exact hown⟩
  ·have HE:Hid (M.readyE l parts d=4):=by rw[Hid,M.readyE,if_pos hck,if_neg hlen]
   rw[HE.out,if_neg (by decide)]
   have hne:((d.length:Int) !=(l.length:Int))=true:=by simp;omega
   clear hlen hck
   go_enter Tryz.func117,Tryz.ntmps117
   go_wp2_with (go_at_call 29;refine KC.out.mono ?_;rintro e w1 ⟨rfl,hb1⟩)
   go_ret2
   exact⟨hb1,_,rfl,World.ownsRow_nil _ _ _ _⟩
 ·have HE:Hid (M.readyE l parts d=M.checkPlan l parts):=by rw[Hid,M.readyE,if_neg hck]
  rw[HE.out,if_neg hck]
  have hne:(M.checkPlan l parts !=0)=true:=by simpa using hck
  clear hck HE
  generalize M.checkPlan l parts=er at *
  go_enter Tryz.func117,Tryz.ntmps117
  go_wp2_with (go_at_call 29;refine KC.out.mono ?_;rintro e w1 ⟨rfl,hb1⟩)
  go_ret2
  exact⟨hb1,_,rfl,World.ownsRow_nil _ _ _ _⟩
end Go.Proofs.YtebippbakbihiaaGreatDoor
