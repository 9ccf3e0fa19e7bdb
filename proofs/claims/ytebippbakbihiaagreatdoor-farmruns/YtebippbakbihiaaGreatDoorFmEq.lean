/-
  The contract of slices.EqualFunc at parts with the reference's SamePart. slices.Equal at nodes. slices.Equal of a row with its own like: truth values, grants, integers. What Eval answers, as parts in memory. slices.EqualFunc of messages with their own like. The reference's SameFarm: a farm and its own like are the same.
-/
import Derived.Test.YtebippbakbihiaaGreatDoorRefSame
import Derived.Test.YtebippbakbihiaaGreatDoorPlShelf
import Derived.Test.YtebippbakbihiaaGreatDoorFmMM
import Derived.Test.YtebippbakbihiaaGreatDoorFmShelf
namespace Go.Proofs.YtebippbakbihiaaGreatDoor
open Go Go.RowKit
set_option linter.unusedVariables false
theorem part_atR {w:World} {a:Option Addr} {c:Nat} {ps:List M.Prt} (h:PartsAt w (sv a ps.length c) ps) (j:Nat) (hj:j<ps.length) :
  ∃ b off a1 a2 c1 c2,a=some (qa b off)∧w.cell? (qa b (off+j*2))=some (sv a1 (ps.getD j M.nil).frags.length c1)∧w.cell? (qa b (off+j*2+1))=some (sv a2 (ps.getD j M.nil).defs.length c2)
   ∧ FragsAt w (sv a1 (ps.getD j M.nil).frags.length c1) (ps.getD j M.nil).frags∧DefsAt w (sv a2 (ps.getD j M.nil).defs.length c2) (ps.getD j M.nil).defs:=by
 obtain⟨cell,h1,h2⟩:=h
 obtain⟨b,off,e,hc⟩:=h1.at j hj
 obtain⟨hf,hd⟩:=h2 j hj
 have c0:=hc 0 (by decide)
 have c1:=hc 1 (by decide)
 have hf':=hf
 obtain⟨cf,hs,_⟩:=hf'
 obtain⟨a1,k1,e1,_⟩:=hs.form
 obtain⟨a2,k2,e2,_⟩:=hd.1.form
 rw[e1] at hf c0
 rw[e2] at hd c1
 exact⟨b,off,a1,a2,k1,k2,e,c0,c1,hf,hd⟩
theorem parts_stepR {xs ys:List M.Prt} {k:Nat} (hx:k<xs.length) (hy:k<ys.length) :
  M.allTwo M.samePart (xs.drop k) (ys.drop k)=(M.samePart (xs.getD k M.nil) (ys.getD k M.nil)&&M.allTwo M.samePart (xs.drop (k+1)) (ys.drop (k+1))):=by
 rw[drop_getD xs M.nil k hx,drop_getD ys M.nil k hy];rfl
theorem parts_lenR:∀ (xs ys:List M.Prt),¬ xs.length=ys.length→M.allTwo M.samePart xs ys=false
 | [],[],h=>absurd rfl h
 | [],_ :: _,_=>rfl
 | _ :: _,[],_=>rfl
 | x :: xs,y :: ys,h=>by
  have:=parts_lenR xs ys (by simpa using h)
  show (_&&M.allTwo M.samePart xs ys)=false
  rw[this,Bool.and_false]
set_option maxHeartbeats 4000000 in
set_option maxRecDepth 100000 in
theorem equalPartsR_any (xs ys:List M.Prt) (a1 a2:Option Addr) (c1 c2:Nat) (w:World) (h1:PartsAt w (sv a1 xs.length c1) xs) (h2:PartsAt w (sv a2 ys.length c2) ys) :
  Calls Tryz.prog 35 #[sv a1 xs.length c1,sv a2 ys.length c2,.func (.func 12) #[] #[]] w fun e w'=>e=.returned (.bool (M.allTwo M.samePart xs ys))∧Below w.heap.size w w':=by
 have hx:xs.length≤maxLen:=by obtain⟨_,h,_⟩:=h1;obtain⟨_,_,_,h⟩:=h.form;exact h
 have hy:ys.length≤maxLen:=by obtain⟨_,h,_⟩:=h2;obtain⟨_,_,_,h⟩:=h.form;exact h
 unfold maxLen at hx hy
 by_cases hlen:xs.length=ys.length
 ·have HX:Hid (M.allTwo M.samePart xs ys=M.allTwo M.samePart (xs.drop 0) (ys.drop 0)):=rfl
  generalize M.allTwo M.samePart xs ys=R at *
  have HL:Hid (ys.length=xs.length):=hlen.symm
  have HP:Hid (∀ W,Below w.heap.size w W→PartsAt W (sv a1 xs.length c1) xs∧PartsAt W (sv a2 ys.length c2) ys):=fun W hW=>⟨h1.later hW,h2.later hW⟩
  rw[← hlen] at hy ⊢
  clear hlen h1 h2
  go_enter Tryz.func35,Tryz.ntmps35
  go_wp2_with fail
  go_loopw [17] (fun s17 wr=>∃ (k:Nat),k≤xs.length∧s17=iv k∧Hid (Below w.heap.size w wr)∧Hid (R=M.allTwo M.samePart (xs.drop k) (ys.drop k))) (fun s17 _=>xs.length - (intOf s17).toNat)
  case atStart=>exact⟨0,Nat.zero_le _,rfl,Below.refl _ _,HX⟩
  case round =>
   obtain⟨k,hk,rfl,HB,HR⟩:=hrel
   clear HX
   by_cases hlt:k<xs.length
   ·have hky:k<ys.length:=by rw[HL.out];exact hlt
    obtain⟨b,off,p1,p2,d1,d2,rfl,e0,e1,hf,hd⟩:=part_atR (HP.out wr HB.out).1 k hlt
    obtain⟨b',off',q1,q2,g1,g2,hae,e0',e1',hf',hd'⟩:=part_atR (HP.out wr HB.out).2 k hky
    subst hae
    have hkl:(k:Int)<(xs.length:Int):=by omega
    have hbr:b<wr.heap.size:=World.block_lt_of_cell? _ _ e0
    have hbr':b' < wr.heap.size:=World.block_lt_of_cell? _ _ e0'
    have HR1:=HR.out
    rw[parts_stepR hlt hky] at HR1
    have HR2:Hid _:=HR1
    have HK:Hid (∀ W,Below wr.heap.size wr W→Calls Tryz.prog 12 #[.agg #[sv p1 (xs.getD k M.nil).frags.length d1,sv p2 (xs.getD k M.nil).defs.length d2],.agg #[sv q1 (ys.getD k M.nil).frags.length g1,sv q2 (ys.getD k M.nil).defs.length g2]] W fun e w'=>e=.returned (.bool (M.samePart (xs.getD k M.nil) (ys.getD k M.nil)))∧Below W.heap.size W w'):=fun W hW=>rsame_any _ _ _ _ _ _ _ _ _ _ _ _ W (hf.later hW) (hd.later hW) (hf'.later hW) (hd'.later hW)
    have hA1:Below wr.heap.size wr (wr.alloc (.cells #[sv p1 (xs.getD k M.nil).frags.length d1,sv p2 (xs.getD k M.nil).defs.length d2] 39)):=(Below.refl _ _).alloc (Nat.le_refl _) _
    have hA2:Below wr.heap.size wr ((wr.alloc (.cells #[sv p1 (xs.getD k M.nil).frags.length d1,sv p2 (xs.getD k M.nil).defs.length d2] 39)).alloc (.cells #[sv q1 (ys.getD k M.nil).frags.length g1,sv q2 (ys.getD k M.nil).defs.length g2] 39)):=hA1.alloc hA1.size _
    have HA2:Hid _:=hA2
    clear HR HR1 hf hd hf' hd' hA1
    generalize M.samePart (xs.getD k M.nil) (ys.getD k M.nil)=sm at *
    generalize xs.getD k M.nil=x at *
    generalize ys.getD k M.nil=y at *
    cases sm
    ·obtain rfl:R=false:=HR2.out
     clear HR2
     go_wp2_with (go_at_call 12;refine (HK.out _ HA2.out).mono ?_;rintro e w1 ⟨rfl,hb1⟩)
     go_ret
     exact⟨rfl,HB.out.trans ((HA2.out.trans (hb1.mono HA2.out.size)).mono HB.out.size)⟩
    ·have HR3:Hid (R=M.allTwo M.samePart (xs.drop (k+1)) (ys.drop (k+1))):=HR2.out
     clear HR2
     go_wp2_with (go_at_call 12;refine (HK.out _ HA2.out).mono ?_;rintro e w1 ⟨rfl,hb1⟩)
     go_roundw
     case rel=>exact⟨k+1,by omega,by go_num,HB.out.trans ((HA2.out.trans (hb1.mono HA2.out.size)).mono HB.out.size),HR3⟩
     case measure=>simp[intOf];omega
   ·have hkl:k=xs.length:=by omega
    have HR2:Hid (R=true):=by
     rw[Hid,HR.out,List.drop_eq_nil_of_le (by omega),List.drop_eq_nil_of_le (by rw[HL.out];omega)];rfl
    clear HR
    subst hkl
    go_wp2
    go_ret
    exact⟨by rw[HR2.out];rfl,HB.out⟩
 ·have hl:((xs.length:Int) !=(ys.length:Int))=true:=by simp;omega
  have HX:Hid (M.allTwo M.samePart xs ys=false):=parts_lenR xs ys hlen
  clear hlen h1 h2
  go_enter Tryz.func35,Tryz.ntmps35
  go_wp2
  go_ret
  exact⟨by rw[HX.out];rfl,Below.refl _ _⟩
end Go.Proofs.YtebippbakbihiaaGreatDoor
namespace Go.Proofs.YtebippbakbihiaaGreatDoor
open Go.RowKit Go.Shelf
set_option linter.unusedVariables false
theorem neqNd:NeqAt Tryz.prog 75 (fun x=>.agg (encNd x).toArray) M.sameNd:=by
 refine⟨fun x y w=>?_,GuardAt.agg _ (by kernel_rfl)⟩
 have u3:=Tryz.underlying3
 have a3:=Tryz.isAgg3
 have z3:=Tryz.sizeOf3
 have hS:Tryz.prog.underlying 75=some (.struct (Tryz.prog.fieldsOf 75)):=by kernel_rfl
 have hp:Tryz.prog.stoodInHeld 75=false:=by kernel_rfl
 simp only[encNd]
 rw[run_neq_struct,show (10000:Nat)=9999+1 from rfl,run_equalIn_agg w 9999 75 _ _ hS hp]
 simp only[Program.fieldsOf,Tryz.underlying75]
 go_simp
 by_cases h0:x.leaf=y.leaf <;> by_cases h1:x.left=y.left <;> by_cases h2:x.right=y.right <;> simp[M.sameNd,h0,h1,h2]
theorem encNd_at (n:M.Nd) (i:Nat) (v:Value) (h:(encNd n)[i]?=some v):i<3∧v=ndCell n i:=by
 match i,h with
 | 0,h=>simp[encNd] at h;exact⟨by omega,h.symm⟩
 | 1,h=>simp[encNd] at h;exact⟨by omega,h.symm⟩
 | 2,h=>simp[encNd] at h;exact⟨by omega,h.symm⟩
 | k+3,h=>simp[encNd] at h
set_option maxRecDepth 100000 in
theorem eqNodes_short (a1 a2:Option Addr) (n c m d:Nat) (w:World) (hn:n≤maxLen) (hm:m≤maxLen) (h:¬ n=m∨n=0∧m=0) :
  Calls Tryz.prog 36 #[sv a1 n c,sv a2 m d] w fun e w'=>e=.returned (.bool (decide (n=m)))∧w'=w:=by
 unfold maxLen at hn hm
 rcases h with h | ⟨rfl,rfl⟩
 ·have hne:(n !=m)=true:=by rw[bne_iff_ne];exact h
  have hni:¬ (n:Int)=(m:Int):=by omega
  have HX:Hid (decide (n=m)=false):=decide_eq_false h
  generalize decide (n=m)=R at *
  clear h
  go_enter Tryz.func36,Tryz.ntmps36
  go_wp2
  go_ret
  exact⟨by rw[HX.out];rfl,rfl⟩
 ·go_enter Tryz.func36,Tryz.ntmps36
  go_wp2_with fail
  refine wp_loop_rounds 1 ?_
  rw[rounds_succ]
  go_wp2
  go_ret
  exact⟨rfl,rfl⟩
theorem eqNodes_any (xs ys:List M.Nd) (a1 a2:Option Addr) (c d:Nat) (w:World) (h1:NodesAt w (sv a1 xs.length c) xs) (h2:NodesAt w (sv a2 ys.length d) ys) :
  Calls Tryz.prog 36 #[sv a1 xs.length c,sv a2 ys.length d] w fun e w'=>e=.returned (.bool (M.allTwo M.sameNd xs ys))∧Below w.heap.size w w':=by
 have hx:xs.length≤maxLen:=h1.small
 have hy:ys.length≤maxLen:=h2.small
 by_cases hsh:¬ xs.length=ys.length∨xs.length=0∧ys.length=0
 ·refine (eqNodes_short a1 a2 _ c _ d w hx hy hsh).mono fun e w' ⟨he,hw⟩=>⟨?_,by rw[hw];exact Below.refl _ _⟩
  rw[he]
  congr 2
  rcases hsh with h | ⟨h,h'⟩
  ·rw[decide_eq_false h,← allTwo_eq,Lib.allEq_len _ _ _ h]
  ·rw[List.eq_nil_of_length_eq_zero h,List.eq_nil_of_length_eq_zero h'];rfl
 ·have hlen:xs.length=ys.length∧0<xs.length:=by omega
  obtain⟨b1,o1,rfl,hc1⟩:∃ b off,a1=some (qa b off)∧∀ j i,j<xs.length→i<3→w.cell? (qa b (off+j*3+i))=some (ndCell (xs.getD j M.nd0) i):=SlAt.all h1 (by omega)
  obtain⟨b2,o2,rfl,hc2⟩:∃ b off,a2=some (qa b off)∧∀ j i,j<ys.length→i<3→w.cell? (qa b (off+j*3+i))=some (ndCell (ys.getD j M.nd0) i):=SlAt.all h2 (by omega)
  have key:=@AnyQ.slices_Equal Tryz.prog Tryz.eqNode_ren M.Nd ⟨M.nd0⟩ Tryz.eqNode 3 Tryz.isAgg75 Tryz.sizeOf75 encNd (fun _=>rfl) M.sameNd neqNd b1 o1 xs.length c b2 o2 ys.length d xs ys w (Nat.le_refl _) (Nat.le_refl _) hx hy
   (fun j hj i v hv=>by
     obtain⟨hi,rfl⟩:=encNd_at _ _ _ hv
     have:=hc1 j i hj hi
     rw[this]
     simp[List.getElem!_eq_getElem?_getD,List.getD_eq_getElem?_getD])
   (fun j hj i v hv=>by
     obtain⟨hi,rfl⟩:=encNd_at _ _ _ hv
     have:=hc2 j i hj hi
     rw[this]
     simp[List.getElem!_eq_getElem?_getD,List.getD_eq_getElem?_getD])
  rw[List.take_length,List.take_length,allTwo_eq] at key
  refine Calls.mono key fun e w' ⟨he,q,hw⟩=>⟨he,?_⟩
  rw[hw]
  exact below_drewN' _ _ _
theorem sameNd_self:∀ l:List M.Nd,M.allTwo M.sameNd l l=true
 | []=>rfl
 | n :: l=>by simp[M.allTwo,M.sameNd,sameNd_self l]
end Go.Proofs.YtebippbakbihiaaGreatDoor
namespace Go.Proofs.YtebippbakbihiaaGreatDoor
open Go Go.RowKit Go.Shelf
set_option linter.unusedVariables false
def sameGrt (a b:M.Grt):Bool:=a.worker==b.worker&&a.till==b.till
theorem neqGrt:NeqAt Tryz.prog 64 (fun x=>.agg (encGrt x).toArray) sameGrt:=by
 refine⟨fun x y w=>?_,GuardAt.agg _ (by kernel_rfl)⟩
 have u3:=Tryz.underlying3
 have a3:=Tryz.isAgg3
 have z3:=Tryz.sizeOf3
 have hS:Tryz.prog.underlying 64=some (.struct (Tryz.prog.fieldsOf 64)):=by kernel_rfl
 have hp:Tryz.prog.stoodInHeld 64=false:=by kernel_rfl
 simp only[encGrt]
 rw[run_neq_struct,show (10000:Nat)=9999+1 from rfl,run_equalIn_agg w 9999 64 _ _ hS hp]
 simp only[Program.fieldsOf,Tryz.underlying64]
 go_simp
 by_cases h0:x.worker=y.worker <;> by_cases h1:x.till=y.till <;> simp[sameGrt,h0,h1]
theorem encGrt_at (n:M.Grt) (i:Nat) (v:Value) (h:(encGrt n)[i]?=some v):i<2∧v=grtCell n i:=by
 match i,h with
 | 0,h=>simp[encGrt] at h;exact⟨by omega,h.symm⟩
 | 1,h=>simp[encGrt] at h;exact⟨by omega,h.symm⟩
 | k+2,h=>simp[encGrt] at h
theorem allG_self:∀ l:List M.Grt,M.allTwo sameGrt l l=true
 | []=>rfl
 | n :: l=>by simp[M.allTwo,sameGrt,allG_self l]
set_option maxRecDepth 100000 in
theorem eqGrants_self (xs:List M.Grt) (a1 a2:Option Addr) (c d:Nat) (w:World) (h1:GrantsAt w (sv a1 xs.length c) xs) (h2:GrantsAt w (sv a2 xs.length d) xs) :
  Calls Tryz.prog 38 #[sv a1 xs.length c,sv a2 xs.length d] w fun e w'=>e=.returned (.bool true)∧Below w.heap.size w w':=by
 have hx:xs.length≤maxLen:=by obtain⟨_,_,_,h⟩:=SlAt.form h1;exact h
 by_cases h0:xs.length=0
 ·rw[h0]
  clear h0 h1 h2 hx
  go_enter Tryz.func38,Tryz.ntmps38
  go_wp2_with fail
  refine wp_loop_rounds 1 ?_
  rw[rounds_succ]
  go_wp2
  go_ret
  exact⟨rfl,Below.refl _ _⟩
 ·obtain⟨b1,o1,rfl,hc1⟩:∃ b off,a1=some (qa b off)∧∀ j i,j<xs.length→i<2→w.cell? (qa b (off+j*2+i))=some (grtCell (xs.getD j M.grt0) i):=SlAt.all h1 (by omega)
  obtain⟨b2,o2,rfl,hc2⟩:∃ b off,a2=some (qa b off)∧∀ j i,j<xs.length→i<2→w.cell? (qa b (off+j*2+i))=some (grtCell (xs.getD j M.grt0) i):=SlAt.all h2 (by omega)
  have key:=@AnyQ.slices_Equal Tryz.prog Tryz.eqGrant_ren M.Grt ⟨M.grt0⟩ Tryz.eqGrant 2 Tryz.isAgg64 Tryz.sizeOf64 encGrt (fun _=>rfl) sameGrt neqGrt b1 o1 xs.length c b2 o2 xs.length d xs xs w (Nat.le_refl _) (Nat.le_refl _) hx hx
   (fun j hj i v hv=>by
     obtain⟨hi,rfl⟩:=encGrt_at _ _ _ hv
     have:=hc1 j i hj hi
     rw[this]
     simp[List.getElem!_eq_getElem?_getD,List.getD_eq_getElem?_getD])
   (fun j hj i v hv=>by
     obtain⟨hi,rfl⟩:=encGrt_at _ _ _ hv
     have:=hc2 j i hj hi
     rw[this]
     simp[List.getElem!_eq_getElem?_getD,List.getD_eq_getElem?_getD])
  rw[List.take_length,allTwo_eq,allG_self] at key
  refine Calls.mono key fun e w' ⟨he,q,hw⟩=>⟨he,?_⟩
  rw[hw]
  exact below_drewN' _ _ _
set_option maxHeartbeats 1000000 in
set_option maxRecDepth 100000 in
theorem eqBools_self (xs:List Bool) (a1 a2:Option Addr) (c1 c2:Nat) (w:World) (h1:BoolsAt w (sv a1 xs.length c1) xs) (h2:BoolsAt w (sv a2 xs.length c2) xs) :
  Calls Tryz.prog 37 #[sv a1 xs.length c1,sv a2 xs.length c2] w fun e w'=>e=.returned (.bool true)∧Below w.heap.size w w':=by
 have hx:xs.length≤maxLen:=by obtain⟨_,_,_,h⟩:=SlAt.form h1;exact h
 unfold maxLen at hx
 have HH:Hid (∀ W,Below w.heap.size w W→BoolsAt W (sv a1 xs.length c1) xs∧BoolsAt W (sv a2 xs.length c2) xs):=fun W hW=>⟨h1.later hW,h2.later hW⟩
 clear h1 h2
 go_enter Tryz.func37,Tryz.ntmps37
 go_wp2_with fail
 go_loopw [13] (fun s13 wr=>∃ (k:Nat),k≤xs.length∧s13=iv k∧Hid (Below w.heap.size w wr)) (fun s13 _=>xs.length - (intOf s13).toNat)
 case atStart=>exact⟨0,Nat.zero_le _,rfl,Below.refl _ _⟩
 case round =>
  obtain⟨k,hk,rfl,HB⟩:=hrel
  by_cases hlt:k<xs.length
  ·obtain⟨b,off,rfl,hc,hb⟩:=(HH.out _ HB.out).1.cell k hlt
   obtain⟨b',off',rfl,hc',hb'⟩:=(HH.out _ HB.out).2.cell k hlt
   have hkl:(k:Int)<(xs.length:Int):=by omega
   generalize xs.getD k false=x at *
   cases x
   ·go_wp2_with fail
    go_region
    all_goals
     go_wp2
     go_roundw
     case rel=>exact⟨k+1,by omega,by go_num,HB.out.drew⟩
     case measure=>simp[intOf];omega
   ·go_wp2_with fail
    go_region
    all_goals
     go_wp2
     go_roundw
     case rel=>exact⟨k+1,by omega,by go_num,HB.out.drew⟩
     case measure=>simp[intOf];omega
  ·obtain rfl:k=xs.length:=by omega
   go_wp2
   go_ret
   exact⟨rfl,HB.out⟩
set_option maxHeartbeats 1000000 in
set_option maxRecDepth 100000 in
theorem eqInts_self (xs:List Int) (a1 a2:Option Addr) (c1 c2:Nat) (w:World) (h1:IntsAt w (sv a1 xs.length c1) xs) (h2:IntsAt w (sv a2 xs.length c2) xs) :
  Calls Tryz.prog 39 #[sv a1 xs.length c1,sv a2 xs.length c2] w fun e w'=>e=.returned (.bool true)∧Below w.heap.size w w':=by
 have hx:xs.length≤maxLen:=by obtain⟨_,_,_,h⟩:=SlAt.form h1;exact h
 unfold maxLen at hx
 have HH:Hid (∀ W,Below w.heap.size w W→IntsAt W (sv a1 xs.length c1) xs∧IntsAt W (sv a2 xs.length c2) xs):=fun W hW=>⟨h1.later hW,h2.later hW⟩
 clear h1 h2
 go_enter Tryz.func39,Tryz.ntmps39
 go_wp2_with fail
 go_loopw [13] (fun s13 wr=>∃ (k:Nat),k≤xs.length∧s13=iv k∧Hid (Below w.heap.size w wr)) (fun s13 _=>xs.length - (intOf s13).toNat)
 case atStart=>exact⟨0,Nat.zero_le _,rfl,Below.refl _ _⟩
 case round =>
  obtain⟨k,hk,rfl,HB⟩:=hrel
  by_cases hlt:k<xs.length
  ·obtain⟨b,off,rfl,hc,hb⟩:=(HH.out _ HB.out).1.cell k hlt
   obtain⟨b',off',rfl,hc',hb'⟩:=(HH.out _ HB.out).2.cell k hlt
   have hkl:(k:Int)<(xs.length:Int):=by omega
   generalize xs.getD k 0=x at *
   have hne:(x !=x)=false:=by simp
   go_wp2_with fail
   go_region
   all_goals
    go_wp2
    go_roundw
    case rel=>exact⟨k+1,by omega,by go_num,HB.out.drew⟩
    case measure=>simp[intOf];omega
  ·obtain rfl:k=xs.length:=by omega
   go_wp2
   go_ret
   exact⟨rfl,HB.out⟩
end Go.Proofs.YtebippbakbihiaaGreatDoor
namespace Go.Proofs.YtebippbakbihiaaGreatDoor
open Go Go.RowKit
set_option linter.unusedVariables false
theorem same_selfP (p:M.Prt):M.samePart p p=true:=by
 have h1:∀ l:List M.Rel,M.allTwo M.sameRel l l=true:=fun l=>by
  induction l with
  | nil=>rfl
  | cons x l ih=>simp[M.allTwo,M.sameRel,ih]
 have h2:∀ l:List Int,M.allTwo (fun x y=>x==y) l l=true:=fun l=>by
  induction l with
  | nil=>rfl
  | cons x l ih=>simp[M.allTwo,ih]
 have h3:∀ l:List M.Frg,M.allTwo M.sameFrg l l=true:=fun l=>by
  induction l with
  | nil=>rfl
  | cons x l ih=>simp[M.allTwo,M.sameFrg,h1,h2,ih]
 have h4:∀ l:List M.Dfn,M.allTwo M.sameDfn l l=true:=fun l=>by
  induction l with
  | nil=>rfl
  | cons x l ih=>simp[M.allTwo,M.sameDfn,ih]
 simp[M.samePart,h3,h4]
theorem EvOut.parts {w0 w':World} {v:Value} {ps:List M.Prt} (h:EvOut w0 w' v ps):∃ a c,v=sv a ps.length c∧PartsAt w' (sv a ps.length c) ps:=by
 obtain⟨es,rfl,hr,hp⟩:=h.ex
 obtain⟨a,c,rfl⟩:=own_len hr
 refine⟨a,c,by rw[List.length_map],?_⟩
 rw[List.length_map]
 refine⟨fun j i=>(pentCells (es.getD j pent0)).getD i undef,?_,fun j hj=>?_⟩
 ·rw[List.length_map]
  exact row_slice (k:=2) pent0 pentCells (fun _=>rfl) es hr
 ·rw[List.length_map] at hj
  obtain⟨a1,c1,a2,c2,e1,e2,hF,hD⟩:=(hp _ (getD_mem es pent0 j hj)).at
  have e3:(es.map (·.p)).getD j M.nil=(es.getD j pent0).p:=by
   rw[List.getD_eq_getElem?_getD,List.getD_eq_getElem?_getD,List.getElem?_map,List.getElem?_eq_getElem hj];rfl
  rw[e3]
  exact⟨by show FragsAt w' (es.getD j pent0).vF _;rw[e1];exact hF,by show DefsAt w' (es.getD j pent0).vD _;rw[e2];exact hD⟩
structure SmT (X:World) (a1 a2:Option Addr) (c1 c2:Nat) (p:M.Prt):Prop where
 fr:FragsAt X (sv a1 p.frags.length c1) p.frags
 df:DefsAt X (sv a2 p.defs.length c2) p.defs
theorem parts_cell {w:World} {a:Option Addr} {c n:Nat} {ps:List M.Prt} (h:PartsAt w (sv a n c) ps) (hn:ps.length=n) (k:Nat) (hk:k<n):∃ b off a1 c1 a2 c2,a=some (qa b off)∧w.cell? (qa b (off+k*2))=some (sv a1 (ps.getD k M.nil).frags.length c1)∧w.cell? (qa b (off+k*2+1))=some (sv a2 (ps.getD k M.nil).defs.length c2)∧SmT w a1 a2 c1 c2 (ps.getD k M.nil):=by
 subst hn
 obtain⟨cell,hs,hc⟩:=h
 obtain⟨b,off,rfl,hce⟩:=hs.at k hk
 obtain⟨hF,hD⟩:=hc k hk
 have e0:=hce 0 (by decide)
 have e1:=hce 1 (by decide)
 rw[Nat.add_zero] at e0
 obtain⟨a1,c1,h1⟩:=hF.form
 obtain⟨a2,c2,h2⟩:=hD.form
 rw[h1] at e0 hF
 rw[h2] at e1 hD
 exact⟨b,off,a1,c1,a2,c2,rfl,e0,e1,hF,hD⟩
set_option maxHeartbeats 4000000 in
set_option maxRecDepth 100000 in
theorem sameMsg_self (k w0 n:Int) (p:M.Prt) (a1 a2 a3 a4:Option Addr) (c1 c2 c3 c4:Nat) (w:World) (h1:FragsAt w (sv a1 p.frags.length c1) p.frags) (h2:DefsAt w (sv a2 p.defs.length c2) p.defs)
  (h3:FragsAt w (sv a3 p.frags.length c3) p.frags) (h4:DefsAt w (sv a4 p.defs.length c4) p.defs) :
  Calls Tryz.prog 41 #[.agg #[iv k,iv w0,iv n,sv a1 p.frags.length c1,sv a2 p.defs.length c2],.agg #[iv k,iv w0,iv n,sv a3 p.frags.length c3,sv a4 p.defs.length c4]] w fun e w' =>
   e=.returned (.bool true)∧Below w.heap.size w w':=by
 have hA:Below w.heap.size w ((w.alloc (.cells #[iv k,iv w0,iv n,sv a1 p.frags.length c1,sv a2 p.defs.length c2] 60)).alloc (.cells #[iv k,iv w0,iv n,sv a3 p.frags.length c3,sv a4 p.defs.length c4] 60)):=((Below.refl _ _).alloc (Nat.le_refl _) _).alloc (by simp) _
 have KS:Hid (Calls Tryz.prog 12 #[.agg #[sv a1 p.frags.length c1,sv a2 p.defs.length c2],.agg #[sv a3 p.frags.length c3,sv a4 p.defs.length c4]] ((w.alloc (.cells #[iv k,iv w0,iv n,sv a1 p.frags.length c1,sv a2 p.defs.length c2] 60)).alloc (.cells #[iv k,iv w0,iv n,sv a3 p.frags.length c3,sv a4 p.defs.length c4] 60)) fun e w'=>e=.returned (.bool true)∧Below w.heap.size w w'):=by
  have:=rsame_any p.frags p.frags p.defs p.defs _ _ _ _ _ _ _ _ _ (h1.later hA) (h2.later hA) (h3.later hA) (h4.later hA)
  rw[same_selfP ⟨_,_⟩] at this
  exact this.mono fun e w' ⟨j1,j2⟩=>⟨j1,hA.trans (j2.mono hA.size)⟩
 clear h1 h2 h3 h4 hA
 generalize p.frags.length=m1 at *
 generalize p.defs.length=m2 at *
 go_enter Tryz.func41,Tryz.ntmps41
 go_wp2_with (go_at_call 12;refine KS.out.mono ?_;rintro e w1 ⟨rfl,hb1⟩)
 go_ret
 exact⟨rfl,hb1⟩
set_option maxHeartbeats 4000000 in
set_option maxRecDepth 100000 in
theorem eqNet_self (xs:List M.Msg) (a1 a2:Option Addr) (c1 c2:Nat) (w:World) (h1:NetAt w (sv a1 xs.length c1) xs) (h2:NetAt w (sv a2 xs.length c2) xs) :
  Calls Tryz.prog 40 #[sv a1 xs.length c1,sv a2 xs.length c2,.func (.func 41) #[] #[]] w fun e w'=>e=.returned (.bool true)∧Below w.heap.size w w':=by
 have hx:xs.length≤maxLen:=by obtain⟨_,h,_⟩:=h1;obtain⟨_,_,_,h⟩:=h.form;exact h
 unfold maxLen at hx
 have HP:Hid (∀ W,Below w.heap.size w W→NetAt W (sv a1 xs.length c1) xs∧NetAt W (sv a2 xs.length c2) xs):=fun W hW=>⟨h1.later hW,h2.later hW⟩
 clear h1 h2
 go_enter Tryz.func40,Tryz.ntmps40
 go_wp2_with fail
 go_loopw [17] (fun s17 wr=>∃ (k:Nat),k≤xs.length∧s17=iv k∧Hid (Below w.heap.size w wr)) (fun s17 _=>xs.length - (intOf s17).toNat)
 case atStart=>exact⟨0,Nat.zero_le _,rfl,Below.refl _ _⟩
 case round =>
  obtain⟨k,hk,rfl,HB⟩:=hrel
  by_cases hlt:k<xs.length
  ·obtain⟨b,off,p1,d1,p2,d2,rfl,e0,e1,e2,e3,e4,hf,hd⟩:=(HP.out wr HB.out).1.cells k hlt
   obtain⟨b',off',q1,g1,q2,g2,hae,e0',e1',e2',e3',e4',hf',hd'⟩:=(HP.out wr HB.out).2.cells k hlt
   subst hae
   have hkl:(k:Int)<(xs.length:Int):=by omega
   have hbr:b<wr.heap.size:=World.block_lt_of_cell? _ _ e0
   have hbr':b' < wr.heap.size:=World.block_lt_of_cell? _ _ e0'
   generalize xs.getD k M.msg0=m at *
   obtain⟨mk,mw,mn,mp⟩:=m
   simp only at e0 e1 e2 e3 e4 e0' e1' e2' e3' e4' hf hd hf' hd'
   have HK:Hid (∀ W,Below wr.heap.size wr W→Calls Tryz.prog 41 #[.agg #[iv mk,iv mw,iv mn,sv p1 mp.frags.length d1,sv p2 mp.defs.length d2],.agg #[iv mk,iv mw,iv mn,sv q1 mp.frags.length g1,sv q2 mp.defs.length g2]] W fun e w'=>e=.returned (.bool true)∧Below W.heap.size W w'):=fun W hW=>sameMsg_self mk mw mn mp _ _ _ _ _ _ _ _ W (hf.later hW) (hd.later hW) (hf'.later hW) (hd'.later hW)
   have hA1:Below wr.heap.size wr (wr.alloc (.cells #[iv mk,iv mw,iv mn,sv p1 mp.frags.length d1,sv p2 mp.defs.length d2] 60)):=(Below.refl _ _).alloc (Nat.le_refl _) _
   have hA2:Below wr.heap.size wr ((wr.alloc (.cells #[iv mk,iv mw,iv mn,sv p1 mp.frags.length d1,sv p2 mp.defs.length d2] 60)).alloc (.cells #[iv mk,iv mw,iv mn,sv q1 mp.frags.length g1,sv q2 mp.defs.length g2] 60)):=hA1.alloc hA1.size _
   have HA2:Hid _:=hA2
   clear hf hd hf' hd' hA1 hA2
   generalize mp.frags.length=m1 at *
   generalize mp.defs.length=m2 at *
   go_wp2_with (go_at_call 41;refine (HK.out _ HA2.out).mono ?_;rintro e w1 ⟨rfl,hb1⟩)
   go_roundw
   case rel=>exact⟨k+1,by omega,by go_num,HB.out.trans ((HA2.out.trans (hb1.mono HA2.out.size)).mono HB.out.size)⟩
   case measure=>simp[intOf];omega
  ·obtain rfl:k=xs.length:=by omega
   go_wp2
   go_ret
   exact⟨rfl,HB.out⟩
theorem all_selfR {α:Type} (eq:α→α→Bool) (h:∀ x,eq x x=true):∀ l:List α,M.allTwo eq l l=true
 | []=>rfl
 | x :: l=>by unfold M.allTwo;rw[h,all_selfR eq h l];rfl
set_option maxHeartbeats 8000000 in
set_option maxRecDepth 100000 in
theorem sameFarm_self (f:M.Farm) (x y:Fd) (w:World) (hf:FarmAt w f x) (hg:FarmAt w f y) :
  Calls Tryz.prog 11 #[.agg (qm f x),.agg (qm f y)] w fun e w'=>e=.returned (.bool true)∧Below w.heap.size w w':=by
 have hA:Below w.heap.size w ((w.alloc (.cells (qm f x) 29)).alloc (.cells (qm f y) 29)):=((Below.refl _ _).alloc (Nat.le_refl _) _).alloc (by simp) _
 have h0:((w.alloc (.cells (qm f x) 29)).alloc (.cells (qm f y) 29)).heap[w.heap.size]?=some (.cells (qm f x) 29 (0,0)):=(heap_alloc_old _ _ (by simp)).trans (heap_alloc_new _ _)
 have h1:((w.alloc (.cells (qm f x) 29)).alloc (.cells (qm f y) 29)).heap[w.heap.size+1]?=some (.cells (qm f y) 29 (0,0)):=by
  have:=heap_alloc_new (w.alloc (.cells (qm f x) 29)) (.cells (qm f y) 29)
  simpa using this
 have HV:Hid (∀ W,Below ((w.alloc (.cells (qm f x) 29)).alloc (.cells (qm f y) 29)).heap.size ((w.alloc (.cells (qm f x) 29)).alloc (.cells (qm f y) 29)) W→(W.heap[w.heap.size]?=some (.cells (qm f x) 29 (0,0))∧W.heap[w.heap.size+1]?=some (.cells (qm f y) 29 (0,0)))∧FarmAt W f x∧FarmAt W f y∧Below w.heap.size w W):=fun W hW=>by
  have h2:=hA.trans (hW.mono hA.size)
  exact⟨⟨(hW.block _ (lt1 h0)).trans h0,(hW.block _ (lt1 h1)).trans h1⟩,hf.later h2,hg.later h2,h2⟩
 clear hf hg hA h0 h1
 go_enter Tryz.func11,Tryz.ntmps11
 go_upto_region 1 with fail
 obtain⟨b0,hb0⟩:∃ b0,b0=w.heap.size:=⟨_,rfl⟩
 obtain⟨b1,hb1⟩:∃ b1,b1=w.heap.size+1:=⟨_,rfl⟩
 have HX:Hid (∀ W,Below w.heap.size w W→Below w.heap.size w W):=fun _ h=>h
 obtain⟨V0,hV0⟩:∃ V0,V0=((w.alloc (.cells (qm f x) 29)).alloc (.cells (qm f y) 29)):=⟨_,rfl⟩
 rw[← hV0] at HV ⊢
 clear hV0
 have HO:Hid (∀ W,Below V0.heap.size V0 W→Below w.heap.size w W):=fun W hW=>(HV.out W hW).2.2.2
 have HV2:Hid (∀ W,Below V0.heap.size V0 W→(W.heap[b0]?=some (.cells (qm f x) 29 (0,0))∧W.heap[b1]?=some (.cells (qm f y) 29 (0,0)))∧FarmAt W f x∧FarmAt W f y):=fun W hW=>by rw[hb0,hb1];exact⟨(HV.out W hW).1,(HV.out W hW).2.1,(HV.out W hW).2.2.1⟩
 rw[← hb1,← hb0]
 clear HV hb0 hb1 HX
 have hb:Below V0.heap.size V0 V0:=Below.refl _ _
 have K0:Hid (∀ W,Below V0.heap.size V0 W→Calls Tryz.prog 35 #[sv x.p f.parts.length x.pc,sv y.p f.parts.length y.pc,.func (.func 12) #[] #[]] W fun e w'=>e=.returned (.bool true)∧Below W.heap.size W w'):=fun W hW=>by
  obtain⟨_,hx,hy⟩:=HV2.out W hW
  have:=equalPartsR_any f.parts f.parts _ _ _ _ W hx.parts hy.parts
  rw[all_selfR _ same_selfP] at this
  exact this
 have K1:Hid (∀ W,Below V0.heap.size V0 W→Calls Tryz.prog 36 #[sv x.l f.plan.length x.lc,sv y.l f.plan.length y.lc] W fun e w'=>e=.returned (.bool true)∧Below W.heap.size W w'):=fun W hW=>by
  obtain⟨_,hx,hy⟩:=HV2.out W hW
  have:=eqNodes_any f.plan f.plan _ _ _ _ W hx.plan hy.plan
  rw[sameNd_self] at this
  exact this
 have K2:Hid (∀ W,Below V0.heap.size V0 W→Calls Tryz.prog 37 #[sv x.d f.done.length x.dc,sv y.d f.done.length y.dc] W fun e w'=>e=.returned (.bool true)∧Below W.heap.size W w'):=fun W hW=>by
  obtain⟨_,hx,hy⟩:=HV2.out W hW
  exact eqBools_self f.done _ _ _ _ W hx.done hy.done
 have K3:Hid (∀ W,Below V0.heap.size V0 W→Calls Tryz.prog 35 #[sv x.h f.got.length x.hc,sv y.h f.got.length y.hc,.func (.func 12) #[] #[]] W fun e w'=>e=.returned (.bool true)∧Below W.heap.size W w'):=fun W hW=>by
  obtain⟨_,hx,hy⟩:=HV2.out W hW
  have:=equalPartsR_any f.got f.got _ _ _ _ W hx.got hy.got
  rw[all_selfR _ same_selfP] at this
  exact this
 have K4:Hid (∀ W,Below V0.heap.size V0 W→Calls Tryz.prog 38 #[sv x.g f.grants.length x.gc,sv y.g f.grants.length y.gc] W fun e w'=>e=.returned (.bool true)∧Below W.heap.size W w'):=fun W hW=>by
  obtain⟨_,hx,hy⟩:=HV2.out W hW
  exact eqGrants_self f.grants _ _ _ _ W hx.grants hy.grants
 have K5:Hid (∀ W,Below V0.heap.size V0 W→Calls Tryz.prog 39 #[sv x.k f.work.length x.kc,sv y.k f.work.length y.kc] W fun e w'=>e=.returned (.bool true)∧Below W.heap.size W w'):=fun W hW=>by
  obtain⟨_,hx,hy⟩:=HV2.out W hW
  exact eqInts_self f.work _ _ _ _ W hx.work hy.work
 have K6:Hid (∀ W,Below V0.heap.size V0 W→Calls Tryz.prog 40 #[sv x.n f.net.length x.nc,sv y.n f.net.length y.nc,.func (.func 41) #[] #[]] W fun e w'=>e=.returned (.bool true)∧Below W.heap.size W w'):=fun W hW=>by
  obtain⟨_,hx,hy⟩:=HV2.out W hW
  exact eqNet_self f.net _ _ _ _ W hx.net hy.net
 obtain⟨⟨i0,i1⟩,-,-⟩:=HV2.out V0 hb
 have c0:=cellC i0 0 rfl
 have g0:=cellC i1 0 rfl
 have l0:=lt1 i0
 have l1:=lt1 i1
 clear i0 i1
 go_wp2_with (go_at_call 35;refine (K0.out _ hb).mono ?_;rintro e V1 ⟨rfl,hb2⟩;refine Hid.out ?_)
 refine Lib.hid ?_
 replace hb:=hb.trans (hb2.mono hb.size)
 clear hb2 l0 l1 K0 c0 g0
 obtain⟨⟨i0,i1⟩,-,-⟩:=HV2.out V1 hb
 have c1:=cellC i0 1 rfl
 have g1:=cellC i1 1 rfl
 have l0:=lt1 i0
 have l1:=lt1 i1
 clear i0 i1
 go_wp2_with (go_at_call 36;refine (K1.out _ hb).mono ?_;rintro e V2 ⟨rfl,hb2⟩;refine Hid.out ?_)
 refine Lib.hid ?_
 replace hb:=hb.trans (hb2.mono hb.size)
 clear hb2 l0 l1 K1 c1 g1
 obtain⟨⟨i0,i1⟩,-,-⟩:=HV2.out V2 hb
 have c2:=cellC i0 2 rfl
 have g2:=cellC i1 2 rfl
 have c3:=cellC i0 3 rfl
 have g3:=cellC i1 3 rfl
 have l0:=lt1 i0
 have l1:=lt1 i1
 clear i0 i1
 go_wp2_with (go_at_call 37;refine (K2.out _ hb).mono ?_;rintro e V3 ⟨rfl,hb2⟩;refine Hid.out ?_)
 refine Lib.hid ?_
 replace hb:=hb.trans (hb2.mono hb.size)
 clear hb2 l0 l1 K2 c2 g2 c3 g3
 obtain⟨⟨i0,i1⟩,-,-⟩:=HV2.out V3 hb
 have c4:=cellC i0 4 rfl
 have g4:=cellC i1 4 rfl
 have l0:=lt1 i0
 have l1:=lt1 i1
 clear i0 i1
 go_wp2_with (go_at_call 35;refine (K3.out _ hb).mono ?_;rintro e V4 ⟨rfl,hb2⟩;refine Hid.out ?_)
 refine Lib.hid ?_
 replace hb:=hb.trans (hb2.mono hb.size)
 clear hb2 l0 l1 K3 c4 g4
 obtain⟨⟨i0,i1⟩,-,-⟩:=HV2.out V4 hb
 have c5:=cellC i0 5 rfl
 have g5:=cellC i1 5 rfl
 have l0:=lt1 i0
 have l1:=lt1 i1
 clear i0 i1
 go_wp2_with (go_at_call 38;refine (K4.out _ hb).mono ?_;rintro e V5 ⟨rfl,hb2⟩;refine Hid.out ?_)
 refine Lib.hid ?_
 replace hb:=hb.trans (hb2.mono hb.size)
 clear hb2 l0 l1 K4 c5 g5
 obtain⟨⟨i0,i1⟩,-,-⟩:=HV2.out V5 hb
 have c6:=cellC i0 6 rfl
 have g6:=cellC i1 6 rfl
 have l0:=lt1 i0
 have l1:=lt1 i1
 clear i0 i1
 go_wp2_with (go_at_call 39;refine (K5.out _ hb).mono ?_;rintro e V6 ⟨rfl,hb2⟩;refine Hid.out ?_)
 refine Lib.hid ?_
 replace hb:=hb.trans (hb2.mono hb.size)
 clear hb2 l0 l1 K5 c6 g6
 obtain⟨⟨i0,i1⟩,-,-⟩:=HV2.out V6 hb
 have c7:=cellC i0 7 rfl
 have g7:=cellC i1 7 rfl
 have l0:=lt1 i0
 have l1:=lt1 i1
 clear i0 i1
 go_wp2_with (go_at_call 40;refine (K6.out _ hb).mono ?_;rintro e V7 ⟨rfl,hb2⟩)
 replace hb:=hb.trans (hb2.mono hb.size)
 clear hb2 l0 l1 K6 c7 g7
 go_ret
 exact⟨rfl,HO.out _ hb⟩
end Go.Proofs.YtebippbakbihiaaGreatDoor
