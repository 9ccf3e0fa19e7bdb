/-
  The reference's FarmStep, at a right farm: what Do is. The law FarmDoes: whatever the farm and the happening, it returns true.
-/
import Derived.Test.YtebippbakbihiaaGreatDoorRfS
import Derived.Test.YtebippbakbihiaaGreatDoorRefFmStepFinish
import Derived.Test.YtebippbakbihiaaGreatDoorRfT
import Derived.Test.YtebippbakbihiaaGreatDoorFmFa
import Derived.Test.YtebippbakbihiaaGreatDoorRefFmCheck
set_option maxHeartbeats 16000000
set_option maxRecDepth 100000
namespace Go.Proofs.YtebippbakbihiaaGreatDoor
open Go Go.RowKit
set_option linter.unusedVariables false
theorem step_pair (p:M.Farm × Int):(if p.2=0 then p else (M.farm0,p.2))=(if p.2=0 then p.1 else M.farm0,p.2):=by
 by_cases h:p.2=0
 ·rw[if_pos h,if_pos h]
 ·rw[if_neg h,if_neg h]
theorem step_form {f:M.Farm} (hok:M.FarmOk f) (x:M.Hap) {p:M.Farm × Int} (hp:M.happen f x=p):M.step f x=(if p.2=0 then p.1 else M.farm0,p.2):=by
 rw[M.step,if_pos ((M.farm_iff f).2 hok),hp,step_pair]
theorem rstep_any (f:M.Farm) (x:Fd) (w:World) (hf:FarmAt w f x) (hok:M.FarmOk f) (kd wk kk:Int) :
  Calls Tryz.prog 13 #[.agg (qm f x),.agg #[iv kd,iv wk,iv kk]] w (StepTo w (M.step f ⟨kd,wk,kk⟩).1 (M.step f ⟨kd,wk,kk⟩).2):=by
 by_cases kA:kd=1∨kd=2∨kd=7
 ·cases hin:M.inR wk 0 ((f.work.length:Int) - 1) with
  | false =>
   have hp:M.happen f ⟨kd,wk,kk⟩=(f,5):=by rw[M.happen,if_pos kA,M.happenAt];simp only[hin];rfl
   rw[step_form hok _ hp,if_neg (by show ¬ (5:Int)=0;decide)]
   exact rstep_who f x w hf hok kd wk kk kA hin
  | true =>
   have hi:=(M.inR_iff _ _ _).1 hin
   obtain⟨wn,rfl⟩:∃ n:Nat,wk=n:=⟨wk.toNat,by omega⟩
   have hw:wn<f.work.length:=by omega
   rcases kA with rfl | rfl | rfl
   ·have hp:M.happen f ⟨1,wn,kk⟩=M.give f wn:=by rw[M.happen,if_pos (.inl rfl),M.happenAt];simp only[hin];rfl
    rw[step_form hok _ hp]
    exact rstep_give f x w hf hok wn kk hw
   ·have hp:M.happen f ⟨2,wn,kk⟩=M.finish f wn:=by rw[M.happen,if_pos (.inr (.inl rfl)),M.happenAt];simp only[hin];rfl
    rw[step_form hok _ hp]
    exact rstep_finish f x w hf hok wn kk hw
   ·have hp:M.happen f ⟨7,wn,kk⟩=(M.idled f wn,0):=by rw[M.happen,if_pos (.inr (.inr rfl)),M.happenAt];simp only[hin];rfl
    rw[step_form hok _ hp,if_pos rfl]
    exact rstep_fall f x w hf hok wn kk hw
 by_cases kT:kd=3∨kd=4∨kd=5
 ·cases hin:M.inR kk 0 ((f.net.length:Int) - 1) with
  | false =>
   have hp:M.happen f ⟨kd,wk,kk⟩=(f,5):=by rw[M.happen,if_neg kA,if_pos kT,M.happenTo];simp only[hin];rfl
   rw[step_form hok _ hp,if_neg (by show ¬ (5:Int)=0;decide)]
   exact rstep_which f x w hf hok kd wk kk kT hin
  | true =>
   have hi:=(M.inR_iff _ _ _).1 hin
   obtain⟨kn,rfl⟩:∃ n:Nat,kk=n:=⟨kk.toNat,by omega⟩
   have hw:kn<f.net.length:=by omega
   rcases kT with rfl | rfl | rfl
   ·have hp:M.happen f ⟨3,wk,kn⟩=(M.arriveM (M.taken f kn) (f.net.getD kn M.msg0),0):=by rw[M.happen,if_neg kA,if_pos (.inl rfl),M.happenTo];simp only[hin];rfl
    rw[step_form hok _ hp,if_pos rfl]
    exact rstep_arrive f x w hf hok wk kn hw
   ·have hp:M.happen f ⟨4,wk,kn⟩=(M.taken f kn,0):=by rw[M.happen,if_neg kA,if_pos (.inr (.inl rfl)),M.happenTo];simp only[hin];rfl
    rw[step_form hok _ hp,if_pos rfl]
    exact rstep_lose f x w hf hok wk kn hw
   ·have hp:M.happen f ⟨5,wk,kn⟩=if 20≤f.net.length then (f,10) else ({ f with net:=f.net ++ [f.net.getD kn M.msg0] },0):=by rw[M.happen,if_neg kA,if_pos (.inr (.inr rfl)),M.happenTo];simp only[hin];rfl
    have h2:=rstep_double f x w hf hok wk kn hw
    by_cases h20:20≤f.net.length
    ·rw[if_pos h20] at hp
     rw[if_pos h20,if_pos h20] at h2
     rw[step_form hok _ hp,if_neg (by show ¬ (10:Int)=0;decide)]
     exact h2
    ·rw[if_neg h20] at hp
     rw[if_neg h20,if_neg h20] at h2
     rw[step_form hok _ hp,if_pos rfl]
     exact h2
 by_cases k6:kd=6
 ·subst k6
  have hp:M.happen f ⟨6,wk,kk⟩=if f.now=65536 then (f,10) else ({ f with now:=f.now+1 },0):=by rw[M.happen,if_neg kA,if_neg kT,if_pos rfl]
  have h2:=rstep_tick f x w hf hok wk kk
  by_cases hn:f.now=65536
  ·rw[if_pos hn] at hp
   rw[if_pos hn,if_pos hn] at h2
   rw[step_form hok _ hp,if_neg (by show ¬ (10:Int)=0;decide)]
   exact h2
  ·rw[if_neg hn] at hp
   rw[if_neg hn,if_neg hn] at h2
   rw[step_form hok _ hp,if_pos rfl]
   exact h2
 by_cases k8:kd=8
 ·subst k8
  have hp:M.happen f ⟨8,wk,kk⟩=({ f with grants:=List.replicate f.grants.length M.grt0 },0):=by rw[M.happen,if_neg kA,if_neg kT,if_neg k6,if_pos rfl]
  rw[step_form hok _ hp,if_pos rfl]
  exact rstep_again f x w hf hok wk kk
 have hp:M.happen f ⟨kd,wk,kk⟩=(f,4):=by rw[M.happen,if_neg kA,if_neg kT,if_neg k6,if_neg k8]
 rw[step_form hok _ hp,if_neg (by show ¬ (4:Int)=0;decide)]
 exact rstep_else f x w hf hok kd wk kk (by simp;omega) (by simp;omega) (by simp;omega) (by simp;omega) (by simp;omega) (by simp;omega) (by simp;omega) (by simp;omega)
end Go.Proofs.YtebippbakbihiaaGreatDoor
namespace Go.Proofs.YtebippbakbihiaaGreatDoor
open Go Go.RowKit
set_option linter.unusedVariables false
attribute [local go_sem] lat_cell
theorem does_law (f:M.Farm) (x:Fd) (kd wk kk:Int) (w:World) (hf:FarmAt w f x) (hroom:FarmRoom f) :
  Calls Tryz.prog 3 #[.agg (qm f x),.agg #[iv kd,iv wk,iv kk]] w fun e w'=>e=.returned (.bool true)∧Below w.heap.size w w':=by
 have hA:Below w.heap.size w ((w.alloc (.cells (qm f x) 29)).alloc (.cells #[iv kd,iv wk,iv kk] 31)):=((Below.refl _ _).alloc (Nat.le_refl _) _).alloc (by simp) _
 have h0:=(heap_alloc_old (w.alloc (.cells (qm f x) 29)) (.cells #[iv kd,iv wk,iv kk] 31) (by simp)).trans (heap_alloc_new w (.cells (qm f x) 29))
 have h1:=heap_alloc_new (w.alloc (.cells (qm f x) 29)) (.cells #[iv kd,iv wk,iv kk] 31)
 rw[show (w.alloc (.cells (qm f x) 29)).heap.size=w.heap.size+1 by simp] at h1
 have KO:Hid (∀ W,FarmAt W f x→Calls Tryz.prog 5 #[.agg (qm f x)] W fun e w'=>Below W.heap.size W w'∧∃ y o,e=.returned (.agg (qm f y))∧FmR W.heap.size w' f y o):=fun W h=>ownFarm_any f x W h hroom
 have KFm:Hid (∀ W,Calls Tryz.prog 9 #[] W fun e w'=>e=.returned (.bool true)∧Below W.heap.size W w'):=fun W=>farmed_true W
 clear hroom
 go_enter Tryz.func3,Tryz.ntmps3
 go_upto_region 1 with fail
 generalize ((w.alloc (.cells (qm f x) 29)).alloc (.cells #[iv kd,iv wk,iv kk] 31))=V0 at *
 obtain⟨b,hb⟩:∃ b,b=w.heap.size:=⟨_,rfl⟩
 rw[← hb] at h0 h1 ⊢
 have HV0:Hid (∀ W,Below V0.heap.size V0 W→(W.heap[b]?=some (.cells (qm f x) 29 (0,0))∧W.heap[b+1]?=some (.cells #[iv kd,iv wk,iv kk] 31 (0,0)))∧FarmAt W f x∧Below w.heap.size w W):=fun W hW=>by
  have h2:=hA.trans (hW.mono hA.size)
  exact⟨⟨(hW.block _ (lt1 h0)).trans h0,(hW.block _ (lt1 h1)).trans h1⟩,hf.later h2,h2⟩
 clear hf hA hb h1
 have c0:=cellC h0 0 rfl
 have c1:=cellC h0 1 rfl
 have c2:=cellC h0 2 rfl
 have c3:=cellC h0 3 rfl
 have c4:=cellC h0 4 rfl
 have c5:=cellC h0 5 rfl
 have c6:=cellC h0 6 rfl
 have c7:=cellC h0 7 rfl
 have cl:=lt1 h0
 have KO1:Hid (Calls Tryz.prog 5 #[.agg (qm f x)] V0 fun e w'=>Below V0.heap.size V0 w'∧∃ y o,e=.returned (.agg (qm f y))∧FmR V0.heap.size w' f y o):=KO.out V0 (HV0.out V0 (Below.refl _ _)).2.1
 clear KO
 go_upto_region 2 with (go_at_call 5;refine KO1.out.mono ?_;rintro e X1 ⟨hb1,y,o,rfl,hR1⟩)
 have hA1:Below X1.heap.size X1 (X1.alloc (.cells (qm f y) 29)):=(Below.refl _ _).alloc (Nat.le_refl _) _
 have hn:=heap_alloc_new X1 (.cells (qm f y) 29)
 have HV2:Hid (∀ W,Below (X1.alloc (.cells (qm f y) 29)).heap.size (X1.alloc (.cells (qm f y) 29)) W→(W.heap[b]?=some (.cells (qm f x) 29 (0,0))∧W.heap[b+1]?=some (.cells #[iv kd,iv wk,iv kk] 31 (0,0))∧W.heap[X1.heap.size]?=some (.cells (qm f y) 29 (0,0)))∧(FarmAt W f x∧FarmAt W f y)∧Below w.heap.size w W):=fun W hW=>by
  have h2:=hA1.trans (hW.mono hA1.size)
  obtain⟨h3,h4,h5⟩:=HV0.out W (hb1.trans (h2.mono hb1.size))
  exact⟨⟨h3.1,h3.2,(hW.block _ (lt1 hn)).trans hn⟩,⟨h4,hR1.at.later h2⟩,h5⟩
 clear HV0 KO1 hb1 hR1 hA1 hn h0
 clear c0 c1 c2 c3 c4 c5 c6 c7 cl
 generalize (X1.alloc (.cells (qm f y) 29))=V2 at *
 generalize X1.heap.size=n5 at *
 clear X1 V0
 obtain⟨⟨i0,i1,i5⟩,⟨fa,fb⟩,-⟩:=HV2.out V2 (Below.refl _ _)
 have c0:=cellC i5 0 rfl
 have c1:=cellC i5 1 rfl
 have c2:=cellC i5 2 rfl
 have c3:=cellC i5 3 rfl
 have c4:=cellC i5 4 rfl
 have c5:=cellC i5 5 rfl
 have c6:=cellC i5 6 rfl
 have c7:=cellC i5 7 rfl
 have cl:=lt1 i5
 have q0:=cellC i1 0 rfl
 have q1:=cellC i1 1 rfl
 have q2:=cellC i1 2 rfl
 have ql:=lt1 i1
 have KD:Hid (Calls Tryz.prog 6 #[.agg (qm f y),.agg #[iv kd,iv wk,iv kk]] V2 fun e w'=>Below V2.heap.size V2 w'∧∃ z,e=.returned (.tuple #[.agg #[sv z.p (M.step f ⟨kd,wk,kk⟩).1.parts.length z.pc,sv z.l (M.step f ⟨kd,wk,kk⟩).1.plan.length z.lc,iv (M.step f ⟨kd,wk,kk⟩).1.now,sv z.d (M.step f ⟨kd,wk,kk⟩).1.done.length z.dc,sv z.h (M.step f ⟨kd,wk,kk⟩).1.got.length z.hc,sv z.g (M.step f ⟨kd,wk,kk⟩).1.grants.length z.gc,sv z.k (M.step f ⟨kd,wk,kk⟩).1.work.length z.kc,sv z.n (M.step f ⟨kd,wk,kk⟩).1.net.length z.nc],iv (M.step f ⟨kd,wk,kk⟩).2])∧FarmAt w' (M.step f ⟨kd,wk,kk⟩).1 z):=(do_any f y V2 fb kd wk kk).mono fun e w' ⟨g1,z,g2,g3,_⟩=>⟨g1,z,g2,g3⟩
 have HSt:Hid (M.step f ⟨kd,wk,kk⟩=if M.checkFarm f=0 then (if (M.happen f ⟨kd,wk,kk⟩).2=0 then M.happen f ⟨kd,wk,kk⟩ else (M.farm0,(M.happen f ⟨kd,wk,kk⟩).2)) else (M.farm0,M.checkFarm f)):=rfl
 have KS:Hid (∀ W,FarmAt W f x→M.FarmOk f→Calls Tryz.prog 13 #[.agg (qm f x),.agg #[iv kd,iv wk,iv kk]] W (StepTo W (M.step f ⟨kd,wk,kk⟩).1 (M.step f ⟨kd,wk,kk⟩).2)):=fun W h ok=>rstep_any f x W h ok kd wk kk
 generalize M.step f ⟨kd,wk,kk⟩=S at *
 obtain⟨sf,se⟩:=S
 simp only at KD KS
 clear fa fb i0 i1 i5
 go_upto_region 3 with (go_at_call 6;refine KD.out.mono ?_;rintro e X3 ⟨hb3,z,rfl,hR3⟩)
 have hA3:Below X3.heap.size X3 (X3.alloc (.cells (qm sf z) 29)):=(Below.refl _ _).alloc (Nat.le_refl _) _
 have hn:=heap_alloc_new X3 (.cells (qm sf z) 29)
 have HV4:Hid (∀ W,Below (X3.alloc (.cells (qm sf z) 29)).heap.size (X3.alloc (.cells (qm sf z) 29)) W→(W.heap[b]?=some (.cells (qm f x) 29 (0,0))∧W.heap[b+1]?=some (.cells #[iv kd,iv wk,iv kk] 31 (0,0))∧W.heap[n5]?=some (.cells (qm f y) 29 (0,0))∧W.heap[X3.heap.size]?=some (.cells (qm sf z) 29 (0,0)))∧(FarmAt W f x∧FarmAt W f y∧FarmAt W sf z)∧Below w.heap.size w W):=fun W hW=>by
  have h2:=hA3.trans (hW.mono hA3.size)
  obtain⟨h3,h4,h5⟩:=HV2.out W (hb3.trans (h2.mono hb3.size))
  exact⟨⟨h3.1,h3.2.1,h3.2.2,(hW.block _ (lt1 hn)).trans hn⟩,⟨h4.1,h4.2,hR3.later h2⟩,h5⟩
 clear HV2 KD hb3 hR3 hA3 hn
 clear c0 c1 c2 c3 c4 c5 c6 c7 cl
 clear q0 q1 q2 ql
 generalize (X3.alloc (.cells (qm sf z) 29))=V4 at *
 generalize X3.heap.size=n6 at *
 clear X3 V2
 obtain⟨⟨i0,i1,i5,i6⟩,⟨fa,fb,fc⟩,-⟩:=HV4.out V4 (Below.refl _ _)
 have c0:=cellC i5 0 rfl
 have c1:=cellC i5 1 rfl
 have c2:=cellC i5 2 rfl
 have c3:=cellC i5 3 rfl
 have c4:=cellC i5 4 rfl
 have c5:=cellC i5 5 rfl
 have c6:=cellC i5 6 rfl
 have c7:=cellC i5 7 rfl
 have cl:=lt1 i5
 have KU:Hid (Calls Tryz.prog 7 #[.agg (qm f y)] V4 fun e w'=>Below V4.heap.size V4 w'∧∃ x1 y1 x2 y2,e=.returned (.tuple #[.agg #[sv x1 (M.outcome f).frags.length y1,sv x2 (M.outcome f).defs.length y2],iv (M.outcomeE f)])∧FragsAt w' (sv x1 (M.outcome f).frags.length y1) (M.outcome f).frags∧DefsAt w' (sv x2 (M.outcome f).defs.length y2) (M.outcome f).defs):=outcome_any f y V4 fb
 have HOe:Hid (M.outcomeE f=M.orE (M.checkFarm f) (if f.done.getD (f.plan.length - 1) false=true then 0 else 11)):=rfl
 have HOp:Hid (M.outcome f=if M.outcomeE f=0 then f.got.getD (f.plan.length - 1) M.nil else M.nil):=rfl
 generalize M.outcome f=po at *
 generalize M.outcomeE f=oe at *
 clear fa fb fc i0 i1 i5 i6
 go_upto_region 4 with (go_at_call 7;refine KU.out.mono ?_;rintro e X5 ⟨hb5,p1,k1,p2,k2,rfl,hF5,hD5⟩)
 have hA5:Below X5.heap.size X5 (X5.alloc (.cells #[sv p1 po.frags.length k1,sv p2 po.defs.length k2] 39)):=(Below.refl _ _).alloc (Nat.le_refl _) _
 have hn:=heap_alloc_new X5 (.cells #[sv p1 po.frags.length k1,sv p2 po.defs.length k2] 39)
 have HV6:Hid (∀ W,Below (X5.alloc (.cells #[sv p1 po.frags.length k1,sv p2 po.defs.length k2] 39)).heap.size (X5.alloc (.cells #[sv p1 po.frags.length k1,sv p2 po.defs.length k2] 39)) W→(W.heap[b]?=some (.cells (qm f x) 29 (0,0))∧W.heap[b+1]?=some (.cells #[iv kd,iv wk,iv kk] 31 (0,0))∧W.heap[n5]?=some (.cells (qm f y) 29 (0,0))∧W.heap[n6]?=some (.cells (qm sf z) 29 (0,0))∧W.heap[X5.heap.size]?=some (.cells #[sv p1 po.frags.length k1,sv p2 po.defs.length k2] 39 (0,0)))∧(FarmAt W f x∧FarmAt W f y∧FarmAt W sf z)∧(FragsAt W (sv p1 po.frags.length k1) po.frags∧DefsAt W (sv p2 po.defs.length k2) po.defs)∧Below w.heap.size w W):=fun W hW=>by
  have h2:=hA5.trans (hW.mono hA5.size)
  obtain⟨h3,h4,h5⟩:=HV4.out W (hb5.trans (h2.mono hb5.size))
  exact⟨⟨h3.1,h3.2.1,h3.2.2.1,h3.2.2.2,(hW.block _ (lt1 hn)).trans hn⟩,h4,⟨hF5.later h2,hD5.later h2⟩,h5⟩
 clear HV4 KU hb5 hF5 hD5 hA5 hn
 clear c0 c1 c2 c3 c4 c5 c6 c7 cl
 generalize (X5.alloc (.cells #[sv p1 po.frags.length k1,sv p2 po.defs.length k2] 39))=V6 at *
 generalize X5.heap.size=n8 at *
 clear X5 V4
 obtain⟨⟨i0,i1,i5,i6,i8⟩,⟨fa,fb,fc⟩,⟨pF,pD⟩,-⟩:=HV6.out V6 (Below.refl _ _)
 have c0:=cellC i0 0 rfl
 have c1:=cellC i0 1 rfl
 have c2:=cellC i0 2 rfl
 have c3:=cellC i0 3 rfl
 have c4:=cellC i0 4 rfl
 have c5:=cellC i0 5 rfl
 have c6:=cellC i0 6 rfl
 have c7:=cellC i0 7 rfl
 have cl:=lt1 i0
 have KC:Hid (Calls Tryz.prog 8 #[.agg (qm f x)] V6 fun e w'=>e=.returned (iv (M.checkFarm f))∧Below V6.heap.size V6 w'):=rcheckFarm_any f x V6 fa
 have KK:Hid (∀ W,Below V6.heap.size V6 W→Calls Tryz.prog 10 #[.agg (qm f x)] W fun e w'=>e=.returned (iv (M.checkFarm f))∧Below W.heap.size W w'):=fun W hW=>farmCheck_any f x W (HV6.out W hW).2.1.1
 have KY:Hid (∀ W,Below V6.heap.size V6 W→Calls Tryz.prog 11 #[.agg (qm f y),.agg (qm f x)] W fun e w'=>e=.returned (.bool true)∧Below W.heap.size W w'):=fun W hW=>sameFarm_self f y x W (HV6.out W hW).2.1.2.1 (HV6.out W hW).2.1.1
 have HCk:Hid (M.checkFarm f=0→M.FarmOk f):=fun h=>(M.farm_iff f).1 h
 generalize M.checkFarm f=cf at *
 clear fa fb fc pF pD i0 i1 i5 i6 i8
 go_upto_region 5 with (go_at_call 8;refine KC.out.mono ?_;rintro e V7 ⟨rfl,hb7⟩)
 clear KC
 clear c0 c1 c2 c3 c4 c5 c6 c7 cl
 go_upto_region 7 with (first
  | (go_at_call 9;refine (KFm.out _).mono ?_;rintro e V8 ⟨rfl,hb8⟩;have hc8:=hb7.trans (hb8.mono hb7.size);have ci:=(HV6.out V8 hc8).1.1;have c0:=cellC ci 0 rfl;have c1:=cellC ci 1 rfl;have c2:=cellC ci 2 rfl;have c3:=cellC ci 3 rfl;have c4:=cellC ci 4 rfl;have c5:=cellC ci 5 rfl;have c6:=cellC ci 6 rfl;have c7:=cellC ci 7 rfl;have cl:=lt1 ci;clear ci)
  | (go_at_call 10;refine (KK.out _ hc8).mono ?_;rintro e V9 ⟨rfl,hb9⟩;have hc9:=hc8.trans (hb9.mono hc8.size);clear c0 c1 c2 c3 c4 c5 c6 c7 cl;have ci:=(HV6.out V9 hc9).1.1;have c0:=cellC ci 0 rfl;have c1:=cellC ci 1 rfl;have c2:=cellC ci 2 rfl;have c3:=cellC ci 3 rfl;have c4:=cellC ci 4 rfl;have c5:=cellC ci 5 rfl;have c6:=cellC ci 6 rfl;have c7:=cellC ci 7 rfl;have cl:=lt1 ci;clear ci;have di:=(HV6.out V9 hc9).1.2.2.1;have d0:=cellC di 0 rfl;have d1:=cellC di 1 rfl;have d2:=cellC di 2 rfl;have d3:=cellC di 3 rfl;have d4:=cellC di 4 rfl;have d5:=cellC di 5 rfl;have d6:=cellC di 6 rfl;have d7:=cellC di 7 rfl;have dl:=lt1 di;clear di)
  | (go_at_call 11;refine (KY.out _ hc9).mono ?_;rintro e V10 ⟨rfl,hb10⟩;have hc10:=hc9.trans (hb10.mono hc9.size)))
 clear KFm KK KY hb7 hb8 hb9 hb10 hc8 hc9
 clear c0 c1 c2 c3 c4 c5 c6 c7 cl
 clear d0 d1 d2 d3 d4 d5 d6 d7 dl
 clear V7 V8 V9
 by_cases hcf:cf=0
 ·subst hcf
  have hok:=HCk.out rfl
  have HOk:Hid (M.FarmOk f):=hok
  clear HCk
  have hn0:0<f.plan.length:=(check_ok hok.plan).2.2.1
  have hdl:=hok.done
  have hgl:=hok.got
  have Hln:Hid (f.done.length=f.plan.length∧f.got.length=f.plan.length∧0<f.plan.length):=⟨hdl,hgl,hn0⟩
  have hlm:f.plan.length≤23:=(check_ok hok.plan).2.1
  clear hdl hgl hok
  have ci:=(HV6.out V10 hc10).1.1
  have c0:=cellC ci 0 rfl
  have c1:=cellC ci 1 rfl
  have c2:=cellC ci 2 rfl
  have c3:=cellC ci 3 rfl
  have c4:=cellC ci 4 rfl
  have c5:=cellC ci 5 rfl
  have c6:=cellC ci 6 rfl
  have c7:=cellC ci 7 rfl
  have cl:=lt1 ci
  clear ci
  have qi:=(HV6.out V10 hc10).1.2.1
  have q0:=cellC qi 0 rfl
  have q1:=cellC qi 1 rfl
  have q2:=cellC qi 2 rfl
  have ql:=lt1 qi
  clear qi
  have KS1:Hid (Calls Tryz.prog 13 #[.agg (qm f x),.agg #[iv kd,iv wk,iv kk]] V10 (StepTo V10 sf se)):=KS.out V10 (HV6.out V10 hc10).2.1.1 HOk.out
  clear KS
  go_upto_region 10 with (go_at_call 13;refine KS1.out.mono ?_;rintro e X12 ⟨hb12,u,rfl,hU⟩)
  have hA12:Below X12.heap.size X12 (X12.alloc (.cells (qm sf u) 29)):=(Below.refl _ _).alloc (Nat.le_refl _) _
  have hn:=heap_alloc_new X12 (.cells (qm sf u) 29)
  have hc12:=hc10.trans ((hb12.trans (hA12.mono hb12.size)).mono hc10.size)
  have HVU:Hid (∀ W,Below (X12.alloc (.cells (qm sf u) 29)).heap.size (X12.alloc (.cells (qm sf u) 29)) W→W.heap[X12.heap.size]?=some (.cells (qm sf u) 29 (0,0))∧FarmAt W sf u):=fun W hW=>⟨(hW.block _ (lt1 hn)).trans hn,hU.later (hA12.trans (hW.mono hA12.size))⟩
  clear KS1 hb12 hU hA12 hn hc10
  clear c0 c1 c2 c3 c4 c5 c6 c7 cl
  clear q0 q1 q2 ql
  generalize (X12.alloc (.cells (qm sf u) 29))=V13 at *
  generalize X12.heap.size=n11 at *
  clear X12 V10
  have ui:=(HVU.out V13 (Below.refl _ _)).1
  have u0:=cellC ui 0 rfl
  have u1:=cellC ui 1 rfl
  have u2:=cellC ui 2 rfl
  have u3:=cellC ui 3 rfl
  have u4:=cellC ui 4 rfl
  have u5:=cellC ui 5 rfl
  have u6:=cellC ui 6 rfl
  have u7:=cellC ui 7 rfl
  have ul:=lt1 ui
  clear ui
  have gi:=(HV6.out V13 hc12).1.2.2.2.1
  have g0:=cellC gi 0 rfl
  have g1:=cellC gi 1 rfl
  have g2:=cellC gi 2 rfl
  have g3:=cellC gi 3 rfl
  have g4:=cellC gi 4 rfl
  have g5:=cellC gi 5 rfl
  have g6:=cellC gi 6 rfl
  have g7:=cellC gi 7 rfl
  have gl:=lt1 gi
  clear gi
  have KY1:Hid (Calls Tryz.prog 11 #[.agg (qm sf z),.agg (qm sf u)] V13 fun e w'=>e=.returned (.bool true)∧Below V13.heap.size V13 w'):=sameFarm_self sf z u V13 (HV6.out V13 hc12).2.1.2.2 (HVU.out V13 (Below.refl _ _)).2
  go_upto_region 12 with (go_at_call 11;refine KY1.out.mono ?_;rintro e V14 ⟨rfl,hb14⟩)
  have hc14:=hc12.trans (hb14.mono hc12.size)
  clear KY1 hb14 hc12 HVU u0 u1 u2 u3 u4 u5 u6 u7 ul HSt
  clear g0 g1 g2 g3 g4 g5 g6 g7 gl
  clear V13
  obtain⟨n,hnp⟩:∃ n,f.plan.length=n+1:=⟨f.plan.length - 1,by omega⟩
  have hn1:f.plan.length - 1=n:=by omega
  have Hnp:Hid (f.plan.length=n+1):=hnp
  rw[hn1] at HOe HOp
  have hnd:n<f.done.length:=by rw[Hln.out.1];omega
  have hng:n<f.got.length:=by rw[Hln.out.2.1];omega
  obtain⟨db,dof,hd0,dl,ld⟩:=(HV6.out V14 hc14).2.1.1.done.cell n hnd
  obtain⟨gb,gof,z1,w1,z2,w2,hg0,e0,e1,gF,gD⟩:=(HV6.out V14 hc14).2.1.1.got.cells n hng
  have ci:=(HV6.out V14 hc14).1.1
  have c1:V14.cell? (qa b 1)=some (sv x.l (n+1) x.lc):=by rw[← hnp];exact cellB ci 1
  have c3:V14.cell? (qa b 3)=some (sv (some (qa db dof)) f.done.length x.dc):=by rw[← hd0];exact cellB ci 3
  have c4:V14.cell? (qa b 4)=some (sv (some (qa gb gof)) f.got.length x.hc):=by rw[← hg0];exact cellB ci 4
  have cl:=lt1 ci
  have hdI:(n:Int)<(f.done.length:Int):=by omega
  have hgI:(n:Int)<(f.got.length:Int):=by omega
  have hwr:wrap64 (n:Int)=(n:Int):=by unfold wrap64;omega
  have Hg:Hid (∀ W,Below V14.heap.size V14 W→FragsAt W (sv z1 (f.got.getD n M.nil).frags.length w1) (f.got.getD n M.nil).frags∧DefsAt W (sv z2 (f.got.getD n M.nil).defs.length w2) (f.got.getD n M.nil).defs):=fun W hW=>⟨gF.later hW,gD.later hW⟩
  clear ci hnp hn1 hn0 hnd hng gF gD hd0 hg0 hlm
  have ppi:=(HV6.out V14 hc14).1.2.2.2.2
  have pp0:=cellC ppi 0 rfl
  have pp1:=cellC ppi 1 rfl
  have ppl:=lt1 ppi
  clear ppi
  cases hdv:f.done.getD n false with
  | false =>
   rw[hdv] at dl
   obtain rfl:oe=11:=by have:=HOe.out;rw[hdv] at this;exact this
   obtain rfl:po=M.nil:=by have:=HOp.out;rw[if_neg (by decide)] at this;exact this
   clear HOe HOp hdv
   have KP1:Hid (Calls Tryz.prog 12 #[.agg #[sv p1 M.nil.frags.length k1,sv p2 M.nil.defs.length k2],.agg #[sv none 0 0,sv none 0 0]] V14 fun e w'=>e=.returned (.bool true)∧Below V14.heap.size V14 w'):=by
    have:=rsame_any M.nil.frags M.nil.frags M.nil.defs M.nil.defs p1 p2 none none k1 k2 0 0 V14 (HV6.out V14 hc14).2.2.1.1 (HV6.out V14 hc14).2.2.1.2 (nil_at V14).1 (nil_at V14).2
    rw[same_selfP ⟨_,_⟩] at this
    exact this
   go_wp2_with (go_at_call 12;refine KP1.out.mono ?_;rintro e V15 ⟨rfl,hb15⟩)
   go_ret
   exact⟨rfl,(HV6.out V15 (hc14.trans (hb15.mono hc14.size))).2.2.2⟩
  | true =>
   rw[hdv] at dl
   obtain rfl:oe=0:=by have:=HOe.out;rw[hdv] at this;exact this
   have hpo:po=f.got.getD n M.nil:=by have:=HOp.out;rw[if_pos rfl] at this;exact this
   rw[← hpo] at e0 e1 Hg
   clear HOe HOp hdv hpo
   have KP1:Hid (∀ W,Below V14.heap.size V14 W→Calls Tryz.prog 12 #[.agg #[sv p1 po.frags.length k1,sv p2 po.defs.length k2],.agg #[sv z1 po.frags.length w1,sv z2 po.defs.length w2]] W fun e w'=>e=.returned (.bool true)∧Below W.heap.size W w'):=fun W hW=>by
    have hV:=HV6.out W (hc14.trans (hW.mono hc14.size))
    have:=rsame_any po.frags po.frags po.defs po.defs p1 p2 z1 z2 k1 k2 w1 w2 W hV.2.2.1.1 hV.2.2.1.2 (Hg.out W hW).1 (Hg.out W hW).2
    rw[same_selfP ⟨_,_⟩] at this
    exact this
   have lgb:gb<V14.heap.size:=World.block_lt_of_cell? _ _ e0
   go_upto_region 15 with fail
   refine wp_region_lat (by kernel_rfl) (by kernel_rfl) ?_
   intro hne
   repeat (go_big_quiet_step ((go_at_call 12;exact lat_of (KP1.out _ (Lat.below _)))))
   refine wpQuiet_nil ?_
   intro V15 hV
   have hV:=lat_out hV
   have HEnd:Hid (Below w.heap.size w V15):=(HV6.out V15 (hc14.trans (hV.mono hc14.size))).2.2.2
   clear hne hV
   go_wp2_with fail
   go_ret
   exact⟨rfl,HEnd.out⟩
 ·have hcb:(cf !=0)=true:=by simpa using hcf
  obtain⟨rfl,hse⟩:sf=M.farm0∧se=cf:=by have:=HSt.out;rw[if_neg hcf] at this;cases this;exact⟨rfl,rfl⟩
  have hoe:oe=cf:=by have:=HOe.out;rw[M.orE,if_neg hcf] at this;exact this
  have hpo:po=M.nil:=by have:=HOp.out;rw[if_neg (by rw[hoe];exact hcf)] at this;exact this
  subst hse
  subst hoe
  subst hpo
  clear HSt HOe HOp HCk hcf KS
  have gi:=(HV6.out V10 hc10).1.2.2.2.1
  have g0:=cellC gi 0 rfl
  have g1:=cellC gi 1 rfl
  have g2:=cellC gi 2 rfl
  have g3:=cellC gi 3 rfl
  have g4:=cellC gi 4 rfl
  have g5:=cellC gi 5 rfl
  have g6:=cellC gi 6 rfl
  have g7:=cellC gi 7 rfl
  have gl:=lt1 gi
  clear gi
  have KY1:Hid (Calls Tryz.prog 11 #[.agg #[sv z.p M.farm0.parts.length z.pc,sv z.l M.farm0.plan.length z.lc,iv M.farm0.now,sv z.d M.farm0.done.length z.dc,sv z.h M.farm0.got.length z.hc,sv z.g M.farm0.grants.length z.gc,sv z.k M.farm0.work.length z.kc,sv z.n M.farm0.net.length z.nc],.agg qz] V10 fun e w'=>e=.returned (.bool true)∧Below V10.heap.size V10 w'):=sameFarm_self M.farm0 z fd0 V10 (HV6.out V10 hc10).2.1.2.2 (farm0_at V10)
  have KP1:Hid (∀ W,Below V6.heap.size V6 W→Calls Tryz.prog 12 #[.agg #[sv p1 M.nil.frags.length k1,sv p2 M.nil.defs.length k2],.agg #[sv none 0 0,sv none 0 0]] W fun e w'=>e=.returned (.bool true)∧Below W.heap.size W w'):=fun W hW=>by
   have:=rsame_any M.nil.frags M.nil.frags M.nil.defs M.nil.defs p1 p2 none none k1 k2 0 0 W (HV6.out W hW).2.2.1.1 (HV6.out W hW).2.2.1.2 (nil_at W).1 (nil_at W).2
   rw[same_selfP ⟨_,_⟩] at this
   exact this
  go_wp2_with (first
   | (go_at_call 11;refine KY1.out.mono ?_;rintro e V11 ⟨rfl,hb11⟩;have hc11:=hc10.trans (hb11.mono hc10.size);clear g0 g1 g2 g3 g4 g5 g6 g7 gl;have ppi:=(HV6.out V11 hc11).1.2.2.2.2;have pp0:=cellC ppi 0 rfl;have pp1:=cellC ppi 1 rfl;have ppl:=lt1 ppi;clear ppi)
   | (go_at_call 12;refine (KP1.out _ hc11).mono ?_;rintro e V12 ⟨rfl,hb12⟩;have hc12:=hc11.trans (hb12.mono hc11.size)))
  go_ret
  exact⟨rfl,(HV6.out V12 hc12).2.2.2⟩
end Go.Proofs.YtebippbakbihiaaGreatDoor
