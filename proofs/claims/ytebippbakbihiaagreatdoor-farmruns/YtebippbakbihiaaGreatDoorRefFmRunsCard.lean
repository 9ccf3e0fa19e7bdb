/-
  FarmRuns: for every farm, list of happenings, list of parts, list of nodes and number of workers the law returns true, and each reads behind the call as it read before. Condition: two of the library's tables (unicode/utf8's first and acceptRanges) hold when the call begins what the program's text lays; the card ties them to that text.
-/
import Derived.Test.YtebippbakbihiaaGreatDoorRfD
import Derived.Test.YtebippbakbihiaaGreatDoorOpX
import Derived.Test.YtebippbakbihiaaGreatDoorCards
import Derived.Test.YtebippbakbihiaaGreatDoorTie
import Derived.WalkKit
import Derived.ProofKit
import Derived.OpenShut
import Derived.Deep.DeepHandedRow
import Derived.Lib.LaidTab
namespace Go.Proofs.YtebippbakbihiaaGreatDoor.farmRuns
open Go.ChangeShapes Go.WideShapes Go.ChangeAt Go.RowKit
open Go.ChangeMaps (open_string)
set_option linter.unusedVariables false
theorem own:ownKnob Tryz.prog.godebug=none:=by kernel_rfl
theorem laidOut:laidOutB Tryz.prog=true:=by kernel_rfl
set_option maxRecDepth 100000 in
theorem contract (H:Type) (enc:TypeId × Value→H) (W:World) (base:Nat) (args:Array Value) (ds gs:List (DataW H)) (before:List MemPlace)
  (hval:∀ (j:Nat) t v,Tryz.f4.params[j]?=some t→args[j]?=some v→Value.okWide Tryz.prog W .any base t v)
  (hW:DataW.Whole enc Tryz.prog Tryz.f4.params.toList Rows.farmRunsSpec.vars false W args.toList ds gs before)
  (hz:∀ (j:Nat) t d,Tryz.f4.params.toList[j]?=some t→ds[j]?=some d→∀ m∈d.weights Tryz.prog t,m≤reachBytes) :
  Calls Tryz.prog 4 args W fun e W'=>∃ v,e=.returned v∧Rows.farmRunsSpec.post enc Tryz.prog Tryz.f4 false true false false W args v W':=by
 have hW':=hW
 obtain⟨p,q,hA0,hV,rfl,hfz,hnd⟩:=hW
 have hA:DataW.TrodAll enc Tryz.prog W 0 (fun _=>true) true Tryz.f4.params.toList args.toList ds p:=hA0
 rw[Tryz.params4] at hA hval hz
 obtain⟨v0,vs0,d0,ds0,p0,q0,hargs,rfl,rfl,h0,r0⟩:=trodAll_cons hA
 obtain⟨v1,vs1,d1,ds1,p1,q1,rfl,rfl,rfl,h1,r1⟩:=trodAll_cons r0
 obtain⟨v2,vs2,d2,ds2,p2,q2,rfl,rfl,rfl,h2,r2⟩:=trodAll_cons r1
 obtain⟨v3,vs3,d3,ds3,p3,q3,rfl,rfl,rfl,h3,r3⟩:=trodAll_cons r2
 obtain⟨v4,vs4,d4,ds4,p4,q4,rfl,rfl,rfl,h4,r4⟩:=trodAll_cons r3
 obtain⟨rfl,rfl,rfl⟩:=trodAll_nil r4
 obtain rfl:args=#[v0,v1,v2,v3,v4]:=by cases args;simp_all
 obtain⟨rfl,rfl⟩:=trodVars_none hV
 obtain⟨f,x,rfl,hF⟩:=farm_open (hval 0 29 v0 rfl rfl) h0
 obtain⟨ax1,nx1,cx1,rfl⟩:=okWide_slice Tryz.underlying47 (hval 1 47 v1 rfl rfl)
 obtain⟨fuel1,hf1⟩:=h1
 have h1:DataW.Trod enc Tryz.prog W 0 (fun _=>true) true 47 (.slice ax1 nx1 cx1) d1 p1:=⟨fuel1,hf1⟩
 obtain⟨bs1,a1,c1,hsl1,hB1⟩:=haps_open (v:=sv ax1 nx1 cx1) (by simpa [Value.cells] using hf1)
 obtain⟨rfl,rfl,rfl⟩:ax1=a1∧nx1=bs1.length∧cx1=c1:=by cases hsl1;exact⟨rfl,rfl,rfl⟩
 obtain⟨ax2,nx2,cx2,rfl⟩:=okWide_slice Tryz.underlying22 (hval 2 22 v2 rfl rfl)
 obtain⟨fuel2,hf2⟩:=h2
 have h2:DataW.Trod enc Tryz.prog W 0 (fun _=>true) true 22 (.slice ax2 nx2 cx2) d2 p2:=⟨fuel2,hf2⟩
 obtain⟨bs2,a2,c2,hsl2,hB2⟩:=parts_open (v:=sv ax2 nx2 cx2) (by simpa [Value.cells] using hf2)
 obtain⟨rfl,rfl,rfl⟩:ax2=a2∧nx2=bs2.length∧cx2=c2:=by cases hsl2;exact⟨rfl,rfl,rfl⟩
 obtain⟨ax3,nx3,cx3,rfl⟩:=okWide_slice Tryz.underlying23 (hval 3 23 v3 rfl rfl)
 obtain⟨fuel3,hf3⟩:=h3
 have h3:DataW.Trod enc Tryz.prog W 0 (fun _=>true) true 23 (.slice ax3 nx3 cx3) d3 p3:=⟨fuel3,hf3⟩
 obtain⟨bs3,a3,c3,hsl3,hB3⟩:=nodes_open (v:=sv ax3 nx3 cx3) (by simpa [Value.cells] using hf3)
 obtain⟨rfl,rfl,rfl⟩:ax3=a3∧nx3=bs3.length∧cx3=c3:=by cases hsl3;exact⟨rfl,rfl,rfl⟩
 obtain⟨k4,rfl,rfl,rfl,hk4⟩:=open_int Tryz.underlying3 (hval 4 3 v4 rfl rfl) h4
 clear hA0
 simp only[List.append_nil] at hW'
 have hlt:=hW'.lt
 refine (runs_law f x bs1 bs2 bs3 k4 ax1 ax2 ax3 cx1 cx2 cx3 W hF hB1 hB2 hB3).mono fun e W' ⟨he,hb⟩=>?_
 subst he
 refine⟨_,rfl,_,_,_,[],p0 ++ (p1 ++ (p2 ++ (p3 ++ ([] ++ [])))),[],hW',?_,?_,rfl,hb.frame _,fun h=>by cases h⟩
 ·exact trodAll_cons_mk (shut_bool Tryz.underlying4 _) trodAll_mk0
 ·exact trodAll_cons_mk (hb.trod laidOut (by kernel_rfl) (by decide +kernel) h0 (fun x hx=>hlt x (by simp[hx]))) (trodAll_cons_mk (hb.trod laidOut (by kernel_rfl) (by decide +kernel) h1 (fun x hx=>hlt x (by simp[hx]))) (trodAll_cons_mk (hb.trod laidOut (by kernel_rfl) (by decide +kernel) h2 (fun x hx=>hlt x (by simp[hx]))) (trodAll_cons_mk (hb.trod laidOut (by kernel_rfl) (by decide +kernel) h3 (fun x hx=>hlt x (by simp[hx]))) (trodAll_cons_mk (hb.trod laidOut (by kernel_rfl) (by decide +kernel) h4 (fun x hx=>by cases hx)) trodAll_mk0))))
end Go.Proofs.YtebippbakbihiaaGreatDoor.farmRuns
namespace Go.Proofs.YtebippbakbihiaaGreatDoor.farmRuns
open Go.ChangeShapes Go.WideShapes Go.ChangeAt Go.RowKit
set_option linter.unusedVariables false
def firstCells:Array Value:=(Go.Pinned.utf8FirstZ.map fun n:Nat=>Value.int .u8 (n:Int)).toArray
def acceptCells:Array Value:=#[.int .u8 128,.int .u8 191,.int .u8 160,.int .u8 191,.int .u8 128,.int .u8 159,.int .u8 144,.int .u8 191,.int .u8 128,.int .u8 143,.int .u8 0,.int .u8 0,.int .u8 0,.int .u8 0,.int .u8 0,.int .u8 0,.int .u8 0,.int .u8 0,.int .u8 0,.int .u8 0,.int .u8 0,.int .u8 0,.int .u8 0,.int .u8 0,.int .u8 0,.int .u8 0,.int .u8 0,.int .u8 0,.int .u8 0,.int .u8 0,.int .u8 0,.int .u8 0]
def wargs:Array Value:=#[.agg qz,sv none 0 0,sv none 0 0,sv none 0 0,iv 0]
def putCells (c:Array Value):Obj→Obj
 | .cells _ t frozen=>.cells c t frozen
 | o=>o
theorem laid_met (os:Os):laidMet Tryz.prog Rows.farmRunsRow.laid (({ World.holding Tryz.prog os ⟨#[],#[],[]⟩ with heap:=((World.holding Tryz.prog os ⟨#[],#[],[]⟩).heap.modify 0 (putCells firstCells)).modify 1 (putCells acceptCells) } : World).forCall (fun _ _=>0) ⟨#[],wargs,[]⟩).memory :=
 laidMet_of_run' 8 (by kernel_rfl) (by kernel_rfl)
theorem reads (os:Os) {H:Type} (enc:TypeId × Value→H):∃ ds places,DataW.whole enc Tryz.prog (({ World.holding Tryz.prog os ⟨#[],#[],[]⟩ with heap:=((World.holding Tryz.prog os ⟨#[],#[],[]⟩).heap.modify 0 (putCells firstCells)).modify 1 (putCells acceptCells) } : World).forCall (fun _ _=>0) ⟨#[],wargs,[]⟩).memory Tryz.f4.params.toList Rows.farmRunsSpec.vars false wargs.toList 8=some (ds,[],places) :=
 ⟨[.agg [.nil,.nil,.lit (.int .i64 0),.nil,.nil,.nil,.nil,.nil],.nil,.nil,.nil,.lit (.int .i64 0)],[],by kernel_rfl⟩
set_option maxRecDepth 100000 in
theorem lifted (os:Os) (started:os.Started) (H:Type) (enc:TypeId × Value→H) (F:Stop.Interp) :
  ReturnsInHanded {} Tryz.checked os 4 .any ((OpenSpec.ofChange Rows.farmRunsSpec).preRow enc Tryz.prog Tryz.f4 Rows.farmRunsRow.domain false Rows.farmRunsRow.laid) (((OpenSpec.ofChange Rows.farmRunsSpec).at F).post enc Tryz.prog Tryz.f4 false true false false):=by
 obtain⟨ds,places,hx⟩:=reads os enc
 refine returnsInHanded_of_row (C:=Tryz.checked) (s:=OpenSpec.ofChange Rows.farmRunsSpec) own started (by kernel_rfl) Tryz.func4
  (witness_row_at (enc:=enc) (C:=Tryz.checked) false ({ World.holding Tryz.prog os ⟨#[],#[],[]⟩ with heap:=((World.holding Tryz.prog os ⟨#[],#[],[]⟩).heap.modify 0 (putCells firstCells)).modify 1 (putCells acceptCells) } : World) wargs rfl (by kernel_rfl) (by kernel_rfl) (by kernel_rfl)
    (OpenSpec.preRow_of_cond 8 hx (by kernel_rfl) (fun k hk=>by cases hk) (by kernel_rfl) (laid_met os))) ?_
 intro W base args ds gs before hval hW _ _ hz _ _ _
 refine contract H enc W base args ds gs before hval hW (fun j t d ht hd m hm=>?_)
 have h:=List.all_eq_true.1 hz m (DataW.weights_mem_each (j:=j) (t:=t) (d:=d) ?_ ?_ m hm)
 ·simpa using h
 ·rw[List.getElem?_append_left (List.getElem?_eq_some_iff.1 ht).1];exact ht
 ·rw[List.getElem?_append_left (List.getElem?_eq_some_iff.1 hd).1];exact hd
theorem said:Rows.FarmRunsSaid :=
 OpenClaim.holds_of_cond 4 Tryz.f4 rfl rfl rfl rfl rfl rfl rfl ⟨rfl,rfl,rfl,rfl,rfl⟩ rfl rfl rfl rfl rfl (by kernel_rfl) Tryz.func4 (by kernel_rfl)
  (of_decide_eq_true (by kernel_rfl)) (by unfold Func.isWrapper;first | (rw[if_pos (by decide +kernel)];kernel_rfl) | (rw[if_neg (by decide +kernel)];exact⟨rfl,rfl⟩))
  (fun os started H enc _ F=>by rw[OpenClaim.pre_eq_preRow];exact lifted os started H enc F)
theorem plain (f:FuncId) (fn:Func) (hf:Tryz.pinned.checked.prog.funcNamed "ropewalk/ropewalklaw.FarmRuns"=some f) (hfn:Tryz.pinned.checked.prog.funcs[f]?=some fn) :
  false=Tryz.pinned.checked.prog.looks []∧∀ (j:Nat) t,fn.params[j]?=some t→Tryz.pinned.checked.prog.wantsStandIn t=false:=by
 obtain rfl:f=4:=Option.some.inj ((show Tryz.prog.funcNamed "ropewalk/ropewalklaw.FarmRuns"=some 4 by kernel_rfl).symm.trans hf) |>.symm
 obtain rfl:fn=Tryz.f4:=(Option.some.inj (Tryz.func4.symm.trans hfn)).symm
 refine⟨by kernel_rfl,fun j t ht=>?_⟩
 rw[Tryz.params4] at ht
 have hm:t=29∨t=47∨t=22∨t=23∨t=3:=by
  have:=Array.mem_of_getElem? ht
  simp at this
  omega
 rcases hm with rfl | rfl | rfl | rfl | rfl
 ·exact (show Tryz.prog.wantsStandIn 29=false by kernel_rfl)
 ·exact (show Tryz.prog.wantsStandIn 47=false by kernel_rfl)
 ·exact (show Tryz.prog.wantsStandIn 22=false by kernel_rfl)
 ·exact (show Tryz.prog.wantsStandIn 23=false by kernel_rfl)
 ·exact (show Tryz.prog.wantsStandIn 3=false by kernel_rfl)
end Go.Proofs.YtebippbakbihiaaGreatDoor.farmRuns
namespace Go.Proofs.YtebippbakbihiaaGreatDoor
theorem farmRuns_card:Rows.FarmRunsCardSaid :=
 Claim7.holds_tied_plain_at .later [] _ _ _ _ farmRuns.said (fun _ h=>by cases h) (by kernel_rfl) (fun _ h=>by cases h) farmRuns_row_tie rfl ⟨rfl,rfl⟩ (by kernel_rfl) rfl farmRuns.plain (by kernel_rfl)
#print axioms farmRuns_card
end Go.Proofs.YtebippbakbihiaaGreatDoor
