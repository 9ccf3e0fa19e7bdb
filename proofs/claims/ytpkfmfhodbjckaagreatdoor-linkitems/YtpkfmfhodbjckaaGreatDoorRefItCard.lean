/-
  LinkItems: for every list of items, number and text the law returns true, and each reads behind the call as it read before. Condition: two of the library's tables (unicode/utf8's first and acceptRanges) hold when the call begins what the program's text lays; the card ties them to that text.
-/
import Derived.Test.YtpkfmfhodbjckaaGreatDoorRefItLaw
import Derived.Test.YtpkfmfhodbjckaaGreatDoorOpA
import Derived.Test.YtpkfmfhodbjckaaGreatDoorCards
import Derived.Test.YtpkfmfhodbjckaaGreatDoorTie
import Derived.WalkKit
import Derived.ProofKit
import Derived.OpenShut
import Derived.Deep.DeepHandedRow
import Derived.Lib.LaidTab
set_option linter.unusedVariables false
namespace Go.Proofs.YtpkfmfhodbjckaaGreatDoor.linkItems
open Go.ChangeShapes Go.WideShapes Go.ChangeAt Go.RowKit
open Go.ChangeMaps (open_string)
theorem own:ownKnob Tryz.prog.godebug=none:=by kernel_rfl
theorem laidOut:laidOutB Tryz.prog=true:=by kernel_rfl
set_option maxRecDepth 100000 in
theorem contract(H:Type)(enc:TypeId × Value→H)(W:World)(base:Nat)(args:Array Value)(ds gs:List (DataW H))(before:List MemPlace)
  (hval:∀(j:Nat) t v,Tryz.f3.params[j]?=some t→args[j]?=some v→Value.okWide Tryz.prog W .any base t v)
  (hW:DataW.Whole enc Tryz.prog Tryz.f3.params.toList Rows.linkItemsSpec.vars false W args.toList ds gs before)
  (hz:∀(j:Nat) t d,Tryz.f3.params.toList[j]?=some t→ds[j]?=some d→∀m∈d.weights Tryz.prog t,m≤reachBytes) :
  Calls Tryz.prog 3 args W fun e W'=>∃v,e=.returned v∧Rows.linkItemsSpec.post enc Tryz.prog Tryz.f3 false true false false W args v W':=by
 have hW':=hW
 obtain⟨p,q,hA0,hV,rfl,hfz,hnd⟩:=hW
 have hA:DataW.TrodAll enc Tryz.prog W 0 (fun _=>true) true Tryz.f3.params.toList args.toList ds p:=hA0
 rw[Tryz.params3] at hA hval hz
 obtain⟨v0,vs0,d0,ds0,p0,q0,hargs,rfl,rfl,h0,r0⟩:=trodAll_cons hA
 obtain⟨v1,vs1,d1,ds1,p1,q1,rfl,rfl,rfl,h1,r1⟩:=trodAll_cons r0
 obtain⟨v2,vs2,d2,ds2,p2,q2,rfl,rfl,rfl,h2,r2⟩:=trodAll_cons r1
 obtain⟨rfl,rfl,rfl⟩:=trodAll_nil r2
 obtain rfl:args=#[v0,v1,v2]:=by cases args;simp_all
 obtain⟨rfl,rfl⟩:=trodVars_none hV
 obtain⟨ax0,nx0,cx0,rfl⟩:=okWide_slice Tryz.underlying22 (hval 0 22 v0 rfl rfl)
 obtain⟨fuel0,hf0⟩:=h0
 have h0:DataW.Trod enc Tryz.prog W 0 (fun _=>true) true 22 (.slice ax0 nx0 cx0) d0 p0:=⟨fuel0,hf0⟩
 obtain⟨bs0,a0,c0,hsl0,hB0⟩:=items_open (v:=sv ax0 nx0 cx0) (by simpa [Value.cells] using hf0)
 obtain⟨rfl,rfl,rfl⟩:ax0=a0∧nx0=bs0.length∧cx0=c0:=by cases hsl0;exact⟨rfl,rfl,rfl⟩
 obtain⟨k1,rfl,rfl,rfl,hk1⟩:=open_int Tryz.underlying3 (hval 1 3 v1 rfl rfl) h1
 obtain⟨s,rfl,rfl,rfl,hs⟩:=open_string Tryz.underlying9 (hval 2 9 v2 rfl rfl) h2
 clear hA0
 simp only[List.append_nil] at hW'
 have hlt:=hW'.lt
 refine(itemsl_law bs0 k1 s ax0 cx0 W hB0 hs).mono fun e W' ⟨he,hb⟩=>?_
 subst he
 refine⟨_,rfl,_,_,_,[],p0++([]++([]++[])),[],hW',?_,?_,rfl,hb.frame _,fun h=>by cases h⟩
 ·exact trodAll_cons_mk (shut_bool Tryz.underlying4 _) trodAll_mk0
 ·exact trodAll_cons_mk (hb.trod laidOut (by kernel_rfl) (by decide +kernel) h0 (fun x hx=>hlt x (by simp[hx]))) (trodAll_cons_mk (hb.trod laidOut (by kernel_rfl) (by decide +kernel) h1 (fun x hx=>by cases hx)) (trodAll_cons_mk (hb.trod laidOut (by kernel_rfl) (by decide +kernel) h2 (fun x hx=>by cases hx)) trodAll_mk0))
end Go.Proofs.YtpkfmfhodbjckaaGreatDoor.linkItems
namespace Go.Proofs.YtpkfmfhodbjckaaGreatDoor.linkItems
open Go.ChangeShapes Go.WideShapes Go.ChangeAt Go.RowKit
def firstCells:Array Value:=(Go.Pinned.utf8FirstZ.map fun n:Nat=>Value.int .u8 (n:Int)).toArray
def acceptCells:Array Value:=#[.int .u8 128,.int .u8 191,.int .u8 160,.int .u8 191,.int .u8 128,.int .u8 159,.int .u8 144,.int .u8 191,.int .u8 128,.int .u8 143,.int .u8 0,.int .u8 0,.int .u8 0,.int .u8 0,.int .u8 0,.int .u8 0,.int .u8 0,.int .u8 0,.int .u8 0,.int .u8 0,.int .u8 0,.int .u8 0,.int .u8 0,.int .u8 0,.int .u8 0,.int .u8 0,.int .u8 0,.int .u8 0,.int .u8 0,.int .u8 0,.int .u8 0,.int .u8 0]
def wargs:Array Value:=#[sv none 0 0,iv 0,.string ⟨#[]⟩]
def putCells (c:Array Value):Obj→Obj
 | .cells _ t frozen=>.cells c t frozen
 | o=>o
theorem laid_met(os:Os):laidMet Tryz.prog Rows.linkItemsRow.laid (({ World.holding Tryz.prog os ⟨#[],#[],[]⟩ with heap:=((World.holding Tryz.prog os ⟨#[],#[],[]⟩).heap.modify 0 (putCells firstCells)).modify 1 (putCells acceptCells) } : World).forCall (fun _ _=>0) ⟨#[],wargs,[]⟩).memory :=
 laidMet_of_run' 8 (by kernel_rfl) (by kernel_rfl)
theorem reads(os:Os){H:Type}(enc:TypeId × Value→H):∃ds places,DataW.whole enc Tryz.prog (({ World.holding Tryz.prog os ⟨#[],#[],[]⟩ with heap:=((World.holding Tryz.prog os ⟨#[],#[],[]⟩).heap.modify 0 (putCells firstCells)).modify 1 (putCells acceptCells) } : World).forCall (fun _ _=>0) ⟨#[],wargs,[]⟩).memory Tryz.f3.params.toList Rows.linkItemsSpec.vars false wargs.toList 8=some (ds,[],places) :=
 ⟨[.nil,.lit (.int .i64 0),.lit (.string [])],[],by kernel_rfl⟩
set_option maxRecDepth 100000 in
theorem lifted(os:Os)(started:os.Started)(H:Type)(enc:TypeId × Value→H)(F:Stop.Interp) :
  ReturnsInHanded {} Tryz.checked os 3 .any ((OpenSpec.ofChange Rows.linkItemsSpec).preRow enc Tryz.prog Tryz.f3 Rows.linkItemsRow.domain false Rows.linkItemsRow.laid) (((OpenSpec.ofChange Rows.linkItemsSpec).at F).post enc Tryz.prog Tryz.f3 false true false false):=by
 obtain⟨ds,places,hx⟩:=reads os enc
 refine returnsInHanded_of_row (C:=Tryz.checked) (s:=OpenSpec.ofChange Rows.linkItemsSpec) own started (by kernel_rfl) Tryz.func3
  (witness_row_at (enc:=enc) (C:=Tryz.checked) false ({ World.holding Tryz.prog os ⟨#[],#[],[]⟩ with heap:=((World.holding Tryz.prog os ⟨#[],#[],[]⟩).heap.modify 0 (putCells firstCells)).modify 1 (putCells acceptCells) } : World) wargs rfl (by kernel_rfl) (by kernel_rfl) (by kernel_rfl)
    (OpenSpec.preRow_of_cond 8 hx (by kernel_rfl) (fun k hk=>by cases hk) (by kernel_rfl) (laid_met os))) ?_
 intro W base args ds gs before hval hW _ _ hz _ _ _
 refine contract H enc W base args ds gs before hval hW (fun j t d ht hd m hm=>?_)
 have h:=List.all_eq_true.1 hz m (DataW.weights_mem_each (j:=j) (t:=t) (d:=d) ?_ ?_ m hm)
 ·simpa using h
 ·rw[List.getElem?_append_left (List.getElem?_eq_some_iff.1 ht).1];exact ht
 ·rw[List.getElem?_append_left (List.getElem?_eq_some_iff.1 hd).1];exact hd
theorem said:Rows.LinkItemsSaid :=
 OpenClaim.holds_of_cond 3 Tryz.f3 rfl rfl rfl rfl rfl rfl rfl ⟨rfl,rfl,rfl,rfl,rfl⟩ rfl rfl rfl rfl rfl (by kernel_rfl) Tryz.func3 (by kernel_rfl)
  (of_decide_eq_true (by kernel_rfl)) (by unfold Func.isWrapper;first|(rw[if_pos (by decide +kernel)];kernel_rfl)|(rw[if_neg (by decide +kernel)];exact⟨rfl,rfl⟩))
  (fun os started H enc _ F=>by rw[OpenClaim.pre_eq_preRow];exact lifted os started H enc F)
theorem plain(f:FuncId)(fn:Func)(hf:Tryz.pinned.checked.prog.funcNamed "ropewalk/ropewalklaw.LinkItems"=some f)(hfn:Tryz.pinned.checked.prog.funcs[f]?=some fn) :
  false=Tryz.pinned.checked.prog.looks []∧∀(j:Nat) t,fn.params[j]?=some t→Tryz.pinned.checked.prog.wantsStandIn t=false:=by
 obtain rfl:f=3:=Option.some.inj ((show Tryz.prog.funcNamed "ropewalk/ropewalklaw.LinkItems"=some 3 by kernel_rfl).symm.trans hf) |>.symm
 obtain rfl:fn=Tryz.f3:=(Option.some.inj (Tryz.func3.symm.trans hfn)).symm
 refine⟨by kernel_rfl,fun j t ht=>?_⟩
 rw[Tryz.params3] at ht
 have hm:t=22∨t=3∨t=9:=by
  have:=Array.mem_of_getElem? ht
  simp at this
  omega
 rcases hm with rfl|rfl|rfl
 ·exact(show Tryz.prog.wantsStandIn 22=false by kernel_rfl)
 ·exact(show Tryz.prog.wantsStandIn 3=false by kernel_rfl)
 ·exact(show Tryz.prog.wantsStandIn 9=false by kernel_rfl)
end Go.Proofs.YtpkfmfhodbjckaaGreatDoor.linkItems
namespace Go.Proofs.YtpkfmfhodbjckaaGreatDoor
theorem linkItems_card:Rows.LinkItemsCardSaid :=
 Claim7.holds_tied_plain_at .later [] _ _ _ _ linkItems.said (fun _ h=>by cases h) (by kernel_rfl) (fun _ h=>by cases h) linkItems_row_tie rfl ⟨rfl,rfl⟩ (by kernel_rfl) rfl linkItems.plain (by kernel_rfl)
#print axioms linkItems_card
end Go.Proofs.YtpkfmfhodbjckaaGreatDoor
