/-
  PlanSays: for every plan, parts, number, picks and truth values the law returns true, and each reads behind the call as it read before. Condition: two of the library's tables (unicode/utf8's first and acceptRanges) hold when the call begins what the program's text lays; the card ties them to that text.
-/
import Derived.Test.YthdckapdhcpaoaaGreatDoorRefPlSaysLaw
import Derived.Test.YthdckapdhcpaoaaGreatDoorCards
import Derived.Test.YthdckapdhcpaoaaGreatDoorTie
import Derived.Test.YthdckapdhcpaoaaGreatDoorOpA
import Derived.Test.YthdckapdhcpaoaaGreatDoorOpB
import Derived.WalkKit
import Derived.ProofKit
import Derived.OpenShut
import Derived.Deep.DeepHandedRow
import Derived.Lib.LaidTab
namespace Go.Proofs.YthdckapdhcpaoaaGreatDoor.planSays
open Go.ChangeShapes Go.WideShapes Go.ChangeAt Go.RowKit
open Go.ChangeMaps (open_string)
set_option linter.unusedVariables false

theorem own : ownKnob Tryz.prog.godebug = none := by kernel_rfl
theorem laidOut : laidOutB Tryz.prog = true := by kernel_rfl

set_option maxRecDepth 100000 in
theorem contract (H : Type) (enc : TypeId × Value → H) (W : World) (base : Nat) (args : Array Value) (ds gs : List (DataW H)) (before : List MemPlace)
    (hval : ∀ (j : Nat) t v, Tryz.f3.params[j]? = some t → args[j]? = some v → Value.okWide Tryz.prog W .any base t v)
    (hW : DataW.Whole enc Tryz.prog Tryz.f3.params.toList Rows.planSaysSpec.vars false W args.toList ds gs before) :
    Calls Tryz.prog 3 args W fun e W' => ∃ v, e = .returned v ∧ Rows.planSaysSpec.post enc Tryz.prog Tryz.f3 false true false false W args v W' := by
  have hW' := hW
  obtain ⟨p, q, hA0, hV, rfl, hfz, hnd⟩ := hW
  have hA : DataW.TrodAll enc Tryz.prog W 0 (fun _ => true) true Tryz.f3.params.toList args.toList ds p := hA0
  rw [Tryz.params3] at hA hval
  obtain ⟨v0, vs0, d0, ds0, p0, q0, hargs, rfl, rfl, h0, r0⟩ := trodAll_cons hA
  obtain ⟨v1, vs1, d1, ds1, p1, q1, rfl, rfl, rfl, h1, r1⟩ := trodAll_cons r0
  obtain ⟨v2, vs2, d2, ds2, p2, q2, rfl, rfl, rfl, h2, r2⟩ := trodAll_cons r1
  obtain ⟨v3, vs3, d3, ds3, p3, q3, rfl, rfl, rfl, h3, r3⟩ := trodAll_cons r2
  obtain ⟨v4, vs4, d4, ds4, p4, q4, rfl, rfl, rfl, h4, r4⟩ := trodAll_cons r3
  obtain ⟨rfl, rfl, rfl⟩ := trodAll_nil r4
  obtain rfl : args = #[v0, v1, v2, v3, v4] := by cases args; simp_all
  obtain ⟨rfl, rfl⟩ := trodVars_none hV
  obtain ⟨ax0, nx0, cx0, rfl⟩ := okWide_slice Tryz.underlying22 (hval 0 22 v0 rfl rfl)
  obtain ⟨fuel0, hf0⟩ := h0
  have h0 : DataW.Trod enc Tryz.prog W 0 (fun _ => true) true 22 (.slice ax0 nx0 cx0) d0 p0 := ⟨fuel0, hf0⟩
  obtain ⟨l, a0, c0, hsl0, hN⟩ := nodes_open (v := .slice ax0 nx0 cx0) (by simpa [Value.cells] using hf0)
  obtain ⟨rfl, rfl, rfl⟩ : ax0 = a0 ∧ nx0 = l.length ∧ cx0 = c0 := by cases hsl0; exact ⟨rfl, rfl, rfl⟩
  obtain ⟨ax1, nx1, cx1, rfl⟩ := okWide_slice Tryz.underlying23 (hval 1 23 v1 rfl rfl)
  obtain ⟨fuel1, hf1⟩ := h1
  have h1 : DataW.Trod enc Tryz.prog W 0 (fun _ => true) true 23 (.slice ax1 nx1 cx1) d1 p1 := ⟨fuel1, hf1⟩
  obtain ⟨ps, a1, c1, hsl1, hP⟩ := parts_open (v := .slice ax1 nx1 cx1) (by simpa [Value.cells] using hf1)
  obtain ⟨rfl, rfl, rfl⟩ : ax1 = a1 ∧ nx1 = ps.length ∧ cx1 = c1 := by cases hsl1; exact ⟨rfl, rfl, rfl⟩
  obtain ⟨k2, rfl, rfl, rfl, hk2⟩ := open_int Tryz.underlying3 (hval 2 3 v2 rfl rfl) h2
  obtain ⟨ax3, nx3, cx3, rfl⟩ := okWide_slice Tryz.underlying24 (hval 3 24 v3 rfl rfl)
  obtain ⟨fuel3, hf3⟩ := h3
  have h3 : DataW.Trod enc Tryz.prog W 0 (fun _ => true) true 24 (.slice ax3 nx3 cx3) d3 p3 := ⟨fuel3, hf3⟩
  obtain ⟨pk, a3, c3, hsl3, hI⟩ := ints_open (v := .slice ax3 nx3 cx3) (by simpa [Value.cells] using hf3)
  have hcap3 : nx3 ≤ cx3 := cap_openS Tryz.underlying24 (by simpa [Value.cells] using hf3)
  obtain ⟨rfl, rfl, rfl⟩ : ax3 = a3 ∧ nx3 = pk.length ∧ cx3 = c3 := by cases hsl3; exact ⟨rfl, rfl, rfl⟩
  obtain ⟨ax4, nx4, cx4, rfl⟩ := okWide_slice Tryz.underlying25 (hval 4 25 v4 rfl rfl)
  obtain ⟨fuel4, hf4⟩ := h4
  have h4 : DataW.Trod enc Tryz.prog W 0 (fun _ => true) true 25 (.slice ax4 nx4 cx4) d4 p4 := ⟨fuel4, hf4⟩
  obtain ⟨dn, a4, c4, hsl4, hD⟩ := bools_open (v := .slice ax4 nx4 cx4) (by simpa [Value.cells] using hf4)
  obtain ⟨rfl, rfl, rfl⟩ : ax4 = a4 ∧ nx4 = dn.length ∧ cx4 = c4 := by cases hsl4; exact ⟨rfl, rfl, rfl⟩
  clear hA0
  simp only [List.append_nil] at hW'
  have hlt := hW'.lt
  refine (says_law l ps k2 pk dn ax0 ax1 ax3 ax4 cx0 cx1 cx3 cx4 W hN hP hI hcap3 hD).mono fun e W' ⟨he, hb⟩ => ?_
  subst he
  refine ⟨_, rfl, _, _, _, [], p0 ++ (p1 ++ ([] ++ (p3 ++ (p4 ++ [])))), [], hW', ?_, ?_, rfl, hb.frame _, fun h => by cases h⟩
  · exact trodAll_cons_mk (shut_bool Tryz.underlying4 _) trodAll_mk0
  · exact trodAll_cons_mk (hb.trod laidOut (by kernel_rfl) (by decide +kernel) h0 (fun x hx => hlt x (by simp [hx])))
      (trodAll_cons_mk (hb.trod laidOut (by kernel_rfl) (by decide +kernel) h1 (fun x hx => hlt x (by simp [hx])))
        (trodAll_cons_mk (hb.trod laidOut (by kernel_rfl) (by decide +kernel) h2 (fun x hx => by cases hx))
          (trodAll_cons_mk (hb.trod laidOut (by kernel_rfl) (by decide +kernel) h3 (fun x hx => hlt x (by simp [hx])))
            (trodAll_cons_mk (hb.trod laidOut (by kernel_rfl) (by decide +kernel) h4 (fun x hx => hlt x (by simp [hx]))) trodAll_mk0))))

end Go.Proofs.YthdckapdhcpaoaaGreatDoor.planSays

namespace Go.Proofs.YthdckapdhcpaoaaGreatDoor.planSays
open Go.ChangeShapes Go.WideShapes Go.ChangeAt Go.RowKit
set_option linter.unusedVariables false

def firstCells : Array Value := (Go.Pinned.utf8FirstZ.map fun n : Nat => Value.int .u8 (n : Int)).toArray
def acceptCells : Array Value := #[.int .u8 128, .int .u8 191, .int .u8 160, .int .u8 191, .int .u8 128, .int .u8 159, .int .u8 144, .int .u8 191, .int .u8 128, .int .u8 143, .int .u8 0, .int .u8 0, .int .u8 0, .int .u8 0, .int .u8 0, .int .u8 0, .int .u8 0, .int .u8 0, .int .u8 0, .int .u8 0, .int .u8 0, .int .u8 0, .int .u8 0, .int .u8 0, .int .u8 0, .int .u8 0, .int .u8 0, .int .u8 0, .int .u8 0, .int .u8 0, .int .u8 0, .int .u8 0]

/-- one start that fits: no node, no part, nought, no pick, nothing done -/
def wargs : Array Value := #[.slice none 0 0, .slice none 0 0, .int .i64 0, .slice none 0 0, .slice none 0 0]

def putCells (c : Array Value) : Obj → Obj
  | .cells _ t frozen => .cells c t frozen
  | o => o

theorem laid_met (os : Os) : laidMet Tryz.prog Rows.planSaysRow.laid (({ World.holding Tryz.prog os ⟨#[], #[], []⟩ with heap := ((World.holding Tryz.prog os ⟨#[], #[], []⟩).heap.modify 0 (putCells firstCells)).modify 1 (putCells acceptCells) } : World).forCall (fun _ _ => 0) ⟨#[], wargs, []⟩).memory :=
  laidMet_of_run' 8 (by kernel_rfl) (by kernel_rfl)
theorem reads (os : Os) {H : Type} (enc : TypeId × Value → H) : ∃ ds places, DataW.whole enc Tryz.prog (({ World.holding Tryz.prog os ⟨#[], #[], []⟩ with heap := ((World.holding Tryz.prog os ⟨#[], #[], []⟩).heap.modify 0 (putCells firstCells)).modify 1 (putCells acceptCells) } : World).forCall (fun _ _ => 0) ⟨#[], wargs, []⟩).memory Tryz.f3.params.toList Rows.planSaysSpec.vars false wargs.toList 8 = some (ds, [], places) :=
  ⟨[.nil, .nil, .lit (.int .i64 0), .nil, .nil], [], by kernel_rfl⟩

set_option maxRecDepth 100000 in
theorem lifted (os : Os) (started : os.Started) (H : Type) (enc : TypeId × Value → H) (F : Stop.Interp) :
    ReturnsInHanded {} Tryz.checked os 3 .any ((OpenSpec.ofChange Rows.planSaysSpec).preRow enc Tryz.prog Tryz.f3 Rows.planSaysRow.domain false Rows.planSaysRow.laid) (((OpenSpec.ofChange Rows.planSaysSpec).at F).post enc Tryz.prog Tryz.f3 false true false false) := by
  obtain ⟨ds, places, hx⟩ := reads os enc
  refine returnsInHanded_of_row (C := Tryz.checked) (s := OpenSpec.ofChange Rows.planSaysSpec) own started (by kernel_rfl) Tryz.func3
    (witness_row_at (enc := enc) (C := Tryz.checked) false ({ World.holding Tryz.prog os ⟨#[], #[], []⟩ with heap := ((World.holding Tryz.prog os ⟨#[], #[], []⟩).heap.modify 0 (putCells firstCells)).modify 1 (putCells acceptCells) } : World) wargs rfl (by kernel_rfl) (by kernel_rfl) (by kernel_rfl)
      (OpenSpec.preRow_of_cond 8 hx (by kernel_rfl) (fun k hk => by cases hk) (by kernel_rfl) (laid_met os))) ?_
  intro W base args ds gs before hval hW _ _ _ hL _ _
  exact contract H enc W base args ds gs before hval hW

theorem said : Rows.PlanSaysSaid :=
  OpenClaim.holds_of_cond 3 Tryz.f3 rfl rfl rfl rfl rfl rfl rfl ⟨rfl, rfl, rfl, rfl, rfl⟩ rfl rfl rfl rfl rfl (by kernel_rfl) Tryz.func3 (by kernel_rfl)
    (of_decide_eq_true (by kernel_rfl)) (by unfold Func.isWrapper; first | (rw [if_pos (by decide +kernel)]; kernel_rfl) | (rw [if_neg (by decide +kernel)]; exact ⟨rfl, rfl⟩))
    (fun os started H enc _ F => by rw [OpenClaim.pre_eq_preRow]; exact lifted os started H enc F)

theorem plain (f : FuncId) (fn : Func) (hf : Tryz.pinned.checked.prog.funcNamed "ropewalk/ropewalklaw.PlanSays" = some f) (hfn : Tryz.pinned.checked.prog.funcs[f]? = some fn) :
    false = Tryz.pinned.checked.prog.looks [] ∧ ∀ (j : Nat) t, fn.params[j]? = some t → Tryz.pinned.checked.prog.wantsStandIn t = false := by
  obtain rfl : f = 3 := Option.some.inj ((show Tryz.prog.funcNamed "ropewalk/ropewalklaw.PlanSays" = some 3 by kernel_rfl).symm.trans hf) |>.symm
  obtain rfl : fn = Tryz.f3 := (Option.some.inj (Tryz.func3.symm.trans hfn)).symm
  refine ⟨by kernel_rfl, fun j t ht => ?_⟩
  rw [Tryz.params3] at ht
  have hm : t = 22 ∨ t = 23 ∨ t = 3 ∨ t = 24 ∨ t = 25 := by
    have := Array.mem_of_getElem? ht
    simp at this
    omega
  rcases hm with rfl | rfl | rfl | rfl | rfl
  · exact (show Tryz.prog.wantsStandIn 22 = false by kernel_rfl)
  · exact (show Tryz.prog.wantsStandIn 23 = false by kernel_rfl)
  · exact (show Tryz.prog.wantsStandIn 3 = false by kernel_rfl)
  · exact (show Tryz.prog.wantsStandIn 24 = false by kernel_rfl)
  · exact (show Tryz.prog.wantsStandIn 25 = false by kernel_rfl)

end Go.Proofs.YthdckapdhcpaoaaGreatDoor.planSays
namespace Go.Proofs.YthdckapdhcpaoaaGreatDoor
/-- The card. -/
theorem planSays_card : Rows.PlanSaysCardSaid :=
  Claim7.holds_tied_plain_at .later [] _ _ _ _ planSays.said (fun _ h => by cases h) (by kernel_rfl) (fun _ h => by cases h) planSays_row_tie rfl ⟨rfl, rfl⟩ (by kernel_rfl) rfl planSays.plain (by kernel_rfl)
#print axioms planSays_card
end Go.Proofs.YthdckapdhcpaoaaGreatDoor
