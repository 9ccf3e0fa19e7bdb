/-
  ScriptSays: for every part and every text the law returns true, and each reads behind the call as it read before. Condition: the listed variables (the script's three tables of words, and tables and errors of the library) hold when the call begins what the program's text lays; the card ties them to that text.
-/
import Derived.Test.YthiknlnhdjoipaaGreatDoorCards
import Derived.Test.YthiknlnhdjoipaaGreatDoorTie
import Derived.Test.YthiknlnhdjoipaaGreatDoorRefSaysLaw
import Derived.Test.YthiknlnhdjoipaaGreatDoorScrGlob
import Derived.Test.YthiknlnhdjoipaaGreatDoorOpA
import Derived.WalkKit
import Derived.ProofKit
import Derived.OpenShut
import Derived.Deep.DeepHandedRow
import Derived.Lib.LaidTab
import Derived.Lay
namespace Go.Proofs.YthiknlnhdjoipaaGreatDoor.scriptSays
open Go.ChangeShapes Go.WideShapes Go.ChangeAt Go.RowKit
open Go.ChangeMaps (open_string)
set_option linter.unusedVariables false

theorem blanks_of {W : World} {l : List (String × DataW Unit)} {ps : List MemPlace} (hl : DataW.LaidVars Tryz.prog W l ps) (m : ("strings.asciiSpace", Rows.laid_strings_asciiSpace) ∈ l) : Blanks W := by
  obtain ⟨g', t, cs, fuel, p, h1, h2, h3, h4⟩ := laid_at l ps hl m
  obtain rfl := Option.some.inj ((show Tryz.prog.globalNamed "strings.asciiSpace" = some 3 by kernel_rfl).symm.trans h1)
  obtain rfl := Option.some.inj ((show (Tryz.prog.globals[3]?).map (·.type) = some 99 by kernel_rfl).symm.trans h2)
  have e : (Rows.laid_strings_asciiSpace : DataW Unit) = Lib.tabData .u8 Lib.asciiSpaceTab := by
    kernel_rfl
  rw [e] at h4
  have := Lib.cells_of_tab (n := 256) (e := 5) Tryz.underlying99 Tryz.underlying5 (by kernel_rfl) (by kernel_rfl) h4
  unfold Blanks Lib.TabIs
  rw [h3, ← this]

theorem own : ownKnob Tryz.prog.godebug = none := by kernel_rfl
theorem laidOut : laidOutB Tryz.prog = true := by kernel_rfl

set_option maxRecDepth 100000 in
theorem contract (H : Type) (enc : TypeId × Value → H) (W : World) (base : Nat) (args : Array Value) (ds gs : List (DataW H)) (before : List MemPlace) (hG : Glob W) (hBk : Blanks W)
    (hval : ∀ (j : Nat) t v, Tryz.f3.params[j]? = some t → args[j]? = some v → Value.okWide Tryz.prog W .any base t v)
    (hW : DataW.Whole enc Tryz.prog Tryz.f3.params.toList Rows.scriptSaysSpec.vars false W args.toList ds gs before) :
    Calls Tryz.prog 3 args W fun e W' => ∃ v, e = .returned v ∧ Rows.scriptSaysSpec.post enc Tryz.prog Tryz.f3 false true false false W args v W' := by
  have hW' := hW
  obtain ⟨p, q, hA0, hV, rfl, hfz, hnd⟩ := hW
  have hA : DataW.TrodAll enc Tryz.prog W 0 (fun _ => true) true Tryz.f3.params.toList args.toList ds p := hA0
  rw [Tryz.params3] at hA hval
  obtain ⟨v0, vs0, d0, ds0, p0, q0, hargs, rfl, rfl, h0, r0⟩ := trodAll_cons hA
  obtain ⟨v1, vs1, d1, ds1, p1, q1, rfl, rfl, rfl, h1, r1⟩ := trodAll_cons r0
  obtain ⟨rfl, rfl, rfl⟩ := trodAll_nil r1
  obtain rfl : args = #[v0, v1] := by cases args; simp_all
  obtain ⟨rfl, rfl⟩ := trodVars_none hV
  obtain ⟨x0, x1, y0, y1, m0, rfl, _, _, ha0, ha1⟩ := Joins.open_agg2 Tryz.underlying25 (by kernel_rfl) kPart (hval 0 25 v0 rfl rfl) h0
  obtain ⟨fs, a1, c1, rfl, hF⟩ := frags_open ha0
  obtain ⟨dfs, a2, c2, rfl, hD⟩ := defs_open ha1
  obtain ⟨s, rfl, rfl, rfl, hs⟩ := open_string Tryz.underlying9 (hval 1 9 v1 rfl rfl) h1
  clear hA0
  simp only [List.append_nil] at hW'
  have hlt := hW'.lt
  have hlaw := says_law fs dfs a1 a2 c1 c2 (M.txt s) W hG hBk hF hD (by rw [txt_size]; exact hs)
  rw [str_txt] at hlaw
  refine hlaw.mono fun e W' ⟨he, hb⟩ => ?_
  subst he
  refine ⟨_, rfl, _, _, _, [], p0 ++ ([] ++ []), [], hW', ?_, ?_, rfl, hb.frame _, fun h => by cases h⟩
  · exact trodAll_cons_mk (shut_bool Tryz.underlying4 _) trodAll_mk0
  · exact trodAll_cons_mk (hb.trod laidOut (by kernel_rfl) (by decide +kernel) h0 (fun x hx => hlt x (by simp [hx])))
      (trodAll_cons_mk (hb.trod laidOut (by kernel_rfl) (by decide +kernel) h1 (fun x hx => by cases hx)) trodAll_mk0)

/-- one start that fits: an empty part, no text -/
def wargs : Array Value := #[.agg #[.slice none 0 0, .slice none 0 0], .string ⟨#[]⟩]

theorem laid_met (os : Os) : laidMet Tryz.prog Rows.scriptSaysRow.laid ((World.laidAll Tryz.prog os Rows.scriptSaysRow.laid).forCall (fun _ _ => 0) ⟨#[], wargs, []⟩).memory :=
  laidMet_laidAll _ (by kernel_rfl) (by kernel_rfl)
theorem shaped (os : Os) : ((World.laidAll Tryz.prog os Rows.scriptSaysRow.laid).forCall (fun _ _ => 0) ⟨#[], wargs, []⟩).Shaped Tryz.prog :=
  World.shaped_of_ZipB (by kernel_rfl) (by kernel_rfl)
theorem wide (os : Os) : Input.okWideB Tryz.prog ((World.laidAll Tryz.prog os Rows.scriptSaysRow.laid).forCall (fun _ _ => 0) ⟨#[], wargs, []⟩) 3 ⟨#[], wargs, []⟩ = true := by kernel_rfl
theorem reads (os : Os) {H : Type} (enc : TypeId × Value → H) : ∃ ds places, DataW.whole enc Tryz.prog ((World.laidAll Tryz.prog os Rows.scriptSaysRow.laid).forCall (fun _ _ => 0) ⟨#[], wargs, []⟩).memory Tryz.f3.params.toList Rows.scriptSaysSpec.vars false wargs.toList 8 = some (ds, [], places) :=
  ⟨[.agg [.nil, .nil], .lit (.string [])], [], by kernel_rfl⟩

set_option maxRecDepth 100000 in
theorem lifted (os : Os) (started : os.Started) (H : Type) (enc : TypeId × Value → H) (F : Stop.Interp) :
    ReturnsInHanded {} Tryz.checked os 3 .any ((OpenSpec.ofChange Rows.scriptSaysSpec).preRow enc Tryz.prog Tryz.f3 Rows.scriptSaysRow.domain false Rows.scriptSaysRow.laid) (((OpenSpec.ofChange Rows.scriptSaysSpec).at F).post enc Tryz.prog Tryz.f3 false true false false) := by
  obtain ⟨ds, places, hx⟩ := reads os enc
  refine returnsInHanded_of_row (C := Tryz.checked) (s := OpenSpec.ofChange Rows.scriptSaysSpec) own started (by kernel_rfl) Tryz.func3
    ⟨World.laidAll Tryz.prog os Rows.scriptSaysRow.laid, fun _ _ => 0, ⟨#[], wargs, []⟩, World.laidAll_os _ _ _, shaped os, (Input.okWide_of_okWideB (base := 0) (wide os)).1, (Input.okWide_of_okWideB (wide os)).2,
      OpenSpec.preRow_of_cond 8 hx (by kernel_rfl) (fun k hk => by cases hk) (by kernel_rfl) (laid_met os), by simp only [Assume.holds]; exact ⟨by simp, by simp, (fun h => by cases h), by simp, by simp⟩⟩ ?_
  intro W base args ds gs before hval hW _ _ _ hL hsh _
  have hL : laidMet Tryz.prog Rows.scriptSaysRow.laid W := hL
  obtain ⟨ps, hlv, _, _⟩ := hL
  have HG : Glob W := (glob_of hlv hsh (by simp [Rows.scriptSaysRow]) (by simp [Rows.scriptSaysRow]) (by simp [Rows.scriptSaysRow]) (by simp [Rows.scriptSaysRow]) (by simp [Rows.scriptSaysRow]) (by simp [Rows.scriptSaysRow]))
  exact contract H enc W base args ds gs before HG (blanks_of hlv (by simp [Rows.scriptSaysRow])) hval hW

theorem said : Rows.ScriptSaysSaid :=
  OpenClaim.holds_of_cond 3 Tryz.f3 rfl rfl rfl rfl rfl rfl rfl ⟨rfl, rfl, rfl, rfl, rfl⟩ rfl rfl rfl rfl rfl (by kernel_rfl) Tryz.func3 (by kernel_rfl)
    (of_decide_eq_true (by kernel_rfl)) (by unfold Func.isWrapper; first | (rw [if_pos (by decide +kernel)]; kernel_rfl) | (rw [if_neg (by decide +kernel)]; exact ⟨rfl, rfl⟩))
    (fun os started H enc _ F => by rw [OpenClaim.pre_eq_preRow]; exact lifted os started H enc F)

theorem plain (f : FuncId) (fn : Func) (hf : Tryz.pinned.checked.prog.funcNamed "ropewalk/ropewalklaw.ScriptSays" = some f) (hfn : Tryz.pinned.checked.prog.funcs[f]? = some fn) :
    true = Tryz.pinned.checked.prog.looks [] ∧ ∀ (j : Nat) t, fn.params[j]? = some t → Tryz.pinned.checked.prog.wantsStandIn t = false := by
  obtain rfl : f = 3 := Option.some.inj ((show Tryz.prog.funcNamed "ropewalk/ropewalklaw.ScriptSays" = some 3 by kernel_rfl).symm.trans hf) |>.symm
  obtain rfl : fn = Tryz.f3 := (Option.some.inj (Tryz.func3.symm.trans hfn)).symm
  refine ⟨by kernel_rfl, fun j t ht => ?_⟩
  rw [Tryz.params3] at ht
  have hm : t = 25 ∨ t = 9 := by
    have := Array.mem_of_getElem? ht
    simp at this
    omega
  rcases hm with rfl | rfl
  · exact (show Tryz.prog.wantsStandIn 25 = false by kernel_rfl)
  · exact (show Tryz.prog.wantsStandIn 9 = false by kernel_rfl)

end Go.Proofs.YthiknlnhdjoipaaGreatDoor.scriptSays
namespace Go.Proofs.YthiknlnhdjoipaaGreatDoor
/-- The card. -/
theorem scriptSays_card : Rows.ScriptSaysCardSaid :=
  Claim7.holds_tied_plain_at .later [] _ _ _ _ scriptSays.said (fun _ h => by cases h) (by kernel_rfl) (fun _ h => by cases h) scriptSays_row_tie rfl ⟨rfl, rfl⟩ (by kernel_rfl) rfl scriptSays.plain (by kernel_rfl)
#print axioms scriptSays_card
end Go.Proofs.YthiknlnhdjoipaaGreatDoor
