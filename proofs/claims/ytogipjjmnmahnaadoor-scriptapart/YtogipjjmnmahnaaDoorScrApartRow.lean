/-
  ScriptApart: for every two parts the law returns true, and each reads behind the call as it read before. (The row lists variables of the program and of the library; the card ties them to the program's text.)
-/
import Derived.Test.YtogipjjmnmahnaaDoorCards
import Derived.Test.YtogipjjmnmahnaaDoorTie
import Derived.Test.YtogipjjmnmahnaaDoorScrApartLaw
import Derived.Test.YtogipjjmnmahnaaDoorScrGlob
import Derived.Test.YtogipjjmnmahnaaDoorOpen
import Derived.WalkKit
import Derived.ProofKit
import Derived.OpenShut
import Derived.Deep.DeepHandedRow
import Derived.Lib.LaidTab
namespace Go.Proofs.YtogipjjmnmahnaaDoor.scriptApart
open Go.ChangeShapes Go.WideShapes Go.ChangeAt Go.RowKit
set_option linter.unusedVariables false

theorem own : ownKnob Tryd.prog.godebug = none := by kernel_rfl
theorem laidOut : laidOutB Tryd.prog = true := by kernel_rfl

set_option maxRecDepth 100000 in
theorem contract (H : Type) (enc : TypeId × Value → H) (W : World) (base : Nat) (args : Array Value) (ds gs : List (DataW H)) (before : List MemPlace) (hG : Glob W)
    (hval : ∀ (j : Nat) t v, Tryd.f4.params[j]? = some t → args[j]? = some v → Value.okWide Tryd.prog W .any base t v)
    (hW : DataW.Whole enc Tryd.prog Tryd.f4.params.toList Rows.scriptApartSpec.vars false W args.toList ds gs before) :
    Calls Tryd.prog 4 args W fun e W' => ∃ v, e = .returned v ∧ Rows.scriptApartSpec.post enc Tryd.prog Tryd.f4 false true false false W args v W' := by
  have hW' := hW
  obtain ⟨p, q, hA0, hV, rfl, hfz, hnd⟩ := hW
  have hA : DataW.TrodAll enc Tryd.prog W 0 (fun _ => true) true Tryd.f4.params.toList args.toList ds p := hA0
  rw [Tryd.params4] at hA hval
  obtain ⟨v0, vs0, d0, ds0, p0, q0, hargs, rfl, rfl, h0, r0⟩ := trodAll_cons hA
  obtain ⟨v1, vs1, d1, ds1, p1, q1, rfl, rfl, rfl, h1, r1⟩ := trodAll_cons r0
  obtain ⟨rfl, rfl, rfl⟩ := trodAll_nil r1
  obtain rfl : args = #[v0, v1] := by cases args; simp_all
  obtain ⟨rfl, rfl⟩ := trodVars_none hV
  obtain ⟨x0, x1, y0, y1, m0, rfl, _, _, ha0, ha1⟩ := Joins.open_agg2 Tryd.underlying25 (by kernel_rfl) kPart (hval 0 25 v0 rfl rfl) h0
  obtain ⟨fs, a1, c1, rfl, hF⟩ := frags_open ha0
  obtain ⟨dfs, a2, c2, rfl, hD⟩ := defs_open ha1
  obtain ⟨x2, x3, y2, y3, m1, rfl, _, _, hb0, hb1⟩ := Joins.open_agg2 Tryd.underlying25 (by kernel_rfl) kPart (hval 1 25 v1 rfl rfl) h1
  obtain ⟨fs', a3, c3, rfl, hF'⟩ := frags_open hb0
  obtain ⟨dfs', a4, c4, rfl, hD'⟩ := defs_open hb1
  clear hA0
  simp only [List.append_nil] at hW'
  have hlt := hW'.lt
  refine (apart_law fs fs' dfs dfs' a1 a2 a3 a4 c1 c2 c3 c4 W hG hF hD hF' hD').mono fun e W' ⟨he, hb⟩ => ?_
  subst he
  refine ⟨_, rfl, _, _, _, [], p0 ++ (p1 ++ []), [], hW', ?_, ?_, rfl, hb.frame _, fun h => by cases h⟩
  · exact trodAll_cons_mk (shut_bool Tryd.underlying4 _) trodAll_mk0
  · exact trodAll_cons_mk (hb.trod laidOut (by kernel_rfl) (by decide +kernel) h0 (fun x hx => hlt x (by simp [hx])))
      (trodAll_cons_mk (hb.trod laidOut (by kernel_rfl) (by decide +kernel) h1 (fun x hx => hlt x (by simp [hx]))) trodAll_mk0)

end Go.Proofs.YtogipjjmnmahnaaDoor.scriptApart
