/-
  FarmLives: for every list of parts, list of numbers, number, list of numbers the law returns true, and each reads behind the call as it read before. No condition.
-/
import Derived.Test.YtmlojlbmfceogaaRows
import Derived.Test.YtmlojlbmfceogaaFmLvLaw
import Derived.Test.YtmlojlbmfceogaaFmOpen
import Derived.WalkKit
import Derived.ProofKit
import Derived.OpenShut
import Derived.Deep.DeepHandedRow
namespace Go.Proofs.Ytmlojlbmfceogaa.farmLives
open Go.ChangeShapes Go.WideShapes Go.ChangeAt Go.RowKit
open Go.ChangeMaps (open_string)
set_option linter.unusedVariables false

theorem own : ownKnob Try.prog.godebug = none := by kernel_rfl
theorem laidOut : laidOutB Try.prog = true := by kernel_rfl

set_option maxRecDepth 100000 in
theorem contract (H : Type) (enc : TypeId × Value → H) (W : World) (base : Nat) (args : Array Value) (ds gs : List (DataW H)) (before : List MemPlace)
    (hval : ∀ (j : Nat) t v, Try.f5.params[j]? = some t → args[j]? = some v → Value.okWide Try.prog W .any base t v)
    (hW : DataW.Whole enc Try.prog Try.f5.params.toList Rows.farmLivesSpec.vars false W args.toList ds gs before) :
    Calls Try.prog 5 args W fun e W' => ∃ v, e = .returned v ∧ Rows.farmLivesSpec.post enc Try.prog Try.f5 false true false false W args v W' := by
  have hW' := hW
  obtain ⟨p, q, hA0, hV, rfl, hfz, hnd⟩ := hW
  have hA : DataW.TrodAll enc Try.prog W 0 (fun _ => true) true Try.f5.params.toList args.toList ds p := hA0
  rw [Try.params5] at hA hval
  obtain ⟨v0, vs0, d0, ds0, p0, q0, hargs, rfl, rfl, h0, r0⟩ := trodAll_cons hA
  obtain ⟨v1, vs1, d1, ds1, p1, q1, rfl, rfl, rfl, h1, r1⟩ := trodAll_cons r0
  obtain ⟨v2, vs2, d2, ds2, p2, q2, rfl, rfl, rfl, h2, r2⟩ := trodAll_cons r1
  obtain ⟨v3, vs3, d3, ds3, p3, q3, rfl, rfl, rfl, h3, r3⟩ := trodAll_cons r2
  obtain ⟨rfl, rfl, rfl⟩ := trodAll_nil r3
  obtain rfl : args = #[v0, v1, v2, v3] := by cases args; simp_all
  obtain ⟨rfl, rfl⟩ := trodVars_none hV
  obtain ⟨ax0, nx0, cx0, rfl⟩ := okWide_slice Try.underlying22 (hval 0 22 v0 rfl rfl)
  obtain ⟨fuel0, hf0⟩ := h0
  have h0 : DataW.Trod enc Try.prog W 0 (fun _ => true) true 22 (.slice ax0 nx0 cx0) d0 p0 := ⟨fuel0, hf0⟩
  obtain ⟨bs0, a0, c0, hsl0, hB0⟩ := parts_open (v := .slice ax0 nx0 cx0) (by simpa [Value.cells] using hf0)
  obtain ⟨rfl, rfl, rfl⟩ : ax0 = a0 ∧ nx0 = bs0.length ∧ cx0 = c0 := by cases hsl0; exact ⟨rfl, rfl, rfl⟩
  obtain ⟨ax1, nx1, cx1, rfl⟩ := okWide_slice Try.underlying26 (hval 1 26 v1 rfl rfl)
  obtain ⟨fuel1, hf1⟩ := h1
  have h1 : DataW.Trod enc Try.prog W 0 (fun _ => true) true 26 (.slice ax1 nx1 cx1) d1 p1 := ⟨fuel1, hf1⟩
  obtain ⟨bs1, a1, c1, hsl1, hB1⟩ := ints_open (v := .slice ax1 nx1 cx1) (by simpa [Value.cells] using hf1)
  obtain ⟨rfl, rfl, rfl⟩ : ax1 = a1 ∧ nx1 = bs1.length ∧ cx1 = c1 := by cases hsl1; exact ⟨rfl, rfl, rfl⟩
  obtain ⟨k2, rfl, rfl, rfl, hk2⟩ := open_int Try.underlying3 (hval 2 3 v2 rfl rfl) h2
  obtain ⟨ax3, nx3, cx3, rfl⟩ := okWide_slice Try.underlying26 (hval 3 26 v3 rfl rfl)
  obtain ⟨fuel3, hf3⟩ := h3
  have h3 : DataW.Trod enc Try.prog W 0 (fun _ => true) true 26 (.slice ax3 nx3 cx3) d3 p3 := ⟨fuel3, hf3⟩
  obtain ⟨bs3, a3, c3, hsl3, hB3⟩ := ints_open (v := .slice ax3 nx3 cx3) (by simpa [Value.cells] using hf3)
  obtain ⟨rfl, rfl, rfl⟩ : ax3 = a3 ∧ nx3 = bs3.length ∧ cx3 = c3 := by cases hsl3; exact ⟨rfl, rfl, rfl⟩
  clear hA0
  simp only [List.append_nil] at hW'
  have hlt := hW'.lt
  refine (lives_law bs0 bs1 k2 bs3 ax0 ax1 ax3 cx0 cx1 cx3 W hB0 hB1 hB3).mono fun e W' ⟨he, hb⟩ => ?_
  subst he
  refine ⟨_, rfl, _, _, _, [], p0 ++ (p1 ++ ([] ++ (p3 ++ []))), [], hW', ?_, ?_, rfl, hb.frame _, fun h => by cases h⟩
  · exact trodAll_cons_mk (shut_bool Try.underlying4 _) trodAll_mk0
  · exact trodAll_cons_mk (hb.trod laidOut (by kernel_rfl) (by decide +kernel) h0 (fun x hx => hlt x (by simp [hx]))) (trodAll_cons_mk (hb.trod laidOut (by kernel_rfl) (by decide +kernel) h1 (fun x hx => hlt x (by simp [hx]))) (trodAll_cons_mk (hb.trod laidOut (by kernel_rfl) (by decide +kernel) h2 (fun x hx => by cases hx)) (trodAll_cons_mk (hb.trod laidOut (by kernel_rfl) (by decide +kernel) h3 (fun x hx => hlt x (by simp [hx]))) trodAll_mk0)))

set_option maxRecDepth 100000 in
theorem lifted (os : Os) (started : os.Started) (H : Type) (enc : TypeId × Value → H) :
    ReturnsInHanded {} Try.checked os 5 .any (Rows.farmLivesSpec.pre6 enc Try.prog Try.f5 Rows.farmLivesRow.domain false) (Rows.farmLivesSpec.post enc Try.prog Try.f5 false true false false) := by
  refine returnsInHanded_of_change (C := Try.checked) own started (by kernel_rfl) Try.func5
    (ChangeSpec.witness6 (enc := enc) (C := Try.checked) false ⟨#[], #[.slice none 0 0, .slice none 0 0, .int .i64 0, .slice none 0 0], []⟩ 8 (by kernel_rfl) (by kernel_rfl) (by kernel_rfl) (by kernel_rfl)) ?_
  intro W base args ds gs before hval0 hW hcnd _
  exact contract H enc W base args ds gs before hval0 hW

theorem over : Rows.farmLivesRow.holds Try.pinned (OpenSpec.ofChange Rows.farmLivesSpec) :=
  OpenClaim.holds_of_wide 5 Try.f5 rfl rfl rfl rfl rfl rfl rfl ⟨rfl, rfl, rfl, rfl, rfl⟩ rfl rfl rfl rfl rfl (by kernel_rfl) Try.func5 (by kernel_rfl)
    (of_decide_eq_true (by kernel_rfl)) (by unfold Func.isWrapper; first | (rw [if_pos (by decide +kernel)]; kernel_rfl) | (rw [if_neg (by decide +kernel)]; exact ⟨rfl, rfl⟩))
    (fun os started H enc _ => lifted os started H enc)

end Go.Proofs.Ytmlojlbmfceogaa.farmLives
namespace Go.Proofs.Ytmlojlbmfceogaa
/-- The statement. -/
theorem farmLives_proved : Rows.FarmLivesSaid := farmLives.over
#print axioms farmLives_proved
end Go.Proofs.Ytmlojlbmfceogaa
