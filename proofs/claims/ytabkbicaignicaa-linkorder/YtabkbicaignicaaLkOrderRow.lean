/-
  LinkOrder: for every part, part, part, number, text the law returns true, and each reads behind the call as it read before. No condition.
-/
import Derived.Test.YtabkbicaignicaaRows
import Derived.Test.YtabkbicaignicaaLkOrderLaw
import Derived.Test.YtabkbicaignicaaOpA
import Derived.WalkKit
import Derived.ProofKit
import Derived.OpenShut
import Derived.Deep.DeepHandedRow
namespace Go.Proofs.Ytabkbicaignicaa.linkOrder
open Go.ChangeShapes Go.WideShapes Go.ChangeAt Go.RowKit
open Go.ChangeMaps (open_string)
set_option linter.unusedVariables false

theorem own : ownKnob Try.prog.godebug = none := by kernel_rfl
theorem laidOut : laidOutB Try.prog = true := by kernel_rfl

set_option maxRecDepth 100000 in
theorem contract (H : Type) (enc : TypeId × Value → H) (W : World) (base : Nat) (args : Array Value) (ds gs : List (DataW H)) (before : List MemPlace)
    (hval : ∀ (j : Nat) t v, Try.f7.params[j]? = some t → args[j]? = some v → Value.okWide Try.prog W .any base t v)
    (hW : DataW.Whole enc Try.prog Try.f7.params.toList Rows.linkOrderSpec.vars false W args.toList ds gs before) :
    Calls Try.prog 7 args W fun e W' => ∃ v, e = .returned v ∧ Rows.linkOrderSpec.post enc Try.prog Try.f7 false true false false W args v W' := by
  have hW' := hW
  obtain ⟨p, q, hA0, hV, rfl, hfz, hnd⟩ := hW
  have hA : DataW.TrodAll enc Try.prog W 0 (fun _ => true) true Try.f7.params.toList args.toList ds p := hA0
  rw [Try.params7] at hA hval
  obtain ⟨v0, vs0, d0, ds0, p0, q0, hargs, rfl, rfl, h0, r0⟩ := trodAll_cons hA
  obtain ⟨v1, vs1, d1, ds1, p1, q1, rfl, rfl, rfl, h1, r1⟩ := trodAll_cons r0
  obtain ⟨v2, vs2, d2, ds2, p2, q2, rfl, rfl, rfl, h2, r2⟩ := trodAll_cons r1
  obtain ⟨v3, vs3, d3, ds3, p3, q3, rfl, rfl, rfl, h3, r3⟩ := trodAll_cons r2
  obtain ⟨v4, vs4, d4, ds4, p4, q4, rfl, rfl, rfl, h4, r4⟩ := trodAll_cons r3
  obtain ⟨rfl, rfl, rfl⟩ := trodAll_nil r4
  obtain rfl : args = #[v0, v1, v2, v3, v4] := by cases args; simp_all
  obtain ⟨rfl, rfl⟩ := trodVars_none hV
  obtain ⟨x0, y0, s0, t0, m0, rfl, _, _, ha0, hb0⟩ := Joins.open_agg2 Try.underlying25 (by kernel_rfl) kPart (hval 0 25 v0 rfl rfl) h0
  obtain ⟨fs0, a0, c0, rfl, hF0⟩ := frags_open ha0
  obtain ⟨dfs0, b0, e0, rfl, hD0⟩ := defs_open hb0
  obtain ⟨x1, y1, s1, t1, m1, rfl, _, _, ha1, hb1⟩ := Joins.open_agg2 Try.underlying25 (by kernel_rfl) kPart (hval 1 25 v1 rfl rfl) h1
  obtain ⟨fs1, a1, c1, rfl, hF1⟩ := frags_open ha1
  obtain ⟨dfs1, b1, e1, rfl, hD1⟩ := defs_open hb1
  obtain ⟨x2, y2, s2, t2, m2, rfl, _, _, ha2, hb2⟩ := Joins.open_agg2 Try.underlying25 (by kernel_rfl) kPart (hval 2 25 v2 rfl rfl) h2
  obtain ⟨fs2, a2, c2, rfl, hF2⟩ := frags_open ha2
  obtain ⟨dfs2, b2, e2, rfl, hD2⟩ := defs_open hb2
  obtain ⟨k3, rfl, rfl, rfl, hk3⟩ := open_int Try.underlying3 (hval 3 3 v3 rfl rfl) h3
  obtain ⟨s4, rfl, rfl, rfl, hs4⟩ := open_string Try.underlying9 (hval 4 9 v4 rfl rfl) h4
  clear hA0
  simp only [List.append_nil] at hW'
  have hlt := hW'.lt
  refine (linkOrder_law ⟨fs0, dfs0⟩ ⟨fs1, dfs1⟩ ⟨fs2, dfs2⟩ k3 s4 a0 b0 a1 b1 a2 b2 c0 e0 c1 e1 c2 e2 W hF0 hD0 hF1 hD1 hF2 hD2 hs4).mono fun e W' ⟨he, hb⟩ => ?_
  subst he
  refine ⟨_, rfl, _, _, _, [], p0 ++ (p1 ++ (p2 ++ ([] ++ ([] ++ [])))), [], hW', ?_, ?_, rfl, hb.frame _, fun h => by cases h⟩
  · exact trodAll_cons_mk (shut_bool Try.underlying4 _) trodAll_mk0
  · exact trodAll_cons_mk (hb.trod laidOut (by kernel_rfl) (by decide +kernel) h0 (fun x hx => hlt x (by simp [hx]))) (trodAll_cons_mk (hb.trod laidOut (by kernel_rfl) (by decide +kernel) h1 (fun x hx => hlt x (by simp [hx]))) (trodAll_cons_mk (hb.trod laidOut (by kernel_rfl) (by decide +kernel) h2 (fun x hx => hlt x (by simp [hx]))) (trodAll_cons_mk (hb.trod laidOut (by kernel_rfl) (by decide +kernel) h3 (fun x hx => by cases hx)) (trodAll_cons_mk (hb.trod laidOut (by kernel_rfl) (by decide +kernel) h4 (fun x hx => by cases hx)) trodAll_mk0))))

set_option maxRecDepth 100000 in
theorem lifted (os : Os) (started : os.Started) (H : Type) (enc : TypeId × Value → H) :
    ReturnsInHanded {} Try.checked os 7 .any (Rows.linkOrderSpec.pre6 enc Try.prog Try.f7 Rows.linkOrderRow.domain false) (Rows.linkOrderSpec.post enc Try.prog Try.f7 false true false false) := by
  refine returnsInHanded_of_change (C := Try.checked) own started (by kernel_rfl) Try.func7
    (ChangeSpec.witness6 (enc := enc) (C := Try.checked) false ⟨#[], #[.agg #[.slice none 0 0, .slice none 0 0], .agg #[.slice none 0 0, .slice none 0 0], .agg #[.slice none 0 0, .slice none 0 0], .int .i64 0, .string ⟨#[]⟩], []⟩ 8 (by kernel_rfl) (by kernel_rfl) (by kernel_rfl) (by kernel_rfl)) ?_
  intro W base args ds gs before hval0 hW hcnd _
  exact contract H enc W base args ds gs before hval0 hW

theorem over : Rows.linkOrderRow.holds Try.pinned (OpenSpec.ofChange Rows.linkOrderSpec) :=
  OpenClaim.holds_of_wide 7 Try.f7 rfl rfl rfl rfl rfl rfl rfl ⟨rfl, rfl, rfl, rfl, rfl⟩ rfl rfl rfl rfl rfl (by kernel_rfl) Try.func7 (by kernel_rfl)
    (of_decide_eq_true (by kernel_rfl)) (by unfold Func.isWrapper; first | (rw [if_pos (by decide +kernel)]; kernel_rfl) | (rw [if_neg (by decide +kernel)]; exact ⟨rfl, rfl⟩))
    (fun os started H enc _ => lifted os started H enc)

end Go.Proofs.Ytabkbicaignicaa.linkOrder
namespace Go.Proofs.Ytabkbicaignicaa
/-- The statement. -/
theorem linkOrder_proved : Rows.LinkOrderSaid := linkOrder.over
#print axioms linkOrder_proved
end Go.Proofs.Ytabkbicaignicaa
