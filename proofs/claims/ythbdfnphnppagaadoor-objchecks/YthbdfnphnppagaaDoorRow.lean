/-
  ObjChecks: for every two parts, every text, kind and fragment the law returns true, and each reads behind the call as it read before. (The row lists two of the library's tables, unicode/utf8's; the card ties them to the program's text.)
-/
import Derived.Test.YthbdfnphnppagaaDoorCards
import Derived.Test.YthbdfnphnppagaaDoorTie
import Derived.Test.YthbdfnphnppagaaDoorLaw
import Derived.Test.YthbdfnphnppagaaDoorOpen
import Derived.WalkKit
import Derived.ProofKit
import Derived.OpenShut
import Derived.Deep.DeepHandedRow
import Derived.Lib.LaidTab
namespace Go.Proofs.YthbdfnphnppagaaDoor.objChecks
open Go.ChangeShapes Go.WideShapes Go.ChangeAt Go.RowKit
open Go.ChangeMaps (open_string)
set_option linter.unusedVariables false

theorem own : ownKnob Tryd.prog.godebug = none := by kernel_rfl
theorem laidOut : laidOutB Tryd.prog = true := by kernel_rfl

set_option maxRecDepth 100000 in
theorem contract (H : Type) (enc : TypeId × Value → H) (W : World) (base : Nat) (args : Array Value) (ds gs : List (DataW H)) (before : List MemPlace)
    (hval : ∀ (j : Nat) t v, Tryd.f3.params[j]? = some t → args[j]? = some v → Value.okWide Tryd.prog W .any base t v)
    (hW : DataW.Whole enc Tryd.prog Tryd.f3.params.toList Rows.objChecksSpec.vars false W args.toList ds gs before) :
    Calls Tryd.prog 3 args W fun e W' => ∃ v, e = .returned v ∧ Rows.objChecksSpec.post enc Tryd.prog Tryd.f3 false true false false W args v W' := by
  have hW' := hW
  obtain ⟨p, q, hA0, hV, rfl, hfz, hnd⟩ := hW
  have hA : DataW.TrodAll enc Tryd.prog W 0 (fun _ => true) true Tryd.f3.params.toList args.toList ds p := hA0
  rw [Tryd.params3] at hA hval
  obtain ⟨v0, vs0, d0, ds0, p0, q0, hargs, rfl, rfl, h0, r0⟩ := trodAll_cons hA
  obtain ⟨v1, vs1, d1, ds1, p1, q1, rfl, rfl, rfl, h1, r1⟩ := trodAll_cons r0
  obtain ⟨v2, vs2, d2, ds2, p2, q2, rfl, rfl, rfl, h2, r2⟩ := trodAll_cons r1
  obtain ⟨v3, vs3, d3, ds3, p3, q3, rfl, rfl, rfl, h3, r3⟩ := trodAll_cons r2
  obtain ⟨v4, vs4, d4, ds4, p4, q4, rfl, rfl, rfl, h4, r4⟩ := trodAll_cons r3
  obtain ⟨rfl, rfl, rfl⟩ := trodAll_nil r4
  obtain rfl : args = #[v0, v1, v2, v3, v4] := by cases args; simp_all
  obtain ⟨rfl, rfl⟩ := trodVars_none hV
  obtain ⟨x0, x1, y0, y1, m0, rfl, _, _, ha0, ha1⟩ := Joins.open_agg2 Tryd.underlying25 (by kernel_rfl) kPart (hval 0 25 v0 rfl rfl) h0
  obtain ⟨fs, a1, c1, rfl, hF⟩ := frags_open ha0
  obtain ⟨dfs, a2, c2, rfl, hD⟩ := defs_open ha1
  obtain ⟨x2, x3, y2, y3, m1, rfl, _, _, hb0, hb1⟩ := Joins.open_agg2 Tryd.underlying25 (by kernel_rfl) kPart (hval 1 25 v1 rfl rfl) h1
  obtain ⟨fs', a3, c3, rfl, hF'⟩ := frags_open hb0
  obtain ⟨dfs', a4, c4, rfl, hD'⟩ := defs_open hb1
  obtain ⟨s, rfl, rfl, rfl, hs⟩ := open_string Tryd.underlying9 (hval 2 9 v2 rfl rfl) h2
  obtain ⟨kind, rfl, rfl, rfl, hkw⟩ := open_int Tryd.underlying3 (hval 3 3 v3 rfl rfl) h3
  obtain ⟨cs, rfl, hcs⟩ := okWide_struct Tryd.underlying29 (hval 4 29 v4 rfl rfl)
  obtain ⟨fuel4, hf4⟩ := h4
  have h4 : DataW.Trod enc Tryd.prog W 0 (fun _ => true) true 29 (.agg cs) d4 p4 := ⟨fuel4, hf4⟩
  obtain ⟨f, hfr⟩ := frag_open (cs := cs.toList) (by simpa [Value.cells] using hf4)
  rw [kFrag] at hcs
  have hsix : ∃ e0 e1 e2 e3 e4 e5, cs = #[e0, e1, e2, e3, e4, e5] := by
    obtain ⟨l⟩ := cs
    match l, hcs with
    | [e0, e1, e2, e3, e4, e5], _ => exact ⟨e0, e1, e2, e3, e4, e5, rfl⟩
  obtain ⟨g0, g1, g2, g3, g4, g5, rfl⟩ := hsix
  have z0 : g0 = .int .i64 f.sect := hfr.sect
  have z1 : g1 = .int .i64 f.align := hfr.align
  have z2 : g2 = .string f.group := hfr.group
  have z4 : g4 = .int .i64 f.size := hfr.size
  obtain ⟨ab, cb, z3, _⟩ := hfr.bytes.1.form
  have z3 : g3 = .slice ab f.bytes.length cb := z3
  subst z0 z1 z2 z3 z4
  clear hA0
  simp only [List.append_nil] at hW'
  have hlt := hW'.lt
  refine (law_any fs fs' dfs dfs' a1 a2 a3 a4 c1 c2 c3 c4 s kind f.sect f.align f.size f.group ab f.bytes.length cb g5 W hF hD hF' hD' hs hkw).mono fun e W' ⟨he, hb⟩ => ?_
  subst he
  refine ⟨_, rfl, _, _, _, [], p0 ++ (p1 ++ ([] ++ ([] ++ (p4 ++ [])))), [], hW', ?_, ?_, rfl, hb.frame _, fun h => by cases h⟩
  · exact trodAll_cons_mk (shut_bool Tryd.underlying4 _) trodAll_mk0
  · exact trodAll_cons_mk (hb.trod laidOut (by kernel_rfl) (by decide +kernel) h0 (fun x hx => hlt x (by simp [hx])))
      (trodAll_cons_mk (hb.trod laidOut (by kernel_rfl) (by decide +kernel) h1 (fun x hx => hlt x (by simp [hx])))
      (trodAll_cons_mk (hb.trod laidOut (by kernel_rfl) (by decide +kernel) h2 (fun x hx => by cases hx))
      (trodAll_cons_mk (hb.trod laidOut (by kernel_rfl) (by decide +kernel) h3 (fun x hx => by cases hx))
      (trodAll_cons_mk (hb.trod laidOut (by kernel_rfl) (by decide +kernel) h4 (fun x hx => hlt x (by simp [hx]))) trodAll_mk0))))

end Go.Proofs.YthbdfnphnppagaaDoor.objChecks
