/-
  PartJoins: for every two parts and every list of parts the law returns true, and each reads behind the call as it read before. Condition: two of the library's tables (unicode/utf8's first and acceptRanges) hold when the call begins what the program's text lays; the card ties them to that text.
-/
import Derived.Test.YthbdfnphnppagaaDoorRefJoinLaw
import Derived.Test.YthbdfnphnppagaaDoorOpB
import Derived.Test.YthbdfnphnppagaaDoorCards
import Derived.Test.YthbdfnphnppagaaDoorTie
import Derived.WalkKit
import Derived.ProofKit
import Derived.OpenShut
import Derived.Deep.DeepHandedRow
import Derived.Lib.LaidTab
namespace Go.Proofs.YthbdfnphnppagaaDoor.partJoins
open Go.ChangeShapes Go.WideShapes Go.ChangeAt Go.RowKit
set_option linter.unusedVariables false

theorem own : ownKnob Tryd.prog.godebug = none := by kernel_rfl
theorem laidOut : laidOutB Tryd.prog = true := by kernel_rfl

theorem kFs : Tryd.prog.cellsOf 22 = 1 := by kernel_rfl
theorem kDs : Tryd.prog.cellsOf 23 = 1 := by kernel_rfl

set_option maxRecDepth 100000 in
theorem part_open {H : Type} {enc : TypeId × Value → H} {w : World} {base : Nat} {spare : Nat → Bool} {held : Bool} {n : Nat} {cs : List Value} {y : DataW H × List MemPlace} (h : DataW.trod enc Tryd.prog w base spare held n 25 cs = some y) :
    ∃ p : M.Prt, FragsAt w (cs.getD 0 undef) p.frags ∧ DefsAt w (cs.getD 1 undef) p.defs := by
  obtain ⟨xs, m, _, _, hl, hlen, hf⟩ := DataW.trod_struct Tryd.underlying25 h
  rw [kPart] at hl
  match cs, hl with
  | [c0, c1], _ =>
    match xs, hlen with
    | [y0, y1], _ =>
      have h0 := hf 0 _ rfl
      have h1 := hf 1 _ rfl
      simp [kFs, kDs] at h0 h1
      obtain ⟨fs, a1, c1, rfl, hF⟩ := frags_open h0
      obtain ⟨ds, a2, c2, rfl, hD⟩ := defs_open h1
      exact ⟨⟨fs, ds⟩, hF, hD⟩

theorem parts_open {H : Type} {enc : TypeId × Value → H} {w : World} {base : Nat} {spare : Nat → Bool} {held : Bool} {n : Nat} {v : Value} {y : DataW H × List MemPlace} (h : DataW.trod enc Tryd.prog w base spare held n 47 [v] = some y) :
    ∃ (ps : List M.Prt) (a : Option Addr) (c : Nat), v = .slice a ps.length c ∧ PartsAt w (.slice a ps.length c) ps := by
  obtain ⟨a, ps, c, CS, hv, hsl, hq⟩ := slice_open M.nil (fun p cs => FragsAt w (cs.getD 0 undef) p.frags ∧ DefsAt w (cs.getD 1 undef) p.defs) (by decide) kPart Tryd.underlying47 (fun _ _ _ h => part_open h) h
  exact ⟨ps, a, c, hv, _, hsl, fun j hj => (hq j hj).2⟩

/-- what a part's reading holds lies within the reach -/
theorem part_reach {H : Type} {y0 y1 : DataW H × List MemPlace} {B : Nat} (hB : ∀ m ∈ (DataW.agg [y0.1, y1.1]).weights Tryd.prog 25, m ≤ B) : (∀ m ∈ y0.1.weights Tryd.prog 22, m ≤ B) ∧ ∀ m ∈ y1.1.weights Tryd.prog 23, m ≤ B := by
  simp only [DataW.weights, Tryd.underlying25, List.map_cons, List.map_nil, DataW.weightsEach] at hB
  exact ⟨fun m hm => hB m (by simp [hm]), fun m hm => hB m (by simp [hm])⟩

set_option maxRecDepth 100000 in
theorem contract (H : Type) (enc : TypeId × Value → H) (W : World) (base : Nat) (args : Array Value) (ds gs : List (DataW H)) (before : List MemPlace)
    (hval : ∀ (j : Nat) t v, Tryd.f5.params[j]? = some t → args[j]? = some v → Value.okWide Tryd.prog W .any base t v)
    (hW : DataW.Whole enc Tryd.prog Tryd.f5.params.toList Rows.partJoinsSpec.vars false W args.toList ds gs before)
    (hz : ∀ (j : Nat) t d, Tryd.f5.params.toList[j]? = some t → ds[j]? = some d → ∀ m ∈ d.weights Tryd.prog t, m ≤ reachBytes) :
    Calls Tryd.prog 5 args W fun e W' => ∃ v, e = .returned v ∧ Rows.partJoinsSpec.post enc Tryd.prog Tryd.f5 false true false false W args v W' := by
  have hW' := hW
  obtain ⟨p, q, hA0, hV, rfl, hfz, hnd⟩ := hW
  have hA : DataW.TrodAll enc Tryd.prog W 0 (fun _ => true) true Tryd.f5.params.toList args.toList ds p := hA0
  rw [Tryd.params5] at hA hval hz
  obtain ⟨v0, vs0, d0, ds0, p0, q0, hargs, rfl, rfl, h0, r0⟩ := trodAll_cons hA
  obtain ⟨v1, vs1, d1, ds1, p1, q1, rfl, rfl, rfl, h1, r1⟩ := trodAll_cons r0
  obtain ⟨v2, vs2, d2, ds2, p2, q2, rfl, rfl, rfl, h2, r2⟩ := trodAll_cons r1
  obtain ⟨rfl, rfl, rfl⟩ := trodAll_nil r2
  obtain rfl : args = #[v0, v1, v2] := by cases args; simp_all
  obtain ⟨rfl, rfl⟩ := trodVars_none hV
  obtain ⟨x0, x1, y0, y1, m0, rfl, hd0, _, ha0, ha1⟩ := Joins.open_agg2 Tryd.underlying25 (by kernel_rfl) kPart (hval 0 25 v0 rfl rfl) h0
  obtain ⟨fs, a1, c1, rfl, hF⟩ := frags_open ha0
  obtain ⟨dfs, a2, c2, rfl, hD⟩ := defs_open ha1
  obtain ⟨u0, u1, z0, z1, m1, rfl, hd1, _, hb0, hb1⟩ := Joins.open_agg2 Tryd.underlying25 (by kernel_rfl) kPart (hval 1 25 v1 rfl rfl) h1
  obtain ⟨fs', b1, k1, rfl, hF'⟩ := frags_open hb0
  obtain ⟨dfs', b2, k2, rfl, hD'⟩ := defs_open hb1
  have hr0 := hz 0 25 d0 rfl rfl
  rw [hd0] at hr0
  have hR := room_reach (p := ⟨fs, dfs⟩) ha0 hF ha1 (part_reach hr0).1 (part_reach hr0).2
  have hr1 := hz 1 25 d1 rfl rfl
  rw [hd1] at hr1
  have hR' := room_reach (p := ⟨fs', dfs'⟩) hb0 hF' hb1 (part_reach hr1).1 (part_reach hr1).2
  obtain ⟨a3, n3, c3, rfl⟩ := okWide_slice Tryd.underlying47 (hval 2 47 v2 rfl rfl)
  obtain ⟨fuel2, hf2⟩ := h2
  have h2 : DataW.Trod enc Tryd.prog W 0 (fun _ => true) true 47 (.slice a3 n3 c3) d2 p2 := ⟨fuel2, hf2⟩
  obtain ⟨l, a4, c4, hsl, hL⟩ := parts_open (v := .slice a3 n3 c3) (by simpa [Value.cells] using hf2)
  obtain ⟨rfl, rfl, rfl⟩ : a3 = a4 ∧ n3 = l.length ∧ c3 = c4 := by cases hsl; exact ⟨rfl, rfl, rfl⟩
  clear hA0
  simp only [List.append_nil] at hW'
  have hlt := hW'.lt
  refine (joins_law ⟨fs, dfs⟩ ⟨fs', dfs'⟩ l a1 a2 b1 b2 a3 c1 c2 k1 k2 c3 W hF hD hF' hD' hL hR hR').mono fun e W' ⟨he, hb⟩ => ?_
  subst he
  refine ⟨_, rfl, _, _, _, [], p0 ++ (p1 ++ (p2 ++ [])), [], hW', ?_, ?_, rfl, hb.frame _, fun h => by cases h⟩
  · exact trodAll_cons_mk (shut_bool Tryd.underlying4 _) trodAll_mk0
  · exact trodAll_cons_mk (hb.trod laidOut (by kernel_rfl) (by decide +kernel) h0 (fun x hx => hlt x (by simp [hx])))
      (trodAll_cons_mk (hb.trod laidOut (by kernel_rfl) (by decide +kernel) h1 (fun x hx => hlt x (by simp [hx])))
        (trodAll_cons_mk (hb.trod laidOut (by kernel_rfl) (by decide +kernel) h2 (fun x hx => hlt x (by simp [hx]))) trodAll_mk0))

end Go.Proofs.YthbdfnphnppagaaDoor.partJoins

namespace Go.Proofs.YthbdfnphnppagaaDoor.partJoins
open Go.ChangeShapes Go.WideShapes Go.ChangeAt Go.RowKit
set_option linter.unusedVariables false

def firstCells : Array Value := (Go.Pinned.utf8FirstZ.map fun n : Nat => Value.int .u8 (n : Int)).toArray
def acceptCells : Array Value := #[.int .u8 128, .int .u8 191, .int .u8 160, .int .u8 191, .int .u8 128, .int .u8 159, .int .u8 144, .int .u8 191, .int .u8 128, .int .u8 143, .int .u8 0, .int .u8 0, .int .u8 0, .int .u8 0, .int .u8 0, .int .u8 0, .int .u8 0, .int .u8 0, .int .u8 0, .int .u8 0, .int .u8 0, .int .u8 0, .int .u8 0, .int .u8 0, .int .u8 0, .int .u8 0, .int .u8 0, .int .u8 0, .int .u8 0, .int .u8 0, .int .u8 0, .int .u8 0]

/-- one start that fits: two empty parts, no list -/
def wargs : Array Value := #[.agg #[.slice none 0 0, .slice none 0 0], .agg #[.slice none 0 0, .slice none 0 0], .slice none 0 0]

def putCells (c : Array Value) : Obj → Obj
  | .cells _ t frozen => .cells c t frozen
  | o => o

theorem laid_met (os : Os) : laidMet Tryd.prog Rows.partJoinsRow.laid (({ World.holding Tryd.prog os ⟨#[], #[], []⟩ with heap := ((World.holding Tryd.prog os ⟨#[], #[], []⟩).heap.modify 0 (putCells firstCells)).modify 1 (putCells acceptCells) } : World).forCall (fun _ _ => 0) ⟨#[], wargs, []⟩).memory :=
  laidMet_of_run' 8 (by kernel_rfl) (by kernel_rfl)
theorem reads (os : Os) {H : Type} (enc : TypeId × Value → H) : ∃ ds places, DataW.whole enc Tryd.prog (({ World.holding Tryd.prog os ⟨#[], #[], []⟩ with heap := ((World.holding Tryd.prog os ⟨#[], #[], []⟩).heap.modify 0 (putCells firstCells)).modify 1 (putCells acceptCells) } : World).forCall (fun _ _ => 0) ⟨#[], wargs, []⟩).memory Tryd.f5.params.toList Rows.partJoinsSpec.vars false wargs.toList 8 = some (ds, [], places) :=
  ⟨[.agg [.nil, .nil], .agg [.nil, .nil], .nil], [], by kernel_rfl⟩

set_option maxRecDepth 100000 in
theorem lifted (os : Os) (started : os.Started) (H : Type) (enc : TypeId × Value → H) (F : Stop.Interp) :
    ReturnsInHanded {} Tryd.checked os 5 .any ((OpenSpec.ofChange Rows.partJoinsSpec).preRow enc Tryd.prog Tryd.f5 Rows.partJoinsRow.domain false Rows.partJoinsRow.laid) (((OpenSpec.ofChange Rows.partJoinsSpec).at F).post enc Tryd.prog Tryd.f5 false true false false) := by
  obtain ⟨ds, places, hx⟩ := reads os enc
  refine returnsInHanded_of_row (C := Tryd.checked) (s := OpenSpec.ofChange Rows.partJoinsSpec) own started (by kernel_rfl) Tryd.func5
    (witness_row_at (enc := enc) (C := Tryd.checked) false ({ World.holding Tryd.prog os ⟨#[], #[], []⟩ with heap := ((World.holding Tryd.prog os ⟨#[], #[], []⟩).heap.modify 0 (putCells firstCells)).modify 1 (putCells acceptCells) } : World) wargs rfl (by kernel_rfl) (by kernel_rfl) (by kernel_rfl)
      (OpenSpec.preRow_of_cond 8 hx (by kernel_rfl) (fun k hk => by cases hk) (by kernel_rfl) (laid_met os))) ?_
  intro W base args ds gs before hval hW _ _ hz _ _ _
  refine contract H enc W base args ds gs before hval hW (fun j t d ht hd m hm => ?_)
  have h := List.all_eq_true.1 hz m (DataW.weights_mem_each (j := j) (t := t) (d := d) ?_ ?_ m hm)
  · simpa using h
  · rw [List.getElem?_append_left (List.getElem?_eq_some_iff.1 ht).1]; exact ht
  · rw [List.getElem?_append_left (List.getElem?_eq_some_iff.1 hd).1]; exact hd

theorem said : Rows.PartJoinsSaid :=
  OpenClaim.holds_of_cond 5 Tryd.f5 rfl rfl rfl rfl rfl rfl rfl ⟨rfl, rfl, rfl, rfl, rfl⟩ rfl rfl rfl rfl rfl (by kernel_rfl) Tryd.func5 (by kernel_rfl)
    (of_decide_eq_true (by kernel_rfl)) (by unfold Func.isWrapper; first | (rw [if_pos (by decide +kernel)]; kernel_rfl) | (rw [if_neg (by decide +kernel)]; exact ⟨rfl, rfl⟩))
    (fun os started H enc _ F => by rw [OpenClaim.pre_eq_preRow]; exact lifted os started H enc F)

theorem plain (f : FuncId) (fn : Func) (hf : Tryd.pinned.checked.prog.funcNamed "ropewalk/ropewalklaw.PartJoins" = some f) (hfn : Tryd.pinned.checked.prog.funcs[f]? = some fn) :
    false = Tryd.pinned.checked.prog.looks [] ∧ ∀ (j : Nat) t, fn.params[j]? = some t → Tryd.pinned.checked.prog.wantsStandIn t = false := by
  obtain rfl : f = 5 := Option.some.inj ((show Tryd.prog.funcNamed "ropewalk/ropewalklaw.PartJoins" = some 5 by kernel_rfl).symm.trans hf) |>.symm
  obtain rfl : fn = Tryd.f5 := (Option.some.inj (Tryd.func5.symm.trans hfn)).symm
  refine ⟨by kernel_rfl, fun j t ht => ?_⟩
  rw [Tryd.params5] at ht
  have hm : t = 25 ∨ t = 47 := by
    have := Array.mem_of_getElem? ht
    simp at this
    omega
  rcases hm with rfl | rfl
  · exact (show Tryd.prog.wantsStandIn 25 = false by kernel_rfl)
  · exact (show Tryd.prog.wantsStandIn 47 = false by kernel_rfl)

end Go.Proofs.YthbdfnphnppagaaDoor.partJoins
namespace Go.Proofs.YthbdfnphnppagaaDoor
/-- The card. -/
theorem partJoins_card : Rows.PartJoinsCardSaid :=
  Claim7.holds_tied_plain_at .later [] _ _ _ _ partJoins.said (fun _ h => by cases h) (by kernel_rfl) (fun _ h => by cases h) partJoins_row_tie rfl ⟨rfl, rfl⟩ (by kernel_rfl) rfl partJoins.plain (by kernel_rfl)
#print axioms partJoins_card
end Go.Proofs.YthbdfnphnppagaaDoor
