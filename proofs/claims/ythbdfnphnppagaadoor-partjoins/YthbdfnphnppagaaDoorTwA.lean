/-
  The contract of the law's two parts for closed facts. Variables that hold parts; the contract of the law's closed fact: it is true.
-/
import Derived.Test.YthbdfnphnppagaaDoorChecked
import Derived.Test.YthbdfnphnppagaaDoorMem
import Derived.Test.YthbdfnphnppagaaDoorLater
import Derived.RegionTactic
import Derived.ChangeAlike
import Derived.Test.YthbdfnphnppagaaDoorPrtVar
import Derived.Test.YthbdfnphnppagaaDoorSaA

namespace Go.Proofs.YthbdfnphnppagaaDoor
open Go.RowKit
set_option linter.unusedVariables false

theorem chain9 (w : World) (o0 o1 o2 o3 o4 o5 o6 o7 o8 : Array Value) (t0 t1 t2 t3 t4 t5 t6 t7 t8 : TypeId) : (∀ i, ((((((((((w.alloc (.cells o0 t0)).alloc (.cells o1 t1)).alloc (.cells o2 t2)).alloc (.cells o3 t3)).alloc (.cells o4 t4)).alloc (.cells o5 t5)).alloc (.cells o6 t6)).alloc (.cells o7 t7)).alloc (.cells o8 t8)).drew).cell? ⟨w.heap.size + 1 + 1, i, none⟩ = o2[i]?) ∧ (∀ i, ((((((((((w.alloc (.cells o0 t0)).alloc (.cells o1 t1)).alloc (.cells o2 t2)).alloc (.cells o3 t3)).alloc (.cells o4 t4)).alloc (.cells o5 t5)).alloc (.cells o6 t6)).alloc (.cells o7 t7)).alloc (.cells o8 t8)).drew).cell? ⟨w.heap.size + 1 + 1 + 1, i, none⟩ = o3[i]?) ∧ (∀ i, ((((((((((w.alloc (.cells o0 t0)).alloc (.cells o1 t1)).alloc (.cells o2 t2)).alloc (.cells o3 t3)).alloc (.cells o4 t4)).alloc (.cells o5 t5)).alloc (.cells o6 t6)).alloc (.cells o7 t7)).alloc (.cells o8 t8)).drew).cell? ⟨w.heap.size + 1 + 1 + 1 + 1, i, none⟩ = o4[i]?) ∧ (∀ i, ((((((((((w.alloc (.cells o0 t0)).alloc (.cells o1 t1)).alloc (.cells o2 t2)).alloc (.cells o3 t3)).alloc (.cells o4 t4)).alloc (.cells o5 t5)).alloc (.cells o6 t6)).alloc (.cells o7 t7)).alloc (.cells o8 t8)).drew).cell? ⟨w.heap.size + 1 + 1 + 1 + 1 + 1, i, none⟩ = o5[i]?) ∧ (∀ i, ((((((((((w.alloc (.cells o0 t0)).alloc (.cells o1 t1)).alloc (.cells o2 t2)).alloc (.cells o3 t3)).alloc (.cells o4 t4)).alloc (.cells o5 t5)).alloc (.cells o6 t6)).alloc (.cells o7 t7)).alloc (.cells o8 t8)).drew).cell? ⟨w.heap.size + 1 + 1 + 1 + 1 + 1 + 1, i, none⟩ = o6[i]?) ∧ (∀ i, ((((((((((w.alloc (.cells o0 t0)).alloc (.cells o1 t1)).alloc (.cells o2 t2)).alloc (.cells o3 t3)).alloc (.cells o4 t4)).alloc (.cells o5 t5)).alloc (.cells o6 t6)).alloc (.cells o7 t7)).alloc (.cells o8 t8)).drew).cell? ⟨w.heap.size + 1 + 1 + 1 + 1 + 1 + 1 + 1, i, none⟩ = o7[i]?) ∧ (∀ i, ((((((((((w.alloc (.cells o0 t0)).alloc (.cells o1 t1)).alloc (.cells o2 t2)).alloc (.cells o3 t3)).alloc (.cells o4 t4)).alloc (.cells o5 t5)).alloc (.cells o6 t6)).alloc (.cells o7 t7)).alloc (.cells o8 t8)).drew).cell? ⟨w.heap.size + 1 + 1 + 1 + 1 + 1 + 1 + 1 + 1, i, none⟩ = o8[i]?) := by
  refine ⟨?_, ?_, ?_, ?_, ?_, ?_, ?_⟩
  · intro i
    show ((((((((((w.alloc (.cells o0 t0)).alloc (.cells o1 t1)).alloc (.cells o2 t2)).alloc (.cells o3 t3)).alloc (.cells o4 t4)).alloc (.cells o5 t5)).alloc (.cells o6 t6)).alloc (.cells o7 t7)).alloc (.cells o8 t8))).cell? _ = _
    rw [World.cell?_alloc_past _ _ _ (by simp; try omega), World.cell?_alloc_past _ _ _ (by simp; try omega), World.cell?_alloc_past _ _ _ (by simp; try omega), World.cell?_alloc_past _ _ _ (by simp; try omega), World.cell?_alloc_past _ _ _ (by simp; try omega), World.cell?_alloc_past _ _ _ (by simp; try omega), World.cell?_alloc_at _ _ _ _ (by simp)]
  · intro i
    show ((((((((((w.alloc (.cells o0 t0)).alloc (.cells o1 t1)).alloc (.cells o2 t2)).alloc (.cells o3 t3)).alloc (.cells o4 t4)).alloc (.cells o5 t5)).alloc (.cells o6 t6)).alloc (.cells o7 t7)).alloc (.cells o8 t8))).cell? _ = _
    rw [World.cell?_alloc_past _ _ _ (by simp; try omega), World.cell?_alloc_past _ _ _ (by simp; try omega), World.cell?_alloc_past _ _ _ (by simp; try omega), World.cell?_alloc_past _ _ _ (by simp; try omega), World.cell?_alloc_past _ _ _ (by simp; try omega), World.cell?_alloc_at _ _ _ _ (by simp)]
  · intro i
    show ((((((((((w.alloc (.cells o0 t0)).alloc (.cells o1 t1)).alloc (.cells o2 t2)).alloc (.cells o3 t3)).alloc (.cells o4 t4)).alloc (.cells o5 t5)).alloc (.cells o6 t6)).alloc (.cells o7 t7)).alloc (.cells o8 t8))).cell? _ = _
    rw [World.cell?_alloc_past _ _ _ (by simp; try omega), World.cell?_alloc_past _ _ _ (by simp; try omega), World.cell?_alloc_past _ _ _ (by simp; try omega), World.cell?_alloc_past _ _ _ (by simp; try omega), World.cell?_alloc_at _ _ _ _ (by simp)]
  · intro i
    show ((((((((((w.alloc (.cells o0 t0)).alloc (.cells o1 t1)).alloc (.cells o2 t2)).alloc (.cells o3 t3)).alloc (.cells o4 t4)).alloc (.cells o5 t5)).alloc (.cells o6 t6)).alloc (.cells o7 t7)).alloc (.cells o8 t8))).cell? _ = _
    rw [World.cell?_alloc_past _ _ _ (by simp; try omega), World.cell?_alloc_past _ _ _ (by simp; try omega), World.cell?_alloc_past _ _ _ (by simp; try omega), World.cell?_alloc_at _ _ _ _ (by simp)]
  · intro i
    show ((((((((((w.alloc (.cells o0 t0)).alloc (.cells o1 t1)).alloc (.cells o2 t2)).alloc (.cells o3 t3)).alloc (.cells o4 t4)).alloc (.cells o5 t5)).alloc (.cells o6 t6)).alloc (.cells o7 t7)).alloc (.cells o8 t8))).cell? _ = _
    rw [World.cell?_alloc_past _ _ _ (by simp; try omega), World.cell?_alloc_past _ _ _ (by simp; try omega), World.cell?_alloc_at _ _ _ _ (by simp)]
  · intro i
    show ((((((((((w.alloc (.cells o0 t0)).alloc (.cells o1 t1)).alloc (.cells o2 t2)).alloc (.cells o3 t3)).alloc (.cells o4 t4)).alloc (.cells o5 t5)).alloc (.cells o6 t6)).alloc (.cells o7 t7)).alloc (.cells o8 t8))).cell? _ = _
    rw [World.cell?_alloc_past _ _ _ (by simp; try omega), World.cell?_alloc_at _ _ _ _ (by simp)]
  · intro i
    show ((((((((((w.alloc (.cells o0 t0)).alloc (.cells o1 t1)).alloc (.cells o2 t2)).alloc (.cells o3 t3)).alloc (.cells o4 t4)).alloc (.cells o5 t5)).alloc (.cells o6 t6)).alloc (.cells o7 t7)).alloc (.cells o8 t8))).cell? _ = _
    rw [World.cell?_alloc_at _ _ _ _ (by simp)]

theorem below9 (w : World) (o0 o1 o2 o3 o4 o5 o6 o7 o8 : Array Value) (t0 t1 t2 t3 t4 t5 t6 t7 t8 : TypeId) : Below w.heap.size w ((((((((((w.alloc (.cells o0 t0)).alloc (.cells o1 t1)).alloc (.cells o2 t2)).alloc (.cells o3 t3)).alloc (.cells o4 t4)).alloc (.cells o5 t5)).alloc (.cells o6 t6)).alloc (.cells o7 t7)).alloc (.cells o8 t8)).drew) := by
  refine Below.drew ?_
  exact ((((((((((Below.refl _ _).alloc (Nat.le_refl _) _).alloc (by simp; try omega) _).alloc (by simp; try omega) _).alloc (by simp; try omega) _).alloc (by simp; try omega) _).alloc (by simp; try omega) _).alloc (by simp; try omega) _).alloc (by simp; try omega) _).alloc (by simp; try omega) _)

def relA : M.Rel := ⟨1, 2, ⟨#[102]⟩, 0, 0⟩
def frgA : M.Frg := ⟨1, 1, ⟨#[]⟩, [9, 0, 0], 0, [relA]⟩
def dfnA : M.Dfn := ⟨⟨#[109, 97, 105, 110]⟩, 1, 0, 0, 0, 0⟩
def frgB : M.Frg := ⟨1, 4, ⟨#[103]⟩, [7], 0, []⟩
def dfnB : M.Dfn := ⟨⟨#[102]⟩, 1, 0, 0, 0, 0⟩

/-- a slice of one element, in a block of its own -/
theorem one_at {w : World} {B : Nat} {k : Nat} {c : Array Value} {cell : Nat → Nat → Value} (h : ∀ i, w.cell? ⟨B, i, none⟩ = c[i]?) (hc : ∀ i, i < k → c[i]? = some (cell 0 i)) :
    SlAt w (.slice (some ⟨B, 0, none⟩) 1 1) k 1 cell := by
  refine ⟨_, _, rfl, by unfold maxLen; decide, .inr ⟨B, 0, rfl, fun j i hj hi => ?_⟩⟩
  obtain rfl : j = 0 := by omega
  have e : 0 + 0 * k + i = i := by omega
  rw [e, h, hc i hi]

/-- a row of bytes, in a block of its own -/
theorem bytes_at {w : World} {B : Nat} {bs : List Int} (hb : ∀ b ∈ bs, 0 ≤ b ∧ b < 256) (hl : bs.length ≤ 100) (h : ∀ i, w.cell? ⟨B, i, none⟩ = (bs.map (Value.int .u8)).toArray[i]?) :
    BytesAt w (.slice (some ⟨B, 0, none⟩) bs.length bs.length) bs := by
  refine ⟨⟨_, _, rfl, by unfold maxLen; omega, .inr ⟨B, 0, rfl, fun j i hj hi => ?_⟩⟩, hb⟩
  have e : 0 + j * 1 + i = j := by omega
  rw [e, h]
  simp [hj]

set_option maxHeartbeats 1000000 in
set_option maxRecDepth 100000 in
theorem two_any (w : World) :
    Calls Tryd.prog 40 #[] w fun e w' => ∃ a1 a2 a3 a4, e = .returned (.tuple #[.agg #[.slice a1 1 1, .slice a2 1 1], .agg #[.slice a3 1 1, .slice a4 1 1]]) ∧ Below w.heap.size w w'
      ∧ FragsAt w' (.slice a1 1 1) [frgA] ∧ DefsAt w' (.slice a2 1 1) [dfnA] ∧ FragsAt w' (.slice a3 1 1) [frgB] ∧ DefsAt w' (.slice a4 1 1) [dfnB] := by
  go_enter Tryd.func40, Tryd.ntmps40
  go_wp2_with fail
  go_region
  go_wp2
  refine bodyPost_ret (v := .tuple #[.agg #[.slice (some ⟨w.heap.size + 1 + 1 + 1 + 1, 0, none⟩) 1 1, .slice (some ⟨w.heap.size + 1 + 1 + 1 + 1 + 1, 0, none⟩) 1 1], .agg #[.slice (some ⟨w.heap.size + 1 + 1 + 1 + 1 + 1 + 1 + 1, 0, none⟩) 1 1, .slice (some ⟨w.heap.size + 1 + 1 + 1 + 1 + 1 + 1 + 1 + 1, 0, none⟩) 1 1]]) (by simp [results, Tryd.results40, go_sem]) rfl ⟨_, _, _, _, rfl, below9 w _ _ _ _ _ _ _ _ _ _ _ _ _ _ _ _ _ _, ?_, ?_, ?_, ?_⟩
  all_goals obtain ⟨h2, h3, h4, h5, h6, h7, h8⟩ := chain9 w #[.slice (some ⟨w.heap.size + 1 + 1 + 1 + 1, 0, none⟩) 1 1, .slice (some ⟨w.heap.size + 1 + 1 + 1 + 1 + 1, 0, none⟩) 1 1] #[.slice (some ⟨w.heap.size + 1 + 1 + 1 + 1 + 1 + 1 + 1, 0, none⟩) 1 1, .slice (some ⟨w.heap.size + 1 + 1 + 1 + 1 + 1 + 1 + 1 + 1, 0, none⟩) 1 1] #[.int .u8 9, .int .u8 0, .int .u8 0] #[.int .i64 1, .int .i64 2, .string ⟨#[102]⟩, .int .i64 0, .int .i64 0] #[.int .i64 1, .int .i64 1, .string ⟨#[]⟩, .slice (some ⟨w.heap.size + 1 + 1, 0, none⟩) 3 3, .int .i64 0, .slice (some ⟨w.heap.size + 1 + 1 + 1, 0, none⟩) 1 1] #[.string ⟨#[109, 97, 105, 110]⟩, .int .i64 1, .int .i64 0, .int .i64 0, .int .i64 0, .int .i64 0] #[.int .u8 7] #[.int .i64 1, .int .i64 4, .string ⟨#[103]⟩, .slice (some ⟨w.heap.size + 1 + 1 + 1 + 1 + 1 + 1, 0, none⟩) 1 1, .int .i64 0, .slice none 0 0] #[.string ⟨#[102]⟩, .int .i64 1, .int .i64 0, .int .i64 0, .int .i64 0, .int .i64 0] 25 25 5 76 29 53 5 29 53
  · refine ⟨fun _ i => ((#[.int .i64 1, .int .i64 1, .string ⟨#[]⟩, .slice (some ⟨w.heap.size + 1 + 1, 0, none⟩) 3 3, .int .i64 0, .slice (some ⟨w.heap.size + 1 + 1 + 1, 0, none⟩) 1 1] : Array Value)[i]?).getD (.int .i64 0), one_at h4 (fun i hi => ?_), fun j hj => ?_⟩
    · rcases (by omega : i = 0 ∨ i = 1 ∨ i = 2 ∨ i = 3 ∨ i = 4 ∨ i = 5) with rfl | rfl | rfl | rfl | rfl | rfl <;> rfl
    · obtain rfl : j = 0 := by simp at hj; omega
      exact ⟨rfl, rfl, rfl, bytes_at (bs := [9, 0, 0]) (by decide) (by decide) h2, rfl, ⟨one_at h3 (fun i hi => by rcases (by omega : i = 0 ∨ i = 1 ∨ i = 2 ∨ i = 3 ∨ i = 4) with rfl | rfl | rfl | rfl | rfl <;> rfl), fun r hr => by
        obtain rfl : r = relA := List.mem_singleton.1 hr
        exact ⟨by unfold maxLen; decide, by decide⟩⟩, by unfold maxLen; decide⟩
  · refine ⟨one_at h5 (fun i hi => by rcases (by omega : i = 0 ∨ i = 1 ∨ i = 2 ∨ i = 3 ∨ i = 4 ∨ i = 5) with rfl | rfl | rfl | rfl | rfl | rfl <;> rfl), fun r hr => ?_⟩
    obtain rfl : r = dfnA := List.mem_singleton.1 hr
    unfold maxLen; decide
  · refine ⟨fun _ i => ((#[.int .i64 1, .int .i64 4, .string ⟨#[103]⟩, .slice (some ⟨w.heap.size + 1 + 1 + 1 + 1 + 1 + 1, 0, none⟩) 1 1, .int .i64 0, .slice none 0 0] : Array Value)[i]?).getD (.int .i64 0), one_at h7 (fun i hi => ?_), fun j hj => ?_⟩
    · rcases (by omega : i = 0 ∨ i = 1 ∨ i = 2 ∨ i = 3 ∨ i = 4 ∨ i = 5) with rfl | rfl | rfl | rfl | rfl | rfl <;> rfl
    · obtain rfl : j = 0 := by simp at hj; omega
      exact ⟨rfl, rfl, rfl, bytes_at (bs := [7]) (by decide) (by decide) h6, rfl, ⟨⟨_, _, rfl, by unfold maxLen; decide, .inl rfl⟩, fun r hr => by cases hr⟩, by unfold maxLen; decide⟩
  · refine ⟨one_at h8 (fun i hi => by rcases (by omega : i = 0 ∨ i = 1 ∨ i = 2 ∨ i = 3 ∨ i = 4 ∨ i = 5) with rfl | rfl | rfl | rfl | rfl | rfl <;> rfl), fun r hr => ?_⟩
    obtain rfl : r = dfnB := List.mem_singleton.1 hr
    unfold maxLen; decide

end Go.Proofs.YthbdfnphnppagaaDoor

namespace Go.Proofs.YthbdfnphnppagaaDoor
open Go.RowKit
set_option linter.unusedVariables false

def pA : M.Prt := ⟨[frgA], [dfnA]⟩
def pB : M.Prt := ⟨[frgB], [dfnB]⟩
def pP : M.Prt := (M.join pA pB).1
def pQ : M.Prt := (M.join pP pB).1

theorem joinP : M.join pA pB = (pP, 0) := by
  have : (M.join pA pB).2 = 0 := by decide +kernel
  rw [← this]; rfl
theorem joinQ : M.join pP pB = (pQ, 0) := by
  have : (M.join pP pB).2 = 0 := by decide +kernel
  rw [← this]; rfl
theorem lenP : pP.frags.length = 2 := by decide +kernel
theorem lenQ : pQ.frags.length = 2 := by decide +kernel
theorem lenD : pQ.defs.length = 2 := by decide +kernel
theorem fragQ : (pQ.defs.getD 1 dfn0).frag = 1 := by decide +kernel
theorem checkQ : M.checkPart pQ = 0 := by decide +kernel
theorem groupsQ : sameTexts (M.groups pQ.frags) [⟨#[103]⟩] = true := by decide +kernel

set_option maxHeartbeats 8000000 in
set_option maxRecDepth 100000 in
theorem spliced_any (w : World) :
    Calls Tryd.prog 20 #[] w fun e w' => e = .returned (.bool true) ∧ Below w.heap.size w w' := by
  go_enter Tryd.func20, Tryd.ntmps20
  go_upto_region 2 with (go_at_call 40; refine (two_any _).mono ?_; rintro e w1 ⟨a1, a2, a3, a4, rfl, hb1, hA, hAd, hB, hBd⟩)
  have v1 : Var (w1.alloc (.cells #[.slice a1 1 1, .slice a2 1 1] 25)) w1.heap.size a1 a2 1 1 pA := var_new (p := pA) hA hAd
  have v1 := v1.later ((Below.refl _ _).alloc (Nat.le_refl _) (.cells #[.slice a3 1 1, .slice a4 1 1] 25))
  have hbA : Below w1.heap.size w1 (w1.alloc (.cells #[.slice a1 1 1, .slice a2 1 1] 25)) := (Below.refl _ _).alloc (Nat.le_refl _) _
  have v2 : Var ((w1.alloc (.cells #[.slice a1 1 1, .slice a2 1 1] 25)).alloc (.cells #[.slice a3 1 1, .slice a4 1 1] 25)) (w1.heap.size + 1) a3 a4 1 1 pB := by
    have := var_new (p := pB) (hB.later hbA) (hBd.later hbA)
    simpa [pB] using this
  have HX : Hid (Below w.heap.size w ((w1.alloc (.cells #[.slice a1 1 1, .slice a2 1 1] 25)).alloc (.cells #[.slice a3 1 1, .slice a4 1 1] 25))) := (hb1.alloc hb1.size _).alloc (by simpa using Nat.le_succ_of_le hb1.size) _
  clear hA hAd hB hBd hb1 hbA
  generalize (w1.alloc (.cells #[.slice a1 1 1, .slice a2 1 1] 25)).alloc (.cells #[.slice a3 1 1, .slice a4 1 1] 25) = X1 at *
  generalize w1.heap.size = n1 at *
  have V1 : Hid (Var X1 n1 a1 a2 1 1 pA) := v1
  have V2 : Hid (Var X1 (n1 + 1) a3 a4 1 1 pB) := v2
  have c10 : X1.cell? ⟨n1, 0, none⟩ = some (.slice a1 1 1) := v1.c0
  have c11 : X1.cell? ⟨n1, 1, none⟩ = some (.slice a2 1 1) := v1.c1
  have c20 : X1.cell? ⟨n1 + 1, 0, none⟩ = some (.slice a3 1 1) := v2.c0
  have c21 : X1.cell? ⟨n1 + 1, 1, none⟩ = some (.slice a4 1 1) := v2.c1
  have KJ : Hid (Calls Tryd.prog 25 #[.agg #[.slice a1 1 1, .slice a2 1 1], .agg #[.slice a3 1 1, .slice a4 1 1]] X1 _) := join_v v1.fr v1.df v2.fr v2.df pP 0 joinP
  clear v1 v2
  go_upto_region 3 with (go_at_call 25; refine KJ.out.mono ?_; rintro e w2 ⟨hb2, z1, z2, z3, z4, rfl, hF2, hD2⟩)
  have v3 := var_new (p := pP) hF2 hD2
  have HB2 : Hid (Below X1.heap.size X1 (w2.alloc (.cells #[.slice z1 pP.frags.length z2, .slice z3 pP.defs.length z4] 25))) := hb2.alloc hb2.size _
  clear hF2 hD2 KJ c10 c11 c20 c21 V1 hb2
  generalize w2.alloc (.cells #[.slice z1 pP.frags.length z2, .slice z3 pP.defs.length z4] 25) = X2 at *
  generalize w2.heap.size = n2 at *
  have HX2 : Hid (Below w.heap.size w X2) := HX.out.trans (HB2.out.mono HX.out.size)
  have v2 := V2.out.later HB2.out
  have V3 : Hid (Var X2 n2 z1 z3 z2 z4 pP) := v3
  have c20 : X2.cell? ⟨n1 + 1, 0, none⟩ = some (.slice a3 1 1) := v2.c0
  have c21 : X2.cell? ⟨n1 + 1, 1, none⟩ = some (.slice a4 1 1) := v2.c1
  have c30 := v3.c0
  have c31 := v3.c1
  have KJ : Hid (Calls Tryd.prog 25 #[.agg #[.slice z1 pP.frags.length z2, .slice z3 pP.defs.length z4], .agg #[.slice a3 1 1, .slice a4 1 1]] X2 _) := join_v v3.fr v3.df v2.fr v2.df pQ 0 joinQ
  clear v2 v3 V2 HX HB2
  go_upto_region 4 with (go_at_call 25; refine KJ.out.mono ?_; rintro e w3 ⟨hb3, u1, u2, u3, u4, rfl, hF3, hD3⟩)
  have v4 := var_new (p := pQ) hF3 hD3
  have HB3 : Hid (Below X2.heap.size X2 (w3.alloc (.cells #[.slice u1 pQ.frags.length u2, .slice u3 pQ.defs.length u4] 25))) := hb3.alloc hb3.size _
  clear hF3 hD3 KJ c20 c21 c30 c31 hb3
  generalize w3.alloc (.cells #[.slice u1 pQ.frags.length u2, .slice u3 pQ.defs.length u4] 25) = X3 at *
  generalize w3.heap.size = n3 at *
  have HX3 : Hid (Below w.heap.size w X3) := HX2.out.trans (HB3.out.mono HX2.out.size)
  have V4 : Hid (Var X3 n3 u1 u3 u2 u4 pQ) := v4
  have V3 : Hid (Var X3 n2 z1 z3 z2 z4 pP) := V3.out.later HB3.out
  have c40 := v4.c0
  have c41 := v4.c1
  have KG : Hid (Calls Tryd.prog 18 #[.agg #[.slice u1 pQ.frags.length u2, .slice u3 pQ.defs.length u4]] X3 fun e w' => Below X3.heap.size X3 w' ∧ ∃ ga gc, e = .returned (.tuple #[.slice ga (M.groups pQ.frags).length gc, .int .i64 0]) ∧ StrsAt w' (.slice ga (M.groups pQ.frags).length gc) (M.groups pQ.frags)) := by
    refine (groupsOf_any pQ u1 u3 u2 u4 X3 v4.fr v4.df).mono ?_
    rintro e w' ⟨hb, v, rfl, hs, _⟩
    rw [checkQ, if_pos rfl] at hs
    obtain ⟨x, y, rfl, _⟩ := hs.1.form
    exact ⟨hb, x, y, by rw [checkQ], hs⟩
  clear v4 HB3 HX2
  go_upto_region 5 with (go_at_call 18; refine KG.out.mono ?_; rintro e w4 ⟨hb4, ga, gc, rfl, hs4⟩)
  have v3 := V3.out.later hb4
  have v4 := V4.out.later hb4
  have HX4 : Hid (Below w.heap.size w w4) := HX3.out.trans (hb4.mono HX3.out.size)
  have c30 : w4.cell? ⟨n2, 0, none⟩ = some (.slice z1 2 z2) := by rw [← lenP]; exact v3.c0
  have d40 : w4.cell? ⟨n3, 0, none⟩ = some (.slice u1 2 u2) := by rw [← lenQ]; exact v4.c0
  have d41 : w4.cell? ⟨n3, 1, none⟩ = some (.slice u3 2 u4) := by rw [← lenD]; exact v4.c1
  obtain ⟨b, off, rfl, _, _, e2, _, _, _, _⟩ := v4.df.cells 1 (by rw [lenD]; decide)
  rw [fragQ, Nat.one_mul] at e2
  have hbl : b < w4.heap.size := World.block_lt_of_cell? _ _ e2
  have l3 := v3.lt
  have l4 := v4.lt
  have hbg : Below w4.heap.size w4 (w4.alloc (.cells #[.string ⟨#[103]⟩] 9)) := (Below.refl _ _).alloc (Nat.le_refl _) _
  have hg : StrsAt (w4.alloc (.cells #[.string ⟨#[103]⟩] 9)) (.slice (some ⟨w4.heap.size, 0, none⟩) 1 1) [⟨#[103]⟩] := by
    refine ⟨⟨_, _, rfl, by unfold maxLen; decide, .inr ⟨w4.heap.size, 0, rfl, fun j i hj hi => ?_⟩⟩, fun s hs => ?_⟩
    · obtain rfl : j = 0 := by simpa using hj
      obtain rfl : i = 0 := by omega
      exact cellB (heap_alloc_new w4 _) 0
    · rw [List.mem_singleton.1 hs]; unfold maxLen; decide
  have KE : Hid (Calls Tryd.prog 21 #[.slice ga (M.groups pQ.frags).length gc, .slice (some ⟨w4.heap.size, 0, none⟩) 1 1] (w4.alloc (.cells #[.string ⟨#[103]⟩] 9)) fun e w' => e = .returned (.bool true) ∧ Below (w4.alloc (.cells #[.string ⟨#[103]⟩] 9)).heap.size (w4.alloc (.cells #[.string ⟨#[103]⟩] 9)) w') := by
    have := equalS_any (M.groups pQ.frags) [⟨#[103]⟩] ga (some ⟨w4.heap.size, 0, none⟩) gc 1 _ (hs4.later hbg) hg
    rwa [groupsQ] at this
  clear v3 v4 hs4 hg KG V3 V4 c40 c41
  go_wp2_with (go_at_call 21; refine KE.out.mono ?_; rintro e w5 ⟨rfl, hb5⟩)
  go_ret
  exact ⟨rfl, HX4.out.trans ((hbg.trans (hb5.mono hbg.size)).mono HX4.out.size)⟩

end Go.Proofs.YthbdfnphnppagaaDoor
