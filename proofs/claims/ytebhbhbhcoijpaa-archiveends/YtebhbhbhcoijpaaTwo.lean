/-
  The contract of the law's two parts for closed facts.
-/
import Derived.Test.YtebhbhbhcoijpaaChecked
import Derived.Test.YtebhbhbhcoijpaaMem
import Derived.Test.YtebhbhbhcoijpaaLater
import Derived.RegionTactic
import Derived.ChangeAlike
namespace Go.Proofs.Ytebhbhbhcoijpaa
open Go.RowKit
set_option linter.unusedVariables false

theorem chain9 (w : World) (o0 o1 o2 o3 o4 o5 o6 o7 o8 : Array Value) (t0 t1 t2 t3 t4 t5 t6 t7 t8 : TypeId) : (∀ i, ((((((((((w.alloc (.cells o0 t0)).alloc (.cells o1 t1)).alloc (.cells o2 t2)).alloc (.cells o3 t3)).alloc (.cells o4 t4)).alloc (.cells o5 t5)).alloc (.cells o6 t6)).alloc (.cells o7 t7)).alloc (.cells o8 t8)).drew).cell? ⟨w.heap.size + 1 + 1, i, none⟩ = o2[i]?) ∧ (∀ i, ((((((((((w.alloc (.cells o0 t0)).alloc (.cells o1 t1)).alloc (.cells o2 t2)).alloc (.cells o3 t3)).alloc (.cells o4 t4)).alloc (.cells o5 t5)).alloc (.cells o6 t6)).alloc (.cells o7 t7)).alloc (.cells o8 t8)).drew).cell? ⟨w.heap.size + 1 + 1 + 1, i, none⟩ = o3[i]?) ∧ (∀ i, ((((((((((w.alloc (.cells o0 t0)).alloc (.cells o1 t1)).alloc (.cells o2 t2)).alloc (.cells o3 t3)).alloc (.cells o4 t4)).alloc (.cells o5 t5)).alloc (.cells o6 t6)).alloc (.cells o7 t7)).alloc (.cells o8 t8)).drew).cell? ⟨w.heap.size + 1 + 1 + 1 + 1, i, none⟩ = o4[i]?) ∧ (∀ i, ((((((((((w.alloc (.cells o0 t0)).alloc (.cells o1 t1)).alloc (.cells o2 t2)).alloc (.cells o3 t3)).alloc (.cells o4 t4)).alloc (.cells o5 t5)).alloc (.cells o6 t6)).alloc (.cells o7 t7)).alloc (.cells o8 t8)).drew).cell? ⟨w.heap.size + 1 + 1 + 1 + 1 + 1, i, none⟩ = o5[i]?) ∧ (∀ i, ((((((((((w.alloc (.cells o0 t0)).alloc (.cells o1 t1)).alloc (.cells o2 t2)).alloc (.cells o3 t3)).alloc (.cells o4 t4)).alloc (.cells o5 t5)).alloc (.cells o6 t6)).alloc (.cells o7 t7)).alloc (.cells o8 t8)).drew).cell? ⟨w.heap.size + 1 + 1 + 1 + 1 + 1 + 1, i, none⟩ = o6[i]?) ∧ (∀ i, ((((((((((w.alloc (.cells o0 t0)).alloc (.cells o1 t1)).alloc (.cells o2 t2)).alloc (.cells o3 t3)).alloc (.cells o4 t4)).alloc (.cells o5 t5)).alloc (.cells o6 t6)).alloc (.cells o7 t7)).alloc (.cells o8 t8)).drew).cell? ⟨w.heap.size + 1 + 1 + 1 + 1 + 1 + 1 + 1, i, none⟩ = o7[i]?) ∧ (∀ i, ((((((((((w.alloc (.cells o0 t0)).alloc (.cells o1 t1)).alloc (.cells o2 t2)).alloc (.cells o3 t3)).alloc (.cells o4 t4)).alloc (.cells o5 t5)).alloc (.cells o6 t6)).alloc (.cells o7 t7)).alloc (.cells o8 t8)).drew).cell? ⟨w.heap.size + 1 + 1 + 1 + 1 + 1 + 1 + 1 + 1, i, none⟩ = o8[i]?) := by
  refine ⟨?_, ?_, ?_, ?_, ?_, ?_, ?_⟩
  · intro i
    show ((((((((((w.alloc (.cells o0 t0)).alloc (.cells o1 t1)).alloc (.cells o2 t2)).alloc (.cells o3 t3)).alloc (.cells o4 t4)).alloc (.cells o5 t5)).alloc (.cells o6 t6)).alloc (.cells o7 t7)).alloc (.cells o8 t8))).cell? _ = _
    rw [World.cell?_alloc_past _ _ _ (by simp; try omega), World.cell?_alloc_past _ _ _ (by simp; try omega), World.cell?_alloc_past _ _ _ (by simp; try omega), World.cell?_alloc_past _ _ _ (by simp; try omega), World.cell?_alloc_past _ _ _ (by simp; try omega), World.cell?_alloc_past _ _ _ (by simp; try omega), World.cell?_alloc_at _ _ _ _ (by simp)]
  · intro i
    show ((((((((((w.alloc (.cells o0 t0)).alloc (.cells o1 t1)).alloc (.cells o2 t2)).alloc (.cells o3 t3)).alloc (.cells o4 t4)).alloc (.cells o5 t5)).alloc (.cells o6 t6)).alloc (.cells o7 t7)).alloc (.cells o8 t8))).cell? _ = _
    rw [World.cell?_alloc_past _ _ _ (by simp; try omega), World.cell?_alloc_past _ _ _ (by simp; try omega), World.cell?_alloc_past _ _ _ (by simp; try omega), World.cell?_alloc_past _ _ _ (by simp; try omega), World.cell?_alloc_past _ _ _ (by simp; try omega), World.cell?_alloc_at _ _ _ _ (by simp)]
  · intro i
    show ((((((((((w.alloc (.cells o0 t0)).alloc (.cells o1 t1)).alloc (.cells o2 t2)).alloc (.cells o3 t3)).alloc (.cells o4 t4)).alloc (.cells o5 t5)).alloc (.cells o6 t6)).alloc (.cells o7 t7)).alloc (.cells o8 t8))).cell? _ = _
    rw [World.cell?_alloc_past _ _ _ (by simp; try omega), World.cell?_alloc_past _ _ _ (by simp; try omega), World.cell?_alloc_past _ _ _ (by simp; try omega), World.cell?_alloc_past _ _ _ (by simp; try omega), World.cell?_alloc_at _ _ _ _ (by simp)]
  · intro i
    show ((((((((((w.alloc (.cells o0 t0)).alloc (.cells o1 t1)).alloc (.cells o2 t2)).alloc (.cells o3 t3)).alloc (.cells o4 t4)).alloc (.cells o5 t5)).alloc (.cells o6 t6)).alloc (.cells o7 t7)).alloc (.cells o8 t8))).cell? _ = _
    rw [World.cell?_alloc_past _ _ _ (by simp; try omega), World.cell?_alloc_past _ _ _ (by simp; try omega), World.cell?_alloc_past _ _ _ (by simp; try omega), World.cell?_alloc_at _ _ _ _ (by simp)]
  · intro i
    show ((((((((((w.alloc (.cells o0 t0)).alloc (.cells o1 t1)).alloc (.cells o2 t2)).alloc (.cells o3 t3)).alloc (.cells o4 t4)).alloc (.cells o5 t5)).alloc (.cells o6 t6)).alloc (.cells o7 t7)).alloc (.cells o8 t8))).cell? _ = _
    rw [World.cell?_alloc_past _ _ _ (by simp; try omega), World.cell?_alloc_past _ _ _ (by simp; try omega), World.cell?_alloc_at _ _ _ _ (by simp)]
  · intro i
    show ((((((((((w.alloc (.cells o0 t0)).alloc (.cells o1 t1)).alloc (.cells o2 t2)).alloc (.cells o3 t3)).alloc (.cells o4 t4)).alloc (.cells o5 t5)).alloc (.cells o6 t6)).alloc (.cells o7 t7)).alloc (.cells o8 t8))).cell? _ = _
    rw [World.cell?_alloc_past _ _ _ (by simp; try omega), World.cell?_alloc_at _ _ _ _ (by simp)]
  · intro i
    show ((((((((((w.alloc (.cells o0 t0)).alloc (.cells o1 t1)).alloc (.cells o2 t2)).alloc (.cells o3 t3)).alloc (.cells o4 t4)).alloc (.cells o5 t5)).alloc (.cells o6 t6)).alloc (.cells o7 t7)).alloc (.cells o8 t8))).cell? _ = _
    rw [World.cell?_alloc_at _ _ _ _ (by simp)]

theorem below9 (w : World) (o0 o1 o2 o3 o4 o5 o6 o7 o8 : Array Value) (t0 t1 t2 t3 t4 t5 t6 t7 t8 : TypeId) : Below w.heap.size w ((((((((((w.alloc (.cells o0 t0)).alloc (.cells o1 t1)).alloc (.cells o2 t2)).alloc (.cells o3 t3)).alloc (.cells o4 t4)).alloc (.cells o5 t5)).alloc (.cells o6 t6)).alloc (.cells o7 t7)).alloc (.cells o8 t8)).drew) := by
  refine Below.drew ?_
  exact ((((((((((Below.refl _ _).alloc (Nat.le_refl _) _).alloc (by simp; try omega) _).alloc (by simp; try omega) _).alloc (by simp; try omega) _).alloc (by simp; try omega) _).alloc (by simp; try omega) _).alloc (by simp; try omega) _).alloc (by simp; try omega) _).alloc (by simp; try omega) _)

def relA : M.Rel := ⟨1, 2, ⟨#[102]⟩, 0, 0⟩
def frgA : M.Frg := ⟨1, 1, ⟨#[]⟩, [9, 0, 0], 0, [relA]⟩
def dfnA : M.Dfn := ⟨⟨#[109, 97, 105, 110]⟩, 1, 0, 0, 0, 0⟩
def frgB : M.Frg := ⟨1, 4, ⟨#[103]⟩, [7], 0, []⟩
def dfnB : M.Dfn := ⟨⟨#[102]⟩, 1, 0, 0, 0, 0⟩

/-- a slice of one element, in a block of its own -/
theorem one_at {w : World} {B : Nat} {k : Nat} {c : Array Value} {cell : Nat → Nat → Value} (h : ∀ i, w.cell? ⟨B, i, none⟩ = c[i]?) (hc : ∀ i, i < k → c[i]? = some (cell 0 i)) :
    SlAt w (.slice (some ⟨B, 0, none⟩) 1 1) k 1 cell := by
  refine ⟨_, _, rfl, by unfold maxLen; decide, .inr ⟨B, 0, rfl, fun j i hj hi => ?_⟩⟩
  obtain rfl : j = 0 := by omega
  have e : 0 + 0 * k + i = i := by omega
  rw [e, h, hc i hi]

/-- a row of bytes, in a block of its own -/
theorem bytes_at {w : World} {B : Nat} {bs : List Int} (hb : ∀ b ∈ bs, 0 ≤ b ∧ b < 256) (hl : bs.length ≤ 100) (h : ∀ i, w.cell? ⟨B, i, none⟩ = (bs.map (Value.int .u8)).toArray[i]?) :
    BytesAt w (.slice (some ⟨B, 0, none⟩) bs.length bs.length) bs := by
  refine ⟨⟨_, _, rfl, by unfold maxLen; omega, .inr ⟨B, 0, rfl, fun j i hj hi => ?_⟩⟩, hb⟩
  have e : 0 + j * 1 + i = j := by omega
  rw [e, h]
  simp [hj]

set_option maxHeartbeats 1000000 in
set_option maxRecDepth 100000 in
theorem two_any (w : World) :
    Calls Try.prog 48 #[] w fun e w' => ∃ a1 a2 a3 a4, e = .returned (.tuple #[.agg #[.slice a1 1 1, .slice a2 1 1], .agg #[.slice a3 1 1, .slice a4 1 1]]) ∧ Below w.heap.size w w'
      ∧ FragsAt w' (.slice a1 1 1) [frgA] ∧ DefsAt w' (.slice a2 1 1) [dfnA] ∧ FragsAt w' (.slice a3 1 1) [frgB] ∧ DefsAt w' (.slice a4 1 1) [dfnB] := by
  go_enter Try.func48, Try.ntmps48
  go_wp2_with fail
  go_region
  go_wp2
  refine bodyPost_ret (v := .tuple #[.agg #[.slice (some ⟨w.heap.size + 1 + 1 + 1 + 1, 0, none⟩) 1 1, .slice (some ⟨w.heap.size + 1 + 1 + 1 + 1 + 1, 0, none⟩) 1 1], .agg #[.slice (some ⟨w.heap.size + 1 + 1 + 1 + 1 + 1 + 1 + 1, 0, none⟩) 1 1, .slice (some ⟨w.heap.size + 1 + 1 + 1 + 1 + 1 + 1 + 1 + 1, 0, none⟩) 1 1]]) (by simp [results, Try.results48, go_sem]) rfl ⟨_, _, _, _, rfl, below9 w _ _ _ _ _ _ _ _ _ _ _ _ _ _ _ _ _ _, ?_, ?_, ?_, ?_⟩
  all_goals obtain ⟨h2, h3, h4, h5, h6, h7, h8⟩ := chain9 w #[.slice (some ⟨w.heap.size + 1 + 1 + 1 + 1, 0, none⟩) 1 1, .slice (some ⟨w.heap.size + 1 + 1 + 1 + 1 + 1, 0, none⟩) 1 1] #[.slice (some ⟨w.heap.size + 1 + 1 + 1 + 1 + 1 + 1 + 1, 0, none⟩) 1 1, .slice (some ⟨w.heap.size + 1 + 1 + 1 + 1 + 1 + 1 + 1 + 1, 0, none⟩) 1 1] #[.int .u8 9, .int .u8 0, .int .u8 0] #[.int .i64 1, .int .i64 2, .string ⟨#[102]⟩, .int .i64 0, .int .i64 0] #[.int .i64 1, .int .i64 1, .string ⟨#[]⟩, .slice (some ⟨w.heap.size + 1 + 1, 0, none⟩) 3 3, .int .i64 0, .slice (some ⟨w.heap.size + 1 + 1 + 1, 0, none⟩) 1 1] #[.string ⟨#[109, 97, 105, 110]⟩, .int .i64 1, .int .i64 0, .int .i64 0, .int .i64 0, .int .i64 0] #[.int .u8 7] #[.int .i64 1, .int .i64 4, .string ⟨#[103]⟩, .slice (some ⟨w.heap.size + 1 + 1 + 1 + 1 + 1 + 1, 0, none⟩) 1 1, .int .i64 0, .slice none 0 0] #[.string ⟨#[102]⟩, .int .i64 1, .int .i64 0, .int .i64 0, .int .i64 0, .int .i64 0] 25 25 5 121 43 69 5 43 69
  · refine ⟨fun _ i => ((#[.int .i64 1, .int .i64 1, .string ⟨#[]⟩, .slice (some ⟨w.heap.size + 1 + 1, 0, none⟩) 3 3, .int .i64 0, .slice (some ⟨w.heap.size + 1 + 1 + 1, 0, none⟩) 1 1] : Array Value)[i]?).getD (.int .i64 0), one_at h4 (fun i hi => ?_), fun j hj => ?_⟩
    · rcases (by omega : i = 0 ∨ i = 1 ∨ i = 2 ∨ i = 3 ∨ i = 4 ∨ i = 5) with rfl | rfl | rfl | rfl | rfl | rfl <;> rfl
    · obtain rfl : j = 0 := by simp at hj; omega
      exact ⟨rfl, rfl, rfl, bytes_at (bs := [9, 0, 0]) (by decide) (by decide) h2, rfl, ⟨one_at h3 (fun i hi => by rcases (by omega : i = 0 ∨ i = 1 ∨ i = 2 ∨ i = 3 ∨ i = 4) with rfl | rfl | rfl | rfl | rfl <;> rfl), fun r hr => by
        obtain rfl : r = relA := List.mem_singleton.1 hr
        exact ⟨by unfold maxLen; decide, by decide⟩⟩, by unfold maxLen; decide⟩
  · refine ⟨one_at h5 (fun i hi => by rcases (by omega : i = 0 ∨ i = 1 ∨ i = 2 ∨ i = 3 ∨ i = 4 ∨ i = 5) with rfl | rfl | rfl | rfl | rfl | rfl <;> rfl), fun r hr => ?_⟩
    obtain rfl : r = dfnA := List.mem_singleton.1 hr
    unfold maxLen; decide
  · refine ⟨fun _ i => ((#[.int .i64 1, .int .i64 4, .string ⟨#[103]⟩, .slice (some ⟨w.heap.size + 1 + 1 + 1 + 1 + 1 + 1, 0, none⟩) 1 1, .int .i64 0, .slice none 0 0] : Array Value)[i]?).getD (.int .i64 0), one_at h7 (fun i hi => ?_), fun j hj => ?_⟩
    · rcases (by omega : i = 0 ∨ i = 1 ∨ i = 2 ∨ i = 3 ∨ i = 4 ∨ i = 5) with rfl | rfl | rfl | rfl | rfl | rfl <;> rfl
    · obtain rfl : j = 0 := by simp at hj; omega
      exact ⟨rfl, rfl, rfl, bytes_at (bs := [7]) (by decide) (by decide) h6, rfl, ⟨⟨_, _, rfl, by unfold maxLen; decide, .inl rfl⟩, fun r hr => by cases hr⟩, by unfold maxLen; decide⟩
  · refine ⟨one_at h8 (fun i hi => by rcases (by omega : i = 0 ∨ i = 1 ∨ i = 2 ∨ i = 3 ∨ i = 4 ∨ i = 5) with rfl | rfl | rfl | rfl | rfl | rfl <;> rfl), fun r hr => ?_⟩
    obtain rfl : r = dfnB := List.mem_singleton.1 hr
    unfold maxLen; decide

end Go.Proofs.Ytebhbhbhcoijpaa
