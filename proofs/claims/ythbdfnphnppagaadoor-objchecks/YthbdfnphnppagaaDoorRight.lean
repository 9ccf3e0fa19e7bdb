/-
  The contract of the law's closed fact: it is true.
-/
import Derived.Test.YthbdfnphnppagaaDoorTwo
import Derived.Test.YthbdfnphnppagaaDoorRefSame
namespace Go.Proofs.YthbdfnphnppagaaDoor
open Go.RowKit
set_option linter.unusedVariables false

theorem okA : M.checkPart ⟨[frgA], [dfnA]⟩ = 0 := by decide +kernel
theorem okB : M.checkPart ⟨[frgB], [dfnB]⟩ = 0 := by decide +kernel
theorem notAB : M.samePart ⟨[frgA], [dfnA]⟩ ⟨[frgB], [dfnB]⟩ = false := by decide +kernel
theorem nameMain : M.isName ⟨#[109, 97, 105, 110]⟩ = true := by decide +kernel
theorem nameNone : M.isName ⟨#[]⟩ = false := by decide +kernel
theorem wide4 : M.wide 4 = 2 := by decide +kernel

set_option maxHeartbeats 2000000 in
set_option maxRecDepth 100000 in
theorem right_any (w : World) :
    Calls Tryd.prog 7 #[] w fun e w' => e = .returned (.bool true) ∧ Below w.heap.size w w' := by
  have HN1 : Hid (∀ W, Calls Tryd.prog 12 #[.string ⟨#[109, 97, 105, 110]⟩] W fun e w' => e = .returned (.bool true) ∧ w' = W) := fun W => by
    have := name_any ⟨#[109, 97, 105, 110]⟩ W (by unfold maxLen; decide)
    rwa [nameMain] at this
  have HN2 : Hid (∀ W, Calls Tryd.prog 12 #[.string ⟨#[]⟩] W fun e w' => e = .returned (.bool false) ∧ w' = W) := fun W => by
    have := name_any ⟨#[]⟩ W (by unfold maxLen; decide)
    rwa [nameNone] at this
  have HW : Hid (∀ W, Calls Tryd.prog 14 #[.int .i64 4] W fun e w' => e = .returned (.int .i64 2) ∧ w' = W) := fun W => by
    have := wide_any 4 W
    rwa [wide4] at this
  go_enter Tryd.func7, Tryd.ntmps7
  go_wp2_with fail
  refine (two_any _).mono ?_
  rintro e w1 ⟨a1, a2, a3, a4, rfl, hb1, hA, hAd, hB, hBd⟩
  have HA : Hid (∀ W, Below w1.heap.size w1 W → Calls Tryd.prog 8 #[.agg #[.slice a1 1 1, .slice a2 1 1]] W fun e w' => e = .returned (.int .i64 0) ∧ Below W.heap.size W w') := fun W hW => by
    have := check_any [frgA] [dfnA] a1 a2 1 1 W (hA.later hW) (hAd.later hW)
    rwa [okA] at this
  have HB : Hid (∀ W, Below w1.heap.size w1 W → Calls Tryd.prog 8 #[.agg #[.slice a3 1 1, .slice a4 1 1]] W fun e w' => e = .returned (.int .i64 0) ∧ Below W.heap.size W w') := fun W hW => by
    have := check_any [frgB] [dfnB] a3 a4 1 1 W (hB.later hW) (hBd.later hW)
    rwa [okB] at this
  have HS : Hid (∀ W, Below w1.heap.size w1 W → Calls Tryd.prog 10 #[.agg #[.slice a1 1 1, .slice a2 1 1], .agg #[.slice a3 1 1, .slice a4 1 1]] W fun e w' => e = .returned (.bool false) ∧ Below W.heap.size W w') := fun W hW => by
    have := same_any [frgA] [frgB] [dfnA] [dfnB] a1 a2 a3 a4 1 1 1 1 W (hA.later hW) (hAd.later hW) (hB.later hW) (hBd.later hW)
    rwa [notAB] at this
  clear hA hAd hB hBd
  have HB1 : Hid (Below w.heap.size w w1) := hb1
  clear hb1
  go_wp2_with fail
  refine (HA.out _ (((Below.refl _ _).alloc (Nat.le_refl _) _).alloc (by simp) _)).mono ?_
  rintro e w2 ⟨rfl, hb2⟩
  have p0 : w2.cell? ⟨w1.heap.size, 0, none⟩ = some (.slice a1 1 1) := later_new2a hb2 0 _ rfl
  have p1 : w2.cell? ⟨w1.heap.size, 1, none⟩ = some (.slice a2 1 1) := later_new2a hb2 1 _ rfl
  have q0 : w2.cell? ⟨w1.heap.size + 1, 0, none⟩ = some (.slice a3 1 1) := later_new2b hb2 0 _ rfl
  have q1 : w2.cell? ⟨w1.heap.size + 1, 1, none⟩ = some (.slice a4 1 1) := later_new2b hb2 1 _ rfl
  have H2 : Hid (Below w1.heap.size w1 w2) := (((Below.refl _ _).alloc (Nat.le_refl _) _).alloc (by simp) _).trans (hb2.mono (by simp; omega))
  clear hb2
  go_wp2_with fail
  refine (HB.out _ H2.out).mono ?_
  rintro e w3 ⟨rfl, hb3⟩
  have p0' := cell_later hb3 p0
  have p1' := cell_later hb3 p1
  have q0' := cell_later hb3 q0
  have q1' := cell_later hb3 q1
  have H3 : Hid (Below w1.heap.size w1 w3) := H2.out.trans (hb3.mono H2.out.size)
  clear hb3 p0 p1 q0 q1
  go_wp2_with fail
  refine (HS.out _ H3.out).mono ?_
  rintro e w4 ⟨rfl, hb4⟩
  go_wp2_with fail
  refine (HN1.out _).mono ?_
  rintro e w5 ⟨rfl, rfl⟩
  go_wp2_with fail
  refine (HN2.out _).mono ?_
  rintro e w6 ⟨rfl, rfl⟩
  go_wp2_with fail
  refine (HW.out _).mono ?_
  rintro e w7 ⟨rfl, rfl⟩
  go_wp2
  go_ret
  exact ⟨rfl, HB1.out.trans ((H3.out.trans (hb4.mono H3.out.size)).mono HB1.out.size)⟩

end Go.Proofs.YthbdfnphnppagaaDoor
