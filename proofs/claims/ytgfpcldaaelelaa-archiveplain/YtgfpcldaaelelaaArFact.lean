/-
  The closed items of the archives' fact: what is chosen of them.
-/
import Derived.Test.YtgfpcldaaelelaaMathAll
import Derived.WalkKit
namespace Go.Proofs.Ytgfpcldaaelelaa.M
open Go
set_option linter.unusedVariables false

def pA : Prt := ⟨[⟨1, 1, ⟨#[]⟩, [9, 0, 0], 0, [⟨1, 2, ⟨#[102]⟩, 0, 0⟩]⟩], [⟨⟨#[109, 97, 105, 110]⟩, 1, 0, 0, 0, 0⟩]⟩
def pC : Prt := ⟨[⟨2, 1, ⟨#[]⟩, [], 0, []⟩], [⟨⟨#[122]⟩, 1, 0, 0, 0, 0⟩]⟩
def pD : Prt := ⟨[⟨1, 4, ⟨#[103]⟩, [7], 0, [⟨0, 1, ⟨#[119]⟩, 0, 0⟩]⟩], [⟨⟨#[102]⟩, 1, 0, 0, 0, 0⟩]⟩
def pW : Prt := ⟨[⟨4, 2, ⟨#[]⟩, [5], 0, []⟩], [⟨⟨#[119]⟩, 2, 0, 0, 0, 0⟩]⟩

theorem wantA : wanted pA = [⟨#[102]⟩] := by
  unfold wanted
  refine rising_eq ?_ (fun s => ?_)
  · simp [Strict]
  · simp [wantedNames, wantedOf, pA, bare]
theorem wantD : wanted pD = [⟨#[119]⟩] := by
  unfold wanted
  refine rising_eq ?_ (fun s => ?_)
  · simp [Strict]
  · simp [wantedNames, wantedOf, pD, bare]
theorem wantW : wanted pW = [] := by
  unfold wanted
  refine rising_eq ?_ (fun s => ?_)
  · simp [Strict]
  · simp [wantedNames, wantedOf, pW]

def en (st : St) (l : List ByteArray) (p : Prt) : St := defAll (wantAll st l) p.defs
theorem enA (st : St) : enter st pA = en st [⟨#[102]⟩] pA := by unfold enter en; rw [wantA]
theorem enD (st : St) : enter st pD = en st [⟨#[119]⟩] pD := by unfold enter en; rw [wantD]
theorem enW (st : St) : enter st pW = en st [] pW := by unfold enter en; rw [wantW]

def s1 : St := en (fun _ => 0) [⟨#[102]⟩] pA
def s2 : St := en s1 [⟨#[119]⟩] pD
def s3 : St := en s2 [] pW

theorem h1W : partHelps s1 pW = false := by decide +kernel
theorem h1C : partHelps s1 pC = false := by decide +kernel
theorem h1D : partHelps s1 pD = true := by decide +kernel
theorem h2W : partHelps s2 pW = true := by decide +kernel
theorem h3C : partHelps s3 pC = false := by decide +kernel

def tk0 : List Bool := [false, false, false, false, false, false, false, false]
def tk1 : List Bool := [false, false, true, false, false, false, false, false]
def tk2 : List Bool := [true, false, true, false, false, false, false, false]

theorem step_no {parts : List Prt} {s : Ars} {b : Bool} {i : Nat} (h : s.tk.getD i false = true ∨ partHelps s.st (parts.getD i nilP) = false) : step parts (s, b) i = (s, b) := by
  unfold step
  rw [if_neg]
  rintro ⟨h1, h2⟩
  rcases h with h | h
  · rw [h1] at h; cases h
  · rw [h2] at h; cases h
theorem step_yes {parts : List Prt} {s : Ars} {b : Bool} {i : Nat} (h1 : s.tk.getD i false = false) (h2 : partHelps s.st (parts.getD i nilP) = true) : step parts (s, b) i = (⟨enter s.st (parts.getD i nilP), s.out ++ [parts.getD i nilP], s.tk.set i true⟩, true) := by
  unfold step
  rw [if_pos ⟨h1, h2⟩]
  rfl

theorem round_three (a b c : Prt) (s : Ars) : round [a, b, c] s = step [a, b, c] (step [a, b, c] (step [a, b, c] (s, false) 0) 1) 2 := rfl

theorem round1 : round [pW, pC, pD] ⟨s1, [pA], tk0⟩ = (⟨s2, [pA, pD], tk1⟩, true) := by
  rw [round_three, step_no (i := 0) (.inr h1W), step_no (i := 1) (.inr h1C), step_yes (i := 2) rfl h1D]
  show ((⟨enter s1 pD, [pA, pD], tk1⟩ : Ars), true) = _
  rw [enD]
  rfl
theorem round2 : round [pW, pC, pD] ⟨s2, [pA, pD], tk1⟩ = (⟨s3, [pA, pD, pW], tk2⟩, true) := by
  rw [round_three, step_yes (i := 0) rfl h2W]
  have e : (⟨enter s2 ([pW, pC, pD].getD 0 nilP), [pA, pD] ++ [[pW, pC, pD].getD 0 nilP], tk1.set 0 true⟩ : Ars) = ⟨s3, [pA, pD, pW], tk2⟩ := by
    show (⟨enter s2 pW, _, _⟩ : Ars) = _
    rw [enW]
    rfl
  show step [pW, pC, pD] (step [pW, pC, pD] ((⟨enter s2 ([pW, pC, pD].getD 0 nilP), [pA, pD] ++ [[pW, pC, pD].getD 0 nilP], tk1.set 0 true⟩ : Ars), true) 1) 2 = _
  rw [e, step_no (i := 1) (.inr h3C), step_no (i := 2) (.inl rfl)]
theorem round3 : round [pW, pC, pD] ⟨s3, [pA, pD, pW], tk2⟩ = (⟨s3, [pA, pD, pW], tk2⟩, false) := by
  rw [round_three, step_no (i := 0) (.inl rfl), step_no (i := 1) (.inr h3C), step_no (i := 2) (.inl rfl)]

theorem search1 : search [pW, pC, pD] s1 [pA] = ⟨s3, [pA, pD, pW], tk2⟩ := by
  show rounds [pW, pC, pD] 9 ⟨s1, [pA], tk0⟩ = _
  rw [show (9 : Nat) = 8 + 1 from rfl, rounds, round1]
  show rounds [pW, pC, pD] 8 ⟨s2, [pA, pD], tk1⟩ = _
  rw [show (8 : Nat) = 7 + 1 from rfl, rounds, round2]
  show rounds [pW, pC, pD] 7 ⟨s3, [pA, pD, pW], tk2⟩ = _
  rw [show (7 : Nat) = 6 + 1 from rfl, rounds, round3]
  rfl

theorem choose1 : choose [⟨false, [pA]⟩, ⟨true, [pW, pC, pD]⟩] [] = ([pA, pD, pW], 0) := by
  unfold choose
  rw [if_pos (by decide +kernel), if_pos (by decide +kernel)]
  show ((chooseStep (enter (fun _ => 0) pA, [pA]) ⟨true, [pW, pC, pD]⟩).2, (0 : Int)) = _
  rw [enA]
  show ((search [pW, pC, pD] s1 [pA]).out, (0 : Int)) = _
  rw [search1]

end Go.Proofs.Ytgfpcldaaelelaa.M
