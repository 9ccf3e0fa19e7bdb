/-
  What is known of a farm that is right, and that whatever happens leaves it right: the mathematics.
-/
import Derived.Test.YtmlojlbmfceogaaFmMM
import Derived.Test.YtmlojlbmfceogaaPlMa
import Derived.Test.YtmlojlbmfceogaaMathA
namespace Go.Proofs.Ytmlojlbmfceogaa.M

theorem orE_zero {a b : Int} : orE a b = 0 ↔ a = 0 ∧ b = 0 := by
  unfold orE
  by_cases h : a = 0
  · simp [h]
  · simp [h]

structure FarmOk (f : Farm) : Prop where
  plan : checkPlan f.plan f.parts.length = 0
  done : f.done.length = f.plan.length
  got : f.got.length = f.plan.length
  grants : f.grants.length = f.plan.length
  work1 : 1 ≤ f.work.length
  work4 : f.work.length ≤ 4
  now0 : 0 ≤ f.now
  now1 : f.now ≤ 65536
  net : f.net.length ≤ 20
  parts : checkEach f.parts = 0
  gots : checkEach f.got = 0
  works : ∀ n ∈ f.work, workOk f.plan.length n = true
  grts : ∀ g ∈ f.grants, grantOk f.work.length g = true
  nets : ∀ m ∈ f.net, msgOk f.work.length f.plan.length m = true ∧ checkPart m.p = 0

theorem net_iff (wk nd : Nat) : ∀ l : List Msg, checkNet wk nd l = 0 ↔ ∀ m ∈ l, msgOk wk nd m = true ∧ checkPart m.p = 0
  | [] => by simp [checkNet]
  | m :: l => by
    unfold checkNet
    by_cases h1 : msgOk wk nd m = true
    · by_cases h2 : checkPart m.p = 0
      · rw [if_pos h1, if_pos h2, net_iff wk nd l]; simp [h1, h2]
      · rw [if_pos h1, if_neg h2]; simp [h2]
    · rw [if_neg h1]; simp [h1]
theorem works_iff (nd : Nat) (l : List Int) : checkWork nd l = 0 ↔ ∀ n ∈ l, workOk nd n = true := by
  unfold checkWork
  by_cases h : l.all (workOk nd) = true
  · rw [if_pos h]; simp only [true_iff]; exact List.all_eq_true.1 h
  · rw [if_neg h]; constructor
    · intro h'; exact absurd h' (by decide)
    · intro h'; exact absurd (List.all_eq_true.2 h') h
theorem grants_iff (nk : Nat) (l : List Grt) : checkGrants nk l = 0 ↔ ∀ g ∈ l, grantOk nk g = true := by
  unfold checkGrants
  by_cases h : l.all (grantOk nk) = true
  · rw [if_pos h]; simp only [true_iff]; exact List.all_eq_true.1 h
  · rw [if_neg h]; constructor
    · intro h'; exact absurd h' (by decide)
    · intro h'; exact absurd (List.all_eq_true.2 h') h

theorem inR_iff (n a b : Int) : inR n a b = true ↔ a ≤ n ∧ n ≤ b := by simp [inR]

theorem farm_iff (f : Farm) : checkFarm f = 0 ↔ FarmOk f := by
  unfold checkFarm checkRest lens ranges
  rw [orE_zero]
  constructor
  · rintro ⟨h1, h2⟩
    cases h3 : (f.done.length == f.plan.length && (f.got.length == f.plan.length && f.grants.length == f.plan.length))
    · rw [h3, cond_false] at h2; exact absurd h2 (by decide)
    rw [h3, cond_true] at h2
    cases h4 : (inR f.work.length 1 4 && inR f.now 0 65536)
    · rw [h4, cond_false] at h2; exact absurd h2 (by decide)
    rw [h4, cond_true] at h2
    cases h5 : decide (20 < f.net.length)
    · rw [h5, cond_false] at h2
      simp only [orE_zero, works_iff, grants_iff, net_iff] at h2
      simp only [Bool.and_eq_true, beq_iff_eq, inR_iff, decide_eq_false_iff_not] at h3 h4 h5
      exact ⟨h1, h3.1, h3.2.1, h3.2.2, by omega, by omega, h4.2.1, h4.2.2, by omega, h2.1, h2.2.1, h2.2.2.1, h2.2.2.2.1, h2.2.2.2.2⟩
    · rw [h5, cond_true] at h2; exact absurd h2 (by decide)
  · intro h
    refine ⟨h.plan, ?_⟩
    have h3 : (f.done.length == f.plan.length && (f.got.length == f.plan.length && f.grants.length == f.plan.length)) = true := by simp [h.done, h.got, h.grants]
    have h4 : (inR f.work.length 1 4 && inR f.now 0 65536) = true := by
      have := h.work1; have := h.work4
      simp only [Bool.and_eq_true, inR_iff]; exact ⟨⟨by omega, by omega⟩, h.now0, h.now1⟩
    have h5 : decide (20 < f.net.length) = false := by have := h.net; simp; omega
    rw [h3, h4, h5]
    simp only [cond_true, cond_false, orE_zero, works_iff, grants_iff, net_iff]
    exact ⟨h.parts, h.gots, h.works, h.grts, h.nets⟩

end Go.Proofs.Ytmlojlbmfceogaa.M
