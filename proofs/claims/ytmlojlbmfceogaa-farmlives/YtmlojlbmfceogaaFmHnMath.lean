/-
  What a farm from its beginning on holds is what its plan says: the mathematics.
-/
import Derived.Test.YtmlojlbmfceogaaFmRsMath
import Derived.Test.YtmlojlbmfceogaaFmMd
import Derived.Test.YtmlojlbmfceogaaPlSmMath
import Derived.Test.YtmlojlbmfceogaaPlMm
namespace Go.Proofs.Ytmlojlbmfceogaa.M

/-- what is done, and what is on its way, is what the plan says -/
structure Honest (f : Farm) : Prop where
  done : ∀ n, f.done.getD n false = true → madeP f n = (f.got.getD n nil, true)
  net : ∀ m ∈ f.net, m.kind = 2 → madeP f m.n.toNat = (m.p, true)
/-- what a farm comes to in one happening, as its state ahead tells -/
structure From (f g : Farm) : Prop where
  net : ∀ m ∈ g.net, m.kind = 2 → madeP f m.n.toNat = (m.p, true)
  done : ∀ n, g.done.getD n false = true → f.done.getD n false = true ∨ madeP f n = (g.got.getD n nil, true)

theorem made_keep {f g : Farm} {k : Int} (h : Rises f g k) {n : Nat} {p : Prt} (hm : madeP f n = (p, true)) : madeP g n = (p, true) := by
  unfold madeP at hm ⊢
  rw [h.plan]
  by_cases hl : (f.plan.getD n nd0).leaf = -1
  · rw [if_pos hl] at hm ⊢
    by_cases hd : (f.done.getD (f.plan.getD n nd0).left.toNat false && f.done.getD (f.plan.getD n nd0).right.toNat false) = true
    · rw [if_pos hd] at hm
      rw [Bool.and_eq_true] at hd
      have k1 := rises_keep h _ hd.1
      have k2 := rises_keep h _ hd.2
      rw [k1.1, k2.1, k1.2, k2.2, if_pos (show (true && true) = true from rfl)]
      exact hm
    · rw [if_neg hd] at hm
      simp at hm
  · rw [if_neg hl] at hm ⊢
    rw [h.parts]
    exact hm
theorem honest_of {f g : Farm} {k : Int} (h : Honest f) (hr : Rises f g k) (hf : From f g) : Honest g := by
  refine ⟨fun n hn => ?_, fun m hm hk => made_keep hr (hf.net m hm hk)⟩
  rcases hf.done n hn with hd | hd
  · rw [(rises_keep hr n hd).2]
    exact made_keep hr (h.done n hd)
  · exact made_keep hr hd
theorem from_self {f g : Farm} (h : Honest f) (h1 : g.net = f.net) (h2 : g.done = f.done) : From f g := ⟨fun m hm => h.net m (by rw [← h1]; exact hm), fun n hn => .inl (by rw [← h2]; exact hn)⟩
theorem from_send {f g : Farm} (h : From f g) (m : Msg) (hm : m.kind = 2 → madeP f m.n.toNat = (m.p, true)) : From f (send g m) := by
  unfold send
  by_cases hl : g.net.length < 20
  · rw [if_pos hl]
    refine ⟨fun m' hm' hk => ?_, h.done⟩
    rcases List.mem_append.1 hm' with hm' | hm'
    · exact h.net m' hm' hk
    · rw [List.mem_singleton] at hm'
      subst hm'
      exact hm hk
  · rw [if_neg hl]; exact h
theorem from_taken {f : Farm} (h : Honest f) (k : Nat) : From f (taken f k) := ⟨fun m hm => h.net m (List.mem_of_mem_eraseIdx hm), fun _ hn => .inl hn⟩
theorem from_happen {f : Farm} (hok : FarmOk f) (h : Honest f) (x : Hap) : From f (happen f x).1 := by
  unfold happen
  by_cases h1 : x.kind = 1 ∨ x.kind = 2 ∨ x.kind = 7
  · rw [if_pos h1]
    unfold happenAt
    cases inR x.worker 0 ((f.work.length : Int) - 1)
    · exact from_self h rfl rfl
    · rw [cond_true]
      by_cases h2 : x.kind = 1
      · rw [if_pos h2]
        unfold give
        cases (ready f.plan f.done).find? (freeAt f) with
        | none => exact from_self h rfl rfl
        | some n =>
          show From f (send { f with grants := f.grants.set n.toNat ⟨x.worker, f.now + 5⟩ } ⟨1, x.worker, n, nil⟩)
          exact from_send (g := { f with grants := f.grants.set n.toNat ⟨x.worker, f.now + 5⟩ }) (from_self h rfl rfl) ⟨1, x.worker, n, nil⟩ (fun hk => absurd hk (by show ¬ (1 : Int) = 2; decide))
      · rw [if_neg h2]
        by_cases h3 : x.kind = 2
        · rw [if_pos h3]
          unfold finish
          by_cases h4 : f.work.getD x.worker.toNat 0 = -1
          · rw [if_pos h4]; exact from_self h rfl rfl
          · rw [if_neg h4]
            show From f (if (madeP f (f.work.getD x.worker.toNat 0).toNat).2 = true then _ else _)
            by_cases h5 : (madeP f (f.work.getD x.worker.toNat 0).toNat).2 = true
            · rw [if_pos h5]
              exact from_send (g := idled f x.worker) (from_self h rfl rfl) ⟨2, x.worker, f.work.getD x.worker.toNat 0, (madeP f (f.work.getD x.worker.toNat 0).toNat).1⟩ (fun _ => Prod.ext rfl h5)
            · rw [if_neg h5]; exact from_self h rfl rfl
        · rw [if_neg h3]; exact from_self h rfl rfl
  · rw [if_neg h1]
    by_cases h2 : x.kind = 3 ∨ x.kind = 4 ∨ x.kind = 5
    · rw [if_pos h2]
      unfold happenTo
      cases hin : inR x.k 0 ((f.net.length : Int) - 1)
      · exact from_self h rfl rfl
      · rw [cond_true]
        have hk := (inR_iff _ _ _).1 hin
        have hmem : f.net.getD x.k.toNat msg0 ∈ f.net := getD_mem' f.net msg0 _ (by omega)
        by_cases h3 : x.kind = 5
        · rw [if_pos h3]
          by_cases h4 : 20 ≤ f.net.length
          · rw [if_pos h4]; exact from_self h rfl rfl
          · rw [if_neg h4]
            refine ⟨fun m hm hk => ?_, fun n hn => .inl hn⟩
            rcases List.mem_append.1 hm with hm | hm
            · exact h.net m hm hk
            · rw [List.mem_singleton] at hm
              exact h.net m (by rw [hm]; exact hmem) hk
        · rw [if_neg h3]
          by_cases h4 : x.kind = 3
          · rw [if_pos h4]
            show From f (arriveM (taken f x.k.toNat) (f.net.getD x.k.toNat msg0))
            generalize f.net.getD x.k.toNat msg0 = m at hmem
            have ht := from_taken h x.k.toNat
            unfold arriveM
            by_cases h5 : m.kind = 1
            · rw [if_pos h5]
              by_cases h6 : (taken f x.k.toNat).work.getD m.worker.toNat 0 = -1
              · rw [if_pos h6]; exact ⟨ht.net, ht.done⟩
              · rw [if_neg h6]; exact ht
            · rw [if_neg h5]
              by_cases h6 : m.kind = 2
              · rw [if_pos h6]
                by_cases h7 : (taken f x.k.toNat).done.getD m.n.toNat false = false
                · rw [if_pos h7]
                  refine ⟨ht.net, fun n hn => ?_⟩
                  have hn' : (f.done.set m.n.toNat true).getD n false = true := hn
                  show _ ∨ madeP f n = ((f.got.set m.n.toNat m.p).getD n nil, true)
                  by_cases he : n = m.n.toNat
                  · subst he
                    have hg : m.n.toNat < f.got.length := by
                      have hmo := (hok.nets m hmem).1
                      unfold msgOk at hmo
                      simp only [Bool.and_eq_true] at hmo
                      have := (inR_iff _ _ _).1 hmo.2.2
                      have := hok.got
                      omega
                    right
                    rw [getD_set_at, if_pos ⟨rfl, hg⟩]
                    exact h.net m hmem h6
                  · left
                    rw [getD_set_at, if_neg (fun q => he q.1)] at hn'
                    exact hn'
                · rw [if_neg h7]; exact ht
              · rw [if_neg h6]; exact ht
          · rw [if_neg h4]; exact from_taken h _
    · rw [if_neg h2]
      by_cases h3 : x.kind = 6
      · rw [if_pos h3]
        by_cases h4 : f.now = 65536
        · rw [if_pos h4]; exact from_self h rfl rfl
        · rw [if_neg h4]; exact from_self h rfl rfl
      · rw [if_neg h3]
        by_cases h4 : x.kind = 8
        · rw [if_pos h4]; exact from_self h rfl rfl
        · rw [if_neg h4]; exact from_self h rfl rfl

theorem honest_run : ∀ (l : List Hap) {f : Farm}, FarmOk f → Honest f → FarmOk (runF f l).1 ∧ Honest (runF f l).1 ∧ (runF f l).1.plan = f.plan ∧ (runF f l).1.parts = f.parts
  | [], f, hok, h => ⟨hok, h, rfl, rfl⟩
  | x :: l, f, hok, h => by
    have hr := rises_happen f x
    have hok' := happen_ok hok (fun n hn => node_leaf hok hn) x
    have := honest_run l hok' (honest_of h hr (from_happen hok h x))
    exact ⟨this.1, this.2.1, this.2.2.1.trans hr.plan, this.2.2.2.trans hr.parts⟩
theorem new_farm {parts : List Prt} {l : List Nd} {workers : Int} (h : newE parts l workers = 0) : FarmOk (newF parts l workers) ∧ Honest (newF parts l workers) := by
  unfold newE at h
  obtain ⟨h1, h2⟩ := orE_zero.1 h
  cases hin : inR workers 1 4
  · rw [hin] at h2; exact absurd h2 (show ¬ (3 : Int) = 0 by decide)
  · rw [hin] at h2
    have hw := (inR_iff _ _ _).1 hin
    have hwl : (newF parts l workers).work.length = workers.toNat := by simp [newF]
    have hg0 : ∀ g ∈ (newF parts l workers).grants, g = grt0 := fun g hg => (List.mem_replicate.1 hg).2
    refine ⟨⟨h1, by simp [newF], by simp [newF], by simp [newF], by rw [hwl]; omega, by rw [hwl]; omega, Int.le_refl _, by show (0 : Int) ≤ 65536; decide, by show ([] : List Msg).length ≤ 20; decide, h2, ?_, ?_, ?_, fun m hm => by cases hm⟩, ⟨fun n hn => ?_, fun m hm => by cases hm⟩⟩
    · exact (each_iff _).2 fun p hp => by
        rw [(List.mem_replicate.1 hp).2]
        exact nil_ok
    · intro n hn
      rw [(List.mem_replicate.1 hn).2]
      simp [workOk, inR]
    · intro g hg
      rw [hg0 g hg]
      exact grant_of (by rw [hwl]; show (0 : Int) ≤ 0 ∧ _; omega) (by decide)
    · have : (List.replicate l.length false).getD n false = true := hn
      rw [List.getD_eq_getElem?_getD, List.getElem?_replicate] at this
      split at this <;> simp at this

/-- a node below another -/
theorem above_one : ∀ (l : List Nd) (i : Nat), above l i = 1 → ∃ j, j < l.length ∧ (l.getD j nd0).leaf = -1 ∧ ((l.getD j nd0).left = (i : Int) ∨ (l.getD j nd0).right = (i : Int))
  | [], i, h => by simp [above] at h
  | n :: l, i, h => by
    by_cases h0 : aboveOne n i = 0
    · unfold above at h
      rw [h0] at h
      obtain ⟨j, h1, h2, h3⟩ := above_one l i (by omega)
      exact ⟨j + 1, by simp; omega, h2, h3⟩
    · refine ⟨0, by simp, ?_⟩
      show n.leaf = -1 ∧ (n.left = (i : Int) ∨ n.right = (i : Int))
      unfold aboveOne at h0
      cases hl : (n.leaf == -1)
      · rw [hl] at h0; exact absurd rfl h0
      · rw [hl, cond_true] at h0
        refine ⟨by simpa using hl, ?_⟩
        by_cases h1 : n.left = (i : Int)
        · exact .inl h1
        · by_cases h2 : n.right = (i : Int)
          · exact .inr h2
          · exfalso
            apply h0
            unfold eqN
            rw [show (n.left == (i : Int)) = false by simpa using h1, show (n.right == (i : Int)) = false by simpa using h2]
            rfl
theorem plan_parts {l : List Nd} {n : Int} (h : checkPlan l n = 0) : l.length ≤ 23 ∧ 0 < l.length ∧ fitsFrom n 0 l = true ∧ isTree l = true := by
  unfold checkPlan at h
  by_cases h1 : fewParts n = false
  · rw [if_pos h1] at h; exact absurd h (by decide)
  · rw [if_neg h1] at h
    by_cases h2 : 23 < l.length
    · rw [if_pos h2] at h; exact absurd h (by decide)
    · rw [if_neg h2] at h
      by_cases h3 : l.length = 0
      · rw [if_pos h3] at h; exact absurd h (by decide)
      · rw [if_neg h3] at h
        by_cases h4 : fitsFrom n 0 l = false
        · rw [if_pos h4] at h; exact absurd h (by decide)
        · rw [if_neg h4] at h
          by_cases h5 : isTree l = true ∧ inOrder l n = true
          · exact ⟨by omega, by omega, by simpa using h4, h5.1⟩
          · rw [if_neg h5] at h; exact absurd h (by decide)
/-- where the last node is done, all are -/
theorem all_done {f : Farm} (hok : FarmOk f) (h : Honest f) (hl : f.done.getD (f.plan.length - 1) false = true) : ∀ k, k < f.plan.length → f.done.getD (f.plan.length - 1 - k) false = true := by
  obtain ⟨h23, h0, hfit, htree⟩ := plan_parts hok.plan
  have hbe := behind_of hfit
  intro k
  induction k using Nat.strongRecOn with
  | _ k ih =>
    intro hk
    by_cases hk0 : k = 0
    · subst hk0; exact hl
    · have ha : above f.plan (f.plan.length - 1 - k) = 1 := by
        have := List.all_eq_true.1 htree (f.plan.length - 1 - k) (List.mem_range.2 (by omega))
        simpa using this
      obtain ⟨j, hj, hlf, hlr⟩ := above_one f.plan _ ha
      have hb := hbe j hj (by simpa using hlf)
      have hjd : f.done.getD j false = true := by
        have := ih (f.plan.length - 1 - j) (by omega) (by omega)
        rwa [show f.plan.length - 1 - (f.plan.length - 1 - j) = j by omega] at this
      have hm := h.done j hjd
      unfold madeP at hm
      rw [if_pos hlf] at hm
      by_cases hd : (f.done.getD (f.plan.getD j nd0).left.toNat false && f.done.getD (f.plan.getD j nd0).right.toNat false) = true
      · rw [Bool.and_eq_true] at hd
        rcases hlr with e | e
        · rw [e, Int.toNat_natCast] at hd; exact hd.1
        · rw [e, Int.toNat_natCast] at hd; exact hd.2
      · rw [if_neg hd] at hm
        simp at hm
theorem take_getD {α : Type} (l : List α) (d : α) (k i : Nat) (h : i < k) : (l.take k).getD i d = l.getD i d := by
  rw [List.getD_eq_getElem?_getD, List.getD_eq_getElem?_getD, List.getElem?_take_of_lt h]
theorem take_succ {α : Type} (l : List α) (d : α) (k : Nat) (h : k < l.length) : l.take (k + 1) = l.take k ++ [l.getD k d] := by
  rw [List.take_add_one, List.getElem?_eq_getElem h, List.getD_eq_getElem?_getD, List.getElem?_eq_getElem h]
  rfl
theorem drop_cons {α : Type} (l : List α) (d : α) (k : Nat) (h : k < l.length) : l.drop k = l.getD k d :: l.drop (k + 1) := by
  rw [List.drop_eq_getElem_cons h, List.getD_eq_getElem?_getD, List.getElem?_eq_getElem h]
  rfl
/-- what the farm holds is what the plan comes to -/
theorem eval_got {f : Farm} (hok : FarmOk f) (h : Honest f) (hl : f.done.getD (f.plan.length - 1) false = true) : eval f.plan f.parts = (f.got, 0) := by
  obtain ⟨h23, h0, hfit, htree⟩ := plan_parts hok.plan
  have hbe := behind_of hfit
  have hall : ∀ n, n < f.plan.length → f.done.getD n false = true := fun n hn => by
    have := all_done hok h hl (f.plan.length - 1 - n) (by omega)
    rwa [show f.plan.length - 1 - (f.plan.length - 1 - n) = n by omega] at this
  have hpo := (checkEach_ok f.parts).1 hok.parts
  have go : ∀ k, k ≤ f.plan.length → evalGo f.parts (f.got.take (f.plan.length - k)) (f.plan.drop (f.plan.length - k)) = (f.got, 0) := by
    intro k
    induction k with
    | zero =>
      intro _
      rw [Nat.sub_zero, List.drop_eq_nil_of_le (Nat.le_refl _), List.take_of_length_le (by rw [hok.got]; exact Nat.le_refl _)]
      rfl
    | succ k ih =>
      intro hk
      obtain ⟨n, hn⟩ : ∃ n, n = f.plan.length - (k + 1) := ⟨_, rfl⟩
      have hn1 : f.plan.length - k = n + 1 := by omega
      have hnl : n < f.plan.length := by omega
      have hng : n < f.got.length := by rw [hok.got]; exact hnl
      have e := ih (by omega)
      rw [hn1, take_succ f.got nil n hng] at e
      rw [← hn, drop_cons f.plan nd0 n hnl, evalGo]
      have hm := h.done n (hall n hnl)
      unfold madeP at hm
      by_cases hlf : (f.plan.getD n nd0).leaf = -1
      · rw [if_pos hlf] at hm
        have hb := hbe n hnl (by simpa using hlf)
        have eL : evalLeft (f.got.take n) (f.plan.getD n nd0) = f.got.getD (f.plan.getD n nd0).left.toNat nil := by
          unfold evalLeft
          rw [show ((f.plan.getD n nd0).leaf == -1) = true by simpa using hlf, cond_true, take_getD _ _ _ _ (by omega)]
        have eR : evalRight f.parts (f.got.take n) (f.plan.getD n nd0) = f.got.getD (f.plan.getD n nd0).right.toNat nil := by
          unfold evalRight
          rw [show ((f.plan.getD n nd0).leaf == -1) = true by simpa using hlf, cond_true, take_getD _ _ _ _ (by omega)]
        by_cases hd : (f.done.getD (f.plan.getD n nd0).left.toNat false && f.done.getD (f.plan.getD n nd0).right.toNat false) = true
        · rw [if_pos hd] at hm
          have hj1 := congrArg Prod.fst hm
          have hj2 := congrArg Prod.snd hm
          simp only [beq_iff_eq] at hj1 hj2
          rw [eL, eR, if_pos hj2, hj1]
          exact e
        · rw [if_neg hd] at hm
          simp at hm
      · rw [if_neg hlf] at hm
        have hlf' : ((f.plan.getD n nd0).leaf == -1) = false := by simpa using hlf
        have hlo := node_leaf hok hnl hlf
        have hlt : (f.plan.getD n nd0).leaf.toNat < f.parts.length := by omega
        have hok1 := hpo _ (getD_mem' f.parts nil _ hlt)
        have eL : evalLeft (f.got.take n) (f.plan.getD n nd0) = nil := by unfold evalLeft; rw [hlf', cond_false]
        have eR : evalRight f.parts (f.got.take n) (f.plan.getD n nd0) = f.parts.getD (f.plan.getD n nd0).leaf.toNat nil := by unfold evalRight; rw [hlf', cond_false]
        have hj1 := congrArg Prod.fst hm
        simp only at hj1
        rw [eL, eR, nil_join hok1, if_pos rfl]
        simp only
        rw [hj1]
        exact e
  unfold eval
  rw [if_pos hok.plan, if_pos hok.parts]
  have := go f.plan.length (Nat.le_refl _)
  rw [Nat.sub_self] at this
  simpa using this

end Go.Proofs.Ytmlojlbmfceogaa.M
