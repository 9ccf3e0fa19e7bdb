/-
  What happens to a farm leaves what is done as it is: the mathematics.
-/
import Derived.Test.YtmlojlbmfceogaaFmOk2
import Derived.Test.YtmlojlbmfceogaaPlReady
namespace Go.Proofs.Ytmlojlbmfceogaa.M

/-- what one happening may do -/
structure Rises (f g : Farm) (kind : Int) : Prop where
  plan : g.plan = f.plan
  parts : g.parts = f.parts
  work : g.work.length = f.work.length
  now0 : f.now ≤ g.now
  now1 : g.now ≤ f.now + 1
  done : (g.done = f.done ∧ g.got = f.got) ∨ (kind = 3 ∧ ∃ n p, f.done.getD n false = false ∧ g.done = f.done.set n true ∧ g.got = f.got.set n p)

theorem rises_self (f : Farm) (k : Int) : Rises f f k := ⟨rfl, rfl, rfl, Int.le_refl _, by omega, .inl ⟨rfl, rfl⟩⟩
theorem rises_send {f g : Farm} {k : Int} (h : Rises f g k) (m : Msg) : Rises f (send g m) k := by
  unfold send
  by_cases hl : g.net.length < 20
  · rw [if_pos hl]; exact ⟨h.plan, h.parts, h.work, h.now0, h.now1, h.done⟩
  · rw [if_neg hl]; exact h
theorem rises_idled (f : Farm) (w k : Int) : Rises f (idled f w) k := ⟨rfl, rfl, by simp [idled], Int.le_refl _, by simp [idled]; omega, .inl ⟨rfl, rfl⟩⟩
theorem rises_happen (f : Farm) (x : Hap) : Rises f (happen f x).1 x.kind := by
  unfold happen
  by_cases h1 : x.kind = 1 ∨ x.kind = 2 ∨ x.kind = 7
  · rw [if_pos h1]
    unfold happenAt
    cases inR x.worker 0 ((f.work.length : Int) - 1)
    · exact rises_self f _
    · rw [cond_true]
      by_cases h2 : x.kind = 1
      · rw [if_pos h2]
        unfold give
        cases (ready f.plan f.done).find? (freeAt f) with
        | none => exact rises_self f _
        | some n =>
          refine rises_send ?_ _
          exact ⟨rfl, rfl, rfl, Int.le_refl _, by show f.now ≤ f.now + 1; omega, .inl ⟨rfl, rfl⟩⟩
      · rw [if_neg h2]
        by_cases h3 : x.kind = 2
        · rw [if_pos h3]
          unfold finish
          by_cases h4 : f.work.getD x.worker.toNat 0 = -1
          · rw [if_pos h4]; exact rises_self f _
          · rw [if_neg h4]
            show Rises f (if (madeP f (f.work.getD x.worker.toNat 0).toNat).2 = true then _ else _) _
            by_cases h5 : (madeP f (f.work.getD x.worker.toNat 0).toNat).2 = true
            · rw [if_pos h5]; exact rises_send (rises_idled f _ _) _
            · rw [if_neg h5]; exact rises_idled f _ _
        · rw [if_neg h3]; exact rises_idled f _ _
  · rw [if_neg h1]
    by_cases h2 : x.kind = 3 ∨ x.kind = 4 ∨ x.kind = 5
    · rw [if_pos h2]
      unfold happenTo
      cases inR x.k 0 ((f.net.length : Int) - 1)
      · exact rises_self f _
      · rw [cond_true]
        by_cases h3 : x.kind = 5
        · rw [if_pos h3]
          by_cases h4 : 20 ≤ f.net.length
          · rw [if_pos h4]; exact rises_self f _
          · rw [if_neg h4]; exact ⟨rfl, rfl, rfl, Int.le_refl _, by show f.now ≤ f.now + 1; omega, .inl ⟨rfl, rfl⟩⟩
        · rw [if_neg h3]
          by_cases h4 : x.kind = 3
          · rw [if_pos h4]
            show Rises f (arriveM (taken f x.k.toNat) (f.net.getD x.k.toNat msg0)) x.kind
            generalize f.net.getD x.k.toNat msg0 = m
            unfold arriveM
            by_cases h5 : m.kind = 1
            · rw [if_pos h5]
              by_cases h6 : (taken f x.k.toNat).work.getD m.worker.toNat 0 = -1
              · rw [if_pos h6]; exact ⟨rfl, rfl, by simp [taken], Int.le_refl _, by show f.now ≤ f.now + 1; omega, .inl ⟨rfl, rfl⟩⟩
              · rw [if_neg h6]; exact ⟨rfl, rfl, rfl, Int.le_refl _, by show f.now ≤ f.now + 1; omega, .inl ⟨rfl, rfl⟩⟩
            · rw [if_neg h5]
              by_cases h6 : m.kind = 2
              · rw [if_pos h6]
                by_cases h7 : (taken f x.k.toNat).done.getD m.n.toNat false = false
                · rw [if_pos h7]; exact ⟨rfl, rfl, rfl, Int.le_refl _, by show f.now ≤ f.now + 1; omega, .inr ⟨h4, m.n.toNat, m.p, h7, rfl, rfl⟩⟩
                · rw [if_neg h7]; exact ⟨rfl, rfl, rfl, Int.le_refl _, by show f.now ≤ f.now + 1; omega, .inl ⟨rfl, rfl⟩⟩
              · rw [if_neg h6]; exact ⟨rfl, rfl, rfl, Int.le_refl _, by show f.now ≤ f.now + 1; omega, .inl ⟨rfl, rfl⟩⟩
          · rw [if_neg h4]; exact ⟨rfl, rfl, rfl, Int.le_refl _, by show f.now ≤ f.now + 1; omega, .inl ⟨rfl, rfl⟩⟩
    · rw [if_neg h2]
      by_cases h3 : x.kind = 6
      · rw [if_pos h3]
        by_cases h4 : f.now = 65536
        · rw [if_pos h4]; exact rises_self f _
        · rw [if_neg h4]; exact ⟨rfl, rfl, rfl, by show f.now ≤ f.now + 1; omega, Int.le_refl _, .inl ⟨rfl, rfl⟩⟩
      · rw [if_neg h3]
        by_cases h4 : x.kind = 8
        · rw [if_pos h4]; exact ⟨rfl, rfl, rfl, Int.le_refl _, by show f.now ≤ f.now + 1; omega, .inl ⟨rfl, rfl⟩⟩
        · rw [if_neg h4]; exact rises_self f _

/-- how many of the first k are newly done -/
def moreN (a b : List Bool) (k : Nat) : Int := (((List.range k).filter fun i => !(a.getD i false) && b.getD i false).length : Int)
theorem more_step (a b : List Bool) (k : Nat) : moreN a b (k + 1) = moreN a b k + (if (!(a.getD k false) && b.getD k false) = true then 1 else 0) := by
  unfold moreN
  rw [List.range_succ, List.filter_append, List.filter_cons, List.filter_nil, List.length_append]
  cases h : (!(a.getD k false) && b.getD k false)
  · rw [if_neg (by decide), if_neg (by decide)]; rfl
  · rw [if_pos rfl, if_pos rfl]; rfl
theorem getD_set_at {α : Type} (l : List α) (n i : Nat) (d v : α) : (l.set n v).getD i d = if i = n ∧ n < l.length then v else l.getD i d := by
  rw [List.getD_eq_getElem?_getD, List.getD_eq_getElem?_getD, List.getElem?_set]
  by_cases h : n = i
  · subst h
    by_cases h2 : n < l.length
    · simp [h2]
    · simp [h2]
  · rw [if_neg h, if_neg (fun h' => h h'.1.symm)]
theorem rises_keep {f g : Farm} {k : Int} (h : Rises f g k) (i : Nat) (hd : f.done.getD i false = true) : g.done.getD i false = true ∧ g.got.getD i nil = f.got.getD i nil := by
  rcases h.done with ⟨h1, h2⟩ | ⟨_, n, p, h3, h1, h2⟩
  · rw [h1, h2]; exact ⟨hd, rfl⟩
  · have hne : i ≠ n := fun e => by rw [e, h3] at hd; cases hd
    rw [h1, h2, getD_set_at, getD_set_at, if_neg (fun h => hne h.1), if_neg (fun h => hne h.1)]
    exact ⟨hd, rfl⟩
theorem rises_more {f g : Farm} {k : Int} (h : Rises f g k) : ∀ m, moreN f.done g.done m = 0 ∨ (moreN f.done g.done m = 1 ∧ k = 3) := by
  rcases h.done with ⟨h1, _⟩ | ⟨hk, n, p, h3, h1, _⟩
  · intro m
    left
    rw [h1]
    unfold moreN
    have : (List.range m).filter (fun i => !(f.done.getD i false) && f.done.getD i false) = [] := by
      rw [List.filter_eq_nil_iff]
      intro i _
      cases f.done.getD i false <;> simp
    rw [this]; rfl
  · have key : ∀ i, i ≠ n → (!(f.done.getD i false) && g.done.getD i false) = false := fun i hi => by
      rw [h1, getD_set_at, if_neg (fun h => hi h.1)]
      cases f.done.getD i false <;> rfl
    have low : ∀ m, m ≤ n → moreN f.done g.done m = 0 := by
      intro m
      induction m with
      | zero => intro _; rfl
      | succ m ih => intro hm; rw [more_step, ih (by omega), key m (by omega)]; rfl
    intro m
    induction m with
    | zero => exact .inl rfl
    | succ m ih =>
      by_cases hm : m = n
      · subst hm
        rw [more_step, low m (Nat.le_refl _)]
        cases (!(f.done.getD m false) && g.done.getD m false)
        · exact .inl rfl
        · exact .inr ⟨rfl, hk⟩
      · rw [more_step, key m hm]
        rcases ih with ih | ih
        · left; rw [ih]; rfl
        · right; rw [ih.1]; exact ⟨rfl, hk⟩

end Go.Proofs.Ytmlojlbmfceogaa.M
