/-
  What is joined is right; joining is associative; nothing joined with a part is that.
-/
import Derived.Test.YtebhbhbhcoijpaaPrtMath
namespace Go.Proofs.Ytebhbhbhcoijpaa.M
set_option linter.unusedVariables false

theorem bare_eq {a b : ByteArray} (h : a.toList = b.toList) : bare a = bare b := by unfold bare; rw [h]

theorem has_append (l m : List ByteArray) (g : ByteArray) : has (l ++ m) g = (has l g || has m g) := by simp [has]

theorem has_groups (fs : List Frg) (l : List ByteArray) (g : ByteArray) (hb : bare g = false) :
    has (fs.foldl addGroup l) g = (has l g || fs.any fun f => f.group.toList == g.toList) := by
  induction fs generalizing l with
  | nil => simp
  | cons f fs ih =>
    rw [List.foldl_cons, ih, List.any_cons, ← Bool.or_assoc]
    congr 1
    unfold addGroup
    cases h1 : bare f.group
    · cases h2 : has l f.group
      · simp [has]
      · simp only [Bool.or_true, cond_true]
        cases h3 : (f.group.toList == g.toList)
        · simp
        · have h3' : f.group.toList = g.toList := by simpa using h3
          have : has l g = true := by unfold has at h2 ⊢; rw [← h3']; exact h2
          simp [this]
    · simp only [Bool.true_or, cond_true]
      cases h3 : (f.group.toList == g.toList)
      · simp
      · have h3' : f.group.toList = g.toList := by simpa using h3
        rw [bare_eq h3', hb] at h1; cases h1

theorem has_groups' (fs : List Frg) (g : ByteArray) (hb : bare g = false) : has (groups fs) g = fs.any fun f => f.group.toList == g.toList := by
  unfold groups
  rw [has_groups fs [] g hb]; simp [has]

/-- a fragment goes, of a's and b's groups, if it goes of a's or of b's -/
theorem gone_plus (as bs : List Frg) (to : List Int) (f : Frg) :
    gone (groups (as ++ (stays (groups as) bs).map (movedFrg to))) f = (gone (groups as) f || gone (groups bs) f) := by
  unfold gone
  cases hb : bare f.group
  · simp only [Bool.not_false, Bool.true_and]
    rw [has_groups' _ _ hb, has_groups' _ _ hb, has_groups' _ _ hb, List.any_append]
    cases h1 : as.any fun x => x.group.toList == f.group.toList
    · simp only [Bool.false_or, List.any_map]
      unfold stays
      rw [List.any_filter]
      congr 1
      funext x
      cases h2 : (x.group.toList == f.group.toList)
      · simp [movedFrg, h2]
      · have h2' : x.group.toList = f.group.toList := by simpa using h2
        have : gone (groups as) x = false := by
          unfold gone
          rw [bare_eq h2', hb, has_groups' _ _ (by rw [bare_eq h2']; exact hb), h2', h1]; rfl
        simp [movedFrg, h2, this]
    · simp
  · simp

theorem stays_append (l : List ByteArray) (as bs : List Frg) : stays l (as ++ bs) = stays l as ++ stays l bs := by simp [stays]

theorem count_append (l : List ByteArray) : ∀ (as bs : List Frg) (n : Int), count l n (as ++ bs) = count l n as ++ count l (n + (stays l as).length) bs
  | [], bs, n => by simp [count, stays]
  | f :: as, bs, n => by
    rw [List.cons_append, count, count]
    cases hg : gone l f
    · simp only [cond_false, count_append l as bs, List.cons_append, stays, List.filter_cons, hg, Bool.not_false, if_true, List.length_cons]
      congr 2
      congr 1
      push_cast; omega
    · simp only [cond_true, count_append l as bs, List.cons_append, stays, List.filter_cons, hg, Bool.not_true, Bool.false_eq_true, if_false]

theorem gone_moved (l : List ByteArray) (to : List Int) (f : Frg) : gone l (movedFrg to f) = gone l f := rfl

theorem stays_map (l : List ByteArray) (to : List Int) (fs : List Frg) : stays l (fs.map (movedFrg to)) = (stays l fs).map (movedFrg to) := by
  unfold stays
  rw [List.filter_map]
  rfl

theorem count_map (l : List ByteArray) (to : List Int) : ∀ (fs : List Frg) (n : Int), count l n (fs.map (movedFrg to)) = count l n fs
  | [], _ => rfl
  | f :: fs, n => by
    rw [List.map_cons, count, count, gone_moved, count_map l to fs, count_map l to fs]

/-- dropping twice is dropping once: which stay -/
theorem stays_stays {l m k : List ByteArray} (hk : ∀ f, gone k f = (gone l f || gone m f)) (fs : List Frg) : stays l (stays m fs) = stays k fs := by
  unfold stays
  rw [List.filter_filter]
  congr 1
  funext f
  rw [hk]
  cases gone l f <;> cases gone m f <;> rfl

/-- dropping twice is dropping once: the numbers -/
theorem num_num {l m k : List ByteArray} (hk : ∀ f, gone k f = (gone l f || gone m f)) (fs : List Frg) (a n : Int) (i : Int) (h0 : 0 ≤ i) (h : i < fs.length) :
    num (count k n fs) i = if num (count m a fs) i = -1 ∧ gone m (fs.getD i.toNat ⟨0, 0, ⟨#[]⟩, [], 0, []⟩) = true then -1 else num (count l n (stays m fs)) (num (count m a fs) i - a) := by
  have hlt : i.toNat < fs.length := by omega
  have hg := List.getElem?_eq_getElem hlt
  have hd : fs.getD i.toNat ⟨0, 0, ⟨#[]⟩, [], 0, []⟩ = fs[i.toNat] := by rw [List.getD_eq_getElem?_getD, hg]; rfl
  rw [hd, num_get k fs n i h0 _ hg, num_get m fs a i h0 _ hg]
  generalize hf : fs[i.toNat] = f
  cases h1 : gone m f
  · simp only [cond_false, Bool.false_eq_true, and_false, if_false]
    have e : a + ((stays m (fs.take i.toNat)).length : Int) - a = ((stays m (fs.take i.toNat)).length : Int) := by omega
    have hs : stays m fs = stays m (fs.take i.toNat) ++ f :: stays m (fs.drop (i.toNat + 1)) := by
      have : fs = fs.take i.toNat ++ f :: fs.drop (i.toNat + 1) := by
        rw [← hf, List.getElem_cons_drop, List.take_append_drop]
      conv => lhs; rw [this]
      rw [stays_append]
      congr 1
      simp [stays, h1]
    rw [e, num_get l (stays m fs) n _ (by omega) f (by rw [hs]; simp)]
    rw [hk, h1, Bool.or_false]
    cases gone l f
    · simp only [cond_false]
      congr 2
      have : (stays m fs).take ((stays m (fs.take i.toNat)).length : Int).toNat = stays m (fs.take i.toNat) := by
        rw [hs]; simp
      rw [this, stays_stays hk]
    · rfl
  · simp [hk, h1]

end Go.Proofs.Ytebhbhbhcoijpaa.M
