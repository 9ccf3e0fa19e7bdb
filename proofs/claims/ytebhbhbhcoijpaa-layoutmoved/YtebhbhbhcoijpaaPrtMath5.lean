/-
  Groups: those of a part that is joined begin with the first one's; what is dropped is gone once and for all; how many fragments a group has.
-/
import Derived.Test.YtebhbhbhcoijpaaPrtMath4
namespace Go.Proofs.Ytebhbhbhcoijpaa.M
set_option linter.unusedVariables false

theorem groups_more (fs : List Frg) (l : List ByteArray) : ∃ t, fs.foldl addGroup l = l ++ t := by
  induction fs generalizing l with
  | nil => exact ⟨[], by simp⟩
  | cons f fs ih =>
    rw [List.foldl_cons]
    obtain ⟨t, ht⟩ := ih (addGroup l f)
    rw [ht]
    unfold addGroup
    cases bare f.group || has l f.group
    · exact ⟨f.group :: t, by simp⟩
    · exact ⟨t, rfl⟩

theorem groups_put (a b : Prt) (l : List ByteArray) : ∃ t, groups (put a l b).frags = groups a.frags ++ t := by
  rw [put_frags]
  unfold groups
  rw [List.foldl_append]
  exact groups_more _ _

theorem groups_bare (fs : List Frg) (l : List ByteArray) (h : ∀ f ∈ fs, bare f.group = true) : fs.foldl addGroup l = l := by
  induction fs with
  | nil => rfl
  | cons f fs ih =>
    rw [List.forall_mem_cons] at h
    rw [List.foldl_cons]
    have : addGroup l f = l := by unfold addGroup; rw [h.1]; rfl
    rw [this, ih h.2]

theorem drop_put (p : Prt) (l : List ByteArray) : drop p l = put nil l p := by
  unfold drop put
  simp [nil, plus, moved]

theorem drop_frags (p : Prt) (l : List ByteArray) : (drop p l).frags = (stays l p.frags).map (movedFrg (count l 0 p.frags)) := by
  rw [drop_put, put_frags]; rfl

theorem ok_drop {p : Prt} (h : Ok p) (l : List ByteArray) : Ok (drop p l) := by
  rw [drop_put]
  refine ok_put ok_nil h ?_
  have h1 : (put nil l p).frags.length ≤ p.frags.length := by
    rw [put_frags]
    simp only [nil, List.nil_append, List.length_map]
    exact List.length_filter_le _ _
  have h2 : (put nil l p).defs.length ≤ p.defs.length := by
    show ([] ++ movedDefs _ p.defs : List Dfn).length ≤ _
    unfold movedDefs
    rw [List.nil_append]
    refine Nat.le_trans (List.length_filter_le _ _) ?_
    rw [List.length_map]; exact Nat.le_refl _
  have := h.nf; have := h.nd
  simp [full]; omega

theorem mem_has {l : List ByteArray} {g : ByteArray} (h : g ∈ l) : has l g = true := by
  unfold has
  rw [List.any_eq_true]
  exact ⟨g, h, by simp⟩

theorem drop_bare (p : Prt) : ∀ f ∈ (drop p (groups p.frags)).frags, bare f.group = true := by
  intro f hf
  rw [drop_frags] at hf
  obtain ⟨g, hg, rfl⟩ := List.mem_map.1 hf
  obtain ⟨h1, h2⟩ := List.mem_filter.1 hg
  show bare g.group = true
  cases hb : bare g.group
  · have : has (groups p.frags) g.group = true := by
      rw [has_groups' _ _ hb, List.any_eq_true]
      exact ⟨g, h1, by simp⟩
    simp [gone, hb, this] at h2
  · rfl

theorem groups_drop (p : Prt) : groups (drop p (groups p.frags)).frags = [] := groups_bare _ _ (drop_bare p)

theorem count_congr (l m : List ByteArray) : ∀ (fs : List Frg) (n : Int), (∀ f ∈ fs, gone l f = gone m f) → count l n fs = count m n fs
  | [], _, _ => rfl
  | f :: fs, n, h => by
    rw [List.forall_mem_cons] at h
    rw [count, count, h.1, count_congr l m fs n h.2, count_congr l m fs (n + 1) h.2]

theorem drop_again {p : Prt} (h : Ok p) : drop (drop p (groups p.frags)) (groups p.frags) = drop p (groups p.frags) := by
  have hd := ok_drop h (groups p.frags)
  have hb := drop_bare p
  generalize drop p (groups p.frags) = d at *
  unfold drop
  rw [count_congr _ [] d.frags 0 (fun f hf => by rw [gone_nil]; unfold gone; rw [hb f hf]; rfl)]
  exact moved_id hd

/-- how many fragments a group has -/
def many (s : ByteArray) (fs : List Frg) : Nat := (fs.filter fun f => f.group.toList == s.toList).length

theorem groups_mem (fs : List Frg) (l : List ByteArray) (s : ByteArray) (h : s ∈ fs.foldl addGroup l) : s ∈ l ∨ bare s = false := by
  induction fs generalizing l with
  | nil => exact .inl h
  | cons f fs ih =>
    rw [List.foldl_cons] at h
    rcases ih _ h with h | h
    · unfold addGroup at h
      cases h1 : bare f.group
      · cases h2 : has l f.group
        · rw [h1, h2] at h
          simp only [Bool.or_self, cond_false, List.mem_append, List.mem_singleton] at h
          rcases h with h | rfl
          · exact .inl h
          · exact .inr h1
        · rw [h1, h2] at h; exact .inl h
      · rw [h1] at h; exact .inl h
    · exact .inr h

theorem many_put (a b : Prt) (s : ByteArray) (hs : s ∈ groups (put a (groups a.frags) b).frags) :
    many s (put a (groups a.frags) b).frags = bif has (groups a.frags) s then many s a.frags else many s b.frags := by
  have hb : bare s = false := by
    rcases groups_mem _ _ _ hs with h | h
    · cases h
    · exact h
  rw [put_frags]
  unfold many
  rw [List.filter_append, List.length_append]
  have h1 : ∀ to, ((stays (groups a.frags) b.frags).map (movedFrg to)).filter (fun f => f.group.toList == s.toList) = ((stays (groups a.frags) b.frags).filter fun f => f.group.toList == s.toList).map (movedFrg to) := by
    intro to
    rw [List.filter_map]
    rfl
  rw [h1, List.length_map]
  have h2 : (stays (groups a.frags) b.frags).filter (fun f => f.group.toList == s.toList) = bif has (groups a.frags) s then [] else b.frags.filter (fun f => f.group.toList == s.toList) := by
    unfold stays
    rw [List.filter_filter]
    cases h3 : has (groups a.frags) s
    · rw [cond_false]
      refine List.filter_congr fun f _ => ?_
      cases h4 : (f.group.toList == s.toList)
      · simp
      · have h4' : f.group.toList = s.toList := by simpa using h4
        have : gone (groups a.frags) f = false := by
          unfold gone
          have : has (groups a.frags) f.group = has (groups a.frags) s := by unfold has; rw [h4']
          rw [this, h3]; simp
        simp [this]
    · rw [cond_true, List.filter_eq_nil_iff]
      intro f _
      cases h4 : (f.group.toList == s.toList)
      · simp
      · have h4' : f.group.toList = s.toList := by simpa using h4
        have : gone (groups a.frags) f = true := by
          unfold gone
          have : has (groups a.frags) f.group = has (groups a.frags) s := by unfold has; rw [h4']
          rw [this, h3, bare_eq h4', hb]; rfl
        simp [this]
  rw [h2]
  cases h3 : has (groups a.frags) s
  · have h5 : a.frags.filter (fun f => f.group.toList == s.toList) = [] := by
      rw [List.filter_eq_nil_iff]
      intro f hf h6
      rw [has_groups' _ _ hb] at h3
      rw [List.any_eq_false] at h3
      exact h3 f hf h6
    simp [h5]
  · simp

end Go.Proofs.Ytebhbhbhcoijpaa.M
