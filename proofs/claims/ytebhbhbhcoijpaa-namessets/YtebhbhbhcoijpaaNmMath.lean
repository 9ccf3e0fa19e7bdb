/-
  What is rising: the same names, each once, in order; two such lists with the same names are one.
-/
import Derived.Test.YtebhbhbhcoijpaaNmModel
import Derived.Laws.Strings
namespace Go.Proofs.Ytebhbhbhcoijpaa.M
open Go

theorem lt_of_le_ne {x y : List UInt8} (h : x ≤ y) (hn : x ≠ y) : x < y := by
  apply Classical.byContradiction
  intro hc
  exact hn (List.le_antisymm h (List.not_lt.1 hc))

theorem lt_of_le_lt {x y z : List UInt8} (h : x ≤ y) (h2 : y < z) : x < z := by
  apply Classical.byContradiction
  intro hc
  have h3 : z ≤ x := List.not_lt.1 hc
  exact (List.not_lt.2 (List.le_trans h3 h)) h2

theorem sort_sorted (l : List (List UInt8)) : (l.mergeSort fun x y => decide (x ≤ y)).Pairwise (fun a b => a ≤ b) := by
  have := List.pairwise_mergeSort (le := fun x y : List UInt8 => decide (x ≤ y)) (fun a b c h1 h2 => by simp only [decide_eq_true_eq] at *; exact List.le_trans h1 h2) (fun a b => by simp only [Bool.or_eq_true, decide_eq_true_eq]; exact List.le_total a b) l
  exact this.imp (fun h => by simpa using h)

theorem compact_up (d : Array (List UInt8)) (hs : d.toList.Pairwise (fun a b => a ≤ b)) : ∀ m, m ≤ d.size → (Lib.compactUpTo d m).Pairwise (fun a b => a < b) ∧ ∀ x, x ∈ Lib.compactUpTo d m ↔ ∃ j, j < m ∧ d[j]! = x
  | 0, _ => by simp [Lib.compactUpTo]
  | m + 1, hm => by
    obtain ⟨h1, h2⟩ := compact_up d hs m (by omega)
    have hle : ∀ i j, i ≤ j → j < d.size → d[i]! ≤ d[j]! := fun i j hij hj => by
      by_cases he : i = j
      · rw [he]; exact List.le_refl _
      · have := (List.pairwise_iff_getElem.1 hs) i j (by simp; omega) (by simpa using hj) (by omega)
        rw [getElem!_pos d i (by omega), getElem!_pos d j hj]
        simpa using this
    rw [Lib.compactUpTo_succ]
    by_cases hk : Lib.keeps d m = true
    · rw [if_pos hk]
      refine ⟨List.pairwise_append.2 ⟨h1, List.pairwise_singleton _ _, fun x hx y hy => ?_⟩, fun x => ?_⟩
      · obtain ⟨j, hj, rfl⟩ := (h2 x).1 hx
        obtain rfl := List.mem_singleton.1 hy
        have hne : d[m]! ≠ d[m - 1]! := by
          simp only [Lib.keeps, decide_eq_true_eq] at hk
          rcases hk with hk | hk
          · omega
          · exact hk
        exact lt_of_le_lt (hle j (m - 1) (by omega) (by omega)) (lt_of_le_ne (hle (m - 1) m (by omega) (by omega)) (fun e => hne e.symm))
      · rw [List.mem_append, h2, List.mem_singleton]
        constructor
        · rintro (⟨j, hj, rfl⟩ | rfl)
          · exact ⟨j, by omega, rfl⟩
          · exact ⟨m, by omega, rfl⟩
        · rintro ⟨j, hj, rfl⟩
          by_cases he : j = m
          · subst he; exact .inr rfl
          · exact .inl ⟨j, by omega, rfl⟩
    · rw [if_neg hk, List.append_nil]
      refine ⟨h1, fun x => ?_⟩
      rw [h2]
      simp only [Lib.keeps, decide_eq_true_eq, not_or, Decidable.not_not] at hk
      constructor
      · rintro ⟨j, hj, rfl⟩
        exact ⟨j, by omega, rfl⟩
      · rintro ⟨j, hj, rfl⟩
        by_cases he : j = m
        · subst he; exact ⟨j - 1, by omega, hk.2.symm⟩
        · exact ⟨j, by omega, rfl⟩

theorem mem_get (l : List (List UInt8)) (x : List UInt8) : (∃ j, j < l.length ∧ l.toArray[j]! = x) ↔ x ∈ l := by
  constructor
  · rintro ⟨j, hj, rfl⟩
    rw [getElem!_pos l.toArray j (by simpa using hj)]
    simp
  · intro h
    obtain ⟨j, hj, rfl⟩ := List.getElem_of_mem h
    exact ⟨j, hj, by rw [getElem!_pos l.toArray j (by simpa using hj)]; simp⟩

theorem risingT_mem (l : List (List UInt8)) (x : List UInt8) : x ∈ risingT l ↔ x ∈ l := by
  have h := (compact_up (l.mergeSort fun x y => decide (x ≤ y)).toArray (by simpa using sort_sorted l) (l.mergeSort fun x y => decide (x ≤ y)).length (by simp)).2 x
  show x ∈ Lib.compactUpTo _ _ ↔ _
  rw [h, mem_get]
  exact List.mem_mergeSort

theorem risingT_sorted (l : List (List UInt8)) : (risingT l).Pairwise (fun a b => a < b) :=
  (compact_up (l.mergeSort fun x y => decide (x ≤ y)).toArray (by simpa using sort_sorted l) (l.mergeSort fun x y => decide (x ≤ y)).length (by simp)).1

theorem lt_irr (x : List UInt8) : ¬ x < x := List.lt_irrefl x
theorem lt_asym {x y : List UInt8} (h : x < y) : ¬ y < x := fun h2 => lt_irr _ (List.lt_trans h h2)

theorem strict_one : ∀ (l m : List (List UInt8)), l.Pairwise (fun a b => a < b) → m.Pairwise (fun a b => a < b) → (∀ x, x ∈ l ↔ x ∈ m) → l = m
  | [], [], _, _, _ => rfl
  | [], y :: m, _, _, h => by have := (h y).2 (by simp); simp at this
  | x :: l, [], _, _, h => by have := (h x).1 (by simp); simp at this
  | x :: l, y :: m, hl, hm, h => by
    rw [List.pairwise_cons] at hl hm
    have e : x = y := by
      have hx := (h x).1 (by simp)
      have hy := (h y).2 (by simp)
      rw [List.mem_cons] at hx hy
      rcases hx with hx | hx
      · exact hx
      · rcases hy with hy | hy
        · exact hy.symm
        · exact absurd (hl.1 y hy) (lt_asym (hm.1 x hx))
    subst e
    rw [strict_one l m hl.2 hm.2 (fun z => ?_)]
    constructor
    · intro hz
      have := (h z).1 (by simp [hz])
      rw [List.mem_cons] at this
      rcases this with rfl | h1
      · exact absurd (hl.1 z hz) (lt_irr _)
      · exact h1
    · intro hz
      have := (h z).2 (by simp [hz])
      rw [List.mem_cons] at this
      rcases this with rfl | h1
      · exact absurd (hm.1 z hz) (lt_irr _)
      · exact h1

theorem txt_inj {a b : ByteArray} (h : txt' a = txt' b) : a = b := by rw [← of_txt a, ← of_txt b, h]

theorem rising_mem (l : List ByteArray) (s : ByteArray) : s ∈ rising l ↔ s ∈ l := by
  unfold rising
  rw [List.mem_map]
  constructor
  · rintro ⟨t, ht, rfl⟩
    rw [risingT_mem, List.mem_map] at ht
    obtain ⟨u, hu, rfl⟩ := ht
    rw [of_txt]; exact hu
  · intro h
    exact ⟨txt' s, (risingT_mem _ _).2 (List.mem_map_of_mem h), of_txt s⟩

/-- rising lists -/
def Strict (l : List ByteArray) : Prop := l.Pairwise fun a b => txt' a < txt' b

theorem rising_strict (l : List ByteArray) : Strict (rising l) := by
  unfold Strict rising
  rw [List.pairwise_map]
  exact (risingT_sorted _).imp (fun h => h)

theorem strict_eq {l m : List ByteArray} (hl : Strict l) (hm : Strict m) (h : ∀ s, s ∈ l ↔ s ∈ m) : l = m := by
  have e : l.map txt' = m.map txt' := strict_one _ _ (by rw [List.pairwise_map]; exact hl) (by rw [List.pairwise_map]; exact hm) (fun x => by
    simp only [List.mem_map]
    constructor
    · rintro ⟨s, hs, rfl⟩; exact ⟨s, (h s).1 hs, rfl⟩
    · rintro ⟨s, hs, rfl⟩; exact ⟨s, (h s).2 hs, rfl⟩)
  have f := congrArg (List.map ofTxt) e
  rw [List.map_map, List.map_map, show ofTxt ∘ txt' = id from funext of_txt, List.map_id, List.map_id] at f
  exact f

theorem rising_eq {l m : List ByteArray} (hm : Strict m) (h : ∀ s, s ∈ l ↔ s ∈ m) : rising l = m :=
  strict_eq (rising_strict l) hm (fun s => by rw [rising_mem]; exact h s)

theorem rising_rising (l m : List ByteArray) : rising (rising l ++ rising m) = rising (l ++ m) :=
  rising_eq (rising_strict _) (fun s => by simp [rising_mem])

theorem toList_txt (s : ByteArray) : s.toList = txt' s := ByteArray.toList_eq s

theorem has_mem (l : List ByteArray) (s : ByteArray) : has l s = true ↔ s ∈ l := by
  unfold has
  rw [List.any_eq_true]
  constructor
  · rintro ⟨x, hx, he⟩
    have : x.toList = s.toList := by simpa using he
    rw [toList_txt, toList_txt] at this
    rwa [← txt_inj this]
  · intro h
    exact ⟨s, h, by simp⟩

theorem filter_strict {l : List ByteArray} (h : Strict l) (f : ByteArray → Bool) : Strict (l.filter f) := h.filter f

end Go.Proofs.Ytebhbhbhcoijpaa.M
