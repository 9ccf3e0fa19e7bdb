/-
  What is no archive's is taken as it is; an archive whose parts are lacked by nobody gives nothing: plain mathematics.
-/
import Derived.Test.YtgfpcldaaelelaaArFact
namespace Go.Proofs.Ytgfpcldaaelelaa.M
set_option linter.unusedVariables false

def plainItem (p : Prt) : Itm := ⟨false, [p]⟩

theorem set_one {st : St} {n : ByteArray} {v : Int} {x : List UInt8} (h : st.set n v x = 1) : (x = n.data.toList ∧ v = 1) ∨ st x = 1 := by
  unfold St.set at h
  by_cases e : x = n.data.toList
  · rw [if_pos e] at h; exact .inl ⟨e, h⟩
  · rw [if_neg e] at h; exact .inr h

theorem wantAll_one : ∀ (l : List ByteArray) {st : St} {x : List UInt8}, wantAll st l x = 1 → st x = 1 ∨ ∃ n ∈ l, x = n.data.toList
  | [], st, x, h => .inl h
  | n :: l, st, x, h => by
    have h' : wantAll (want st n) l x = 1 := h
    rcases wantAll_one l h' with h1 | ⟨m, hm, e⟩
    · unfold want at h1
      by_cases h2 : st n.data.toList = 2
      · rw [if_pos h2] at h1; exact .inl h1
      · rw [if_neg h2] at h1
        rcases set_one h1 with ⟨e, _⟩ | h3
        · exact .inr ⟨n, by simp, e⟩
        · exact .inl h3
    · exact .inr ⟨m, List.mem_cons_of_mem _ hm, e⟩

theorem defAll_one : ∀ (l : List Dfn) {st : St} {x : List UInt8}, defAll st l x = 1 → st x = 1
  | [], st, x, h => h
  | d :: l, st, x, h => by
    have h' : defAll (st.set d.name 2) l x = 1 := h
    rcases set_one (defAll_one l h') with ⟨_, e⟩ | h2
    · cases e
    · exact h2

theorem enter_one {st : St} {p : Prt} {x : List UInt8} (h : enter st p x = 1) : st x = 1 ∨ ∃ n ∈ wanted p, x = n.data.toList :=
  wantAll_one _ (defAll_one _ h)

theorem firstAll_one (l : List ByteArray) {x : List UInt8} (h : firstAll l x = 1) : ∃ n ∈ l, x = n.data.toList := by
  have key : ∀ (l : List ByteArray) (st : St), (l.foldl (fun s n => s.set n 1) st) x = 1 → st x = 1 ∨ ∃ n ∈ l, x = n.data.toList := by
    intro l
    induction l with
    | nil => exact fun st h => .inl h
    | cons n l ih =>
      intro st h
      rcases ih _ h with h1 | ⟨m, hm, e⟩
      · rcases set_one h1 with ⟨e, _⟩ | h2
        · exact .inr ⟨n, by simp, e⟩
        · exact .inl h2
      · exact .inr ⟨m, List.mem_cons_of_mem _ hm, e⟩
  rcases key l _ h with h1 | h1
  · cases h1
  · exact h1

/-- parts that stand alone -/
theorem fold_plain : ∀ (l : List Prt) (s : St × List Prt), ((l.map plainItem).foldl chooseStep s).2 = s.2 ++ l ∧ ∀ x, ((l.map plainItem).foldl chooseStep s).1 x = 1 → s.1 x = 1 ∨ ∃ p ∈ l, ∃ n ∈ wanted p, x = n.data.toList
  | [], s => ⟨by simp, fun x h => .inl h⟩
  | p :: l, s => by
    obtain ⟨h1, h2⟩ := fold_plain l (chooseStep s (plainItem p))
    have e : chooseStep s (plainItem p) = (enter s.1 p, s.2 ++ [p]) := rfl
    rw [e] at h1 h2
    refine ⟨?_, fun x hx => ?_⟩
    · show ((l.map plainItem).foldl chooseStep (chooseStep s (plainItem p))).2 = _
      rw [e, h1]; simp
    · have hx' : ((l.map plainItem).foldl chooseStep (enter s.1 p, s.2 ++ [p])).1 x = 1 := hx
      rcases h2 x hx' with h3 | ⟨q, hq, n, hn, e2⟩
      · rcases enter_one h3 with h4 | ⟨n, hn, e2⟩
        · exact .inl h4
        · exact .inr ⟨p, by simp, n, hn, e2⟩
      · exact .inr ⟨q, List.mem_cons_of_mem _ hq, n, hn, e2⟩

theorem search_none {parts : List Prt} {st : St} {out : List Prt} (h : ∀ p ∈ parts, partHelps st p = false) : search parts st out = ⟨st, out, none8⟩ := by
  have hn : partHelps st nilP = false := rfl
  have hr : ∀ i, roundN parts ⟨st, out, none8⟩ i = (⟨st, out, none8⟩, false) := by
    intro i
    induction i with
    | zero => rfl
    | succ i ih =>
      rw [roundN, ih]
      refine step_no (.inr ?_)
      show partHelps st (parts.getD i nilP) = false
      by_cases hi : i < parts.length
      · rw [List.getD_eq_getElem?_getD, List.getElem?_eq_getElem hi]
        exact h _ (List.getElem_mem hi)
      · rw [List.getD_eq_getElem?_getD, List.getElem?_eq_none (by omega)]; exact hn
  show rounds parts 9 ⟨st, out, none8⟩ = _
  rw [show (9 : Nat) = 8 + 1 from rfl, rounds]
  have : round parts ⟨st, out, none8⟩ = (⟨st, out, none8⟩, false) := hr _
  rw [this]
  rfl

theorem choose_out {l : List Itm} {first : List ByteArray} (h : (choose l first).2 = 0) : checkItems l = 0 ∧ checkFirst first = 0 ∧ (choose l first).1 = (l.foldl chooseStep (firstAll first, [])).2 := by
  unfold choose at h ⊢
  by_cases h1 : checkItems l = 0
  · rw [if_pos h1] at h ⊢
    by_cases h2 : checkFirst first = 0
    · rw [if_pos h2] at h ⊢; exact ⟨h1, h2, rfl⟩
    · rw [if_neg h2] at h; exact absurd h h2
  · rw [if_neg h1] at h; exact absurd h h1

theorem plain_out {l : List Prt} {first : List ByteArray} (h : (choose (l.map plainItem) first).2 = 0) : (choose (l.map plainItem) first).1 = l := by
  rw [(choose_out h).2.2, (fold_plain l _).1]; rfl

/-- all that may be lacking -/
def lackNames (first : List ByteArray) (l : List Prt) : List ByteArray := first ++ l.flatMap wanted

theorem plain_more {l more : List Prt} {first : List ByteArray} (hn : ∀ p ∈ more, ∀ d ∈ p.defs, ∀ n ∈ lackNames first l, d.name.data.toList ≠ n.data.toList)
    (h : (choose (l.map plainItem ++ [⟨true, more⟩]) first).2 = 0) : (choose (l.map plainItem ++ [⟨true, more⟩]) first).1 = l := by
  rw [(choose_out h).2.2, List.foldl_append]
  obtain ⟨h1, h2⟩ := fold_plain l (firstAll first, [])
  generalize (l.map plainItem).foldl chooseStep (firstAll first, []) = S at *
  have hs : search more S.1 S.2 = ⟨S.1, S.2, none8⟩ := search_none fun p hp => by
    cases hh : partHelps S.1 p
    · rfl
    · exfalso
      obtain ⟨d, hd, hx⟩ := List.any_eq_true.1 hh
      have hx1 : S.1 d.name.data.toList = 1 := by
        unfold helps at hx
        rw [Bool.and_eq_true] at hx
        simpa using hx.2
      rcases h2 _ hx1 with h3 | ⟨q, hq, n, hnn, e⟩
      · obtain ⟨n, hnn, e⟩ := firstAll_one first h3
        exact hn p hp d hd n (List.mem_append.2 (.inl hnn)) e
      · exact hn p hp d hd n (List.mem_append.2 (.inr (List.mem_flatMap.2 ⟨q, hq, hnn⟩))) e
  show (chooseStep S ⟨true, more⟩).2 = l
  show (search more S.1 S.2).out = l
  rw [hs]
  simpa using h1

theorem sameTxt_refl (s : ByteArray) : (s.toList == s.toList) = true := by simp
theorem sameRel_refl (r : Rel) : sameRel r r = true := by simp [sameRel]
theorem sameDfn_refl (d : Dfn) : sameDfn d d = true := by simp [sameDfn]
theorem allTwo_refl {α : Type} {eq : α → α → Bool} (h : ∀ x, eq x x = true) : ∀ l : List α, allTwo eq l l = true
  | [] => rfl
  | x :: l => by
    show (eq x x && allTwo eq l l) = true
    rw [h, allTwo_refl h l]; rfl
theorem sameFrg_refl (f : Frg) : sameFrg f f = true := by
  simp [sameFrg, allTwo_refl sameRel_refl, allTwo_refl (fun x : Int => (by simp : (x == x) = true))]
theorem samePart_refl (p : Prt) : samePart p p = true := by
  simp [samePart, allTwo_refl sameFrg_refl, allTwo_refl sameDfn_refl]

end Go.Proofs.Ytgfpcldaaelelaa.M
