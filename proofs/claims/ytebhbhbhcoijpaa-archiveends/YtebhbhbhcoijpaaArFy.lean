/-
  The closed items of the archives' fact: what is chosen of them. What is no archive's is taken as it is; an archive whose parts are lacked by nobody gives nothing: plain mathematics. What an archive gives, and what it has left: plain mathematics. ArchiveEnds: two sets of names against how names stand; what Choose gives of one part and one archive. Plain mathematics.
-/
import Derived.Test.YtebhbhbhcoijpaaArModel
import Derived.Test.YtebhbhbhcoijpaaNmMath2
import Derived.WalkKit

namespace Go.Proofs.Ytebhbhbhcoijpaa.M
open Go
set_option linter.unusedVariables false

def pA : Prt := ⟨[⟨1, 1, ⟨#[]⟩, [9, 0, 0], 0, [⟨1, 2, ⟨#[102]⟩, 0, 0⟩]⟩], [⟨⟨#[109, 97, 105, 110]⟩, 1, 0, 0, 0, 0⟩]⟩
def pC : Prt := ⟨[⟨2, 1, ⟨#[]⟩, [], 0, []⟩], [⟨⟨#[122]⟩, 1, 0, 0, 0, 0⟩]⟩
def pD : Prt := ⟨[⟨1, 4, ⟨#[103]⟩, [7], 0, [⟨0, 1, ⟨#[119]⟩, 0, 0⟩]⟩], [⟨⟨#[102]⟩, 1, 0, 0, 0, 0⟩]⟩
def pW : Prt := ⟨[⟨4, 2, ⟨#[]⟩, [5], 0, []⟩], [⟨⟨#[119]⟩, 2, 0, 0, 0, 0⟩]⟩

theorem wantA : wanted pA = [⟨#[102]⟩] := by
  unfold wanted
  refine rising_eq ?_ (fun s => ?_)
  · simp [Strict]
  · simp [wantedNames, wantedOf, pA, bare]
theorem wantD : wanted pD = [⟨#[119]⟩] := by
  unfold wanted
  refine rising_eq ?_ (fun s => ?_)
  · simp [Strict]
  · simp [wantedNames, wantedOf, pD, bare]
theorem wantW : wanted pW = [] := by
  unfold wanted
  refine rising_eq ?_ (fun s => ?_)
  · simp [Strict]
  · simp [wantedNames, wantedOf, pW]

def en (st : St) (l : List ByteArray) (p : Prt) : St := defAll (wantAll st l) p.defs
theorem enA (st : St) : enter st pA = en st [⟨#[102]⟩] pA := by unfold enter en; rw [wantA]
theorem enD (st : St) : enter st pD = en st [⟨#[119]⟩] pD := by unfold enter en; rw [wantD]
theorem enW (st : St) : enter st pW = en st [] pW := by unfold enter en; rw [wantW]

def s1 : St := en (fun _ => 0) [⟨#[102]⟩] pA
def s2 : St := en s1 [⟨#[119]⟩] pD
def s3 : St := en s2 [] pW

theorem h1W : partHelps s1 pW = false := by decide +kernel
theorem h1C : partHelps s1 pC = false := by decide +kernel
theorem h1D : partHelps s1 pD = true := by decide +kernel
theorem h2W : partHelps s2 pW = true := by decide +kernel
theorem h3C : partHelps s3 pC = false := by decide +kernel

def tk0 : List Bool := [false, false, false, false, false, false, false, false]
def tk1 : List Bool := [false, false, true, false, false, false, false, false]
def tk2 : List Bool := [true, false, true, false, false, false, false, false]

theorem step_no {parts : List Prt} {s : Ars} {b : Bool} {i : Nat} (h : s.tk.getD i false = true ∨ partHelps s.st (parts.getD i nilP) = false) : step parts (s, b) i = (s, b) := by
  unfold step
  rw [if_neg]
  rintro ⟨h1, h2⟩
  rcases h with h | h
  · rw [h1] at h; cases h
  · rw [h2] at h; cases h
theorem step_yes {parts : List Prt} {s : Ars} {b : Bool} {i : Nat} (h1 : s.tk.getD i false = false) (h2 : partHelps s.st (parts.getD i nilP) = true) : step parts (s, b) i = (⟨enter s.st (parts.getD i nilP), s.out ++ [parts.getD i nilP], s.tk.set i true⟩, true) := by
  unfold step
  rw [if_pos ⟨h1, h2⟩]
  rfl

theorem round_three (a b c : Prt) (s : Ars) : round [a, b, c] s = step [a, b, c] (step [a, b, c] (step [a, b, c] (s, false) 0) 1) 2 := rfl

theorem round1 : round [pW, pC, pD] ⟨s1, [pA], tk0⟩ = (⟨s2, [pA, pD], tk1⟩, true) := by
  rw [round_three, step_no (i := 0) (.inr h1W), step_no (i := 1) (.inr h1C), step_yes (i := 2) rfl h1D]
  show ((⟨enter s1 pD, [pA, pD], tk1⟩ : Ars), true) = _
  rw [enD]
  rfl
theorem round2 : round [pW, pC, pD] ⟨s2, [pA, pD], tk1⟩ = (⟨s3, [pA, pD, pW], tk2⟩, true) := by
  rw [round_three, step_yes (i := 0) rfl h2W]
  have e : (⟨enter s2 ([pW, pC, pD].getD 0 nilP), [pA, pD] ++ [[pW, pC, pD].getD 0 nilP], tk1.set 0 true⟩ : Ars) = ⟨s3, [pA, pD, pW], tk2⟩ := by
    show (⟨enter s2 pW, _, _⟩ : Ars) = _
    rw [enW]
    rfl
  show step [pW, pC, pD] (step [pW, pC, pD] ((⟨enter s2 ([pW, pC, pD].getD 0 nilP), [pA, pD] ++ [[pW, pC, pD].getD 0 nilP], tk1.set 0 true⟩ : Ars), true) 1) 2 = _
  rw [e, step_no (i := 1) (.inr h3C), step_no (i := 2) (.inl rfl)]
theorem round3 : round [pW, pC, pD] ⟨s3, [pA, pD, pW], tk2⟩ = (⟨s3, [pA, pD, pW], tk2⟩, false) := by
  rw [round_three, step_no (i := 0) (.inl rfl), step_no (i := 1) (.inr h3C), step_no (i := 2) (.inl rfl)]

theorem search1 : search [pW, pC, pD] s1 [pA] = ⟨s3, [pA, pD, pW], tk2⟩ := by
  show rounds [pW, pC, pD] 9 ⟨s1, [pA], tk0⟩ = _
  rw [show (9 : Nat) = 8 + 1 from rfl, rounds, round1]
  show rounds [pW, pC, pD] 8 ⟨s2, [pA, pD], tk1⟩ = _
  rw [show (8 : Nat) = 7 + 1 from rfl, rounds, round2]
  show rounds [pW, pC, pD] 7 ⟨s3, [pA, pD, pW], tk2⟩ = _
  rw [show (7 : Nat) = 6 + 1 from rfl, rounds, round3]
  rfl

theorem choose1 : choose [⟨false, [pA]⟩, ⟨true, [pW, pC, pD]⟩] [] = ([pA, pD, pW], 0) := by
  unfold choose
  rw [if_pos (by decide +kernel), if_pos (by decide +kernel)]
  show ((chooseStep (enter (fun _ => 0) pA, [pA]) ⟨true, [pW, pC, pD]⟩).2, (0 : Int)) = _
  rw [enA]
  show ((search [pW, pC, pD] s1 [pA]).out, (0 : Int)) = _
  rw [search1]

end Go.Proofs.Ytebhbhbhcoijpaa.M

namespace Go.Proofs.Ytebhbhbhcoijpaa.M
set_option linter.unusedVariables false

def plainItem (p : Prt) : Itm := ⟨false, [p]⟩

theorem set_one {st : St} {n : ByteArray} {v : Int} {x : List UInt8} (h : st.set n v x = 1) : (x = n.data.toList ∧ v = 1) ∨ st x = 1 := by
  unfold St.set at h
  by_cases e : x = n.data.toList
  · rw [if_pos e] at h; exact .inl ⟨e, h⟩
  · rw [if_neg e] at h; exact .inr h

theorem wantAll_one : ∀ (l : List ByteArray) {st : St} {x : List UInt8}, wantAll st l x = 1 → st x = 1 ∨ ∃ n ∈ l, x = n.data.toList
  | [], st, x, h => .inl h
  | n :: l, st, x, h => by
    have h' : wantAll (want st n) l x = 1 := h
    rcases wantAll_one l h' with h1 | ⟨m, hm, e⟩
    · unfold want at h1
      by_cases h2 : st n.data.toList = 2
      · rw [if_pos h2] at h1; exact .inl h1
      · rw [if_neg h2] at h1
        rcases set_one h1 with ⟨e, _⟩ | h3
        · exact .inr ⟨n, by simp, e⟩
        · exact .inl h3
    · exact .inr ⟨m, List.mem_cons_of_mem _ hm, e⟩

theorem defAll_one : ∀ (l : List Dfn) {st : St} {x : List UInt8}, defAll st l x = 1 → st x = 1
  | [], st, x, h => h
  | d :: l, st, x, h => by
    have h' : defAll (st.set d.name 2) l x = 1 := h
    rcases set_one (defAll_one l h') with ⟨_, e⟩ | h2
    · cases e
    · exact h2

theorem enter_one {st : St} {p : Prt} {x : List UInt8} (h : enter st p x = 1) : st x = 1 ∨ ∃ n ∈ wanted p, x = n.data.toList :=
  wantAll_one _ (defAll_one _ h)

theorem firstAll_one (l : List ByteArray) {x : List UInt8} (h : firstAll l x = 1) : ∃ n ∈ l, x = n.data.toList := by
  have key : ∀ (l : List ByteArray) (st : St), (l.foldl (fun s n => s.set n 1) st) x = 1 → st x = 1 ∨ ∃ n ∈ l, x = n.data.toList := by
    intro l
    induction l with
    | nil => exact fun st h => .inl h
    | cons n l ih =>
      intro st h
      rcases ih _ h with h1 | ⟨m, hm, e⟩
      · rcases set_one h1 with ⟨e, _⟩ | h2
        · exact .inr ⟨n, by simp, e⟩
        · exact .inl h2
      · exact .inr ⟨m, List.mem_cons_of_mem _ hm, e⟩
  rcases key l _ h with h1 | h1
  · cases h1
  · exact h1

/-- parts that stand alone -/
theorem fold_plain : ∀ (l : List Prt) (s : St × List Prt), ((l.map plainItem).foldl chooseStep s).2 = s.2 ++ l ∧ ∀ x, ((l.map plainItem).foldl chooseStep s).1 x = 1 → s.1 x = 1 ∨ ∃ p ∈ l, ∃ n ∈ wanted p, x = n.data.toList
  | [], s => ⟨by simp, fun x h => .inl h⟩
  | p :: l, s => by
    obtain ⟨h1, h2⟩ := fold_plain l (chooseStep s (plainItem p))
    have e : chooseStep s (plainItem p) = (enter s.1 p, s.2 ++ [p]) := rfl
    rw [e] at h1 h2
    refine ⟨?_, fun x hx => ?_⟩
    · show ((l.map plainItem).foldl chooseStep (chooseStep s (plainItem p))).2 = _
      rw [e, h1]; simp
    · have hx' : ((l.map plainItem).foldl chooseStep (enter s.1 p, s.2 ++ [p])).1 x = 1 := hx
      rcases h2 x hx' with h3 | ⟨q, hq, n, hn, e2⟩
      · rcases enter_one h3 with h4 | ⟨n, hn, e2⟩
        · exact .inl h4
        · exact .inr ⟨p, by simp, n, hn, e2⟩
      · exact .inr ⟨q, List.mem_cons_of_mem _ hq, n, hn, e2⟩

theorem search_none {parts : List Prt} {st : St} {out : List Prt} (h : ∀ p ∈ parts, partHelps st p = false) : search parts st out = ⟨st, out, none8⟩ := by
  have hn : partHelps st nilP = false := rfl
  have hr : ∀ i, roundN parts ⟨st, out, none8⟩ i = (⟨st, out, none8⟩, false) := by
    intro i
    induction i with
    | zero => rfl
    | succ i ih =>
      rw [roundN, ih]
      refine step_no (.inr ?_)
      show partHelps st (parts.getD i nilP) = false
      by_cases hi : i < parts.length
      · rw [List.getD_eq_getElem?_getD, List.getElem?_eq_getElem hi]
        exact h _ (List.getElem_mem hi)
      · rw [List.getD_eq_getElem?_getD, List.getElem?_eq_none (by omega)]; exact hn
  show rounds parts 9 ⟨st, out, none8⟩ = _
  rw [show (9 : Nat) = 8 + 1 from rfl, rounds]
  have : round parts ⟨st, out, none8⟩ = (⟨st, out, none8⟩, false) := hr _
  rw [this]
  rfl

theorem choose_out {l : List Itm} {first : List ByteArray} (h : (choose l first).2 = 0) : checkItems l = 0 ∧ checkFirst first = 0 ∧ (choose l first).1 = (l.foldl chooseStep (firstAll first, [])).2 := by
  unfold choose at h ⊢
  by_cases h1 : checkItems l = 0
  · rw [if_pos h1] at h ⊢
    by_cases h2 : checkFirst first = 0
    · rw [if_pos h2] at h ⊢; exact ⟨h1, h2, rfl⟩
    · rw [if_neg h2] at h; exact absurd h h2
  · rw [if_neg h1] at h; exact absurd h h1

theorem plain_out {l : List Prt} {first : List ByteArray} (h : (choose (l.map plainItem) first).2 = 0) : (choose (l.map plainItem) first).1 = l := by
  rw [(choose_out h).2.2, (fold_plain l _).1]; rfl

/-- all that may be lacking -/
def lackNames (first : List ByteArray) (l : List Prt) : List ByteArray := first ++ l.flatMap wanted

theorem plain_more {l more : List Prt} {first : List ByteArray} (hn : ∀ p ∈ more, ∀ d ∈ p.defs, ∀ n ∈ lackNames first l, d.name.data.toList ≠ n.data.toList)
    (h : (choose (l.map plainItem ++ [⟨true, more⟩]) first).2 = 0) : (choose (l.map plainItem ++ [⟨true, more⟩]) first).1 = l := by
  rw [(choose_out h).2.2, List.foldl_append]
  obtain ⟨h1, h2⟩ := fold_plain l (firstAll first, [])
  generalize (l.map plainItem).foldl chooseStep (firstAll first, []) = S at *
  have hs : search more S.1 S.2 = ⟨S.1, S.2, none8⟩ := search_none fun p hp => by
    cases hh : partHelps S.1 p
    · rfl
    · exfalso
      obtain ⟨d, hd, hx⟩ := List.any_eq_true.1 hh
      have hx1 : S.1 d.name.data.toList = 1 := by
        unfold helps at hx
        rw [Bool.and_eq_true] at hx
        simpa using hx.2
      rcases h2 _ hx1 with h3 | ⟨q, hq, n, hnn, e⟩
      · obtain ⟨n, hnn, e⟩ := firstAll_one first h3
        exact hn p hp d hd n (List.mem_append.2 (.inl hnn)) e
      · exact hn p hp d hd n (List.mem_append.2 (.inr (List.mem_flatMap.2 ⟨q, hq, hnn⟩))) e
  show (chooseStep S ⟨true, more⟩).2 = l
  show (search more S.1 S.2).out = l
  rw [hs]
  simpa using h1

theorem sameTxt_refl (s : ByteArray) : (s.toList == s.toList) = true := by simp
theorem sameRel_refl (r : Rel) : sameRel r r = true := by simp [sameRel]
theorem sameDfn_refl (d : Dfn) : sameDfn d d = true := by simp [sameDfn]
theorem allTwo_refl {α : Type} {eq : α → α → Bool} (h : ∀ x, eq x x = true) : ∀ l : List α, allTwo eq l l = true
  | [] => rfl
  | x :: l => by
    show (eq x x && allTwo eq l l) = true
    rw [h, allTwo_refl h l]; rfl
theorem sameFrg_refl (f : Frg) : sameFrg f f = true := by
  simp [sameFrg, allTwo_refl sameRel_refl, allTwo_refl (fun x : Int => (by simp : (x == x) = true))]
theorem samePart_refl (p : Prt) : samePart p p = true := by
  simp [samePart, allTwo_refl sameFrg_refl, allTwo_refl sameDfn_refl]

end Go.Proofs.Ytebhbhbhcoijpaa.M

namespace Go.Proofs.Ytebhbhbhcoijpaa.M
set_option linter.unusedVariables false

def enterAll (st : St) (l : List Prt) : St := l.foldl enter st

theorem set_two {st : St} {n : ByteArray} {x : List UInt8} (h : st x = 2) : st.set n 2 x = 2 := by
  unfold St.set; split
  · rfl
  · exact h
theorem want_two {st : St} {n : ByteArray} {x : List UInt8} (h : st x = 2) : want st n x = 2 := by
  unfold want
  by_cases h2 : st n.data.toList = 2
  · rw [if_pos h2]; exact h
  · rw [if_neg h2]
    unfold St.set
    rw [if_neg]
    · exact h
    · intro e; rw [e] at h; exact h2 h
theorem wantAll_two : ∀ (l : List ByteArray) {st : St} {x : List UInt8}, st x = 2 → wantAll st l x = 2
  | [], st, x, h => h
  | n :: l, st, x, h => wantAll_two l (want_two h)
theorem defAll_two : ∀ (l : List Dfn) {st : St} {x : List UInt8}, st x = 2 → defAll st l x = 2
  | [], st, x, h => h
  | d :: l, st, x, h => defAll_two l (set_two h)
theorem enter_two {st : St} {p : Prt} {x : List UInt8} (h : st x = 2) : enter st p x = 2 := defAll_two _ (wantAll_two _ h)
theorem defAll_def : ∀ (l : List Dfn) (st : St), ∀ d ∈ l, defAll st l d.name.data.toList = 2
  | [], st, d, hd => by cases hd
  | e :: l, st, d, hd => by
    rcases List.mem_cons.1 hd with rfl | hd
    · refine defAll_two l ?_
      simp [St.set]
    · exact defAll_def l _ d hd
theorem enter_def (st : St) (p : Prt) : ∀ d ∈ p.defs, enter st p d.name.data.toList = 2 := defAll_def p.defs _
theorem helps_two {st : St} {p : Prt} (h : ∀ d ∈ p.defs, st d.name.data.toList = 2) : partHelps st p = false := by
  cases hh : partHelps st p
  · rfl
  · obtain ⟨d, hd, hx⟩ := List.any_eq_true.1 hh
    unfold helps at hx
    rw [h d hd] at hx
    simp at hx

/-- what was taken since: each was lacked -/
structure Tk (parts : List Prt) (st : St) (out : List Prt) (s : Ars) : Prop where
  ex : ∃ ts : List Prt, s.out = out ++ ts ∧ s.st = enterAll st ts ∧ ∀ k, k < ts.length → partHelps (enterAll st (ts.take k)) (ts.getD k nilP) = true ∧ ts.getD k nilP ∈ parts
  tk : ∀ i, i < parts.length → s.tk.getD i false = true → ∀ d ∈ (parts.getD i nilP).defs, s.st d.name.data.toList = 2

theorem Tk.step {parts : List Prt} {st : St} {out : List Prt} {s : Ars} {b : Bool} {i : Nat} (h : Tk parts st out s) (hi : i < parts.length) : Tk parts st out (M.step parts (s, b) i).1 := by
  by_cases hc : s.tk.getD i false = false ∧ partHelps s.st (parts.getD i nilP) = true
  · rw [step_yes hc.1 hc.2]
    obtain ⟨ts, h1, h2, h3⟩ := h.ex
    have hm : parts.getD i nilP ∈ parts := by
      rw [List.getD_eq_getElem?_getD, List.getElem?_eq_getElem hi]; exact List.getElem_mem hi
    refine ⟨⟨ts ++ [parts.getD i nilP], ?_, ?_, fun k hk => ?_⟩, fun j hj hb d hd => ?_⟩
    · show s.out ++ [parts.getD i nilP] = _
      rw [h1, List.append_assoc]
    · show enter s.st (parts.getD i nilP) = _
      rw [h2]; unfold enterAll; rw [List.foldl_append]; rfl
    · rw [List.length_append] at hk
      by_cases hk' : k < ts.length
      · rw [List.take_append_of_le_length (by omega)]
        have e : (ts ++ [parts.getD i nilP]).getD k nilP = ts.getD k nilP := by
          simp only [List.getD_eq_getElem?_getD]
          rw [List.getElem?_append_left hk']
        rw [e]; exact h3 k hk'
      · obtain rfl : k = ts.length := by simp at hk; omega
        have e : (ts ++ [parts.getD i nilP]).getD ts.length nilP = parts.getD i nilP := by
          rw [List.getD_eq_getElem?_getD, List.getElem?_append_right (Nat.le_refl _), Nat.sub_self]; rfl
        rw [e, List.take_append_of_le_length (Nat.le_refl _), List.take_length, ← h2]
        exact ⟨hc.2, hm⟩
    · show enter s.st (parts.getD i nilP) d.name.data.toList = 2
      by_cases e : i = j
      · subst e; exact enter_def _ _ d hd
      · refine enter_two (h.tk j hj ?_ d hd)
        have hb' : (s.tk.set i true).getD j false = true := hb
        rw [List.getD_eq_getElem?_getD, List.getElem?_set_ne e, ← List.getD_eq_getElem?_getD] at hb'
        exact hb'
  · rw [show M.step parts (s, b) i = (s, b) from if_neg hc]
    exact h

theorem Tk.roundN {parts : List Prt} {st : St} {out : List Prt} {s : Ars} (h : Tk parts st out s) : ∀ i, i ≤ parts.length → Tk parts st out (M.roundN parts s i).1
  | 0, _ => h
  | i + 1, hi => by
    rw [M.roundN]
    have := (Tk.roundN h i (by omega)).step (b := (M.roundN parts s i).2) (i := i) (by omega)
    exact this

/-- a round that takes nothing -/
theorem round_same {parts : List Prt} {s : Ars} : ∀ i, (roundN parts s i).2 = false → (roundN parts s i).1 = s ∧ ∀ j, j < i → s.tk.getD j false = true ∨ partHelps s.st (parts.getD j nilP) = false
  | 0, _ => ⟨rfl, fun j hj => by omega⟩
  | i + 1, h => by
    rw [roundN] at h ⊢
    by_cases hc : (roundN parts s i).1.tk.getD i false = false ∧ partHelps (roundN parts s i).1.st (parts.getD i nilP) = true
    · unfold step at h
      rw [if_pos hc] at h
      cases h
    · have e : step parts (roundN parts s i) i = roundN parts s i := if_neg hc
      rw [e] at h ⊢
      obtain ⟨h1, h2⟩ := round_same i h
      refine ⟨h1, fun j hj => ?_⟩
      by_cases hj' : j < i
      · exact h2 j hj'
      · obtain rfl : j = i := by omega
        rw [h1] at hc
        cases ht : s.tk.getD j false
        · right
          cases hp : partHelps s.st (parts.getD j nilP)
          · rfl
          · exact absurd ⟨ht, hp⟩ hc
        · exact .inl rfl

theorem rounds_end {parts : List Prt} {st : St} {out : List Prt} : ∀ (f : Nat) (s : Ars), Tk parts st out s → parts.length ≤ s.tk.length → s.tk.length < f + cnt s.tk → Tk parts st out (rounds parts f s) ∧ ∀ p ∈ parts, partHelps (rounds parts f s).st p = false
  | 0, s, _, _, hc => by have := cnt_le s.tk; omega
  | f + 1, s, h, hp, hc => by
    have hT := h.roundN parts.length (Nat.le_refl _)
    have hcn := roundN_cnt parts s parts.length hp
    have hl := roundN_len parts s parts.length
    show Tk parts st out (if (round parts s).2 then rounds parts f (round parts s).1 else (round parts s).1) ∧ _
    show _ ∧ ∀ p ∈ parts, partHelps (if (round parts s).2 then rounds parts f (round parts s).1 else (round parts s).1).st p = false
    cases hr : (round parts s).2
    · have hr' : (roundN parts s parts.length).2 = false := hr
      obtain ⟨h1, h2⟩ := round_same parts.length hr'
      have e : (round parts s).1 = s := h1
      simp only [if_neg (by decide : ¬ false = true)]
      rw [e]
      refine ⟨h, fun p hpm => ?_⟩
      obtain ⟨j, hj, rfl⟩ := List.getElem_of_mem hpm
      have eg : parts.getD j nilP = parts[j] := by rw [List.getD_eq_getElem?_getD, List.getElem?_eq_getElem hj]; rfl
      rcases h2 j hj with h3 | h3
      · rw [← eg]; exact helps_two (h.tk j hj h3)
      · rw [← eg]; exact h3
    · have hr' : (roundN parts s parts.length).2 = true := hr
      simp only [if_true]
      have h3 := hcn.2 hr'
      exact rounds_end f (round parts s).1 hT (by unfold round; rw [hl]; exact hp) (by unfold round; rw [hl]; omega)

/-- all that the law asks of an archive -/
theorem search_ends (parts : List Prt) (st : St) (out : List Prt) (h8 : parts.length ≤ 8) :
    (∃ ts : List Prt, (search parts st out).out = out ++ ts ∧ (search parts st out).st = enterAll st ts ∧ ∀ k, k < ts.length → partHelps (enterAll st (ts.take k)) (ts.getD k nilP) = true ∧ ts.getD k nilP ∈ parts) ∧ ∀ p ∈ parts, partHelps (search parts st out).st p = false := by
  have h0 : Tk parts st out ⟨st, out, none8⟩ := by
    refine ⟨⟨[], by simp, rfl, fun k hk => by simp at hk⟩, fun i hi hb => ?_⟩
    exfalso
    have : (none8 : List Bool).getD i false = false := by
      unfold none8
      rw [List.getD_eq_getElem?_getD, List.getElem?_replicate]
      split <;> rfl
    rw [this] at hb
    cases hb
  obtain ⟨h1, h2⟩ := rounds_end (parts := parts) (st := st) (out := out) 9 ⟨st, out, none8⟩ h0 h8 (by show 8 < 9 + cnt none8; omega)
  exact ⟨h1.ex, h2⟩

end Go.Proofs.Ytebhbhbhcoijpaa.M

namespace Go.Proofs.Ytebhbhbhcoijpaa.M
set_option linter.unusedVariables false

abbrev BSet := List UInt8 → Bool
def BSet.put (S : BSet) (n : ByteArray) : BSet := fun x => if x = n.data.toList then true else S x
def addAll (S : BSet) (l : List ByteArray) : BSet := l.foldl BSet.put S
def noNames : BSet := fun _ => false

theorem addAll_at : ∀ (l : List ByteArray) (S : BSet) (x : List UInt8), addAll S l x = true ↔ S x = true ∨ ∃ n ∈ l, x = n.data.toList
  | [], S, x => by simp [addAll]
  | m :: l, S, x => by
    show addAll (S.put m) l x = true ↔ _
    rw [addAll_at l (S.put m) x]
    unfold BSet.put
    by_cases e : x = m.data.toList
    · simp [e]
    · simp [e]
theorem addAll_same {l l' : List ByteArray} (S : BSet) (h : ∀ s, s ∈ l ↔ s ∈ l') : addAll S l = addAll S l' := by
  funext x
  have h1 := addAll_at l S x
  have h2 := addAll_at l' S x
  have : addAll S l x = true ↔ addAll S l' x = true := by
    rw [h1, h2]
    constructor
    · rintro (h3 | ⟨n, hn, e⟩)
      · exact .inl h3
      · exact .inr ⟨n, (h n).1 hn, e⟩
    · rintro (h3 | ⟨n, hn, e⟩)
      · exact .inl h3
      · exact .inr ⟨n, (h n).2 hn, e⟩
  cases h3 : addAll S l x <;> cases h4 : addAll S l' x <;> simp_all

/-- lacking and have, against how names stand -/
structure Rl (L H : BSet) (st : St) : Prop where
  two : ∀ x, st x = 2 ↔ H x = true
  one : ∀ x, st x = 1 ↔ (L x = true ∧ H x = false)

theorem Rl.zero : Rl noNames noNames (fun _ => 0) := ⟨fun x => by simp [noNames], fun x => by simp [noNames]⟩
theorem Rl.first {L : BSet} {st : St} (h : Rl L noNames st) (n : ByteArray) : Rl (L.put n) noNames (st.set n 1) := by
  refine ⟨fun x => ?_, fun x => ?_⟩
  · have := h.two x
    unfold St.set
    split
    · simp [noNames]
    · exact this
  · have := h.one x
    unfold St.set BSet.put
    split
    · simp [noNames]
    · exact this
theorem Rl.want {L H : BSet} {st : St} (h : Rl L H st) (n : ByteArray) : Rl (L.put n) H (want st n) := by
  unfold M.want
  by_cases e : st n.data.toList = 2
  · rw [if_pos e]
    refine ⟨h.two, fun x => ?_⟩
    have h1 := h.one x
    unfold BSet.put
    split
    · rename_i ex
      subst ex
      have := (h.two _).1 e
      rw [e, this]
      simp
    · exact h1
  · rw [if_neg e]
    have hH : H n.data.toList = false := by
      cases hh : H n.data.toList
      · rfl
      · exact absurd ((h.two _).2 hh) e
    refine ⟨fun x => ?_, fun x => ?_⟩
    · have := h.two x
      unfold St.set
      split
      · rename_i ex
        rw [ex, hH]; simp
      · exact this
    · have := h.one x
      unfold St.set BSet.put
      split
      · rename_i ex
        rw [ex, hH]; simp
      · exact this
theorem Rl.defn {L H : BSet} {st : St} (h : Rl L H st) (n : ByteArray) : Rl L (H.put n) (st.set n 2) := by
  refine ⟨fun x => ?_, fun x => ?_⟩
  · have := h.two x
    unfold St.set BSet.put
    split
    · simp
    · exact this
  · have := h.one x
    unfold St.set BSet.put
    split
    · simp
    · exact this
theorem Rl.wants {H : BSet} : ∀ (l : List ByteArray) {L : BSet} {st : St}, Rl L H st → Rl (addAll L l) H (wantAll st l)
  | [], _, _, h => h
  | n :: l, _, _, h => Rl.wants l (h.want n)
theorem Rl.defs {L : BSet} : ∀ (l : List Dfn) {H : BSet} {st : St}, Rl L H st → Rl L (addAll H (l.map (·.name))) (defAll st l)
  | [], _, _, h => h
  | d :: l, _, _, h => Rl.defs l (h.defn d.name)
theorem Rl.firsts : ∀ (l : List ByteArray) {L : BSet} {st : St}, Rl L noNames st → Rl (addAll L l) noNames (l.foldl (fun s n => s.set n 1) st)
  | [], _, _, h => h
  | n :: l, _, _, h => Rl.firsts l (h.first n)
theorem Rl.start (l : List ByteArray) : Rl (addAll noNames l) noNames (firstAll l) := Rl.firsts l Rl.zero
theorem Rl.enter {L H : BSet} {st : St} (h : Rl L H st) (p : Prt) : Rl (addAll L (wanted p)) (addAll H (defined p)) (enter st p) := by
  have := Rl.defs p.defs (Rl.wants (wanted p) h)
  have e : addAll H (defined p) = addAll H (p.defs.map (fun d => d.name)) := addAll_same H (fun s => rising_mem (definedNames p.defs) s)
  rw [e]
  exact this
theorem Rl.helps {L H : BSet} {st : St} (h : Rl L H st) (d : Dfn) : helps st d = (d.kind != 3 && L d.name.data.toList && !H d.name.data.toList) := by
  unfold M.helps
  have h1 := h.one d.name.data.toList
  cases hk : (d.kind != 3)
  · simp
  · cases hL : L d.name.data.toList <;> cases hH : H d.name.data.toList <;> simp_all

/-- how many a search may take -/
theorem step_out {parts : List Prt} {s : Ars × Bool} {i o : Nat} (h : s.1.out.length = o + cnt s.1.tk) (hi : i < s.1.tk.length) : (step parts s i).1.out.length = o + cnt (step parts s i).1.tk := by
  unfold step
  split
  · rename_i hc
    have := cnt_set s.1.tk i hi hc.1
    simp only [take, List.length_append, List.length_singleton]
    omega
  · exact h
theorem roundN_out {parts : List Prt} {s : Ars} {o : Nat} (h : s.out.length = o + cnt s.tk) : ∀ i, i ≤ s.tk.length → (roundN parts s i).1.out.length = o + cnt (roundN parts s i).1.tk
  | 0, _ => h
  | i + 1, hi => by
    rw [roundN]
    exact step_out (roundN_out h i (by omega)) (by rw [roundN_len]; omega)
theorem rounds_out {parts : List Prt} {o : Nat} : ∀ (f : Nat) (s : Ars), parts.length ≤ s.tk.length → s.out.length = o + cnt s.tk → (rounds parts f s).out.length ≤ o + s.tk.length
  | 0, s, _, h => by have := cnt_le s.tk; show s.out.length ≤ _; omega
  | f + 1, s, hp, h => by
    have h1 := roundN_out (parts := parts) h parts.length hp
    have h2 := roundN_len parts s parts.length
    show (if (round parts s).2 then rounds parts f (round parts s).1 else (round parts s).1).out.length ≤ _
    split
    · have := rounds_out (parts := parts) f (round parts s).1 (by unfold round; rw [h2]; exact hp) h1
      unfold round at this ⊢
      rw [h2] at this
      exact this
    · have := cnt_le (roundN parts s parts.length).1.tk
      unfold round
      rw [h2] at this
      omega
theorem search_out (parts : List Prt) (st : St) (out : List Prt) (h8 : parts.length ≤ 8) : (search parts st out).out.length ≤ out.length + 8 :=
  rounds_out (parts := parts) (o := out.length) 9 ⟨st, out, none8⟩ h8 (by show out.length = out.length + cnt none8; simp [cnt, none8])

/-- what Choose gives of one part and one archive -/
theorem ends_out {p : Prt} {ps : List Prt} {first : List ByteArray} (h : (choose [⟨false, [p]⟩, ⟨true, ps⟩] first).2 = 0) (h8 : ps.length ≤ 8) :
    ∃ ts : List Prt, (choose [⟨false, [p]⟩, ⟨true, ps⟩] first).1 = p :: ts ∧ ts.length ≤ 8 ∧ (∀ k, k < ts.length → partHelps (enterAll (enter (firstAll first) p) (ts.take k)) (ts.getD k nilP) = true ∧ ts.getD k nilP ∈ ps) ∧
      ∀ q ∈ ps, partHelps (enterAll (enter (firstAll first) p) ts) q = false := by
  obtain ⟨_, _, h1⟩ := choose_out h
  have e : ([⟨false, [p]⟩, ⟨true, ps⟩] : List Itm).foldl chooseStep (firstAll first, []) = ((search ps (enter (firstAll first) p) [p]).st, (search ps (enter (firstAll first) p) [p]).out) := rfl
  rw [e] at h1
  obtain ⟨⟨ts, h2, h3, h4⟩, h5⟩ := search_ends ps (enter (firstAll first) p) [p] h8
  have h6 := search_out ps (enter (firstAll first) p) [p] h8
  refine ⟨ts, by rw [h1]; exact h2, ?_, h4, fun q hq => by rw [← h3]; exact h5 q hq⟩
  rw [h2] at h6
  simp at h6
  exact h6
theorem enterAll_take (st : St) (l : List Prt) (k : Nat) (h : k < l.length) : enterAll st (l.take (k + 1)) = enter (enterAll st (l.take k)) (l.getD k nilP) := by
  unfold enterAll
  rw [List.take_succ_eq_append_getElem h, List.foldl_append, List.getD_eq_getElem?_getD, List.getElem?_eq_getElem h]
  rfl

end Go.Proofs.Ytebhbhbhcoijpaa.M
