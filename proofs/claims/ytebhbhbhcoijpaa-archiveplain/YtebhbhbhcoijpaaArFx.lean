/-
  The closed items of the archives' fact: what is chosen of them. What is no archive's is taken as it is; an archive whose parts are lacked by nobody gives nothing: plain mathematics.
-/
import Derived.Test.YtebhbhbhcoijpaaArModel
import Derived.Test.YtebhbhbhcoijpaaNmMath2
import Derived.WalkKit

namespace Go.Proofs.Ytebhbhbhcoijpaa.M
open Go
set_option linter.unusedVariables false

def pA : Prt := ⟨[⟨1, 1, ⟨#[]⟩, [9, 0, 0], 0, [⟨1, 2, ⟨#[102]⟩, 0, 0⟩]⟩], [⟨⟨#[109, 97, 105, 110]⟩, 1, 0, 0, 0, 0⟩]⟩
def pC : Prt := ⟨[⟨2, 1, ⟨#[]⟩, [], 0, []⟩], [⟨⟨#[122]⟩, 1, 0, 0, 0, 0⟩]⟩
def pD : Prt := ⟨[⟨1, 4, ⟨#[103]⟩, [7], 0, [⟨0, 1, ⟨#[119]⟩, 0, 0⟩]⟩], [⟨⟨#[102]⟩, 1, 0, 0, 0, 0⟩]⟩
def pW : Prt := ⟨[⟨4, 2, ⟨#[]⟩, [5], 0, []⟩], [⟨⟨#[119]⟩, 2, 0, 0, 0, 0⟩]⟩

theorem wantA : wanted pA = [⟨#[102]⟩] := by
  unfold wanted
  refine rising_eq ?_ (fun s => ?_)
  · simp [Strict]
  · simp [wantedNames, wantedOf, pA, bare]
theorem wantD : wanted pD = [⟨#[119]⟩] := by
  unfold wanted
  refine rising_eq ?_ (fun s => ?_)
  · simp [Strict]
  · simp [wantedNames, wantedOf, pD, bare]
theorem wantW : wanted pW = [] := by
  unfold wanted
  refine rising_eq ?_ (fun s => ?_)
  · simp [Strict]
  · simp [wantedNames, wantedOf, pW]

def en (st : St) (l : List ByteArray) (p : Prt) : St := defAll (wantAll st l) p.defs
theorem enA (st : St) : enter st pA = en st [⟨#[102]⟩] pA := by unfold enter en; rw [wantA]
theorem enD (st : St) : enter st pD = en st [⟨#[119]⟩] pD := by unfold enter en; rw [wantD]
theorem enW (st : St) : enter st pW = en st [] pW := by unfold enter en; rw [wantW]

def s1 : St := en (fun _ => 0) [⟨#[102]⟩] pA
def s2 : St := en s1 [⟨#[119]⟩] pD
def s3 : St := en s2 [] pW

theorem h1W : partHelps s1 pW = false := by decide +kernel
theorem h1C : partHelps s1 pC = false := by decide +kernel
theorem h1D : partHelps s1 pD = true := by decide +kernel
theorem h2W : partHelps s2 pW = true := by decide +kernel
theorem h3C : partHelps s3 pC = false := by decide +kernel

def tk0 : List Bool := [false, false, false, false, false, false, false, false]
def tk1 : List Bool := [false, false, true, false, false, false, false, false]
def tk2 : List Bool := [true, false, true, false, false, false, false, false]

theorem step_no {parts : List Prt} {s : Ars} {b : Bool} {i : Nat} (h : s.tk.getD i false = true ∨ partHelps s.st (parts.getD i nilP) = false) : step parts (s, b) i = (s, b) := by
  unfold step
  rw [if_neg]
  rintro ⟨h1, h2⟩
  rcases h with h | h
  · rw [h1] at h; cases h
  · rw [h2] at h; cases h
theorem step_yes {parts : List Prt} {s : Ars} {b : Bool} {i : Nat} (h1 : s.tk.getD i false = false) (h2 : partHelps s.st (parts.getD i nilP) = true) : step parts (s, b) i = (⟨enter s.st (parts.getD i nilP), s.out ++ [parts.getD i nilP], s.tk.set i true⟩, true) := by
  unfold step
  rw [if_pos ⟨h1, h2⟩]
  rfl

theorem round_three (a b c : Prt) (s : Ars) : round [a, b, c] s = step [a, b, c] (step [a, b, c] (step [a, b, c] (s, false) 0) 1) 2 := rfl

theorem round1 : round [pW, pC, pD] ⟨s1, [pA], tk0⟩ = (⟨s2, [pA, pD], tk1⟩, true) := by
  rw [round_three, step_no (i := 0) (.inr h1W), step_no (i := 1) (.inr h1C), step_yes (i := 2) rfl h1D]
  show ((⟨enter s1 pD, [pA, pD], tk1⟩ : Ars), true) = _
  rw [enD]
  rfl
theorem round2 : round [pW, pC, pD] ⟨s2, [pA, pD], tk1⟩ = (⟨s3, [pA, pD, pW], tk2⟩, true) := by
  rw [round_three, step_yes (i := 0) rfl h2W]
  have e : (⟨enter s2 ([pW, pC, pD].getD 0 nilP), [pA, pD] ++ [[pW, pC, pD].getD 0 nilP], tk1.set 0 true⟩ : Ars) = ⟨s3, [pA, pD, pW], tk2⟩ := by
    show (⟨enter s2 pW, _, _⟩ : Ars) = _
    rw [enW]
    rfl
  show step [pW, pC, pD] (step [pW, pC, pD] ((⟨enter s2 ([pW, pC, pD].getD 0 nilP), [pA, pD] ++ [[pW, pC, pD].getD 0 nilP], tk1.set 0 true⟩ : Ars), true) 1) 2 = _
  rw [e, step_no (i := 1) (.inr h3C), step_no (i := 2) (.inl rfl)]
theorem round3 : round [pW, pC, pD] ⟨s3, [pA, pD, pW], tk2⟩ = (⟨s3, [pA, pD, pW], tk2⟩, false) := by
  rw [round_three, step_no (i := 0) (.inl rfl), step_no (i := 1) (.inr h3C), step_no (i := 2) (.inl rfl)]

theorem search1 : search [pW, pC, pD] s1 [pA] = ⟨s3, [pA, pD, pW], tk2⟩ := by
  show rounds [pW, pC, pD] 9 ⟨s1, [pA], tk0⟩ = _
  rw [show (9 : Nat) = 8 + 1 from rfl, rounds, round1]
  show rounds [pW, pC, pD] 8 ⟨s2, [pA, pD], tk1⟩ = _
  rw [show (8 : Nat) = 7 + 1 from rfl, rounds, round2]
  show rounds [pW, pC, pD] 7 ⟨s3, [pA, pD, pW], tk2⟩ = _
  rw [show (7 : Nat) = 6 + 1 from rfl, rounds, round3]
  rfl

theorem choose1 : choose [⟨false, [pA]⟩, ⟨true, [pW, pC, pD]⟩] [] = ([pA, pD, pW], 0) := by
  unfold choose
  rw [if_pos (by decide +kernel), if_pos (by decide +kernel)]
  show ((chooseStep (enter (fun _ => 0) pA, [pA]) ⟨true, [pW, pC, pD]⟩).2, (0 : Int)) = _
  rw [enA]
  show ((search [pW, pC, pD] s1 [pA]).out, (0 : Int)) = _
  rw [search1]

end Go.Proofs.Ytebhbhbhcoijpaa.M

namespace Go.Proofs.Ytebhbhbhcoijpaa.M
set_option linter.unusedVariables false

def plainItem (p : Prt) : Itm := ⟨false, [p]⟩

theorem set_one {st : St} {n : ByteArray} {v : Int} {x : List UInt8} (h : st.set n v x = 1) : (x = n.data.toList ∧ v = 1) ∨ st x = 1 := by
  unfold St.set at h
  by_cases e : x = n.data.toList
  · rw [if_pos e] at h; exact .inl ⟨e, h⟩
  · rw [if_neg e] at h; exact .inr h

theorem wantAll_one : ∀ (l : List ByteArray) {st : St} {x : List UInt8}, wantAll st l x = 1 → st x = 1 ∨ ∃ n ∈ l, x = n.data.toList
  | [], st, x, h => .inl h
  | n :: l, st, x, h => by
    have h' : wantAll (want st n) l x = 1 := h
    rcases wantAll_one l h' with h1 | ⟨m, hm, e⟩
    · unfold want at h1
      by_cases h2 : st n.data.toList = 2
      · rw [if_pos h2] at h1; exact .inl h1
      · rw [if_neg h2] at h1
        rcases set_one h1 with ⟨e, _⟩ | h3
        · exact .inr ⟨n, by simp, e⟩
        · exact .inl h3
    · exact .inr ⟨m, List.mem_cons_of_mem _ hm, e⟩

theorem defAll_one : ∀ (l : List Dfn) {st : St} {x : List UInt8}, defAll st l x = 1 → st x = 1
  | [], st, x, h => h
  | d :: l, st, x, h => by
    have h' : defAll (st.set d.name 2) l x = 1 := h
    rcases set_one (defAll_one l h') with ⟨_, e⟩ | h2
    · cases e
    · exact h2

theorem enter_one {st : St} {p : Prt} {x : List UInt8} (h : enter st p x = 1) : st x = 1 ∨ ∃ n ∈ wanted p, x = n.data.toList :=
  wantAll_one _ (defAll_one _ h)

theorem firstAll_one (l : List ByteArray) {x : List UInt8} (h : firstAll l x = 1) : ∃ n ∈ l, x = n.data.toList := by
  have key : ∀ (l : List ByteArray) (st : St), (l.foldl (fun s n => s.set n 1) st) x = 1 → st x = 1 ∨ ∃ n ∈ l, x = n.data.toList := by
    intro l
    induction l with
    | nil => exact fun st h => .inl h
    | cons n l ih =>
      intro st h
      rcases ih _ h with h1 | ⟨m, hm, e⟩
      · rcases set_one h1 with ⟨e, _⟩ | h2
        · exact .inr ⟨n, by simp, e⟩
        · exact .inl h2
      · exact .inr ⟨m, List.mem_cons_of_mem _ hm, e⟩
  rcases key l _ h with h1 | h1
  · cases h1
  · exact h1

/-- parts that stand alone -/
theorem fold_plain : ∀ (l : List Prt) (s : St × List Prt), ((l.map plainItem).foldl chooseStep s).2 = s.2 ++ l ∧ ∀ x, ((l.map plainItem).foldl chooseStep s).1 x = 1 → s.1 x = 1 ∨ ∃ p ∈ l, ∃ n ∈ wanted p, x = n.data.toList
  | [], s => ⟨by simp, fun x h => .inl h⟩
  | p :: l, s => by
    obtain ⟨h1, h2⟩ := fold_plain l (chooseStep s (plainItem p))
    have e : chooseStep s (plainItem p) = (enter s.1 p, s.2 ++ [p]) := rfl
    rw [e] at h1 h2
    refine ⟨?_, fun x hx => ?_⟩
    · show ((l.map plainItem).foldl chooseStep (chooseStep s (plainItem p))).2 = _
      rw [e, h1]; simp
    · have hx' : ((l.map plainItem).foldl chooseStep (enter s.1 p, s.2 ++ [p])).1 x = 1 := hx
      rcases h2 x hx' with h3 | ⟨q, hq, n, hn, e2⟩
      · rcases enter_one h3 with h4 | ⟨n, hn, e2⟩
        · exact .inl h4
        · exact .inr ⟨p, by simp, n, hn, e2⟩
      · exact .inr ⟨q, List.mem_cons_of_mem _ hq, n, hn, e2⟩

theorem search_none {parts : List Prt} {st : St} {out : List Prt} (h : ∀ p ∈ parts, partHelps st p = false) : search parts st out = ⟨st, out, none8⟩ := by
  have hn : partHelps st nilP = false := rfl
  have hr : ∀ i, roundN parts ⟨st, out, none8⟩ i = (⟨st, out, none8⟩, false) := by
    intro i
    induction i with
    | zero => rfl
    | succ i ih =>
      rw [roundN, ih]
      refine step_no (.inr ?_)
      show partHelps st (parts.getD i nilP) = false
      by_cases hi : i < parts.length
      · rw [List.getD_eq_getElem?_getD, List.getElem?_eq_getElem hi]
        exact h _ (List.getElem_mem hi)
      · rw [List.getD_eq_getElem?_getD, List.getElem?_eq_none (by omega)]; exact hn
  show rounds parts 9 ⟨st, out, none8⟩ = _
  rw [show (9 : Nat) = 8 + 1 from rfl, rounds]
  have : round parts ⟨st, out, none8⟩ = (⟨st, out, none8⟩, false) := hr _
  rw [this]
  rfl

theorem choose_out {l : List Itm} {first : List ByteArray} (h : (choose l first).2 = 0) : checkItems l = 0 ∧ checkFirst first = 0 ∧ (choose l first).1 = (l.foldl chooseStep (firstAll first, [])).2 := by
  unfold choose at h ⊢
  by_cases h1 : checkItems l = 0
  · rw [if_pos h1] at h ⊢
    by_cases h2 : checkFirst first = 0
    · rw [if_pos h2] at h ⊢; exact ⟨h1, h2, rfl⟩
    · rw [if_neg h2] at h; exact absurd h h2
  · rw [if_neg h1] at h; exact absurd h h1

theorem plain_out {l : List Prt} {first : List ByteArray} (h : (choose (l.map plainItem) first).2 = 0) : (choose (l.map plainItem) first).1 = l := by
  rw [(choose_out h).2.2, (fold_plain l _).1]; rfl

/-- all that may be lacking -/
def lackNames (first : List ByteArray) (l : List Prt) : List ByteArray := first ++ l.flatMap wanted

theorem plain_more {l more : List Prt} {first : List ByteArray} (hn : ∀ p ∈ more, ∀ d ∈ p.defs, ∀ n ∈ lackNames first l, d.name.data.toList ≠ n.data.toList)
    (h : (choose (l.map plainItem ++ [⟨true, more⟩]) first).2 = 0) : (choose (l.map plainItem ++ [⟨true, more⟩]) first).1 = l := by
  rw [(choose_out h).2.2, List.foldl_append]
  obtain ⟨h1, h2⟩ := fold_plain l (firstAll first, [])
  generalize (l.map plainItem).foldl chooseStep (firstAll first, []) = S at *
  have hs : search more S.1 S.2 = ⟨S.1, S.2, none8⟩ := search_none fun p hp => by
    cases hh : partHelps S.1 p
    · rfl
    · exfalso
      obtain ⟨d, hd, hx⟩ := List.any_eq_true.1 hh
      have hx1 : S.1 d.name.data.toList = 1 := by
        unfold helps at hx
        rw [Bool.and_eq_true] at hx
        simpa using hx.2
      rcases h2 _ hx1 with h3 | ⟨q, hq, n, hnn, e⟩
      · obtain ⟨n, hnn, e⟩ := firstAll_one first h3
        exact hn p hp d hd n (List.mem_append.2 (.inl hnn)) e
      · exact hn p hp d hd n (List.mem_append.2 (.inr (List.mem_flatMap.2 ⟨q, hq, hnn⟩))) e
  show (chooseStep S ⟨true, more⟩).2 = l
  show (search more S.1 S.2).out = l
  rw [hs]
  simpa using h1

theorem sameTxt_refl (s : ByteArray) : (s.toList == s.toList) = true := by simp
theorem sameRel_refl (r : Rel) : sameRel r r = true := by simp [sameRel]
theorem sameDfn_refl (d : Dfn) : sameDfn d d = true := by simp [sameDfn]
theorem allTwo_refl {α : Type} {eq : α → α → Bool} (h : ∀ x, eq x x = true) : ∀ l : List α, allTwo eq l l = true
  | [] => rfl
  | x :: l => by
    show (eq x x && allTwo eq l l) = true
    rw [h, allTwo_refl h l]; rfl
theorem sameFrg_refl (f : Frg) : sameFrg f f = true := by
  simp [sameFrg, allTwo_refl sameRel_refl, allTwo_refl (fun x : Int => (by simp : (x == x) = true))]
theorem samePart_refl (p : Prt) : samePart p p = true := by
  simp [samePart, allTwo_refl sameFrg_refl, allTwo_refl sameDfn_refl]

end Go.Proofs.Ytebhbhbhcoijpaa.M
