/-
  The plain mathematics of archives: how names stand, which parts are taken. Lists and integers alone.
-/
import Derived.Test.YtebhbhbhcoijpaaNmModel
namespace Go.Proofs.Ytebhbhbhcoijpaa.M

/-- how a name stands, by its letters: 0: nobody asked for it; 1: it is lacking; 2: it is defined -/
abbrev St := List UInt8 → Int
def St.set (st : St) (n : ByteArray) (v : Int) : St := fun s => if s = n.data.toList then v else st s
def want (st : St) (n : ByteArray) : St := if st n.data.toList = 2 then st else st.set n 1
def wantAll (st : St) (l : List ByteArray) : St := l.foldl want st
def defAll (st : St) (l : List Dfn) : St := l.foldl (fun s d => s.set d.name 2) st
def enter (st : St) (p : Prt) : St := defAll (wantAll st (wanted p)) p.defs
def firstAll (l : List ByteArray) : St := l.foldl (fun s n => s.set n 1) (fun _ => 0)
def helps (st : St) (d : Dfn) : Bool := d.kind != 3 && st d.name.data.toList == 1
def partHelps (st : St) (p : Prt) : Bool := p.defs.any (helps st)

/-- what was taken: how names stand, the parts, which of an archive's parts -/
structure Ars where
  st : St
  out : List Prt
  tk : List Bool

def take (s : Ars) (p : Prt) : Ars := ⟨enter s.st p, s.out ++ [p], s.tk⟩
def nilP : Prt := ⟨[], []⟩
/-- one part of an archive -/
def step (parts : List Prt) (s : Ars × Bool) (i : Nat) : Ars × Bool :=
  if s.1.tk.getD i false = false ∧ partHelps s.1.st (parts.getD i nilP) = true then ({ take s.1 (parts.getD i nilP) with tk := s.1.tk.set i true }, true) else s
def roundN (parts : List Prt) (s : Ars) : Nat → Ars × Bool
  | 0 => (s, false)
  | i + 1 => step parts (roundN parts s i) i
def round (parts : List Prt) (s : Ars) : Ars × Bool := roundN parts s parts.length
/-- rounds, as long as one was taken -/
def rounds (parts : List Prt) : Nat → Ars → Ars
  | 0, s => s
  | f + 1, s => if (round parts s).2 then rounds parts f (round parts s).1 else (round parts s).1
def none8 : List Bool := List.replicate 8 false
def search (parts : List Prt) (st : St) (out : List Prt) : Ars := rounds parts 9 ⟨st, out, none8⟩

structure Itm where
  arch : Bool
  parts : List Prt

def chooseStep (s : St × List Prt) (it : Itm) : St × List Prt :=
  if it.arch then ((search it.parts s.1 s.2).st, (search it.parts s.1 s.2).out) else (enter s.1 (it.parts.getD 0 nilP), s.2 ++ [it.parts.getD 0 nilP])

def checkParts : List Prt → Int
  | [] => 0
  | p :: ps => if checkPart p = 0 then checkParts ps else checkPart p
def checkItem (it : Itm) : Int :=
  if 8 < it.parts.length then 2 else if it.arch = false ∧ ¬ it.parts.length = 1 then 4 else checkParts it.parts
def checkItems1 : List Itm → Int
  | [] => 0
  | it :: l => if checkItem it = 0 then checkItems1 l else checkItem it
def checkItems (l : List Itm) : Int := if 12 < l.length then 2 else checkItems1 l
def checkFirst1 : List ByteArray → Int
  | [] => 0
  | s :: l => if isName s then checkFirst1 l else 1
def checkFirst (l : List ByteArray) : Int := if 12 < l.length then 2 else checkFirst1 l

def choose (l : List Itm) (first : List ByteArray) : List Prt × Int :=
  if checkItems l = 0 then (if checkFirst first = 0 then ((l.foldl chooseStep (firstAll first, [])).2, 0) else ([], checkFirst first)) else ([], checkItems l)

/-- how many of an archive's parts were taken -/
def cnt (l : List Bool) : Nat := (l.filter id).length

theorem cnt_set : ∀ (l : List Bool) (i : Nat), i < l.length → l.getD i false = false → cnt (l.set i true) = cnt l + 1
  | [], i, h, _ => by simp at h
  | b :: l, 0, _, hb => by
    have : b = false := hb
    subst this
    simp [cnt]
  | b :: l, i + 1, h, hb => by
    have := cnt_set l i (by simpa using h) hb
    simp only [List.set_cons_succ, cnt, List.filter_cons] at this ⊢
    cases b <;> simp [this]

theorem step_len (parts : List Prt) (s : Ars × Bool) (i : Nat) : (step parts s i).1.tk.length = s.1.tk.length := by
  unfold step; split <;> simp
theorem roundN_len (parts : List Prt) (s : Ars) : ∀ i, (roundN parts s i).1.tk.length = s.tk.length
  | 0 => rfl
  | i + 1 => by rw [roundN, step_len]; exact roundN_len parts s i
theorem roundN_cnt (parts : List Prt) (s : Ars) : ∀ i, i ≤ s.tk.length → cnt s.tk ≤ cnt (roundN parts s i).1.tk ∧ ((roundN parts s i).2 = true → cnt s.tk + 1 ≤ cnt (roundN parts s i).1.tk)
  | 0, _ => ⟨Nat.le_refl _, fun h => by cases h⟩
  | i + 1, hi => by
    have ih := roundN_cnt parts s i (by omega)
    rw [roundN]
    unfold step
    split
    · rename_i h
      have := cnt_set (roundN parts s i).1.tk i (by rw [roundN_len]; omega) h.1
      simp only
      omega
    · exact ih
theorem cnt_le (l : List Bool) : cnt l ≤ l.length := List.length_filter_le _ _

/-- eight flags: rounds beyond the ninth change nothing -/
theorem rounds_more (parts : List Prt) : ∀ (f : Nat) (s : Ars), parts.length ≤ s.tk.length → s.tk.length < f + cnt s.tk → rounds parts (f + 1) s = rounds parts f s
  | 0, s, _, h => by have := cnt_le s.tk; omega
  | f + 1, s, hp, h => by
    have hc := roundN_cnt parts s parts.length hp
    have hl := roundN_len parts s parts.length
    show (if (round parts s).2 then rounds parts (f + 1) (round parts s).1 else (round parts s).1) = (if (round parts s).2 then rounds parts f (round parts s).1 else (round parts s).1)
    split
    · rename_i h2
      have h3 := hc.2 h2
      exact rounds_more parts f (round parts s).1 (by unfold round; rw [hl]; exact hp) (by unfold round; rw [hl]; unfold round at h2; omega)
    · rfl

end Go.Proofs.Ytebhbhbhcoijpaa.M
