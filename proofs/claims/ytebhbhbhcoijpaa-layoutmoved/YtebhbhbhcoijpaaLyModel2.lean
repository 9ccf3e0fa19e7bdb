/-
  The plain mathematics of layout.Lay: sections, one after another; what is laid out.
-/
import Derived.Test.YtebhbhbhcoijpaaLyModel
namespace Go.Proofs.Ytebhbhbhcoijpaa.M
open Go
set_option linter.unusedVariables false

/-- behind k sections: the addresses of the fragments so far, and where the last one ends -/
def secN (fs : List Frg) (base : Int) : Nat → List Int × Int
  | 0 => (List.replicate fs.length 0, base)
  | k + 1 => ((layFrags ((k : Int) + 1) (secN fs base k).1 fs (next (secN fs base k).2 16)).adr, (layFrags ((k : Int) + 1) (secN fs base k).1 fs (next (secN fs base k).2 16)).pos)

/-- where section i begins, k sections being laid out -/
def frAt (p : Prt) (base : Int) (k i : Nat) : Int := if 1 ≤ i ∧ i ≤ k then next (secN p.frags base (i - 1)).2 16 else 0
/-- where it ends -/
def tillOf (p : Prt) (base : Int) (i : Nat) : Int := if i = 5 then (commons p (secN p.frags base 5).2).pos else (secN p.frags base i).2
def tiAt (p : Prt) (base : Int) (k i : Nat) : Int := if 1 ≤ i ∧ i ≤ k then tillOf p base i else 0

structure Lay where
  frags : List Int
  names : List ByteArray
  coms : List Int
  fr : Nat → Int
  ti : Nat → Int
def lay0 : Lay := ⟨[], [], [], fun _ => 0, fun _ => 0⟩
def layAll (p : Prt) (base : Int) : Lay := ⟨(secN p.frags base 5).1, (commons p (secN p.frags base 5).2).names, (commons p (secN p.frags base 5).2).at_, frAt p base 5, tiAt p base 5⟩
def lay (p : Prt) (base : Int) : Lay × Int :=
  if checkPart p = 0 then
    if base < 0 ∨ 65536 ≤ base then (lay0, 3)
    else if 65536 < tillOf p base 5 then (lay0, 10) else (layAll p base, 0)
  else (lay0, checkPart p)

theorem secN_len (fs : List Frg) (base : Int) : ∀ k, (secN fs base k).1.length = fs.length
  | 0 => List.length_replicate ..
  | k + 1 => (layGo_len ..).trans (secN_len fs base k)

theorem secN_pos {fs : List Frg} {base : Int} (hf : ∀ f ∈ fs, FrgOk f) (hn : fs.length ≤ 60) (h0 : 0 ≤ base) : ∀ k : Nat, base ≤ (secN fs base k).2 ∧ (secN fs base k).2 ≤ base + 4275 * k
  | 0 => ⟨Int.le_refl _, by show base ≤ base + 4275 * ((0 : Nat) : Int); omega⟩
  | k + 1 => by
    have ih := secN_pos hf hn h0 k
    have hb := next_bounds (a := (secN fs base k).2) (d := 16) (by omega) (.inr (.inr (.inr (.inr rfl))))
    have hg := layGo_pos (sect := (k : Int) + 1) fs ⟨(secN fs base k).1, next (secN fs base k).2 16, []⟩ 0 hf (by show 0 ≤ next (secN fs base k).2 16; omega)
    simp only at hg
    show base ≤ (layGo ((k : Int) + 1) ⟨(secN fs base k).1, next (secN fs base k).2 16, []⟩ 0 fs).pos ∧ (layGo ((k : Int) + 1) ⟨(secN fs base k).1, next (secN fs base k).2 16, []⟩ 0 fs).pos ≤ base + 4275 * ((k + 1 : Nat) : Int)
    omega

end Go.Proofs.Ytebhbhbhcoijpaa.M
