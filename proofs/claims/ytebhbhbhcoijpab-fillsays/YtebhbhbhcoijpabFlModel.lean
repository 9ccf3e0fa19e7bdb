/-
  The plain mathematics of places that are filled: which numbers a kind of place may have, what is put, what is got. Lists and integers alone.
-/
import Derived.Test.YtebhbhbhcoijpabModel
namespace Go.Proofs.Ytebhbhbhcoijpab.M

def lo (k : Int) : Int := if k = 3 then -128 else if k = 4 then -32768 else if k = 1 ∨ k = 2 then 0 else 1
def hi (k : Int) : Int := if k = 1 then 255 else if k = 2 then 65535 else if k = 3 then 127 else if k = 4 then 32767 else 0
def known (k : Int) : Bool := decide (0 < wide k)
def isRel (k : Int) : Bool := k == 3 || k == 4
def addr (n : Int) : Bool := within n 0 65536
def fits (k n : Int) : Bool := within n (lo k) (hi k)

/-- how far it is, or what stands there -/
def sum (k pos tq add : Int) : Int := bif isRel k then tq + add - pos else tq + add

def value (k pos tq add : Int) : Int × Int :=
  if known k = false then (0, 4)
  else if (addr pos && addr tq && within add (-10000) 10000) = false then (0, 3)
  else if fits k (sum k pos tq add) = false then (0, 9)
  else (sum k pos tq add, 0)

/-- what is wrong with a place -/
def place (len pos k : Int) : Int :=
  if known k = false then 4 else if 65536 < len then 2 else if within pos 0 (len - wide k) = false then 5 else 0

def byteAt (n : Int) : Nat → Int
  | 0 => n % 256
  | _ => n / 256 % 256

def putN (bs : List Int) (pos : Nat) (n : Int) : Nat → List Int
  | 0 => bs
  | w + 1 => (putN bs pos n w).set (pos + w) (byteAt n w)

def putB (bs : List Int) (pos k n : Int) : List Int × Int :=
  if place bs.length pos k = 0 then (if fits k n then (putN bs pos.toNat n (wide k).toNat, 0) else ([], 9)) else ([], place bs.length pos k)

/-- the number of a place's bytes -/
def whole (a b k : Int) : Int := if fits k (a + 256 * b) then a + 256 * b else if wide k = 1 then a + 256 * b - 256 else a + 256 * b - 65536

def second (bs : List Int) (pos : Nat) (k : Int) : Int := if wide k = 2 then bs.getD (pos + 1) 0 else 0

def get (bs : List Int) (pos k : Int) : Int × Int :=
  if place bs.length pos k = 0 then (whole (bs.getD pos.toNat 0) (second bs pos.toNat k) k, 0) else (0, place bs.length pos k)

theorem kinds {k : Int} (h : known k = true) : k = 1 ∨ k = 2 ∨ k = 3 ∨ k = 4 := by
  unfold known wide at h
  by_cases h1 : k = 1 ∨ k = 3
  · omega
  · by_cases h2 : k = 2 ∨ k = 4
    · omega
    · rw [if_neg h1, if_neg h2] at h
      exact absurd h (by decide)

end Go.Proofs.Ytebhbhbhcoijpab.M
