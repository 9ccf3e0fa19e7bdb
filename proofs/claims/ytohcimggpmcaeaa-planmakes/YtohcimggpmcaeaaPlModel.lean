/-
  The plain mathematics of plans: what is wrong with one, the plan that picks make, what is ready of one. Lists and integers alone; nothing of the program.
-/
namespace Go.Proofs.Ytohcimggpmcaeaa.M

structure Nd where
  leaf : Int
  left : Int
  right : Int

def nd0 : Nd := ⟨0, 0, 0⟩
def sameNd (a b : Nd) : Bool := a.leaf == b.leaf && a.left == b.left && a.right == b.right
def fewParts (n : Int) : Bool := decide (1 ≤ n) && decide (n ≤ 12)
def ahead (k i : Int) : Bool := decide (0 ≤ k) && decide (k < i)
def fits (n : Nd) (i parts : Int) : Bool :=
  bif n.leaf == -1 then ahead n.left i && ahead n.right i
  else decide (0 ≤ n.leaf) && decide (n.leaf < parts) && n.left == 0 && n.right == 0
def fitsFrom (parts : Int) : Int → List Nd → Bool
  | _, [] => true
  | i, n :: l => fits n i parts && fitsFrom parts (i + 1) l
def eqN (a : Int) (i : Nat) : Int := bif a == (i : Int) then 1 else 0
def aboveOne (n : Nd) (i : Nat) : Int := bif n.leaf == -1 then eqN n.left i + eqN n.right i else 0
/-- how many nodes node i is below -/
def above : List Nd → Nat → Int
  | [], _ => 0
  | n :: l, i => aboveOne n i + above l i
def isTree (l : List Nd) : Bool := (List.range (l.length - 1)).all fun i => above l i == 1
/-- the leaves below node i, from left to right -/
def leavesF (l : List Nd) : Nat → Nat → List Int
  | 0, _ => []
  | f + 1, i => bif (l.getD i nd0).leaf == -1 then leavesF l f (l.getD i nd0).left.toNat ++ leavesF l f (l.getD i nd0).right.toNat else [(l.getD i nd0).leaf]
def leavesOf (l : List Nd) (i : Nat) : List Int := leavesF l (i + 1) i
def walkS (s : Int × Bool) (xs : List Int) : Int × Bool := xs.foldl (fun s x => (s.1 + 1, s.2 && x == s.1)) s
def inOrder (l : List Nd) (parts : Int) : Bool := (walkS (0, true) (leavesOf l (l.length - 1))).2 && (walkS (0, true) (leavesOf l (l.length - 1))).1 == parts
def checkPlan (l : List Nd) (parts : Int) : Int :=
  if fewParts parts = false then 3
  else if 23 < l.length then 2
  else if l.length = 0 then 4
  else if fitsFrom parts 0 l = false then 3
  else if isTree l = true ∧ inOrder l parts = true then 0 else 4

/-- a tree's nodes, from number b on, with the leaves xs (fuel f) -/
def IsT : Nat → List Nd → Nat → List Int → Prop
  | 0, _, _, _ => False
  | f + 1, l, b, xs => (∃ x, l = [⟨x, 0, 0⟩] ∧ xs = [x]) ∨
    ∃ l1 l2 x1 x2, IsT f l1 b x1 ∧ IsT f l2 (b + l1.length) x2 ∧ l = l1 ++ l2 ++ [⟨-1, (b + l1.length - 1 : Nat), (b + l1.length + l2.length - 1 : Nat)⟩] ∧ xs = x1 ++ x2
/-- the next pick, brought below a number; what is left of the picks -/
def pick : List Int → Int → Int × List Int
  | [], _ => (0, [])
  | p :: ps, n => (p % n, ps)
/-- how many are on the left -/
def onLeft (ps : List Int) (n : Nat) : Nat := (pick ps ((n : Int) - 1)).1.toNat + 1
def over (b : Nat) (l : List Nd) (r : List Nd × List Int) : List Nd × List Int := (l ++ r.1 ++ [⟨-1, (b + l.length - 1 : Nat), (b + l.length + r.1.length - 1 : Nat)⟩], r.2)
/-- the nodes of n parts from first on, the nodes' numbers from b on; what is left of the picks -/
def grow : Nat → Int → Nat → List Int → Nat → List Nd × List Int
  | 0, first, _, ps, _ => ([⟨first, 0, 0⟩], ps)
  | f + 1, first, n, ps, b => if n = 1 then ([⟨first, 0, 0⟩], ps) else
    over b (grow f first (onLeft ps n) (pick ps ((n : Int) - 1)).2 b).1
      (grow f (first + (onLeft ps n : Nat)) (n - onLeft ps n) (grow f first (onLeft ps n) (pick ps ((n : Int) - 1)).2 b).2 (b + (grow f first (onLeft ps n) (pick ps ((n : Int) - 1)).2 b).1.length))
def makeL (n : Nat) (ps : List Int) : List Nd := (grow n 0 n ps 0).1
def makeE (n : Int) (ps : List Int) : Int := if fewParts n = false then 3 else if 23 < ps.length then 2 else 0
def make (n : Int) (ps : List Int) : List Nd := if makeE n ps = 0 then makeL n.toNat ps else []

/-- node i may be done now -/
def readyAt (l : List Nd) (d : List Bool) (i : Nat) : Bool :=
  !(d.getD i false) && (!((l.getD i nd0).leaf == -1) || (d.getD (l.getD i nd0).left.toNat false && d.getD (l.getD i nd0).right.toNat false))
def readyUpto (l : List Nd) (d : List Bool) (k : Nat) : List Int := ((List.range k).filter (readyAt l d)).map Int.ofNat
def ready (l : List Nd) (d : List Bool) : List Int := readyUpto l d l.length
def readyE (l : List Nd) (parts : Int) (d : List Bool) : Int := if checkPlan l parts = 0 then (if d.length = l.length then 0 else 4) else checkPlan l parts

end Go.Proofs.Ytohcimggpmcaeaa.M
