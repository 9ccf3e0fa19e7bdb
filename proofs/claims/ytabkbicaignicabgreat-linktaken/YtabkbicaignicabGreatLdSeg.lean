/-
  Images as plain mathematics: what is wrong with one, the byte at an address. Lists and integers alone; nothing of the program.
-/
import Derived.Test.YtabkbicaignicabGreatMathA
namespace Go.Proofs.YtabkbicaignicabGreat.M
open Go
set_option linter.unusedVariables false

structure Seg where
  pos : Int
  bytes : List Int
  zeros : Int
  writes : Bool
  works : Bool
structure Img where
  entry : Int
  segs : List Seg
def img0 : Img := ⟨0, []⟩
def seg0 : Seg := ⟨0, [], 0, false, false⟩

def segEnd (s : Seg) : Int := s.pos + s.bytes.length + s.zeros
/-- what is wrong with a segment that may not begin ahead of e -/
def chkSeg (s : Seg) (e : Int) : Int :=
  if within s.pos e 65536 = true then (if within s.zeros 0 65536 = true then (if 65536 < s.bytes.length then 3 else if 65536 < segEnd s then 10 else 0) else 3) else 3
def chkSegs : List Seg → Int → Int
  | [], _ => 0
  | s :: l, e => if chkSeg s e = 0 then chkSegs l (segEnd s) else chkSeg s e
def chkImg (m : Img) : Int :=
  if 12 < m.segs.length then 2 else if chkSegs m.segs 0 = 0 then (if within m.entry 0 65536 = true then 0 else 3) else chkSegs m.segs 0
def segHas (s : Seg) (a : Int) : Bool := decide (s.pos ≤ a) && decide (a < segEnd s)
/-- the number of the segment that has an address (as many as there are, if there is none) -/
def segIx : List Seg → Int → Nat
  | [], _ => 0
  | s :: l, a => if segHas s a = true then 0 else segIx l a + 1
def byteOf (s : Seg) (a : Int) : Int := if a - s.pos < s.bytes.length then s.bytes.getD (a - s.pos).toNat 0 else 0
def thereAt (l : List Seg) (a : Int) : Bool := decide (segIx l a < l.length)
def segAt (l : List Seg) (a : Int) : Seg := l.getD (segIx l a) seg0
def byteIn (l : List Seg) (a : Int) : Int := byteOf (segAt l a) a
def rowOf (l : List Seg) (a : Int) (n : Nat) : List Int := (List.range n).map fun (i : Nat) => byteIn l (a + (i : Int))
def rangeErr (m : Img) (a n : Int) : Int :=
  if chkImg m = 0 then (if within a 0 65536 = true then (if within n 0 64 = true then (if (List.range n.toNat).all (fun (i : Nat) => thereAt m.segs (a + (i : Int))) = true then 0 else 5) else 3) else 3) else chkImg m
def range (m : Img) (a n : Int) : List Int := if rangeErr m a n = 0 then rowOf m.segs a n.toNat else []

/-- a segment within its bounds -/
structure SegFit (s : Seg) : Prop where
  pos : 0 ≤ s.pos ∧ s.pos ≤ 65536
  zeros : 0 ≤ s.zeros ∧ s.zeros ≤ 65536
  len : s.bytes.length ≤ 65536
  fin : segEnd s ≤ 65536

theorem chkSeg_fit {s : Seg} {e : Int} (h0 : 0 ≤ e) (h : chkSeg s e = 0) : SegFit s := by
  unfold chkSeg at h
  split at h
  · rename_i h1
    split at h
    · rename_i h2
      split at h
      · cases h
      · rename_i h3
        split at h
        · cases h
        · rename_i h4
          simp only [within, Bool.and_eq_true, decide_eq_true_eq] at h1 h2
          exact ⟨by omega, by omega, by omega, by omega⟩
    · cases h
  · cases h

theorem SegFit.fin0 {s : Seg} (h : SegFit s) : 0 ≤ segEnd s := by
  unfold segEnd
  have := h.pos
  have := h.zeros
  omega

theorem chkSegs_fit : ∀ {l : List Seg} {e : Int}, 0 ≤ e → chkSegs l e = 0 → ∀ s ∈ l, SegFit s
  | [], _, _, _ => fun s hs => by cases hs
  | x :: l, e, h0, h => fun s hs => by
    unfold chkSegs at h
    split at h
    · rename_i h1
      have hx := chkSeg_fit h0 h1
      rcases List.mem_cons.1 hs with rfl | hs
      · exact hx
      · exact chkSegs_fit hx.fin0 h s hs
    · rename_i h1; exact absurd h h1

theorem chkImg_ok {m : Img} (h : chkImg m = 0) : m.segs.length ≤ 12 ∧ chkSegs m.segs 0 = 0 ∧ within m.entry 0 65536 = true := by
  unfold chkImg at h
  split at h
  · cases h
  · split at h
    · split at h
      · exact ⟨by omega, by assumption, by assumption⟩
      · cases h
    · rename_i h1; exact absurd h h1

theorem chkImg_fit {m : Img} (h : chkImg m = 0) : ∀ s ∈ m.segs, SegFit s := chkSegs_fit (Int.le_refl 0) (chkImg_ok h).2.1

theorem segIx_le : ∀ (l : List Seg) (a : Int), segIx l a ≤ l.length
  | [], _ => Nat.le_refl 0
  | s :: l, a => by
    unfold segIx
    split
    · exact Nat.zero_le _
    · exact Nat.succ_le_succ (segIx_le l a)

/-- from k on: the search, of the rest -/
theorem segIx_drop {l : List Seg} {a : Int} {k : Nat} (hk : k < l.length) : segIx (l.drop k) a = if segHas (l.getD k seg0) a = true then 0 else segIx (l.drop (k + 1)) a + 1 := by
  have e : l.drop k = l.getD k seg0 :: l.drop (k + 1) := by
    rw [List.getD_eq_getElem?_getD, List.getElem?_eq_getElem hk]
    exact List.drop_eq_getElem_cons hk
  rw [e]; rfl

theorem chkSegs_drop {l : List Seg} {e : Int} {k : Nat} (hk : k < l.length) : chkSegs (l.drop k) e = if chkSeg (l.getD k seg0) e = 0 then chkSegs (l.drop (k + 1)) (segEnd (l.getD k seg0)) else chkSeg (l.getD k seg0) e := by
  have h : l.drop k = l.getD k seg0 :: l.drop (k + 1) := by
    rw [List.getD_eq_getElem?_getD, List.getElem?_eq_getElem hk]
    exact List.drop_eq_getElem_cons hk
  rw [h]; rfl

theorem has_at : ∀ {l : List Seg} {a : Int}, segIx l a < l.length → segHas (segAt l a) a = true
  | [], _, h => absurd h (Nat.not_lt_zero _)
  | s :: l, a, h => by
    unfold segAt
    unfold segIx at h ⊢
    by_cases h1 : segHas s a = true
    · rw [if_pos h1]; exact h1
    · rw [if_neg h1] at h ⊢
      exact has_at (l := l) (by simpa using h)

theorem thereAt_iff {l : List Seg} {a : Int} : thereAt l a = l.any (segHas · a) := by
  unfold thereAt
  induction l with
  | nil => rfl
  | cons s l ih =>
    rw [List.any_cons, ← ih]
    show decide ((if segHas s a = true then 0 else segIx l a + 1) < l.length + 1) = _
    cases h : segHas s a
    · simp
    · simp

end Go.Proofs.YtabkbicaignicabGreat.M
