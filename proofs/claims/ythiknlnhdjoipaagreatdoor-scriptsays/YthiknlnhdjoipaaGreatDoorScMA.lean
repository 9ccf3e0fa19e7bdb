/-
  The plain mathematics: what a part is, what is wrong with it, when two are alike. Lists and integers alone; nothing of the program. The plain mathematics of the script: the text of a part, and the part of a text. Plain facts on texts: cut at a letter, in pieces; numerals and digits there and back. A part is the same as itself (the plain model).
-/
import Derived.Lib.ItoaNum
import Derived.Lib.AtoiAll
import Derived.Lib.Join
import Derived.Lib.IndexMore
import Derived.Lib.AtoiAllCases

namespace Go.Proofs.YthiknlnhdjoipaaGreatDoor.M

structure Rel where
  pos : Int
  kind : Int
  name : ByteArray
  frag : Int
  add : Int

structure Frg where
  sect : Int
  align : Int
  group : ByteArray
  bytes : List Int
  size : Int
  rels : List Rel

structure Dfn where
  name : ByteArray
  kind : Int
  frag : Int
  pos : Int
  size : Int
  align : Int

structure Prt where
  frags : List Frg
  defs : List Dfn

def within (n a b : Int) : Bool := decide (a ≤ n) && decide (n ≤ b)
def nameByte (c : Int) : Bool := (decide (97 ≤ c) && decide (c ≤ 122)) || (decide (48 ≤ c) && decide (c ≤ 57)) || c == 95
def isName (s : ByteArray) : Bool := decide (1 ≤ s.size) && decide (s.size ≤ 8) && s.data.toList.all fun c => nameByte c.toNat
def isAlign (n : Int) : Bool := n == 1 || n == 2 || n == 4 || n == 8
def wide (k : Int) : Int := if k = 1 ∨ k = 3 then 1 else if k = 2 ∨ k = 4 then 2 else 0
def lng (s sz : Int) (n : Nat) : Int := if s = 5 then sz else n
def long (f : Frg) : Int := lng f.sect f.size f.bytes.length

/-- what is wrong with what a place leads to -/
def target (r : Rel) (many : Int) : Int :=
  if r.name.toList.isEmpty then (if within r.frag (-1) (many - 1) then 0 else 5)
  else if isName r.name && r.frag == 0 then 0 else 1

/-- a place may stand there -/
def placed (r : Rel) (from_ len : Int) : Bool :=
  !(wide r.kind == 0) && within r.pos from_ (len - wide r.kind) && within r.add (-10000) 10000

def checkRels (len many : Int) : Int → List Rel → Int
  | _, [] => 0
  | e, r :: rs => if placed r e len then (if target r many = 0 then checkRels len many (r.pos + wide r.kind) rs else target r many) else 3

def formed (f : Frg) : Bool :=
  if f.sect = 5 then f.bytes.length == 0 && f.rels.length == 0 && within f.size 0 64
  else if f.sect = 3 then f.size == 0 && f.rels.length == 0
  else f.size == 0

def checkFrag (f : Frg) (many : Int) : Int :=
  if !(within f.sect 1 5) || !(isAlign f.align) then 3
  else if f.group.toList.isEmpty = false ∧ isName f.group = false then 1
  else if 64 < f.bytes.length ∨ 8 < f.rels.length then 2
  else if formed f = false then 4
  else checkRels f.bytes.length many 0 f.rels

/-- of a definition that stands in a fragment -/
def inFrag (pos size align : Int) (f : Frg) : Int := bif within pos 0 (long f) && size == 0 && align == 0 then 0 else 3

def defAt (frag pos size align : Int) (fs : List Frg) : Int :=
  if within frag 0 (fs.length - 1) then
    (match fs[frag.toNat]? with
     | some f => inFrag pos size align f
     | none => 0)
  else 5

def checkDef (d : Dfn) (fs : List Frg) : Int :=
  if isName d.name = false then 1
  else if d.kind = 1 ∨ d.kind = 2 then defAt d.frag d.pos d.size d.align fs
  else if d.kind = 3 then (bif d.frag == 0 && d.pos == 0 && within d.size 1 64 && isAlign d.align then 0 else 3)
  else 4

def checkFrags (many : Int) : List Frg → Int
  | [] => 0
  | f :: fs => if checkFrag f many = 0 then checkFrags many fs else checkFrag f many

def checkDefs (fs : List Frg) : List Dfn → Int
  | [] => 0
  | d :: ds => if checkDef d fs = 0 then checkDefs fs ds else checkDef d fs

def checkPart (p : Prt) : Int :=
  if 60 < p.frags.length ∨ 60 < p.defs.length then 2
  else if checkFrags p.frags.length p.frags = 0 then checkDefs p.frags p.defs else checkFrags p.frags.length p.frags

def sameRel (a b : Rel) : Bool := a.pos == b.pos && a.kind == b.kind && a.name.toList == b.name.toList && a.frag == b.frag && a.add == b.add
def sameDfn (a b : Dfn) : Bool := a.name.toList == b.name.toList && a.kind == b.kind && a.frag == b.frag && a.pos == b.pos && a.size == b.size && a.align == b.align

def allTwo {α : Type} (eq : α → α → Bool) : List α → List α → Bool
  | [], [] => true
  | x :: xs, y :: ys => eq x y && allTwo eq xs ys
  | _, _ => false

def sameFrg (a b : Frg) : Bool :=
  a.sect == b.sect && a.align == b.align && a.group.toList == b.group.toList && a.size == b.size && allTwo (fun x y => x == y) a.bytes b.bytes && allTwo sameRel a.rels b.rels

def samePart (a b : Prt) : Bool := allTwo sameFrg a.frags b.frags && allTwo sameDfn a.defs b.defs

end Go.Proofs.YthiknlnhdjoipaaGreatDoor.M

namespace Go.Proofs.YthiknlnhdjoipaaGreatDoor.M
open Go

abbrev Txt := List UInt8

def wFrag : Txt := [102, 114, 97, 103]
def wAt : Txt := [97, 116]
def wDef : Txt := [100, 101, 102]
def sectT : List Txt := [[], [99, 111, 100, 101], [102, 105, 120, 101, 100], [116, 101, 120, 116], [100, 97, 116, 97], [122, 101, 114, 111]]
def kindT : List Txt := [[], [97, 98, 115, 49], [97, 98, 115, 50], [114, 101, 108, 49], [114, 101, 108, 50], []]
def defT : List Txt := [[], [115, 116, 114, 111, 110, 103], [119, 101, 97, 107], [99, 111, 109, 109, 111, 110], [], []]
def digits : Txt := [48, 49, 50, 51, 52, 53, 54, 55, 56, 57, 97, 98, 99, 100, 101, 102]

def wordOf (t : List Txt) (k : Int) : Txt := t.getD k.toNat []
def digit (n : Nat) : UInt8 := digits.getD n 0
def hex1 (b : Int) : Txt := [digit (b.toNat / 16), digit (b.toNat % 16)]
def hex (bs : List Int) : Txt := bs.flatMap hex1
def orDash (t : Txt) : Txt := if t = [] then [45] else t
def txt (s : ByteArray) : Txt := s.data.toList
def str (t : Txt) : ByteArray := ⟨t.toArray⟩
def content (f : Frg) : Txt := if f.sect = 5 then Lib.itoa f.size else orDash (hex f.bytes)
def toWord (r : Rel) : Txt := if txt r.name = [] then 35 :: Lib.itoa r.frag else txt r.name
def line (ws : List Txt) : Txt := Lib.join ws [32] ++ [10]
def fragLine (f : Frg) : Txt := line [wFrag, wordOf sectT f.sect, Lib.itoa f.align, orDash (txt f.group), content f]
def relLine (r : Rel) : Txt := line [wAt, Lib.itoa r.pos, wordOf kindT r.kind, toWord r, Lib.itoa r.add]
def defFirst (d : Dfn) : Int := if d.kind = 3 then d.size else d.frag
def defSecond (d : Dfn) : Int := if d.kind = 3 then d.align else d.pos
def defLine (d : Dfn) : Txt := line [wDef, txt d.name, wordOf defT d.kind, Lib.itoa (defFirst d), Lib.itoa (defSecond d)]
def relsText (rs : List Rel) : Txt := rs.flatMap relLine
def fragText (f : Frg) : Txt := fragLine f ++ relsText f.rels
def fragsText (fs : List Frg) : Txt := fs.flatMap fragText
def defsText (ds : List Dfn) : Txt := ds.flatMap defLine
def print (p : Prt) : Txt := fragsText p.frags ++ defsText p.defs

/-- a text cut at its first c -/
def cutAt (c : UInt8) : Txt → Option (Txt × Txt)
  | [] => none
  | b :: l => if b = c then some ([], l) else (cutAt c l).map fun x => (b :: x.1, x.2)

def push (b : UInt8) : List Txt → List Txt
  | [] => [[b]]
  | x :: r => (b :: x) :: r

/-- a text's pieces between its c -/
def pieces (c : UInt8) : Txt → List Txt
  | [] => [[]]
  | b :: l => if b = c then [] :: pieces c l else push b (pieces c l)

def num (t : Txt) : Option Int :=
  match Lib.atoiAll t with
  | .ok n => if Lib.itoa n = t then some n else none
  | _ => none

def findFrom : Nat → List Txt → Txt → Option Nat
  | _, [], _ => none
  | k, x :: r, w => if x = w then some k else findFrom (k + 1) r w
def find (t : List Txt) (w : Txt) : Option Nat := findFrom 0 t w

/-- the place of a digit -/
def nib (c : UInt8) : Option Nat := (digits.idxOf? c)

def pairs : Txt → Option (List Int)
  | [] => some []
  | [_] => none
  | a :: b :: r => match nib a, nib b with
    | some x, some y => (pairs r).map fun l => ((16 * x + y : Nat) : Int) :: l
    | _, _ => none

def bytesOf (t : Txt) : Option (List Int) := if t = [45] then some [] else pairs t
def groupOf (t : Txt) : ByteArray := if t = [45] then str [] else str t

def addFrag (p : Prt) (w1 w2 w3 w4 : Txt) : Option Prt :=
  match find sectT w1, num w2 with
  | some k, some a =>
    if k = 5 then (num w4).map fun n => ⟨p.frags ++ [⟨5, a, groupOf w3, [], n, []⟩], p.defs⟩
    else (bytesOf w4).map fun bs => ⟨p.frags ++ [⟨k, a, groupOf w3, bs, 0, []⟩], p.defs⟩
  | _, _ => none

def leads (t : Txt) : Option (ByteArray × Int) :=
  match t with
  | [] => some (str [], 0)
  | c :: r => if c = 35 then (num r).map fun n => (str [], n) else some (str t, 0)

def addRel (f : Frg) (r : Rel) : Frg := { f with rels := f.rels ++ [r] }
def onLast (g : Frg → Frg) : List Frg → List Frg
  | [] => []
  | [f] => [g f]
  | f :: r => f :: onLast g r

def rel4 (w1 w2 w3 w4 : Txt) : Option Rel :=
  match num w1, find kindT w2, leads w3, num w4 with
  | some a, some k, some (nm, fr), some b => some ⟨a, k, nm, fr, b⟩
  | _, _, _, _ => none

def addPlace (p : Prt) (w1 w2 w3 w4 : Txt) : Option Prt :=
  if p.frags = [] then none else (rel4 w1 w2 w3 w4).map fun r => ⟨onLast (fun f => addRel f r) p.frags, p.defs⟩

def def4 (w1 w2 w3 w4 : Txt) : Option Dfn :=
  match find defT w2, num w3, num w4 with
  | some k, some a, some b => some (if k = 3 then ⟨str w1, 3, 0, 0, a, b⟩ else ⟨str w1, k, a, b, 0, 0⟩)
  | _, _, _ => none

def addDef (p : Prt) (w1 w2 w3 w4 : Txt) : Option Prt := (def4 w1 w2 w3 w4).map fun d => ⟨p.frags, p.defs ++ [d]⟩

def five (l : List Txt) : Option (Txt × Txt × Txt × Txt × Txt) :=
  match l with
  | [a, b, c, d, e] => if a = [] ∨ b = [] ∨ c = [] ∨ d = [] ∨ e = [] then none else some (a, b, c, d, e)
  | _ => none

def addWords (p : Prt) (w0 w1 w2 w3 w4 : Txt) : Option Prt :=
  if w0 = wFrag then (if p.defs = [] then addFrag p w1 w2 w3 w4 else none)
  else if w0 = wAt then (if p.defs = [] then addPlace p w1 w2 w3 w4 else none)
  else if w0 = wDef then addDef p w1 w2 w3 w4
  else none

def addLine (p : Prt) (t : Txt) : Option Prt :=
  match five (pieces 32 t) with
  | some (w0, w1, w2, w3, w4) => addWords p w0 w1 w2 w3 w4
  | none => none

def nil : Prt := ⟨[], []⟩
def fin (p : Prt) : Prt × Nat × Int := if checkPart p = 0 then (p, 0, 0) else (nil, 0, checkPart p)

def readL : Nat → Prt → List Txt → Prt × Nat × Int
  | _, p, [] => fin p
  | k, p, t :: r =>
    match r with
    | [] => if t = [] then fin p else (nil, k, 1)
    | _ :: _ => match addLine p t with
      | some q => readL (k + 1) q r
      | none => (nil, k, 1)

def read (s : Txt) : Prt × Nat × Int := readL 0 nil (pieces 10 s)

end Go.Proofs.YthiknlnhdjoipaaGreatDoor.M

namespace Go.Proofs.YthiknlnhdjoipaaGreatDoor
open Go

theorem cut_one (c : UInt8) : ∀ (l : M.Txt), Lib.cut l [c] = match M.cutAt c l with | some x => (x.1, x.2, true) | none => (l, [], false)
  | [] => by simp [Lib.cut, M.cutAt, Lib.index_one, Lib.indexByte]
  | b :: l => by
    have ih := cut_one c l
    unfold Lib.cut at ih ⊢
    simp only [Lib.index_one, M.cutAt, Lib.indexByte] at ih ⊢
    by_cases h : b = c
    · simp [h]
    · have hb : (b == c) = false := by simpa using h
      rw [hb, if_neg h]
      simp only [Bool.false_eq_true, if_false]
      cases hc : M.cutAt c l with
      | none =>
        rw [hc] at ih
        simp only at ih
        by_cases h0 : 0 ≤ Lib.indexByte l c
        · rw [if_pos h0] at ih; simp at ih
        · have := Lib.indexByte_ge l c
          have e : Lib.indexByte l c = -1 := by omega
          simp [e]
      | some x =>
        rw [hc] at ih
        simp only at ih
        by_cases h0 : 0 ≤ Lib.indexByte l c
        · rw [if_pos h0] at ih
          have e : (Lib.indexByte l c == -1) = false := by rw [beq_eq_false_iff_ne]; omega
          rw [e]
          simp only [Bool.false_eq_true, if_false, Option.map_some]
          rw [if_pos (by omega)]
          have e2 : (Lib.indexByte l c + 1).toNat = (Lib.indexByte l c).toNat + 1 := by omega
          rw [e2]
          simp only [List.take_succ_cons, List.length_cons, List.length_nil, Nat.zero_add, List.drop_succ_cons]
          simp only [Prod.mk.injEq, List.length_cons, List.length_nil, Nat.zero_add] at ih
          rw [ih.1, ih.2.1]
        · rw [if_neg h0] at ih; simp at ih

theorem pieces_some {c : UInt8} : ∀ {l : M.Txt} {x : M.Txt × M.Txt}, M.cutAt c l = some x → M.pieces c l = x.1 :: M.pieces c x.2
  | [], x, h => by simp [M.cutAt] at h
  | b :: l, x, h => by
    simp only [M.cutAt] at h
    by_cases hb : b = c
    · rw [if_pos hb] at h
      cases h
      simp [M.pieces, hb]
    · rw [if_neg hb] at h
      obtain ⟨y, hy, rfl⟩ := Option.map_eq_some_iff.1 h
      rw [M.pieces, if_neg hb, pieces_some hy]
      rfl

theorem pieces_none {c : UInt8} : ∀ {l : M.Txt}, M.cutAt c l = none → M.pieces c l = [l]
  | [], _ => rfl
  | b :: l, h => by
    simp only [M.cutAt] at h
    by_cases hb : b = c
    · rw [if_pos hb] at h; cases h
    · rw [if_neg hb] at h
      rw [M.pieces, if_neg hb, pieces_none (by simpa using h)]
      rfl

theorem cutAt_len {c : UInt8} : ∀ {l : M.Txt} {x : M.Txt × M.Txt}, M.cutAt c l = some x → x.1.length + x.2.length + 1 = l.length
  | [], x, h => by simp [M.cutAt] at h
  | b :: l, x, h => by
    simp only [M.cutAt] at h
    by_cases hb : b = c
    · rw [if_pos hb] at h
      cases h
      simp
    · rw [if_neg hb] at h
      obtain ⟨y, hy, rfl⟩ := Option.map_eq_some_iff.1 h
      have := cutAt_len hy
      simp only [List.length_cons]
      omega

theorem pieces_ne (c : UInt8) (l : M.Txt) : M.pieces c l ≠ [] := by
  cases h : M.cutAt c l with
  | none => rw [pieces_none h]; simp
  | some x => rw [pieces_some h]; simp

/-- a piece, then c, then the rest -/
theorem pieces_app (c : UInt8) : ∀ (a r : M.Txt), (∀ x ∈ a, x ≠ c) → M.pieces c (a ++ c :: r) = a :: M.pieces c r
  | [], r, _ => by simp [M.pieces]
  | b :: a, r, h => by
    have hb : b ≠ c := h b (by simp)
    rw [List.cons_append, M.pieces, if_neg hb, pieces_app c a r (fun x hx => h x (by simp [hx]))]
    rfl

theorem pieces_word (c : UInt8) : ∀ (a : M.Txt), (∀ x ∈ a, x ≠ c) → M.pieces c a = [a]
  | [], _ => rfl
  | b :: a, h => by
    rw [M.pieces, if_neg (h b (by simp)), pieces_word c a (fun x hx => h x (by simp [hx]))]
    rfl

/-- the pieces' join is the text -/
theorem join_pieces (c : UInt8) : ∀ (l : M.Txt), Lib.join (M.pieces c l) [c] = l
  | [] => rfl
  | b :: l => by
    have ih := join_pieces c l
    rw [M.pieces]
    by_cases hb : b = c
    · rw [if_pos hb]
      cases hp : M.pieces c l with
      | nil => exact absurd hp (pieces_ne c l)
      | cons x r =>
        rw [hp] at ih
        rw [Lib.join] at ih ⊢
        rw [← ih, hb]
        simp [List.intercalate]
    · rw [if_neg hb]
      cases hp : M.pieces c l with
      | nil => exact absurd hp (pieces_ne c l)
      | cons x r =>
        rw [hp] at ih
        rw [← ih]
        cases r with
        | nil => simp [M.push, Lib.join, List.intercalate]
        | cons y r => simp [M.push, Lib.join, List.intercalate]

theorem no_sep (c : UInt8) : ∀ (l : M.Txt), ∀ x ∈ M.pieces c l, c ∉ x
  | [], x, h => by simp [M.pieces] at h; subst h; simp
  | b :: l, x, h => by
    have ih := no_sep c l
    rw [M.pieces] at h
    by_cases hb : b = c
    · rw [if_pos hb] at h
      rcases List.mem_cons.1 h with rfl | h
      · simp
      · exact ih x h
    · rw [if_neg hb] at h
      cases hp : M.pieces c l with
      | nil => exact absurd hp (pieces_ne c l)
      | cons y r =>
        rw [hp] at h ih
        simp only [M.push] at h
        rcases List.mem_cons.1 h with rfl | h
        · have := ih y (by simp)
          intro hc
          rcases List.mem_cons.1 hc with hc | hc
          · exact hb hc.symm
          · exact this hc
        · exact ih x (by simp [h])

/-! ### numerals -/

theorem decDigits_ne (u : Nat) : Lib.decDigits u ≠ [] := by
  rw [Lib.decDigits]; split <;> simp

theorem decDigits_digit (u : Nat) : ∀ x ∈ Lib.decDigits u, 48 ≤ x.toNat ∧ x.toNat ≤ 57 := by
  induction u using Nat.strongRecOn with
  | _ u ih =>
    rw [Lib.decDigits]
    split
    · intro x hx
      simp only [List.mem_singleton] at hx
      subst hx
      have : (48 + u) % 256 = 48 + u := Nat.mod_eq_of_lt (by omega)
      simp only [UInt8.toNat_ofNat']
      omega
    · intro x hx
      rcases List.mem_append.1 hx with hx | hx
      · exact ih (u / 10) (by omega) x hx
      · simp only [List.mem_singleton] at hx
        subst hx
        simp only [UInt8.toNat_ofNat']
        omega

theorem itoa_letters (n : Int) : ∀ x ∈ Lib.itoa n, x = 45 ∨ (48 ≤ x.toNat ∧ x.toNat ≤ 57) := by
  unfold Lib.itoa
  split
  · intro x hx
    rcases List.mem_cons.1 hx with rfl | hx
    · exact .inl rfl
    · exact .inr (decDigits_digit _ x hx)
  · exact fun x hx => .inr (decDigits_digit _ x hx)

theorem itoa_ne (n : Int) : Lib.itoa n ≠ [] := by
  unfold Lib.itoa
  split
  · simp
  · exact decDigits_ne _

theorem parse_dec : ∀ (u : Nat), u < 18446744073709551616 → ∀ (l : M.Txt), Lib.parseUint10 0 (Lib.decDigits u ++ l) = Lib.parseUint10 u l := by
  intro u
  induction u using Nat.strongRecOn with
  | _ u ih =>
    intro hu l
    rw [Lib.decDigits]
    split
    · rename_i h
      have e : (UInt8.ofNat (48 + u)).toNat = 48 + u := by simp only [UInt8.toNat_ofNat']; omega
      simp only [List.cons_append, List.nil_append, Lib.parseUint10, e]
      rw [if_pos ⟨by omega, by omega⟩, if_neg (by omega), if_neg (by omega)]
      congr 1; omega
    · rename_i h
      rw [List.append_assoc, ih (u / 10) (by omega) (by omega)]
      have e : (UInt8.ofNat (48 + u % 10)).toNat = 48 + u % 10 := by simp only [UInt8.toNat_ofNat']; omega
      simp only [List.cons_append, List.nil_append, Lib.parseUint10, e]
      rw [if_pos ⟨by omega, by omega⟩, if_neg (by omega), if_neg (by omega)]
      congr 1; omega

theorem mag_dec (u : Nat) (hu : u < 18446744073709551616) : Lib.parseMag (Lib.decDigits u) = .ok u := by
  unfold Lib.parseMag
  rw [if_neg (decDigits_ne u)]
  have := parse_dec u hu []
  rw [List.append_nil] at this
  rw [this]; rfl

theorem atoi_itoa (n : Int) (h0 : -9223372036854775808 ≤ n) (h1 : n ≤ 9223372036854775807) : Lib.atoiAll (Lib.itoa n) = .ok n := by
  unfold Lib.itoa
  split
  · rename_i h
    simp only [Lib.atoiAll]
    have e : (45 : UInt8).toNat = 45 := rfl
    simp only [e, or_true, if_true]
    rw [mag_dec _ (by omega)]
    simp only [not_true, false_and, if_false, true_and]
    rw [if_neg (by omega)]
    congr 1; omega
  · rename_i h
    cases hd : Lib.decDigits n.toNat with
    | nil => exact absurd hd (decDigits_ne _)
    | cons c r =>
      have hc := decDigits_digit n.toNat c (by rw [hd]; simp)
      simp only [Lib.atoiAll]
      rw [if_neg (by omega), ← hd, mag_dec _ (by omega)]
      have h45 : ¬ (c.toNat = 45) := by omega
      simp only [h45, not_false_eq_true, true_and, false_and, if_false]
      rw [if_neg (by omega)]
      congr 1; omega

theorem num_itoa (n : Int) (h0 : -9223372036854775808 ≤ n) (h1 : n ≤ 9223372036854775807) : M.num (Lib.itoa n) = some n := by
  unfold M.num
  rw [atoi_itoa n h0 h1]
  simp

theorem itoa_num {t : M.Txt} {n : Int} (h : M.num t = some n) : Lib.itoa n = t ∧ -9223372036854775808 ≤ n ∧ n ≤ 9223372036854775807 := by
  unfold M.num at h
  split at h
  · rename_i v hv
    split at h
    · rename_i he
      cases h
      exact ⟨he, Lib.atoiAll_bounds hv⟩
    · cases h
  · cases h

/-! ### digits -/

theorem nib_digit : ∀ (n : Nat), n < 16 → M.nib (M.digit n) = some n := by decide
theorem digit_nib {c : UInt8} {n : Nat} (h : M.nib c = some n) : n < 16 ∧ M.digit n = c := by
  unfold M.nib at h
  rw [List.idxOf?, List.findIdx?_eq_some_iff_getElem] at h
  obtain ⟨h1, h2, _⟩ := h
  have hl : M.digits.length = 16 := rfl
  refine ⟨by omega, ?_⟩
  unfold M.digit
  rw [List.getD_eq_getElem?_getD, List.getElem?_eq_getElem h1]
  simpa using h2

theorem hex_pairs : ∀ (t : M.Txt) (bs : List Int), M.pairs t = some bs → M.hex bs = t ∧ ∀ b ∈ bs, 0 ≤ b ∧ b < 256
  | [], bs, h => by simp [M.pairs] at h; subst h; exact ⟨rfl, fun b hb => by cases hb⟩
  | [a], bs, h => by simp [M.pairs] at h
  | a :: b :: r, bs, h => by
    simp only [M.pairs] at h
    cases hx : M.nib a with
    | none => simp [hx] at h
    | some x =>
      cases hy : M.nib b with
      | none => simp [hx, hy] at h
      | some y =>
        simp only [hx, hy] at h
        obtain ⟨l, hl, rfl⟩ := Option.map_eq_some_iff.1 h
        obtain ⟨h1, h2⟩ := hex_pairs r l hl
        obtain ⟨x1, x2⟩ := digit_nib hx
        obtain ⟨y1, y2⟩ := digit_nib hy
        refine ⟨?_, fun z hz => ?_⟩
        · show M.hex1 _ ++ M.hex l = _
          rw [h1]
          have e1 : (16 * x + y) / 16 = x := by omega
          have e2 : (16 * x + y) % 16 = y := by omega
          simp only [M.hex1, Int.toNat_natCast, e1, e2, x2, y2]
          rfl
        · rcases List.mem_cons.1 hz with rfl | hz
          · omega
          · exact h2 z hz

theorem pairs_hex : ∀ (bs : List Int), (∀ b ∈ bs, 0 ≤ b ∧ b < 256) → M.pairs (M.hex bs) = some bs
  | [], _ => rfl
  | b :: l, h => by
    obtain ⟨h0, h1⟩ := h b (by simp)
    have ih := pairs_hex l (fun x hx => h x (by simp [hx]))
    show M.pairs (M.hex1 b ++ M.hex l) = _
    simp only [M.hex1, List.cons_append, List.nil_append, M.pairs]
    rw [nib_digit _ (by omega), nib_digit _ (by omega), ih]
    simp only [Option.map_some]
    congr 2
    omega

theorem index_idx (c : UInt8) : ∀ (l : M.Txt), Lib.indexByte l c = match l.idxOf? c with | some n => (n : Int) | none => -1
  | [] => rfl
  | b :: l => by
    have ih := index_idx c l
    rw [Lib.indexByte, List.idxOf?_cons]
    cases hb : b == c
    · simp only [Bool.false_eq_true, if_false]
      cases hl : l.idxOf? c with
      | none => rw [hl] at ih; simp only at ih; rw [ih]; rfl
      | some n =>
        rw [hl] at ih
        simp only at ih
        rw [ih]
        have : ((n : Int) == -1) = false := by rw [beq_eq_false_iff_ne]; omega
        rw [this]
        simp
    · simp

theorem nib_index (c : UInt8) : Lib.indexByte M.digits c = match M.nib c with | some n => (n : Int) | none => -1 := index_idx c M.digits

end Go.Proofs.YthiknlnhdjoipaaGreatDoor

namespace Go.Proofs.YthiknlnhdjoipaaGreatDoor

theorem allTwo_same {α : Type} (eq : α → α → Bool) (h : ∀ x, eq x x = true) : ∀ l : List α, M.allTwo eq l l = true
  | [] => rfl
  | x :: l => by rw [M.allTwo, h x, allTwo_same eq h l]; rfl
theorem same_selfS (p : M.Prt) : M.samePart p p = true := by
  have hr : ∀ r : M.Rel, M.sameRel r r = true := fun r => by simp [M.sameRel]
  have hd : ∀ d : M.Dfn, M.sameDfn d d = true := fun d => by simp [M.sameDfn]
  have hf : ∀ f : M.Frg, M.sameFrg f f = true := fun f => by
    simp only [M.sameFrg, beq_self_eq_true, Bool.true_and, allTwo_same _ hr, Bool.and_true]
    exact allTwo_same _ (fun x => by simp) _
  simp only [M.samePart, allTwo_same _ hf, allTwo_same _ hd, Bool.and_true]

end Go.Proofs.YthiknlnhdjoipaaGreatDoor
