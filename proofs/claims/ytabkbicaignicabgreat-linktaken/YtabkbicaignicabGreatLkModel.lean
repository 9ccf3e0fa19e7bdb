/-
  The plain mathematics of package link: where a name stands, which number a place has, what is wrong, the image. Lists and integers alone; nothing of the program.
-/
import Derived.Test.YtabkbicaignicabGreatFltA
import Derived.Test.YtabkbicaignicabGreatMathB
import Derived.Test.YtabkbicaignicabGreatFlModel
import Derived.Test.YtabkbicaignicabGreatLdSeg
import Derived.Shelf.Spec.SearchS
namespace Go.Proofs.YtabkbicaignicabGreat.M
open Go
set_option linter.unusedVariables false

/-- where halving comes to -/
def halve (names : List ByteArray) (s : ByteArray) : Nat := Lib.bsGo (fun t => Op.bytesLess (names.getD t ⟨#[]⟩).toList s.toList) names.length 0 names.length
def foundAt (names : List ByteArray) (s : ByteArray) : Bool := decide (halve names s < names.length ∧ names.getD (halve names s) ⟨#[]⟩ = s)
def commonIn (N : List ByteArray) (C : List Int) (s : ByteArray) : Int × Int :=
  if foundAt N s = true then (if halve N s < C.length then (C.getD (halve N s) 0, 0) else (0, 5)) else (0, 5)
def whereIn (d : Dfn) (e : Int) (F : List Int) (N : List ByteArray) (C : List Int) (s : ByteArray) : Int × Int :=
  if e = 0 then (if d.kind = 3 then commonIn N C s else if (F.length : Int) ≤ d.frag then (0, 5) else (F.getD d.frag.toNat 0 + d.pos, 0)) else (0, e)
def whereOf (p : Prt) (l : Lay) (s : ByteArray) : Int × Int := whereIn (find p.defs s).1 (find p.defs s).2 l.frags l.names l.coms s

/-- where a place leads to -/
def leads (p : Prt) (l : Lay) (r : Rel) : Int × Int :=
  if r.name.toList.isEmpty = true then (if r.frag < 0 then (0, 8) else (l.frags.getD r.frag.toNat 0, 0)) else whereOf p l r.name
def number (p : Prt) (l : Lay) (i : Nat) (r : Rel) : Int × Int :=
  if (leads p l r).2 = 0 then value r.kind (l.frags.getD i 0 + r.pos) (leads p l r).1 r.add else (0, (leads p l r).2)

def fltOf (x : Int × ByteArray) : Flt := ⟨x.1, x.2, 0, 0⟩
def faulty (l : List Flt) (s : ByteArray) : Bool := l.any fun f => f.name.toList == s.toList
def named (p : Prt) : List Flt := (faults p).map fltOf
def nameFaults (p : Prt) (entry : ByteArray) : List Flt :=
  if (find p.defs entry).2 = 0 then named p else if faulty (named p) entry = true then named p else named p ++ [⟨(find p.defs entry).2, entry, 0, 0⟩]
def placeFault (p : Prt) (l : Lay) (nm : List Flt) (i : Nat) (r : Rel) : List Flt :=
  if faulty nm r.name = true then [] else if (number p l i r).2 = 0 then [] else [⟨(number p l i r).2, ⟨#[]⟩, i, r.pos⟩]
def fragFaults (p : Prt) (l : Lay) (nm : List Flt) (i : Nat) (rs : List Rel) : List Flt := rs.flatMap (placeFault p l nm i)
def placeFaultsN (p : Prt) (l : Lay) (nm : List Flt) (k : Nat) : List Flt := (List.range k).flatMap fun i => fragFaults p l nm i (p.frags.getD i frg0).rels
def placeFaults (p : Prt) (l : Lay) (nm : List Flt) : List Flt := placeFaultsN p l nm p.frags.length
def allFaults (p : Prt) (l : Lay) (entry : ByteArray) : List Flt := nameFaults p entry ++ placeFaults p l (nameFaults p entry)

/-- a fragment's bytes with their numbers in their places -/
def fillRel (p : Prt) (l : Lay) (i : Nat) (b : List Int) (r : Rel) : List Int := (putB b r.pos r.kind (number p l i r).1).1
def filled (p : Prt) (l : Lay) (i : Nat) (f : Frg) : List Int := f.rels.foldl (fillRel p l i) f.bytes
/-- bytes laid over others -/
def over (out : List Int) (pos : Nat) (b : List Int) : List Int := out.take pos ++ (b.take (out.length - pos) ++ out.drop (pos + b.length))
def segStep (p : Prt) (l : Lay) (a z : Int) (from_ : Int) (out : List Int) (i : Nat) : List Int :=
  if a ≤ (p.frags.getD i frg0).sect ∧ (p.frags.getD i frg0).sect ≤ z then over out (l.frags.getD i 0 - from_).toNat (filled p l i (p.frags.getD i frg0)) else out
def segN (p : Prt) (l : Lay) (a z : Nat) (k : Nat) : List Int := (List.range k).foldl (segStep p l a z (l.fr a)) (List.replicate (l.ti z - l.fr a).toNat 0)
def segBytes (p : Prt) (l : Lay) (a z : Nat) : List Int := segN p l a z p.frags.length
def image (p : Prt) (l : Lay) (entry : ByteArray) : Img :=
  ⟨(whereOf p l entry).1, [⟨l.fr 1, segBytes p l 1 1, 0, false, true⟩, ⟨l.fr 2, segBytes p l 2 3, 0, false, false⟩, ⟨l.fr 4, segBytes p l 4 4, l.ti 5 - l.ti 4, true, false⟩]⟩

def link (p : Prt) (base : Int) (entry : ByteArray) : Img × List Flt × Int :=
  if checkPart p = 0 then
    if isName entry = true then
      if (lay p base).2 = 0 then
        if (allFaults p (lay p base).1 entry).length = 0 then (image p (lay p base).1 entry, [], 0) else (img0, allFaults p (lay p base).1 entry, 0)
      else (img0, [], (lay p base).2)
    else (img0, [], 1)
  else (img0, [], checkPart p)

def sameSeg (a b : Seg) : Bool := a.pos == b.pos && (a.zeros == b.zeros && (a.writes == b.writes && (a.works == b.works && allTwo (fun x y => x == y) a.bytes b.bytes)))
def sameImg (a b : Img) : Bool := a.entry == b.entry && allTwo sameSeg a.segs b.segs

/-- a definition that counts, and isn't common, is one of them -/
theorem find_in {ds : List Dfn} {s : ByteArray} (h0 : (find ds s).2 = 0) (hk : (find ds s).1.kind ≠ 3) : (find ds s).1 ∈ ds := by
  unfold find findIn at h0 hk ⊢
  split at h0
  · cases h0
  rename_i h1
  rw [if_neg h1] at hk ⊢
  split at h0
  · rename_i h2
    rw [if_pos h2]
    exact (List.mem_filter.1 (head_mem (ofKind ds s 1) (by omega))).1
  rename_i h2
  rw [if_neg h2] at hk ⊢
  split at h0
  · rename_i h3
    rw [if_pos h3] at hk
    exfalso
    apply hk
    show (greatest (ofKind ds s 3)).kind = 3
    unfold greatest
    rw [(fold_kind _ _).1]
    exact ofKind_kind (head_mem _ h3)
  rename_i h3
  rw [if_neg h3] at hk ⊢
  split at h0
  · rename_i h4
    rw [if_pos h4]
    exact (List.mem_filter.1 (head_mem _ h4)).1
  · cases h0

theorem find_stands {p : Prt} (h : Ok p) {s : ByteArray} (h0 : (find p.defs s).2 = 0) (hk : (find p.defs s).1.kind ≠ 3) :
    0 ≤ (find p.defs s).1.frag ∧ (find p.defs s).1.frag < p.frags.length ∧ 0 ≤ (find p.defs s).1.pos ∧ (find p.defs s).1.pos ≤ long (p.frags.getD (find p.defs s).1.frag.toNat frg0) ∧ (find p.defs s).1.pos ≤ 64 := by
  obtain ⟨f, h1, h2, h3⟩ := h.stands _ (find_in h0 hk) (by rw [beq_eq_false_iff_ne]; exact hk)
  have hl := (List.getElem?_eq_some_iff.1 h2).1
  have hm : f ∈ p.frags := List.mem_of_getElem? h2
  have hf := (frgOk_of (h.shape f hm)).long64
  have hg : p.frags.getD (find p.defs s).1.frag.toNat frg0 = f := by rw [List.getD_eq_getElem?_getD, h2]; rfl
  rw [hg]
  unfold within at h3
  simp only [Bool.and_eq_true, decide_eq_true_eq] at h3
  omega

end Go.Proofs.YtabkbicaignicabGreat.M
