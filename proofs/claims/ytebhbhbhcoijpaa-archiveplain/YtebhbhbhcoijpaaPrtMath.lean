/-
  The mathematics of joining: a right part is as it was, what is joined is right, and joining is associative.
-/
import Derived.Test.YtebhbhbhcoijpaaPrtModel
namespace Go.Proofs.Ytebhbhbhcoijpaa.M
set_option linter.unusedVariables false

theorem count_length (l : List ByteArray) : ∀ (fs : List Frg) (n : Int), (count l n fs).length = fs.length
  | [], _ => rfl
  | f :: fs, n => by
    rw [count]
    cases gone l f <;> simp [count_length l fs]

theorem gone_nil (f : Frg) : gone [] f = false := by simp [gone, has]

/-- what a place leads to, moved, is a number of the new part or none -/
def Fits (many : Int) (r : Rel) : Prop := bare r.name = true → -1 ≤ r.frag ∧ r.frag < many

def plainRel (r : Rel) : Rel := bif bare r.name then { r with frag := 0 } else r

theorem checkRels_ok (len many : Int) : ∀ (rs : List Rel) (e : Int), checkRels len many e rs = 0 ↔ (checkRels len 1 e (rs.map plainRel) = 0 ∧ ∀ r ∈ rs, Fits many r)
  | [], e => by simp [checkRels]
  | r :: rs, e => by
    have ih := checkRels_ok len many rs (r.pos + wide r.kind)
    simp only [List.map_cons, checkRels, List.forall_mem_cons]
    have e1 : (plainRel r).pos = r.pos := by unfold plainRel; cases bare r.name <;> rfl
    have e2 : (plainRel r).kind = r.kind := by unfold plainRel; cases bare r.name <;> rfl
    have e3 : (plainRel r).add = r.add := by unfold plainRel; cases bare r.name <;> rfl
    have e4 : (plainRel r).name = r.name := by unfold plainRel; cases bare r.name <;> rfl
    have hp : placed (plainRel r) e len = placed r e len := by simp only [placed, e1, e2, e3]
    rw [hp, e1, e2]
    by_cases h : placed r e len = true
    · rw [if_pos h, if_pos h]
      have ht : target r many = 0 ↔ (target (plainRel r) 1 = 0 ∧ Fits many r) := by
        unfold target Fits plainRel
        rw [show (bif bare r.name then { r with frag := 0 } else r : Rel).name = r.name from e4]
        cases hb : bare r.name
        · have : r.name.toList.isEmpty = false := hb
          simp [this]
        · have : r.name.toList.isEmpty = true := hb
          simp [this, within]
          omega
      by_cases h1 : target r many = 0
      · obtain ⟨h2, h3⟩ := ht.1 h1
        rw [if_pos h1, if_pos h2, ih]
        simp [h3]
      · rw [if_neg h1]
        constructor
        · intro h2; exact absurd h2 h1
        · rintro ⟨h2, h3, h4⟩
          by_cases h5 : target (plainRel r) 1 = 0
          · exact absurd (ht.2 ⟨h5, h3⟩) h1
          · rw [if_neg h5] at h2; exact absurd h2 h5
    · rw [if_neg h, if_neg h]; simp

def shaped (f : Frg) : Int := checkFrag { f with rels := f.rels.map plainRel } 1

theorem checkFrag_ok (f : Frg) (many : Int) : checkFrag f many = 0 ↔ (shaped f = 0 ∧ ∀ r ∈ f.rels, Fits many r) := by
  unfold shaped checkFrag
  have e : formed { f with rels := f.rels.map plainRel } = formed f := by simp [formed]
  rw [e]
  dsimp only
  rw [List.length_map]
  split
  · simp
  split
  · simp
  split
  · simp
  split
  · simp
  exact checkRels_ok _ _ _ _

theorem checkFrags_ok (many : Int) : ∀ fs : List Frg, checkFrags many fs = 0 ↔ ∀ f ∈ fs, checkFrag f many = 0
  | [] => by simp [checkFrags]
  | f :: fs => by
    simp only [checkFrags, List.forall_mem_cons, ← checkFrags_ok many fs]
    by_cases h : checkFrag f many = 0
    · simp [h]
    · simp [h]

theorem checkDefs_ok (fs : List Frg) : ∀ ds : List Dfn, checkDefs fs ds = 0 ↔ ∀ d ∈ ds, checkDef d fs = 0
  | [] => by simp [checkDefs]
  | d :: ds => by
    simp only [checkDefs, List.forall_mem_cons, ← checkDefs_ok fs ds]
    by_cases h : checkDef d fs = 0
    · simp [h]
    · simp [h]

/-- a definition is right but for its fragment, and stands in one, or in none -/
def plainDfn (d : Dfn) : Int :=
  if isName d.name = false then 1
  else if d.kind = 1 ∨ d.kind = 2 then (bif d.size == 0 && d.align == 0 then 0 else 3)
  else if d.kind = 3 then (bif d.frag == 0 && d.pos == 0 && within d.size 1 64 && isAlign d.align then 0 else 3)
  else 4

def Stands (fs : List Frg) (d : Dfn) : Prop := (d.kind == 3) = false → ∃ f, 0 ≤ d.frag ∧ fs[d.frag.toNat]? = some f ∧ within d.pos 0 (long f) = true

theorem checkDef_ok (d : Dfn) (fs : List Frg) : checkDef d fs = 0 ↔ (plainDfn d = 0 ∧ Stands fs d) := by
  unfold checkDef plainDfn Stands
  split
  · simp
  split
  · rename_i h1
    have hk : (d.kind == 3) = false := by rw [beq_eq_false_iff_ne]; omega
    unfold defAt inFrag
    by_cases hw : within d.frag 0 (fs.length - 1) = true
    · rw [if_pos hw]
      have hw' : 0 ≤ d.frag ∧ d.frag ≤ fs.length - 1 := by simpa [within] using hw
      have hlt : d.frag.toNat < fs.length := by omega
      rw [List.getElem?_eq_getElem hlt]
      dsimp only
      cases hx : within d.pos 0 (long fs[d.frag.toNat]) <;> cases hs : (d.size == 0) <;> cases ha : (d.align == 0) <;> simp [hk, hw'.1, hx]
    · rw [if_neg hw]
      constructor
      · intro h; cases h
      · rintro ⟨h2, h3⟩
        obtain ⟨f, h4, h5, h6⟩ := h3 hk
        have := (List.getElem?_eq_some_iff.1 h5).1
        refine absurd ?_ hw
        simp only [within, Bool.and_eq_true, decide_eq_true_eq]
        omega
  · split
    · rename_i h1 h2
      simp [h2]
    · simp

/-- all that is asked of a right part -/
structure Ok (p : Prt) : Prop where
  nf : p.frags.length ≤ 60
  nd : p.defs.length ≤ 60
  shape : ∀ f ∈ p.frags, shaped f = 0
  fits : ∀ f ∈ p.frags, ∀ r ∈ f.rels, Fits p.frags.length r
  plain : ∀ d ∈ p.defs, plainDfn d = 0
  stands : ∀ d ∈ p.defs, Stands p.frags d

theorem ok_iff (p : Prt) : checkPart p = 0 ↔ Ok p := by
  unfold checkPart
  by_cases h : 60 < p.frags.length ∨ 60 < p.defs.length
  · rw [if_pos h]
    constructor
    · intro h2; cases h2
    · intro h2; have := h2.nf; have := h2.nd; omega
  · rw [if_neg h]
    by_cases h1 : checkFrags p.frags.length p.frags = 0
    · rw [if_pos h1, checkDefs_ok]
      have h2 := (checkFrags_ok _ _).1 h1
      constructor
      · intro h3
        exact ⟨by omega, by omega, fun f hf => ((checkFrag_ok f _).1 (h2 f hf)).1, fun f hf => ((checkFrag_ok f _).1 (h2 f hf)).2, fun d hd => ((checkDef_ok d _).1 (h3 d hd)).1, fun d hd => ((checkDef_ok d _).1 (h3 d hd)).2⟩
      · intro h3 d hd
        exact (checkDef_ok d _).2 ⟨h3.plain d hd, h3.stands d hd⟩
    · rw [if_neg h1]
      constructor
      · intro h2; exact absurd h2 h1
      · intro h2
        refine absurd ((checkFrags_ok _ _).2 fun f hf => ?_) h1
        exact (checkFrag_ok f _).2 ⟨h2.shape f hf, h2.fits f hf⟩

/-- count's entries: -1 or a number -/
theorem count_get (l : List ByteArray) : ∀ (fs : List Frg) (n : Int) (i : Nat) (f : Frg), fs[i]? = some f →
    (count l n fs)[i]? = some (bif gone l f then -1 else n + ((stays l (fs.take i)).length : Int))
  | [], _, i, f, h => by simp at h
  | g :: fs, n, 0, f, h => by
    simp only [List.getElem?_cons_zero, Option.some.injEq] at h
    subst h
    rw [count]
    cases hg : gone l g <;> simp [stays]
  | g :: fs, n, i + 1, f, h => by
    simp only [List.getElem?_cons_succ] at h
    rw [count]
    cases hg : gone l g
    · simp only [cond_false, List.getElem?_cons_succ, count_get l fs (n + 1) i f h, List.take_succ_cons, stays, List.filter_cons, hg, Bool.not_false, if_true, List.length_cons]
      cases gone l f
      · simp; omega
      · simp
    · simp only [cond_true, List.getElem?_cons_succ, count_get l fs n i f h, List.take_succ_cons, stays, List.filter_cons, hg, Bool.not_true, Bool.false_eq_true, if_false]

theorem num_get (l : List ByteArray) (fs : List Frg) (n : Int) (i : Int) (h0 : 0 ≤ i) (f : Frg) (h : fs[i.toNat]? = some f) :
    num (count l n fs) i = bif gone l f then -1 else n + ((stays l (fs.take i.toNat)).length : Int) := by
  unfold num
  rw [List.getD_eq_getElem?_getD, count_get l fs n i.toNat f h]
  rfl

/-- which fragments stay -/
theorem zip_stays (l : List ByteArray) : ∀ (fs : List Frg) (n : Int), 0 ≤ n → ((fs.zip (count l n fs)).filter fun x => !(x.2 == -1)).map Prod.fst = stays l fs
  | [], _, _ => rfl
  | f :: fs, n, hn => by
    rw [count]
    cases hg : gone l f
    · have hne : (n == -1) = false := by rw [beq_eq_false_iff_ne]; omega
      simp only [cond_false, List.zip_cons_cons, List.filter_cons, hne, Bool.not_false, if_true, List.map_cons, zip_stays l fs (n + 1) (by omega), stays, hg]
    · simp only [cond_true, List.zip_cons_cons, List.filter_cons, beq_self_eq_true, Bool.not_true, Bool.false_eq_true, if_false, zip_stays l fs n hn, stays, hg]

theorem movedFrags_eq (l : List ByteArray) (to : List Int) (fs : List Frg) (n : Int) (hn : 0 ≤ n) (h : to = count l n fs) : movedFrags to fs = (stays l fs).map (movedFrg to) := by
  unfold movedFrags
  rw [← zip_stays l fs n hn, List.map_map, ← h]
  rfl

theorem stays_nil (fs : List Frg) : stays [] fs = fs := by
  unfold stays
  rw [List.filter_eq_self]
  intro f _
  rw [gone_nil]; rfl

theorem num_nil (fs : List Frg) (n i : Int) (h0 : 0 ≤ i) (h : i < fs.length) : num (count [] n fs) i = n + i := by
  have hlt : i.toNat < fs.length := by omega
  rw [num_get [] fs n i h0 fs[i.toNat] (List.getElem?_eq_getElem hlt), gone_nil, stays_nil, List.length_take]
  simp
  omega

theorem movedFrg_id (to : List Int) (f : Frg) (h : ∀ r ∈ f.rels, bare r.name = true → (r.frag == -1) = false → num to r.frag = r.frag) : movedFrg to f = f := by
  unfold movedFrg
  have : f.rels.map (movedRel to) = f.rels := by
    rw [List.map_congr_left (g := id), List.map_id]
    intro r hr
    unfold movedRel
    cases hb : bare r.name
    · rfl
    · cases h1 : (r.frag == -1)
      · simp only [Bool.not_false, Bool.and_self, cond_true, id]
        rw [h r hr hb h1]
      · rfl
  rw [this]

/-- a right part is as it was -/
theorem moved_id {p : Prt} (h : Ok p) : moved (count [] 0 p.frags) p = p := by
  unfold moved
  have e1 : movedFrags (count [] 0 p.frags) p.frags = p.frags := by
    rw [movedFrags_eq [] _ _ 0 (by omega) rfl, stays_nil, List.map_congr_left (g := id), List.map_id]
    intro f hf
    refine movedFrg_id _ _ fun r hr hb h1 => ?_
    have := h.fits f hf r hr hb
    rw [beq_eq_false_iff_ne] at h1
    rw [num_nil _ _ _ (by omega) (by omega)]
    omega
  have e2 : movedDefs (count [] 0 p.frags) p.defs = p.defs := by
    unfold movedDefs
    have e3 : p.defs.map (movedDfn (count [] 0 p.frags)) = p.defs := by
      rw [List.map_congr_left (g := id), List.map_id]
      intro d hd
      unfold movedDfn
      cases hk : (d.kind == 3)
      · obtain ⟨f, h1, h2, _⟩ := h.stands d hd hk
        have := (List.getElem?_eq_some_iff.1 h2).1
        simp only [cond_false, id]
        rw [num_nil _ _ _ h1 (by omega)]
        simp
      · rfl
    rw [e3, List.filter_eq_self]
    intro d hd
    cases hk : (d.kind == 3)
    · obtain ⟨f, h1, h2, _⟩ := h.stands d hd hk
      simp; omega
    · have := h.plain d hd
      unfold plainDfn at this
      have hk' : d.kind = 3 := by simpa using hk
      rw [hk'] at this
      split at this
      · cases this
      · simp only [if_true] at this
        cases h0 : (d.frag == 0)
        · rw [h0] at this; simp at this
        · have : d.frag = 0 := by simpa using h0
          rw [this]; rfl
  rw [e1, e2]

end Go.Proofs.Ytebhbhbhcoijpaa.M
