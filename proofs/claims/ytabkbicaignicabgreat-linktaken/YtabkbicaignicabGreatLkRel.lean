/-
  Plain mathematics: what a part that was checked says of its places.
-/
import Derived.Test.YtabkbicaignicabGreatLkModel
namespace Go.Proofs.YtabkbicaignicabGreat.M
open Go
set_option linter.unusedVariables false

/-- a place within its bounds -/
structure RelOk (n len : Int) (r : Rel) : Prop where
  pos0 : 0 ≤ r.pos
  pos : r.pos + wide r.kind ≤ len
  kind : known r.kind = true
  add : -10000 ≤ r.add ∧ r.add ≤ 10000
  lead : target r n = 0

theorem wide_known {k : Int} (h : (wide k == 0) = false) : known k = true := by
  unfold known
  unfold wide at h ⊢
  split
  · rfl
  · split
    · rfl
    · rename_i h1 h2; rw [if_neg h1, if_neg h2] at h; cases h

theorem rels_ok (len many : Int) : ∀ (rs : List Rel) (e : Int), 0 ≤ e → checkRels len many e rs = 0 → ∀ r ∈ rs, RelOk many len r ∧ e ≤ r.pos
  | [], _, _, _, r, hr => by cases hr
  | x :: rs, e, he, h, r, hr => by
    unfold checkRels at h
    split at h
    · rename_i hp
      split at h
      · rename_i ht
        unfold placed within at hp
        simp only [Bool.and_eq_true, decide_eq_true_eq, Bool.not_eq_true'] at hp
        have hw : 0 ≤ wide x.kind := by unfold wide; split; decide; split <;> decide
        have ok : RelOk many len x := ⟨by omega, by omega, wide_known hp.1.1, hp.2, ht⟩
        rcases List.mem_cons.1 hr with rfl | hr
        · exact ⟨ok, by omega⟩
        · have := rels_ok len many rs (x.pos + wide x.kind) (by omega) h r hr
          exact ⟨this.1, by omega⟩
      · rename_i ht; exact absurd h ht
    · cases h

theorem frag_ok {p : Prt} (h : Ok p) {f : Frg} (hf : f ∈ p.frags) : checkFrag f p.frags.length = 0 := (checkFrag_ok f _).2 ⟨h.shape f hf, h.fits f hf⟩

theorem frag_parts {f : Frg} {n : Int} (h : checkFrag f n = 0) : (1 ≤ f.sect ∧ f.sect ≤ 5) ∧ f.bytes.length ≤ 64 ∧ f.rels.length ≤ 8 ∧ formed f = true ∧ checkRels f.bytes.length n 0 f.rels = 0 := by
  unfold checkFrag at h
  split at h
  · cases h
  rename_i h1
  split at h
  · cases h
  split at h
  · cases h
  rename_i h3
  split at h
  · cases h
  rename_i h4
  simp only [Bool.or_eq_true, Bool.not_eq_true', not_or, Bool.not_eq_false] at h1
  have hs : 1 ≤ f.sect ∧ f.sect ≤ 5 := by simpa [within] using h1.1
  exact ⟨hs, by omega, by omega, (Bool.not_eq_false _).mp h4, h⟩

theorem rel_ok {p : Prt} (h : Ok p) {f : Frg} (hf : f ∈ p.frags) {r : Rel} (hr : r ∈ f.rels) : RelOk p.frags.length f.bytes.length r ∧ f.bytes.length ≤ 64 :=
  have hp := frag_parts (frag_ok h hf)
  ⟨(rels_ok _ _ _ 0 (Int.le_refl _) hp.2.2.2.2 r hr).1, hp.2.1⟩

/-- where a place leads, within a part -/
theorem RelOk.frag {n len : Int} {r : Rel} (h : RelOk n len r) (hb : r.name.toList.isEmpty = true) : -1 ≤ r.frag ∧ r.frag < n := by
  have := h.lead
  unfold target at this
  rw [if_pos hb] at this
  split at this
  · rename_i h1
    unfold within at h1
    simp only [Bool.and_eq_true, decide_eq_true_eq] at h1
    omega
  · cases this
theorem RelOk.named {n len : Int} {r : Rel} (h : RelOk n len r) (hb : r.name.toList.isEmpty = false) : isName r.name = true := by
  have := h.lead
  unfold target at this
  rw [if_neg (by rw [hb]; decide)] at this
  split at this
  · rename_i h1
    simp only [Bool.and_eq_true] at h1
    exact h1.1
  · cases this

/-- a part that was checked, and a layout of it -/
structure LkOk (p : Prt) (l : Lay) : Prop where
  ck : checkPart p = 0
  len : l.frags.length = p.frags.length
  bd : ∀ x ∈ l.frags, 0 ≤ x ∧ x ≤ 65536
  nn : l.names.length ≤ 1000

end Go.Proofs.YtabkbicaignicabGreat.M
