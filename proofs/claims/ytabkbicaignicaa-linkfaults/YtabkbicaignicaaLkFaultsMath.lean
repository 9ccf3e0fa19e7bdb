/-
  Plain mathematics: which faults a link tells.
-/
import Derived.Test.YtabkbicaignicaaLkMovedMath
import Derived.Test.YtabkbicaignicaaFactA
namespace Go.Proofs.Ytabkbicaignicaa
open Go Go.RowKit
set_option linter.unusedVariables false

/-- what LinkFaults asks of a fault that isn't one of the names' -/
def RestOk (p : M.Prt) (s : ByteArray) (f : Flt) : Prop :=
  (f.name = s ∧ (M.find p.defs s).2 = 7 ∧ f.e = 7) ∨
  (f.name = ⟨#[]⟩ ∧ 0 ≤ f.frag ∧ f.frag < p.frags.length ∧ (f.e = 8 ∨ f.e = 9) ∧ ∃ r ∈ (p.frags.getD f.frag.toNat frg0).rels, r.pos = f.pos)

theorem faulty_of {p : M.Prt} {s : ByteArray} (h : s ∈ M.wantedNames p.frags ++ M.definedNames p.defs) (hf : (M.find p.defs s).2 ≠ 0) : M.faulty (M.named p) s = true := by
  refine List.any_eq_true.2 ⟨⟨(M.find p.defs s).2, s, 0, 0⟩, ?_, by simp⟩
  unfold M.named
  refine List.mem_map.2 ⟨((M.find p.defs s).2, s), ?_, rfl⟩
  rw [M.faults_eq]
  refine List.mem_filterMap.2 ⟨s, (M.rising_mem _ s).2 h, ?_⟩
  unfold M.faultAt
  rw [if_neg hf]

theorem faulty_app {l m : List Flt} {s : ByteArray} (h : M.faulty l s = true) : M.faulty (l ++ m) s = true := by
  unfold M.faulty at *
  rw [List.any_append, h, Bool.true_or]

theorem find_67 (ds : List M.Dfn) (s : ByteArray) : (M.find ds s).2 = 0 ∨ (M.find ds s).2 = 6 ∧ s ∈ M.definedNames ds ∨ (M.find ds s).2 = 7 := by
  unfold M.find M.findIn
  split
  · rename_i h
    refine .inr (.inl ⟨rfl, ?_⟩)
    have hm := headD_mem (l := M.ofKind ds s 1) (by omega) M.dfnZ
    obtain ⟨h1, h2⟩ := List.mem_filter.1 hm
    unfold M.isDef at h2
    simp only [Bool.and_eq_true, beq_iff_eq] at h2
    have e := ba_ext h2.1
    rw [← e]
    exact List.mem_map.2 ⟨_, h1, rfl⟩
  · split
    · exact .inl rfl
    · split
      · exact .inl rfl
      · split
        · exact .inl rfl
        · exact .inr (.inr rfl)

theorem wanted_in {p : M.Prt} {i : Nat} (hi : i < p.frags.length) {r : M.Rel} (hr : r ∈ (p.frags.getD i frg0).rels) (hn : r.name.toList.isEmpty = false) : r.name ∈ M.wantedNames p.frags := by
  refine List.mem_flatMap.2 ⟨_, getD_mem p.frags frg0 i hi, ?_⟩
  unfold M.wantedOf
  refine List.mem_map.2 ⟨r, List.mem_filter.2 ⟨hr, ?_⟩, rfl⟩
  unfold M.bare
  rw [hn]; rfl

theorem addr_of {x : Int} (h0 : 0 ≤ x) (h1 : x ≤ 65536) : M.addr x = true := by
  unfold M.addr M.within
  rw [decide_eq_true h0, decide_eq_true h1]; rfl

theorem number_89 {p : M.Prt} {base : Int} (hp : M.Ok p) (ha : M.Apart p base) {i : Nat} (hi : i < p.frags.length) {r : M.Rel} (hr : r ∈ (p.frags.getD i frg0).rels) (hf : r.name.toList.isEmpty = false → (M.find p.defs r.name).2 = 0) :
    (M.number p (M.layAll p base) i r).2 = 0 ∨ (M.number p (M.layAll p base) i r).2 = 8 ∨ (M.number p (M.layAll p base) i r).2 = 9 := by
  have hfm := getD_mem p.frags frg0 i hi
  obtain ⟨hk, _⟩ := M.rel_ok hp hfm hr
  have hparts := M.frag_parts (M.frag_ok hp hfm)
  obtain ⟨k, ek, k1, k2, k3, k4, k5⟩ := frag_in hp ha hi
  have hti := ha.ti k k1 k2
  have hlong : M.long (p.frags.getD i frg0) = (p.frags.getD i frg0).bytes.length := by
    unfold M.long M.lng
    rw [if_neg]
    intro h5
    have hform := hparts.2.2.2.1
    unfold M.formed at hform
    rw [if_pos h5] at hform
    simp only [Bool.and_eq_true, beq_iff_eq] at hform
    have := List.eq_nil_of_length_eq_zero hform.1.2
    rw [this] at hr
    cases hr
  have hw0 : 0 ≤ M.wide r.kind := by unfold M.wide; split; decide; split <;> decide
  have hpos := hk.pos
  have hpos0 := hk.pos0
  have ha1 : M.addr ((M.layAll p base).frags.getD i 0 + r.pos) = true := addr_of (by omega) (by omega)
  have hadd : M.within r.add (-10000) 10000 = true := by unfold M.within; rw [decide_eq_true hk.add.1, decide_eq_true hk.add.2]; rfl
  have hval : ∀ tt, M.addr tt = true → (M.value r.kind ((M.layAll p base).frags.getD i 0 + r.pos) tt r.add).2 = 0 ∨ (M.value r.kind ((M.layAll p base).frags.getD i 0 + r.pos) tt r.add).2 = 9 := fun tt hto => by
    unfold M.value
    rw [if_neg (by rw [hk.kind]; decide), if_neg (by rw [ha1, hto, hadd]; decide)]
    split
    · exact .inr rfl
    · exact .inl rfl
  have key : (M.leads p (M.layAll p base) r).2 = 8 ∨ ((M.leads p (M.layAll p base) r).2 = 0 ∧ M.addr (M.leads p (M.layAll p base) r).1 = true) := by
    cases hb : r.name.toList.isEmpty
    · rw [leads_named hb]
      have hwo := where_ok hp ha (hf hb)
      unfold M.whereOf at hwo
      exact .inr ⟨hwo.1, addr_of hwo.2.1 hwo.2.2⟩
    · by_cases hg : r.frag < 0
      · rw [leads_dead hb hg]; exact .inl rfl
      · rw [leads_frag hb hg]
        have hfr := (hk.frag hb).2
        obtain ⟨k', _, j1, j2, j3, j4, j5⟩ := frag_in hp ha (i := r.frag.toNat) (by omega)
        have ht' := ha.ti k' j1 j2
        exact .inr ⟨rfl, addr_of (by show 0 ≤ (M.layAll p base).frags.getD r.frag.toNat 0; omega) (by show (M.layAll p base).frags.getD r.frag.toNat 0 ≤ 65536; omega)⟩
  rcases key with h | ⟨h, h2⟩
  · rw [number_err (by rw [h]; decide), h]; exact .inr (.inl rfl)
  · rw [number_ok h]
    rcases hval _ h2 with h3 | h3
    · exact .inl h3
    · exact .inr (.inr h3)

theorem placeN_ok {p : M.Prt} {base : Int} {s : ByteArray} (hp : M.Ok p) (ha : M.Apart p base) {nm more : List Flt} (hnm : nm = M.named p ++ more) : ∀ f ∈ M.placeFaults p (M.layAll p base) nm, RestOk p s f := fun f hf => by
  unfold M.placeFaults M.placeFaultsN at hf
  obtain ⟨i, hi, hf⟩ := List.mem_flatMap.1 hf
  have hi := List.mem_range.1 hi
  obtain ⟨r, hr, hf⟩ := List.mem_flatMap.1 hf
  unfold M.placeFault at hf
  split at hf
  · cases hf
  · rename_i hfy
    split at hf
    · cases hf
    · rename_i hne
      obtain rfl := List.mem_singleton.1 hf
      refine .inr ⟨rfl, by show (0 : Int) ≤ (i : Int); omega, by show (i : Int) < _; omega, ?_, r, by show r ∈ (p.frags.getD ((i : Int)).toNat frg0).rels; rw [Int.toNat_natCast]; exact hr, rfl⟩
      rcases number_89 hp ha hi hr (fun hb => Classical.byContradiction fun hc => hfy (by rw [hnm]; exact faulty_app (faulty_of (List.mem_append.2 (.inl (wanted_in hi hr hb))) hc))) with h | h | h
      · exact absurd h hne
      · exact .inl h
      · exact .inr h

theorem linkFaults_of {p : M.Prt} {base : Int} {s : ByteArray} {im : M.Img} {fl : List Flt} (h : M.link p base s = (im, fl, 0)) :
    M.checkPart p = 0 ∧ s.toList.isEmpty = false ∧ ((im.segs.length = 0 ∧ 0 < fl.length) ∨ (im.segs.length = 3 ∧ fl.length = 0)) ∧ ∃ rest, fl = M.named p ++ rest ∧ ∀ f ∈ rest, RestOk p s f := by
  unfold M.link at h
  split at h
  · rename_i hck
    have hp := (M.ok_iff p).1 hck
    split at h
    · rename_i hn
      have hne : s.toList.isEmpty = false := by
        cases hb : s.toList.isEmpty
        · rfl
        · have h0 : s.toList = [] := List.isEmpty_iff.1 hb
          rw [Lib.toList_data] at h0
          have : s.size = 0 := by
            show s.data.size = 0
            rw [← Array.length_toList, h0]; rfl
          unfold M.isName at hn
          rw [this] at hn
          simp at hn
      split at h
      · rename_i hl
        obtain ⟨_, hb, _, he, ha⟩ := lay_facts hl
        rw [he] at h
        have hsplit : ∃ more, M.nameFaults p s = M.named p ++ more ∧ ∀ f ∈ more, RestOk p s f := by
          unfold M.nameFaults
          split
          · exact ⟨[], by simp, fun f hf => by cases hf⟩
          · rename_i h0
            split
            · exact ⟨[], by simp, fun f hf => by cases hf⟩
            · rename_i h1
              refine ⟨_, rfl, fun f hf => ?_⟩
              obtain rfl := List.mem_singleton.1 hf
              have h7 : (M.find p.defs s).2 = 7 := by
                rcases find_67 p.defs s with h | ⟨h, h2⟩ | h
                · exact absurd h h0
                · exact absurd (faulty_of (List.mem_append.2 (.inr h2)) h0) h1
                · exact h
              exact .inl ⟨rfl, h7, h7⟩
        obtain ⟨more, hm1, hm2⟩ := hsplit
        split at h
        · rename_i hf
          have hf' := List.eq_nil_of_length_eq_zero hf
          have hnn : M.nameFaults p s = [] := (List.append_eq_nil_iff.1 hf').1
          have hnd : M.named p = [] := (nameFaults_nil hnn).2
          cases h
          exact ⟨hck, hne, .inr ⟨rfl, rfl⟩, [], by rw [hnd]; rfl, fun f hf => by cases hf⟩
        · rename_i hf
          cases h
          refine ⟨hck, hne, .inl ⟨rfl, Nat.pos_of_ne_zero hf⟩, more ++ M.placeFaults p (M.layAll p base) (M.nameFaults p s), ?_, fun f hf => ?_⟩
          · show M.nameFaults p s ++ M.placeFaults p (M.layAll p base) (M.nameFaults p s) = _
            rw [← List.append_assoc, ← hm1]
          · rcases List.mem_append.1 hf with hf | hf
            · exact hm2 f hf
            · exact placeN_ok hp ha hm1 f hf
      · rename_i hl
        exact absurd (congrArg (fun x => x.2.2) h) hl
    · cases h
  · rename_i hck
    exact absurd (congrArg (fun x => x.2.2) h) hck

end Go.Proofs.Ytabkbicaignicaa
