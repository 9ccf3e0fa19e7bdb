/-
  The plain mathematics of layouts that are moved: sixteen addresses farther, or as many times.
-/
import Derived.Test.YtebhbhbhcoijpaaLyMath
namespace Go.Proofs.Ytebhbhbhcoijpaa.M
open Go
set_option linter.unusedVariables false

theorem getD_set (l : List Int) (i j : Nat) (x : Int) : (l.set i x).getD j 0 = if i = j ∧ j < l.length then x else l.getD j 0 := by
  rw [List.getD_eq_getElem?_getD, List.getD_eq_getElem?_getD, List.getElem?_set]
  by_cases h : i = j
  · subst h
    by_cases h2 : i < l.length
    · simp [h2]
    · simp [h2]
  · simp [h]

/-- the two are alike, the second d farther -/
structure Sh (d : Int) (P : Nat → Prop) (s s' : LS) : Prop where
  pos : s'.pos = s.pos + d
  seen : ∀ bs al, look s'.seen bs al = (look s.seen bs al).map (· + d)
  len : s'.adr.length = s.adr.length
  adr : ∀ j, P j → s'.adr.getD j 0 = s.adr.getD j 0 + d

theorem Sh.step {t : Int} {P : Nat → Prop} {s s' : LS} (h : Sh (16 * t) P s s') {sect : Int} {i : Nat} {f : Frg} (hf : FrgOk f) (hi : i < s.adr.length) : Sh (16 * t) (fun j => P j ∨ (j = i ∧ f.sect = sect)) (layStep sect s i f) (layStep sect s' i f) := by
  unfold layStep
  by_cases hs : f.sect = sect
  · rw [if_pos hs, if_pos hs, h.seen]
    cases hl : look s.seen f.bytes f.align with
    | some x =>
      show Sh (16 * t) _ (layOld s i x) (layOld s' i (x + 16 * t))
      refine ⟨h.pos, h.seen, ?_, fun j hj => ?_⟩
      · show (s'.adr.set i _).length = (s.adr.set i _).length
        rw [List.length_set, List.length_set, h.len]
      · show (s'.adr.set i _).getD j 0 = (s.adr.set i _).getD j 0 + _
        rw [getD_set, getD_set, h.len]
        by_cases hij : i = j ∧ j < s.adr.length
        · rw [if_pos hij, if_pos hij]
        · rw [if_neg hij, if_neg hij]
          rcases hj with hj | ⟨rfl, _⟩
          · exact h.adr j hj
          · exact absurd ⟨rfl, hi⟩ hij
    | none =>
      show Sh (16 * t) _ (layNew sect s i f) (layNew sect s' i f)
      have hn : next s'.pos f.align = next s.pos f.align + 16 * t := by rw [h.pos]; exact next_shift hf.align
      refine ⟨?_, fun bs al => ?_, ?_, fun j hj => ?_⟩
      · show next s'.pos f.align + long f = next s.pos f.align + long f + 16 * t
        rw [hn]; omega
      · show look (if sect = 3 then (f.bytes, f.align, next s'.pos f.align) :: s'.seen else s'.seen) bs al = (look (if sect = 3 then (f.bytes, f.align, next s.pos f.align) :: s.seen else s.seen) bs al).map (· + 16 * t)
        split
        · unfold look
          split
          · rw [hn]; rfl
          · exact h.seen bs al
        · exact h.seen bs al
      · show (s'.adr.set i _).length = (s.adr.set i _).length
        rw [List.length_set, List.length_set, h.len]
      · show (s'.adr.set i _).getD j 0 = (s.adr.set i _).getD j 0 + _
        rw [getD_set, getD_set, h.len]
        by_cases hij : i = j ∧ j < s.adr.length
        · rw [if_pos hij, if_pos hij, hn]
        · rw [if_neg hij, if_neg hij]
          rcases hj with hj | ⟨rfl, _⟩
          · exact h.adr j hj
          · exact absurd ⟨rfl, hi⟩ hij
  · rw [if_neg hs, if_neg hs]
    exact ⟨h.pos, h.seen, h.len, fun j hj => by
      rcases hj with hj | ⟨_, h2⟩
      · exact h.adr j hj
      · exact absurd h2 hs⟩

theorem Sh.weak {d : Int} {P Q : Nat → Prop} {s s' : LS} (h : Sh d P s s') (hq : ∀ j, Q j → P j) : Sh d Q s s' := ⟨h.pos, h.seen, h.len, fun j hj => h.adr j (hq j hj)⟩

theorem Sh.go {t sect : Int} : ∀ (l : List Frg) {P : Nat → Prop} {s s' : LS} (i : Nat), Sh (16 * t) P s s' → (∀ f ∈ l, FrgOk f) → i + l.length ≤ s.adr.length → Sh (16 * t) (fun j => P j ∨ ∃ f, i ≤ j ∧ l[j - i]? = some f ∧ f.sect = sect) (layGo sect s i l) (layGo sect s' i l)
  | [], P, s, s', i, h, _, _ => h.weak fun j hj => by
    rcases hj with hj | ⟨f, _, h2, _⟩
    · exact hj
    · simp at h2
  | f :: l, P, s, s', i, h, hf, hl => by
    have hl' : i + (l.length + 1) ≤ s.adr.length := hl
    have h1 := h.step (sect := sect) (i := i) (hf f (List.mem_cons_self ..)) (by omega)
    have h2 := Sh.go (t := t) (sect := sect) l (i + 1) h1 (fun g hg => hf g (List.mem_cons_of_mem _ hg)) (by rw [layStep_len]; omega)
    refine h2.weak fun j hj => ?_
    rcases hj with hj | ⟨g, hij, hg, hs⟩
    · exact .inl (.inl hj)
    · by_cases e : j = i
      · subst e
        rw [Nat.sub_self] at hg
        cases hg
        exact .inl (.inr ⟨rfl, hs⟩)
      · refine .inr ⟨g, by omega, ?_, hs⟩
        rw [show j - i = (j - (i + 1)) + 1 by omega] at hg
        simpa using hg

/-- sections -/
theorem sec_shift {fs : List Frg} {base t : Int} (hf : ∀ f ∈ fs, FrgOk f) : ∀ k : Nat, (secN fs (base + 16 * t) k).2 = (secN fs base k).2 + 16 * t ∧ ∀ (j : Nat) (f : Frg), fs[j]? = some f → f.sect ≤ (k : Int) → (secN fs (base + 16 * t) k).1.getD j 0 = (secN fs base k).1.getD j 0 + 16 * t
  | 0 => ⟨rfl, fun j f hj hs => by
    have := (hf f (List.mem_of_getElem? hj)).sect.1
    have hs' : f.sect ≤ 0 := hs
    omega⟩
  | k + 1 => by
    obtain ⟨h1, h2⟩ := sec_shift (base := base) (t := t) hf k
    have h0 : Sh (16 * t) (fun j => ∃ f, fs[j]? = some f ∧ f.sect ≤ k) ⟨(secN fs base k).1, next (secN fs base k).2 16, []⟩ ⟨(secN fs (base + 16 * t) k).1, next (secN fs (base + 16 * t) k).2 16, []⟩ :=
      ⟨by show next (secN fs (base + 16 * t) k).2 16 = next (secN fs base k).2 16 + 16 * t; rw [h1]; exact next_shift (.inr (.inr (.inr (.inr rfl)))), fun _ _ => rfl, by show (secN fs (base + 16 * t) k).1.length = (secN fs base k).1.length; rw [secN_len, secN_len], fun j ⟨f, hj, hs⟩ => h2 j f hj hs⟩
    have h3 := h0.go (sect := (k : Int) + 1) fs 0 hf (by show 0 + fs.length ≤ (secN fs base k).1.length; rw [secN_len]; omega)
    refine ⟨h3.pos, fun j f hj hs => h3.adr j ?_⟩
    by_cases e : f.sect ≤ k
    · exact .inl ⟨f, hj, e⟩
    · refine .inr ⟨f, Nat.zero_le _, by simpa using hj, ?_⟩
      have : f.sect ≤ ((k + 1 : Nat) : Int) := hs
      omega

/-- common names -/
theorem com_shift {p : Prt} {t : Int} (hc : ∀ n, (find p.defs n).2 = 0 → (find p.defs n).1.kind = 3 → AlignOk (find p.defs n).1.align) : ∀ (L : List ByteArray) (s s' : CS), s'.names = s.names → s'.at_ = s.at_.map (· + 16 * t) → s'.pos = s.pos + 16 * t →
    (L.foldl (comStep p.defs) s').names = (L.foldl (comStep p.defs) s).names ∧ (L.foldl (comStep p.defs) s').at_ = (L.foldl (comStep p.defs) s).at_.map (· + 16 * t) ∧ (L.foldl (comStep p.defs) s').pos = (L.foldl (comStep p.defs) s).pos + 16 * t
  | [], s, s', h1, h2, h3 => ⟨h1, h2, h3⟩
  | n :: L, s, s', h1, h2, h3 => by
    rw [List.foldl_cons, List.foldl_cons]
    unfold comStep
    by_cases h : (find p.defs n).2 = 0 ∧ (find p.defs n).1.kind = 3
    · rw [if_pos h, if_pos h]
      have hn : next s'.pos (find p.defs n).1.align = next s.pos (find p.defs n).1.align + 16 * t := by rw [h3]; exact next_shift (hc n h.1 h.2)
      refine com_shift hc L _ _ ?_ ?_ ?_
      · simp only [h1]
      · simp only [h2, hn, List.map_append, List.map_cons, List.map_nil]
      · simp only [hn]; omega
    · rw [if_neg h, if_neg h]
      exact com_shift hc L s s' h1 h2 h3

structure Moved (p : Prt) (base t : Int) : Prop where
  frags : ∀ j, j < p.frags.length → (layAll p (base + 16 * t)).frags.getD j 0 = (layAll p base).frags.getD j 0 + 16 * t
  names : (layAll p (base + 16 * t)).names = (layAll p base).names
  coms : (layAll p (base + 16 * t)).coms = (layAll p base).coms.map (· + 16 * t)
  fr : ∀ i, 1 ≤ i → i ≤ 5 → (layAll p (base + 16 * t)).fr i = (layAll p base).fr i + 16 * t
  ti : ∀ i, 1 ≤ i → i ≤ 5 → (layAll p (base + 16 * t)).ti i = (layAll p base).ti i + 16 * t

theorem com_moved {p : Prt} {t : Int} (hc : ∀ n, (find p.defs n).2 = 0 → (find p.defs n).1.kind = 3 → AlignOk (find p.defs n).1.align) (pos : Int) :
    (commons p (pos + 16 * t)).names = (commons p pos).names ∧ (commons p (pos + 16 * t)).at_ = (commons p pos).at_.map (· + 16 * t) ∧ (commons p (pos + 16 * t)).pos = (commons p pos).pos + 16 * t :=
  com_shift hc (defined p) ⟨[], [], pos⟩ ⟨[], [], pos + 16 * t⟩ rfl rfl rfl

theorem lay_names (p : Prt) (base : Int) : (layAll p base).names = (commons p (secN p.frags base 5).2).names := rfl
theorem lay_coms (p : Prt) (base : Int) : (layAll p base).coms = (commons p (secN p.frags base 5).2).at_ := rfl
theorem lay_frags (p : Prt) (base : Int) : (layAll p base).frags = (secN p.frags base 5).1 := rfl
theorem lay_fr (p : Prt) (base : Int) (i : Nat) : (layAll p base).fr i = frAt p base 5 i := rfl
theorem lay_ti (p : Prt) (base : Int) (i : Nat) : (layAll p base).ti i = tiAt p base 5 i := rfl

theorem layMoved {p : Prt} {base t : Int} (hf : ∀ f ∈ p.frags, FrgOk f) (hc : ∀ n, (find p.defs n).2 = 0 → (find p.defs n).1.kind = 3 → AlignOk (find p.defs n).1.align) : Moved p base t := by
  obtain ⟨h5, h6⟩ := sec_shift (base := base) (t := t) hf 5
  have hcm := com_moved (t := t) hc (secN p.frags base 5).2
  refine ⟨fun j hj => ?_, ?_, ?_, fun i h1 h2 => ?_, fun i h1 h2 => ?_⟩
  · have hs := (hf _ (List.getElem_mem hj)).sect.2
    rw [lay_frags, lay_frags]
    exact h6 j _ (List.getElem?_eq_getElem hj) hs
  · rw [lay_names, lay_names, h5]; exact hcm.1
  · rw [lay_coms, lay_coms, h5]; exact hcm.2.1
  · rw [lay_fr, lay_fr]
    unfold frAt
    rw [if_pos ⟨h1, h2⟩, if_pos ⟨h1, h2⟩, (sec_shift (base := base) (t := t) hf (i - 1)).1]
    exact next_shift (.inr (.inr (.inr (.inr rfl))))
  · rw [lay_ti, lay_ti]
    unfold tiAt
    rw [if_pos ⟨h1, h2⟩, if_pos ⟨h1, h2⟩]
    unfold tillOf
    split
    · rw [h5]; exact hcm.2.2
    · exact (sec_shift (base := base) (t := t) hf i).1

/-- all addresses are small -/
def Low (s : LS) : Prop := ∀ x ∈ s.adr, 0 ≤ x ∧ x ≤ s.pos
theorem layStep_low {sect : Int} {s : LS} {i : Nat} {f : Frg} (hf : FrgOk f) (h0 : 0 ≤ s.pos) (hl : Low s) (hs : ∀ x ∈ s.seen, 0 ≤ x.2.2 ∧ x.2.2 ≤ s.pos) : Low (layStep sect s i f) := by
  have hp := layStep_pos (sect := sect) (i := i) hf h0
  intro x hx
  have keep : x ∈ s.adr → 0 ≤ x ∧ x ≤ (layStep sect s i f).pos := fun h => ⟨(hl x h).1, Int.le_trans (hl x h).2 hp.1⟩
  unfold layStep at hx hp ⊢
  by_cases hc : f.sect = sect
  · rw [if_pos hc] at hx hp ⊢
    cases hk : look s.seen f.bytes f.align with
    | some y =>
      rw [hk] at hx
      have hx' : x ∈ s.adr.set i y := hx
      show 0 ≤ x ∧ x ≤ s.pos
      rcases List.mem_or_eq_of_mem_set hx' with h | h
      · exact hl x h
      · rw [h]; exact hs _ (look_mem hk)
    | none =>
      rw [hk] at hx
      have hx' : x ∈ s.adr.set i (next s.pos f.align) := hx
      show 0 ≤ x ∧ x ≤ next s.pos f.align + long f
      have hb := next_bounds h0 hf.align
      have := hf.long0
      rcases List.mem_or_eq_of_mem_set hx' with h | h
      · have := hl x h; omega
      · omega
  · rw [if_neg hc] at hx ⊢
    exact hl x hx

theorem layGo_low {sect : Int} : ∀ (l : List Frg) (s : LS) (i : Nat), (∀ f ∈ l, FrgOk f) → 0 ≤ s.pos → Low s → (∀ x ∈ s.seen, 0 ≤ x.2.2 ∧ x.2.2 ≤ s.pos) → Low (layGo sect s i l)
  | [], _, _, _, _, h, _ => h
  | f :: l, s, i, hf, h0, h, hs => by
    have hp := layStep_pos (sect := sect) (i := i) (hf f (List.mem_cons_self ..)) h0
    exact layGo_low l (layStep sect s i f) (i + 1) (fun g hg => hf g (List.mem_cons_of_mem _ hg)) (by omega) (layStep_low (hf f (List.mem_cons_self ..)) h0 h hs) (layStep_seen (hf f (List.mem_cons_self ..)) h0 h0 hs)

theorem secN_low {fs : List Frg} {base : Int} (hf : ∀ f ∈ fs, FrgOk f) (hn : fs.length ≤ 60) (h0 : 0 ≤ base) : ∀ k : Nat, ∀ x ∈ (secN fs base k).1, 0 ≤ x ∧ x ≤ (secN fs base k).2
  | 0 => fun x hx => by
    have : x = 0 := List.eq_of_mem_replicate hx
    show 0 ≤ x ∧ x ≤ base
    omega
  | k + 1 => by
    have ih := secN_low hf hn h0 k
    have hp := (secN_pos hf hn h0 k).1
    have hb := next_bounds (a := (secN fs base k).2) (d := 16) (by omega) (.inr (.inr (.inr (.inr rfl))))
    exact layGo_low (sect := (k : Int) + 1) fs ⟨(secN fs base k).1, next (secN fs base k).2 16, []⟩ 0 hf (by show 0 ≤ next (secN fs base k).2 16; omega) (fun x hx => by have := ih x hx; show 0 ≤ x ∧ x ≤ next (secN fs base k).2 16; omega) (fun x hx => by cases hx)

theorem com_low {ds : List Dfn} (hc : ∀ n, (find ds n).2 = 0 → (find ds n).1.kind = 3 → AlignOk (find ds n).1.align ∧ 0 ≤ (find ds n).1.size) : ∀ (L : List ByteArray) (s : CS), 0 ≤ s.pos → (∀ x ∈ s.at_, 0 ≤ x ∧ x ≤ s.pos) → s.names.length = s.at_.length →
    0 ≤ (L.foldl (comStep ds) s).pos ∧ (∀ x ∈ (L.foldl (comStep ds) s).at_, 0 ≤ x ∧ x ≤ (L.foldl (comStep ds) s).pos) ∧ (L.foldl (comStep ds) s).names.length = (L.foldl (comStep ds) s).at_.length
  | [], s, h0, h, hl => ⟨h0, h, hl⟩
  | n :: L, s, h0, h, hl => by
    rw [List.foldl_cons]
    by_cases hk : (find ds n).2 = 0 ∧ (find ds n).1.kind = 3
    · have hb := next_bounds h0 (hc n hk.1 hk.2).1
      have hz := (hc n hk.1 hk.2).2
      have e : comStep ds s n = ⟨s.names ++ [n], s.at_ ++ [next s.pos (find ds n).1.align], next s.pos (find ds n).1.align + (find ds n).1.size⟩ := if_pos hk
      rw [e]
      refine com_low hc L _ (by show 0 ≤ next s.pos (find ds n).1.align + (find ds n).1.size; omega) (fun x hx => ?_) (by simp [hl])
      show 0 ≤ x ∧ x ≤ next s.pos (find ds n).1.align + (find ds n).1.size
      rcases List.mem_append.1 hx with hx | hx
      · have := h x hx; omega
      · have := List.mem_singleton.1 hx; omega
    · have e : comStep ds s n = s := if_neg hk
      rw [e]
      exact com_low hc L s h0 h hl

end Go.Proofs.Ytebhbhbhcoijpaa.M
