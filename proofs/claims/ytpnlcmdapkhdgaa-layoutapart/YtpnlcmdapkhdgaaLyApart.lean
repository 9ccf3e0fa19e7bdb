/-
  The plain mathematics of where fragments and common names stand apart.
-/
import Derived.Test.YtpnlcmdapkhdgaaLyShift
namespace Go.Proofs.Ytpnlcmdapkhdgaa.M
open Go
set_option linter.unusedVariables false

/-- a section's walk, behind its first i fragments -/
structure Ap (sect lo : Int) (fs : List Frg) (i : Nat) (s : LS) : Prop where
  pos : lo ≤ s.pos
  len : s.adr.length = fs.length
  each : ∀ (j : Nat) (f : Frg), j < i → fs[j]? = some f → f.sect = sect → lo ≤ s.adr.getD j 0 ∧ s.adr.getD j 0 % f.align = 0 ∧ s.adr.getD j 0 + long f ≤ s.pos
  seen : sect = 3 → ∀ (j : Nat) (f : Frg), j < i → fs[j]? = some f → f.sect = sect → look s.seen f.bytes f.align = some (s.adr.getD j 0)
  none : sect ≠ 3 → s.seen = []
  bound : ∀ x ∈ s.seen, lo ≤ x.2.2 ∧ x.2.2 % x.2.1 = 0 ∧ x.2.2 + x.1.length ≤ s.pos
  two : ∀ x ∈ s.seen, ∀ y ∈ s.seen, x = y ∨ x.2.2 + x.1.length ≤ y.2.2 ∨ y.2.2 + y.1.length ≤ x.2.2
  pair : sect ≠ 3 → ∀ (j k : Nat) (f g : Frg), k < j → j < i → fs[j]? = some f → fs[k]? = some g → f.sect = sect → g.sect = sect → s.adr.getD k 0 + long g ≤ s.adr.getD j 0

theorem long_text {f : Frg} (h : f.sect = 3) : long f = f.bytes.length := by
  unfold long lng
  rw [if_neg (by omega)]

theorem Ap.step {sect lo : Int} {fs : List Frg} {i : Nat} {s : LS} (h : Ap sect lo fs i s) (h0 : 0 ≤ lo) {f : Frg} (hi : fs[i]? = some f) (hf : FrgOk f) : Ap sect lo fs (i + 1) (layStep sect s i f) := by
  have hil : i < fs.length := (List.getElem?_eq_some_iff.1 hi).1
  have hs0 : 0 ≤ s.pos := Int.le_trans h0 h.pos
  have hla := hf.long0
  unfold layStep
  by_cases hc : f.sect = sect
  · rw [if_pos hc]
    cases hk : look s.seen f.bytes f.align with
    | some x =>
      show Ap sect lo fs (i + 1) (layOld s i x)
      have hsec : sect = 3 := by
        by_cases e : sect = 3
        · exact e
        · rw [h.none e] at hk; cases hk
      have hm := look_mem hk
      have hb := h.bound _ hm
      have hlt : long f = f.bytes.length := long_text (hc.trans hsec)
      have hget : ∀ j, j ≠ i → (s.adr.set i x).getD j 0 = s.adr.getD j 0 := fun j hj => by rw [getD_set, if_neg (fun e => hj e.1.symm)]
      have hgi : (s.adr.set i x).getD i 0 = x := by rw [getD_set, if_pos ⟨rfl, by rw [h.len]; exact hil⟩]
      refine ⟨h.pos, ?_, fun j g hj hg hs => ?_, fun h3 j g hj hg hs => ?_, h.none, h.bound, h.two, fun h3 => absurd hsec h3⟩
      · show (s.adr.set i x).length = _
        rw [List.length_set, h.len]
      · show lo ≤ (s.adr.set i x).getD j 0 ∧ (s.adr.set i x).getD j 0 % g.align = 0 ∧ (s.adr.set i x).getD j 0 + long g ≤ s.pos
        by_cases e : j = i
        · subst e
          rw [hi] at hg
          cases hg
          rw [hgi, hlt]
          exact hb
        · rw [hget j e]; exact h.each j g (by omega) hg hs
      · show look s.seen g.bytes g.align = some ((s.adr.set i x).getD j 0)
        by_cases e : j = i
        · subst e
          rw [hi] at hg
          cases hg
          rw [hgi, hk]
        · rw [hget j e]; exact h.seen h3 j g (by omega) hg hs
    | none =>
      show Ap sect lo fs (i + 1) (layNew sect s i f)
      have hb := next_bounds hs0 hf.align
      have hd := next_div (a := s.pos) hf.align
      generalize hx : next s.pos f.align = x at hb hd
      have ea : (layNew sect s i f).adr = s.adr.set i x := by show s.adr.set i (next s.pos f.align) = _; rw [hx]
      have ep : (layNew sect s i f).pos = x + long f := by show next s.pos f.align + long f = _; rw [hx]
      have es : (layNew sect s i f).seen = if sect = 3 then (f.bytes, f.align, x) :: s.seen else s.seen := by show (if sect = 3 then (f.bytes, f.align, next s.pos f.align) :: s.seen else s.seen) = _; rw [hx]
      have hget : ∀ j, j ≠ i → (s.adr.set i x).getD j 0 = s.adr.getD j 0 := fun j hj => by rw [getD_set, if_neg (fun e => hj e.1.symm)]
      have hgi : (s.adr.set i x).getD i 0 = x := by rw [getD_set, if_pos ⟨rfl, by rw [h.len]; exact hil⟩]
      have hlo := h.pos
      refine ⟨by rw [ep]; omega, by rw [ea, List.length_set, h.len], fun j g hj hg hs => ?_, fun h3 j g hj hg hs => ?_, fun h3 => ?_, fun y hy => ?_, fun y hy z hz => ?_, fun h3 j k g g' hkj hj hg hg' hs hs' => ?_⟩
      · rw [ea, ep]
        by_cases e : j = i
        · subst e
          rw [hi] at hg
          cases hg
          rw [hgi]
          exact ⟨by omega, hd, Int.le_refl _⟩
        · rw [hget j e]
          have := h.each j g (by omega) hg hs
          exact ⟨this.1, this.2.1, by omega⟩
      · rw [ea, es, if_pos h3]
        by_cases e : j = i
        · subst e
          rw [hi] at hg
          cases hg
          rw [hgi]
          simp [look]
        · rw [hget j e]
          have := h.seen h3 j g (by omega) hg hs
          unfold look
          rw [if_neg (fun e' => by rw [← e'.1, ← e'.2, hk] at this; cases this)]
          exact this
      · rw [es, if_neg h3]; exact h.none h3
      · rw [es] at hy
        rw [ep]
        split at hy
        · rename_i h3
          have hlt : long f = f.bytes.length := long_text (hc.trans h3)
          rcases List.mem_cons.1 hy with rfl | hy
          · exact ⟨by show lo ≤ x; omega, hd, by show x + (f.bytes.length : Int) ≤ x + long f; omega⟩
          · have := h.bound y hy
            exact ⟨this.1, this.2.1, by omega⟩
        · have := h.bound y hy
          exact ⟨this.1, this.2.1, by omega⟩
      · rw [es] at hy hz
        split at hy
        · rename_i h3
          rw [if_pos h3] at hz
          rcases List.mem_cons.1 hy with rfl | hy <;> rcases List.mem_cons.1 hz with rfl | hz
          · exact .inl rfl
          · have := h.bound z hz
            exact .inr (.inr (by show z.2.2 + (z.1.length : Int) ≤ x; omega))
          · have := h.bound y hy
            exact .inr (.inl (by show y.2.2 + (y.1.length : Int) ≤ x; omega))
          · exact h.two y hy z hz
        · rename_i h3
          rw [if_neg h3] at hz
          exact h.two y hy z hz
      · rw [ea]
        have hki : k ≠ i := by omega
        rw [hget k hki]
        by_cases e : j = i
        · subst e
          rw [hgi]
          have := (h.each k g' (by omega) hg' hs').2.2
          omega
        · rw [hget j e]
          exact h.pair h3 j k g g' hkj (by omega) hg hg' hs hs'
  · rw [if_neg hc]
    have nj : ∀ (j : Nat) (g : Frg), j < i + 1 → fs[j]? = some g → g.sect = sect → j < i := fun j g hj hg hs => by
      by_cases e : j = i
      · subst e
        rw [hi] at hg
        cases hg
        exact absurd hs hc
      · omega
    exact ⟨h.pos, h.len, fun j g hj hg hs => h.each j g (nj j g hj hg hs) hg hs, fun h3 j g hj hg hs => h.seen h3 j g (nj j g hj hg hs) hg hs, h.none, h.bound, h.two, fun h3 j k g g' hkj hj hg hg' hs hs' => h.pair h3 j k g g' hkj (nj j g hj hg hs) hg hg' hs hs'⟩

theorem Ap.go {sect lo : Int} {fs : List Frg} (h0 : 0 ≤ lo) (hf : ∀ f ∈ fs, FrgOk f) : ∀ (l : List Frg) (i : Nat) (s : LS), fs.drop i = l → Ap sect lo fs i s → Ap sect lo fs fs.length (layGo sect s i l)
  | [], i, s, hl, h => by
    have : fs.length ≤ i := by
      have := congrArg List.length hl
      rw [List.length_drop] at this
      simp at this
      omega
    exact ⟨h.pos, h.len, fun j g hj => h.each j g (by omega), fun h3 j g hj => h.seen h3 j g (by omega), h.none, h.bound, h.two, fun h3 j k g g' hkj hj => h.pair h3 j k g g' hkj (by omega)⟩
  | f :: l, i, s, hl, h => by
    have hi : fs[i]? = some f := by
      have := congrArg (fun x => x[0]?) hl
      simpa using this
    refine Ap.go h0 hf l (i + 1) (layStep sect s i f) ?_ (h.step h0 hi (hf f (List.mem_of_getElem? hi)))
    rw [← List.drop_drop, hl]
    rfl

theorem layStep_other {sect : Int} {s : LS} {i j : Nat} {f : Frg} (h : j = i → f.sect ≠ sect) : (layStep sect s i f).adr.getD j 0 = s.adr.getD j 0 := by
  unfold layStep
  by_cases hc : f.sect = sect
  · have hij : ¬ i = j := fun e => h e.symm hc
    rw [if_pos hc]
    cases look s.seen f.bytes f.align with
    | none =>
      show (s.adr.set i _).getD j 0 = _
      rw [getD_set, if_neg (fun e => hij e.1)]
    | some x =>
      show (s.adr.set i _).getD j 0 = _
      rw [getD_set, if_neg (fun e => hij e.1)]
  · rw [if_neg hc]

theorem layGo_other {sect : Int} {j : Nat} : ∀ (l : List Frg) (s : LS) (i : Nat), (∀ f, i ≤ j → l[j - i]? = some f → f.sect ≠ sect) → (layGo sect s i l).adr.getD j 0 = s.adr.getD j 0
  | [], _, _, _ => rfl
  | f :: l, s, i, h => by
    refine (layGo_other l (layStep sect s i f) (i + 1) fun g hij hg => h g (by omega) ?_).trans (layStep_other fun e => h f (by omega) ?_)
    · rw [show j - i = (j - (i + 1)) + 1 by omega]; simpa using hg
    · subst e; simp

/-- what section k + 1 leaves -/
theorem sec_ap {fs : List Frg} {base : Int} (hf : ∀ f ∈ fs, FrgOk f) (hn : fs.length ≤ 60) (h0 : 0 ≤ base) (k : Nat) : Ap ((k : Int) + 1) (next (secN fs base k).2 16) fs fs.length (layFrags ((k : Int) + 1) (secN fs base k).1 fs (next (secN fs base k).2 16)) := by
  have hp := (secN_pos hf hn h0 k).1
  have hb := next_bounds (a := (secN fs base k).2) (d := 16) (by omega) (.inr (.inr (.inr (.inr rfl))))
  refine Ap.go (by omega) hf fs 0 _ rfl ⟨Int.le_refl _, secN_len _ _ _, fun j g hj => by omega, fun _ j g hj => by omega, fun _ => rfl, (fun x hx => by cases hx), (fun x hx => by cases hx), fun _ j k g g' hkj hj => by omega⟩

theorem sec_keep {fs : List Frg} {base : Int} {j : Nat} {f : Frg} (hj : fs[j]? = some f) : ∀ (m k : Nat), f.sect ≤ (k : Int) → (secN fs base (k + m)).1.getD j 0 = (secN fs base k).1.getD j 0
  | 0, k, _ => rfl
  | m + 1, k, h => by
    refine Eq.trans ?_ (sec_keep hj m k h)
    show (layGo (((k + m : Nat) : Int) + 1) ⟨(secN fs base (k + m)).1, next (secN fs base (k + m)).2 16, []⟩ 0 fs).adr.getD j 0 = _
    refine layGo_other fs _ 0 fun g _ hg => ?_
    rw [Nat.sub_zero, hj] at hg
    cases hg
    omega

end Go.Proofs.Ytpnlcmdapkhdgaa.M
