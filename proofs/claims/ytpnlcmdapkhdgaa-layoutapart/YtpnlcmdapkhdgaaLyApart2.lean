/-
  The plain mathematics of where fragments and common names stand apart, all sections together.
-/
import Derived.Test.YtpnlcmdapkhdgaaLyApart
import Derived.Test.YtpnlcmdapkhdgaaLyCommons
namespace Go.Proofs.Ytpnlcmdapkhdgaa.M
open Go
set_option linter.unusedVariables false

theorem sec_mono {fs : List Frg} {base : Int} (hf : ∀ f ∈ fs, FrgOk f) (hn : fs.length ≤ 60) (h0 : 0 ≤ base) (k : Nat) : next (secN fs base k).2 16 ≤ (secN fs base (k + 1)).2 ∧ (secN fs base k).2 ≤ next (secN fs base k).2 16 := by
  have hp := (secN_pos hf hn h0 k).1
  have hb := next_bounds (a := (secN fs base k).2) (d := 16) (by omega) (.inr (.inr (.inr (.inr rfl))))
  exact ⟨(sec_ap hf hn h0 k).pos, hb.1⟩

/-- the common names' walk -/
structure Cm (ds : List Dfn) (lo : Int) (s : CS) : Prop where
  pos : lo ≤ s.pos
  len : s.names.length = s.at_.length
  each : ∀ (i : Nat) (n : ByteArray), s.names[i]? = some n → (find ds n).2 = 0 ∧ (find ds n).1.kind = 3 ∧ ComOk (find ds n).1 ∧ s.at_.getD i 0 % (find ds n).1.align = 0 ∧ lo ≤ s.at_.getD i 0 ∧ s.at_.getD i 0 + (find ds n).1.size ≤ s.pos
  rise : ∀ (i : Nat) (n : ByteArray), i + 1 < s.names.length → s.names[i]? = some n → s.at_.getD i 0 + (find ds n).1.size ≤ s.at_.getD (i + 1) 0

theorem getD_snoc (l : List Int) (x : Int) (i : Nat) : (l ++ [x]).getD i 0 = if i = l.length then x else l.getD i 0 := by
  rw [List.getD_eq_getElem?_getD, List.getD_eq_getElem?_getD]
  by_cases h : i < l.length
  · rw [List.getElem?_append_left h, if_neg (by omega)]
  · rw [List.getElem?_append_right (by omega)]
    by_cases e : i = l.length
    · subst e; simp
    · rw [if_neg e, List.getElem?_eq_none (by simp; omega), List.getElem?_eq_none (by omega)]

theorem Cm.step {ds : List Dfn} {lo : Int} {s : CS} (h : Cm ds lo s) (h0 : 0 ≤ lo) (hc : ∀ n, (find ds n).2 = 0 → (find ds n).1.kind = 3 → ComOk (find ds n).1) (n : ByteArray) : Cm ds lo (comStep ds s n) := by
  unfold comStep
  by_cases hk : (find ds n).2 = 0 ∧ (find ds n).1.kind = 3
  · rw [if_pos hk]
    have ho := hc n hk.1 hk.2
    have hp := h.pos
    have hb := next_bounds (a := s.pos) (by omega) ho.align
    have hd := next_div (a := s.pos) ho.align
    have hz := ho.size0
    generalize next s.pos (find ds n).1.align = x at hb hd ⊢
    refine ⟨by show lo ≤ x + _; omega, by simp [h.len], fun i m hm => ?_, fun i m hi hm => ?_⟩
    · show (find ds m).2 = 0 ∧ (find ds m).1.kind = 3 ∧ ComOk (find ds m).1 ∧ (s.at_ ++ [x]).getD i 0 % (find ds m).1.align = 0 ∧ lo ≤ (s.at_ ++ [x]).getD i 0 ∧ (s.at_ ++ [x]).getD i 0 + (find ds m).1.size ≤ x + (find ds n).1.size
      have hm' : (s.names ++ [n])[i]? = some m := hm
      rw [getD_snoc]
      by_cases e : i < s.names.length
      · rw [List.getElem?_append_left e] at hm'
        rw [if_neg (by rw [← h.len]; omega)]
        obtain ⟨e1, e2, e3, e4, e5, e6⟩ := h.each i m hm'
        exact ⟨e1, e2, e3, e4, e5, by omega⟩
      · rw [List.getElem?_append_right (by omega)] at hm'
        have e2 : i - s.names.length = 0 := by
          have := (List.getElem?_eq_some_iff.1 hm').1
          simp at this
          omega
        rw [e2] at hm'
        cases hm'
        rw [if_pos (by rw [← h.len]; omega)]
        exact ⟨hk.1, hk.2, ho, hd, by omega, Int.le_refl _⟩
    · show (s.at_ ++ [x]).getD i 0 + (find ds m).1.size ≤ (s.at_ ++ [x]).getD (i + 1) 0
      have hi' : i + 1 < (s.names ++ [n]).length := hi
      rw [List.length_append, List.length_singleton] at hi'
      have hm' : (s.names ++ [n])[i]? = some m := hm
      rw [List.getElem?_append_left (by omega)] at hm'
      rw [getD_snoc, getD_snoc, if_neg (by rw [← h.len]; omega)]
      by_cases e : i + 1 = s.at_.length
      · rw [if_pos e]
        have := (h.each i m hm').2.2.2.2.2
        omega
      · rw [if_neg e]
        exact h.rise i m (by rw [h.len]; rw [← h.len] at e ⊢; omega) hm'
  · rw [if_neg hk]; exact h

theorem Cm.fold {ds : List Dfn} {lo : Int} (h0 : 0 ≤ lo) (hc : ∀ n, (find ds n).2 = 0 → (find ds n).1.kind = 3 → ComOk (find ds n).1) : ∀ (L : List ByteArray) (s : CS), Cm ds lo s → Cm ds lo (L.foldl (comStep ds) s)
  | [], _, h => h
  | n :: L, s, h => Cm.fold h0 hc L _ (h.step h0 hc n)

theorem com_names (ds : List Dfn) : ∀ (L : List ByteArray) (s : CS), ∃ F : ByteArray → Bool, (L.foldl (comStep ds) s).names = s.names ++ L.filter F
  | L, s => ⟨fun n => decide ((find ds n).2 = 0 ∧ (find ds n).1.kind = 3), by
    induction L generalizing s with
    | nil => simp
    | cons n L ih =>
      rw [List.foldl_cons, ih]
      unfold comStep
      by_cases hk : (find ds n).2 = 0 ∧ (find ds n).1.kind = 3
      · rw [if_pos hk, List.filter_cons, if_pos (by simpa using hk)]
        simp
      · rw [if_neg hk, List.filter_cons, if_neg (by simpa using hk)]⟩

/-- all that LayoutApart asks -/
structure Apart (p : Prt) (base : Int) : Prop where
  fr16 : ∀ i, 1 ≤ i → i ≤ 5 → (layAll p base).fr i % 16 = 0
  fr1 : base ≤ (layAll p base).fr 1
  frN : ∀ i, 1 ≤ i → i ≤ 4 → (layAll p base).ti i ≤ (layAll p base).fr (i + 1)
  ti : ∀ i, 1 ≤ i → i ≤ 5 → (layAll p base).fr i ≤ (layAll p base).ti i ∧ (layAll p base).ti i ≤ 65536 ∧ 0 ≤ (layAll p base).fr i
  frag : ∀ (j : Nat) (f : Frg) (k : Nat), p.frags[j]? = some f → f.sect = k → (layAll p base).frags.getD j 0 % f.align = 0 ∧ (layAll p base).fr k ≤ (layAll p base).frags.getD j 0 ∧ (layAll p base).frags.getD j 0 + long f ≤ (layAll p base).ti k
  apart : ∀ (j k : Nat) (f g : Frg), k < j → p.frags[j]? = some f → p.frags[k]? = some g → f.sect = g.sect → (f.sect ≠ 3 → (layAll p base).frags.getD k 0 + long g ≤ (layAll p base).frags.getD j 0) ∧ (f.sect = 3 → (f.align = g.align → f.bytes = g.bytes → (layAll p base).frags.getD j 0 = (layAll p base).frags.getD k 0) ∧ ((layAll p base).frags.getD j 0 = (layAll p base).frags.getD k 0 ∨ (layAll p base).frags.getD k 0 + long g ≤ (layAll p base).frags.getD j 0 ∨ (layAll p base).frags.getD j 0 + long f ≤ (layAll p base).frags.getD k 0))
  lenF : (layAll p base).frags.length = p.frags.length
  lenN : (layAll p base).names.length = (layAll p base).coms.length
  com : ∀ (i : Nat) (n : ByteArray), (layAll p base).names[i]? = some n → (find p.defs n).2 = 0 ∧ (find p.defs n).1.kind = 3 ∧ ComOk (find p.defs n).1 ∧ (layAll p base).coms.getD i 0 % (find p.defs n).1.align = 0 ∧ (layAll p base).fr 5 ≤ (layAll p base).coms.getD i 0 ∧ (layAll p base).coms.getD i 0 + (find p.defs n).1.size ≤ (layAll p base).ti 5
  zero : ∀ (i j : Nat) (n : ByteArray) (f : Frg), (layAll p base).names[i]? = some n → p.frags[j]? = some f → f.sect = 5 → (layAll p base).frags.getD j 0 + f.size ≤ (layAll p base).coms.getD i 0
  rise : ∀ (i : Nat) (n : ByteArray), i + 1 < (layAll p base).names.length → (layAll p base).names[i]? = some n → (layAll p base).coms.getD i 0 + (find p.defs n).1.size ≤ (layAll p base).coms.getD (i + 1) 0
  strict : Strict (layAll p base).names
  twin : ∀ (j k : Nat) (f g : Frg), p.frags[j]? = some f → p.frags[k]? = some g → f.sect = 3 → g.sect = 3 → (f.bytes = g.bytes ∧ (layAll p base).frags.getD j 0 = (layAll p base).frags.getD k 0) ∨ (layAll p base).frags.getD k 0 + g.bytes.length ≤ (layAll p base).frags.getD j 0 ∨ (layAll p base).frags.getD j 0 + f.bytes.length ≤ (layAll p base).frags.getD k 0

theorem apart_of {p : Prt} {base : Int} (hp : Ok p) (h0 : 0 ≤ base) (h5 : tillOf p base 5 ≤ 65536) : Apart p base := by
  have hf : ∀ f ∈ p.frags, FrgOk f := fun f hf => frgOk_of (hp.shape f hf)
  have hn := hp.nf
  have hpos := secN_pos hf hn h0
  have hm := sec_mono hf hn h0
  have hc : ∀ n, (find p.defs n).2 = 0 → (find p.defs n).1.kind = 3 → ComOk (find p.defs n).1 := fun n h1 h2 => common_ok hp n h1 h2
  have hcm : Cm p.defs (secN p.frags base 5).2 (commons p (secN p.frags base 5).2) := Cm.fold (by have := (hpos 5).1; omega) hc (defined p) ⟨[], [], (secN p.frags base 5).2⟩ ⟨Int.le_refl _, rfl, (fun i n h => by cases h), fun i n h => absurd h (Nat.not_lt_zero _)⟩
  have hfr : ∀ i, 1 ≤ i → i ≤ 5 → (layAll p base).fr i = next (secN p.frags base (i - 1)).2 16 := fun i h1 h2 => by rw [lay_fr]; unfold frAt; rw [if_pos ⟨h1, h2⟩]
  have hti : ∀ i, 1 ≤ i → i ≤ 5 → (layAll p base).ti i = tillOf p base i := fun i h1 h2 => by rw [lay_ti]; unfold tiAt; rw [if_pos ⟨h1, h2⟩]
  have htl : ∀ i, i ≤ 4 → tillOf p base i = (secN p.frags base i).2 := fun i h => by unfold tillOf; rw [if_neg (by omega)]
  have ht5 : tillOf p base 5 = (commons p (secN p.frags base 5).2).pos := by unfold tillOf; rw [if_pos rfl]
  have htg : ∀ i, i ≤ 5 → (secN p.frags base i).2 ≤ tillOf p base i := fun i h => by
    by_cases e : i = 5
    · subst e; rw [ht5]; exact hcm.pos
    · rw [htl i (by omega)]; exact Int.le_refl _
  have hup : ∀ i, i ≤ 5 → (secN p.frags base i).2 ≤ 65536 := by
    have m0 : next (secN p.frags base 0).2 16 ≤ (secN p.frags base 1).2 ∧ (secN p.frags base 0).2 ≤ next (secN p.frags base 0).2 16 := hm 0
    have m1 : next (secN p.frags base 1).2 16 ≤ (secN p.frags base 2).2 ∧ (secN p.frags base 1).2 ≤ next (secN p.frags base 1).2 16 := hm 1
    have m2 : next (secN p.frags base 2).2 16 ≤ (secN p.frags base 3).2 ∧ (secN p.frags base 2).2 ≤ next (secN p.frags base 2).2 16 := hm 2
    have m3 : next (secN p.frags base 3).2 16 ≤ (secN p.frags base 4).2 ∧ (secN p.frags base 3).2 ≤ next (secN p.frags base 3).2 16 := hm 3
    have m4 : next (secN p.frags base 4).2 16 ≤ (secN p.frags base 5).2 ∧ (secN p.frags base 4).2 ≤ next (secN p.frags base 4).2 16 := hm 4
    have m5 := htg 5 (by omega)
    intro i hi
    have hcase : i = 0 ∨ i = 1 ∨ i = 2 ∨ i = 3 ∨ i = 4 ∨ i = 5 := by omega
    rcases hcase with rfl | rfl | rfl | rfl | rfl | rfl <;> omega
  have hsec : ∀ (j : Nat) (f : Frg) (k : Nat), p.frags[j]? = some f → f.sect = (k : Int) + 1 → k ≤ 4 → (layAll p base).frags.getD j 0 = (secN p.frags base (k + 1)).1.getD j 0 := fun j f k hj hs hk => by
    rw [lay_frags]
    have := sec_keep (base := base) hj (4 - k) (k + 1) (by rw [hs]; omega)
    rw [show k + 1 + (4 - k) = 5 by omega] at this
    exact this
  have hkk : ∀ f ∈ p.frags, ∃ k : Nat, f.sect = (k : Int) + 1 ∧ k ≤ 4 := fun f h => by
    have := (hf f h).sect
    exact ⟨(f.sect - 1).toNat, by omega, by omega⟩
  refine ⟨fun i h1 h2 => ?_, ?_, fun i h1 h2 => ?_, fun i h1 h2 => ?_, fun j f k hj hs => ?_, fun j k f g hkj hj hk hs => ?_, ?_, hcm.len, fun i n hi => ?_, fun i j n f hi hj hs => ?_, fun i n hi hn => ?_, ?_, fun j k f g hj hk h3 h3' => ?_⟩
  · rw [hfr i h1 h2]; exact next_div (.inr (.inr (.inr (.inr rfl))))
  · rw [hfr 1 (by omega) (by omega)]
    exact (hm 0).2
  · rw [hti i h1 (by omega), hfr (i + 1) (by omega) (by omega), htl i h2, Nat.add_sub_cancel]
    exact (hm i).2
  · rw [hfr i h1 h2, hti i h1 h2]
    obtain ⟨m, rfl⟩ : ∃ m, i = m + 1 := ⟨i - 1, by omega⟩
    rw [Nat.add_sub_cancel]
    have a1 := (hm m).1
    have a2 := (hm m).2
    have a3 := htg (m + 1) h2
    have a4 := (hpos m).1
    refine ⟨by omega, ?_, by omega⟩
    by_cases e : m + 1 = 5
    · rw [e]; exact h5
    · rw [htl (m + 1) (by omega)]; exact hup _ h2
  · obtain ⟨m, hm1, hm4⟩ := hkk f (List.mem_of_getElem? hj)
    obtain rfl : k = m + 1 := by omega
    have hap := (sec_ap hf hn h0 m).each j f (List.getElem?_eq_some_iff.1 hj).1 hj hm1
    rw [hsec j f m hj hm1 hm4, hfr (m + 1) (by omega) (by omega), hti (m + 1) (by omega) (by omega), Nat.add_sub_cancel]
    have hg := htg (m + 1) (by omega)
    have e1 : (layFrags ((m : Int) + 1) (secN p.frags base m).1 p.frags (next (secN p.frags base m).2 16)).adr = (secN p.frags base (m + 1)).1 := rfl
    have e2 : (layFrags ((m : Int) + 1) (secN p.frags base m).1 p.frags (next (secN p.frags base m).2 16)).pos = (secN p.frags base (m + 1)).2 := rfl
    rw [e1, e2] at hap
    exact ⟨hap.2.1, hap.1, by omega⟩
  · obtain ⟨m, hm1, hm4⟩ := hkk f (List.mem_of_getElem? hj)
    have hg1 : g.sect = (m : Int) + 1 := hs ▸ hm1
    have hA := sec_ap hf hn h0 m
    have e1 : (layFrags ((m : Int) + 1) (secN p.frags base m).1 p.frags (next (secN p.frags base m).2 16)).adr = (secN p.frags base (m + 1)).1 := rfl
    have hjl := (List.getElem?_eq_some_iff.1 hj).1
    have hkl := (List.getElem?_eq_some_iff.1 hk).1
    rw [hsec j f m hj hm1 hm4, hsec k g m hk hg1 hm4]
    refine ⟨fun h3 => ?_, fun h3 => ?_⟩
    · have := hA.pair (by omega) j k f g hkj hjl hj hk hm1 hg1
      rw [e1] at this
      exact this
    · have l1 := hA.seen (by omega) j f hjl hj hm1
      have l2 := hA.seen (by omega) k g hkl hk hg1
      rw [e1] at l1 l2
      refine ⟨fun ha hb => ?_, ?_⟩
      · rw [ha, hb, l2] at l1
        exact (Option.some.inj l1).symm
      · have t := hA.two _ (look_mem l1) _ (look_mem l2)
        simp only at t
        rw [long_text h3, long_text (hs ▸ h3)]
        rcases t with t | t | t
        · exact .inl (congrArg (fun z : List Int × Int × Int => z.2.2) t)
        · exact .inr (.inr t)
        · exact .inr (.inl t)
  · rw [lay_frags]; exact secN_len _ _ _
  · rw [lay_names] at hi
    rw [lay_coms, hfr 5 (by omega) (by omega), hti 5 (by omega) (by omega), ht5]
    obtain ⟨e1, e2, e3, e4, e5, e6⟩ := hcm.each i n hi
    have h45 : next (secN p.frags base 4).2 16 ≤ (secN p.frags base 5).2 := (hm 4).1
    exact ⟨e1, e2, e3, e4, by show next (secN p.frags base 4).2 16 ≤ _; omega, e6⟩
  · rw [lay_names] at hi
    rw [lay_coms, hsec j f 4 hj hs (by omega)]
    have hap := (sec_ap hf hn h0 4).each j f (List.getElem?_eq_some_iff.1 hj).1 hj hs
    have e1 : (layFrags (((4 : Nat) : Int) + 1) (secN p.frags base 4).1 p.frags (next (secN p.frags base 4).2 16)).adr = (secN p.frags base (4 + 1)).1 := rfl
    have e2 : (layFrags (((4 : Nat) : Int) + 1) (secN p.frags base 4).1 p.frags (next (secN p.frags base 4).2 16)).pos = (secN p.frags base 5).2 := rfl
    rw [e1, e2] at hap
    have hlf : long f = f.size := by unfold long lng; rw [if_pos hs]
    have := (hcm.each i n hi).2.2.2.2.1
    rw [hlf] at hap
    omega
  · rw [lay_names] at hi hn
    rw [lay_coms]
    exact hcm.rise i n hi hn
  · rw [lay_names]
    obtain ⟨F, hF⟩ := com_names p.defs (defined p) ⟨[], [], (secN p.frags base 5).2⟩
    have : (commons p (secN p.frags base 5).2).names = (defined p).filter F := by
      show (List.foldl (comStep p.defs) ⟨[], [], (secN p.frags base 5).2⟩ (defined p)).names = _
      rw [hF]; rfl
    rw [this]
    exact filter_strict (rising_strict _) _
  · have hA := sec_ap hf hn h0 2
    have e1 : (layFrags (((2 : Nat) : Int) + 1) (secN p.frags base 2).1 p.frags (next (secN p.frags base 2).2 16)).adr = (secN p.frags base (2 + 1)).1 := rfl
    have hjl := (List.getElem?_eq_some_iff.1 hj).1
    have hkl := (List.getElem?_eq_some_iff.1 hk).1
    rw [hsec j f 2 hj h3 (by omega), hsec k g 2 hk h3' (by omega)]
    have l1 := hA.seen (by omega) j f hjl hj h3
    have l2 := hA.seen (by omega) k g hkl hk h3'
    rw [e1] at l1 l2
    have t := hA.two _ (look_mem l1) _ (look_mem l2)
    simp only at t
    rcases t with t | t | t
    · exact .inl ⟨congrArg (fun z : List Int × Int × Int => z.1) t, congrArg (fun z : List Int × Int × Int => z.2.2) t⟩
    · exact .inr (.inr t)
    · exact .inr (.inl t)

end Go.Proofs.Ytpnlcmdapkhdgaa.M
