/-
  What a part that is right has: its numbers fit, its words are short; how long its text is.
-/
import Derived.Test.YtogipjjmnmahnaaDoorScrContent
namespace Go.Proofs.YtogipjjmnmahnaaDoor
open Go Go.RowKit
set_option linter.unusedVariables false

theorem within_iff {n a b : Int} : M.within n a b = true ↔ a ≤ n ∧ n ≤ b := by simp [M.within]
theorem isName_size {s : ByteArray} (h : M.isName s = true) : 1 ≤ s.size ∧ s.size ≤ 8 := by
  simp only [M.isName, Bool.and_eq_true, decide_eq_true_eq] at h
  exact h.1
theorem size_txt (s : ByteArray) : (M.txt s).length = s.size := (Lib.size_eq s).symm

structure OkRel (r : M.Rel) : Prop where
  kind : 1 ≤ r.kind ∧ r.kind ≤ 4
  pos : 0 ≤ r.pos ∧ r.pos ≤ 64
  add : -10000 ≤ r.add ∧ r.add ≤ 10000
  frag : -1 ≤ r.frag ∧ r.frag ≤ 60
  name : r.name.size ≤ 8

structure OkFrg (f : M.Frg) : Prop where
  sect : 1 ≤ f.sect ∧ f.sect ≤ 5
  align : 0 ≤ f.align ∧ f.align ≤ 8
  group : f.group.size ≤ 8
  bytes : f.bytes.length ≤ 64
  nrels : f.rels.length ≤ 8
  size : 0 ≤ f.size ∧ f.size ≤ 64
  rels : ∀ r ∈ f.rels, OkRel r

structure OkDfn (d : M.Dfn) : Prop where
  kind : 1 ≤ d.kind ∧ d.kind ≤ 3
  name : d.name.size ≤ 8
  first : 0 ≤ M.defFirst d ∧ M.defFirst d ≤ 64
  second : 0 ≤ M.defSecond d ∧ M.defSecond d ≤ 64

theorem wide_cases {k : Int} (h : (M.wide k == 0) = false) : 1 ≤ k ∧ k ≤ 4 ∧ 1 ≤ M.wide k := by
  unfold M.wide at h ⊢
  by_cases h1 : k = 1 ∨ k = 3
  · rw [if_pos h1]; omega
  · rw [if_neg h1] at h ⊢
    by_cases h2 : k = 2 ∨ k = 4
    · rw [if_pos h2]; omega
    · rw [if_neg h2] at h; cases h

theorem isAlign_le {n : Int} (h : M.isAlign n = true) : 0 ≤ n ∧ n ≤ 8 := by
  simp only [M.isAlign, Bool.or_eq_true, beq_iff_eq] at h
  omega

theorem rels_ok (len many : Int) (hl : len ≤ 64) (hm : many ≤ 60) : ∀ (rs : List M.Rel) (e : Int), 0 ≤ e → M.checkRels len many e rs = 0 → ∀ r ∈ rs, OkRel r
  | [], _, _, _, r, hr => by cases hr
  | x :: rs, e, he, h, r, hr => by
    simp only [M.checkRels] at h
    by_cases hp : M.placed x e len = true
    · rw [if_pos hp] at h
      by_cases ht : M.target x many = 0
      · rw [if_pos ht] at h
        simp only [M.placed, Bool.and_eq_true, Bool.not_eq_true', within_iff] at hp
        obtain ⟨⟨hw, hp1⟩, hp2⟩ := hp
        obtain ⟨k1, k2, k3⟩ := wide_cases hw
        rcases List.mem_cons.1 hr with rfl | hr
        · refine ⟨⟨k1, k2⟩, by omega, hp2, ?_, ?_⟩
          · unfold M.target at ht
            split at ht
            · split at ht
              · rename_i hq; rw [within_iff] at hq; omega
              · cases ht
            · split at ht
              · rename_i hq; simp only [Bool.and_eq_true, beq_iff_eq] at hq; omega
              · cases ht
          · unfold M.target at ht
            split at ht
            · rename_i hq
              have := txt_nil _ hq
              rw [← size_txt, this]; simp
            · split at ht
              · rename_i hq; simp only [Bool.and_eq_true] at hq; exact (isName_size hq.1).2
              · cases ht
        · exact rels_ok len many hl hm rs _ (by omega) h r hr
      · rw [if_neg ht] at h; exact absurd h ht
    · rw [if_neg hp] at h; cases h

theorem frag_ok {f : M.Frg} {many : Int} (hm : many ≤ 60) (h : M.checkFrag f many = 0) : OkFrg f := by
  unfold M.checkFrag at h
  split at h
  · cases h
  rename_i h1
  simp only [Bool.or_eq_true, Bool.not_eq_true', not_or, Bool.not_eq_false] at h1
  split at h
  · cases h
  rename_i h2
  split at h
  · cases h
  rename_i h3
  split at h
  · cases h
  rename_i h4
  have h5 := within_iff.1 h1.1
  have hf : M.formed f = true := by simpa using h4
  have hsz : 0 ≤ f.size ∧ f.size ≤ 64 := by
    unfold M.formed at hf
    split at hf
    · simp only [Bool.and_eq_true, within_iff] at hf; exact hf.2
    · split at hf
      · simp only [Bool.and_eq_true, beq_iff_eq] at hf; omega
      · simp only [beq_iff_eq] at hf; omega
  refine ⟨h5, isAlign_le h1.2, ?_, by omega, by omega, hsz, rels_ok _ many (by omega) hm f.rels 0 (by omega) h⟩
  by_cases he : f.group.toList.isEmpty = true
  · have := txt_nil _ he
    rw [← size_txt, this]; simp
  · by_cases hn : M.isName f.group = true
    · exact (isName_size hn).2
    · exact absurd ⟨by simpa using he, by simpa using hn⟩ h2

theorem frags_ok {many : Int} (hm : many ≤ 60) : ∀ (fs : List M.Frg), M.checkFrags many fs = 0 → ∀ f ∈ fs, M.checkFrag f many = 0
  | [], _, f, hf => by cases hf
  | x :: fs, h, f, hf => by
    simp only [M.checkFrags] at h
    by_cases hx : M.checkFrag x many = 0
    · rw [if_pos hx] at h
      rcases List.mem_cons.1 hf with rfl | hf
      · exact hx
      · exact frags_ok hm fs h f hf
    · rw [if_neg hx] at h; exact absurd h hx

theorem defs_ok (fs : List M.Frg) : ∀ (ds : List M.Dfn), M.checkDefs fs ds = 0 → ∀ d ∈ ds, M.checkDef d fs = 0
  | [], _, f, hf => by cases hf
  | x :: ds, h, f, hf => by
    simp only [M.checkDefs] at h
    by_cases hx : M.checkDef x fs = 0
    · rw [if_pos hx] at h
      rcases List.mem_cons.1 hf with rfl | hf
      · exact hx
      · exact defs_ok fs ds h f hf
    · rw [if_neg hx] at h; exact absurd h hx

theorem def_ok {d : M.Dfn} {fs : List M.Frg} (hn : fs.length ≤ 60) (hF : ∀ f ∈ fs, OkFrg f) (h : M.checkDef d fs = 0) : OkDfn d := by
  unfold M.checkDef at h
  split at h
  · cases h
  rename_i h1
  have hname := (isName_size (s := d.name) (by simpa using h1)).2
  split at h
  · rename_i h2
    unfold M.defAt at h
    split at h
    · rename_i h3
      have h3 := within_iff.1 h3
      have hlt : d.frag.toNat < fs.length := by omega
      rw [List.getElem?_eq_getElem hlt] at h
      simp only [M.inFrag] at h
      have hk : d.kind ≠ 3 := by omega
      have hOk := hF _ (List.getElem_mem hlt)
      have hlong : M.long fs[d.frag.toNat] ≤ 64 := by
        unfold M.long M.lng
        split
        · exact hOk.size.2
        · have := hOk.bytes; omega
      cases hq : M.within d.pos 0 (M.long fs[d.frag.toNat]) && d.size == 0 && d.align == 0
      · rw [hq] at h; cases h
      · simp only [Bool.and_eq_true, within_iff] at hq
        exact ⟨by omega, hname, by simp only [M.defFirst, if_neg hk]; omega, by simp only [M.defSecond, if_neg hk]; omega⟩
    · cases h
  · split at h
    · rename_i h3
      cases hq : d.frag == 0 && d.pos == 0 && M.within d.size 1 64 && M.isAlign d.align
      · rw [hq] at h; cases h
      · simp only [Bool.and_eq_true, within_iff] at hq
        have := isAlign_le hq.2
        exact ⟨by omega, hname, by simp only [M.defFirst, if_pos h3]; omega, by simp only [M.defSecond, if_pos h3]; omega⟩
    · cases h

structure OkPrt (fs : List M.Frg) (ds : List M.Dfn) : Prop where
  nfrags : fs.length ≤ 60
  ndefs : ds.length ≤ 60
  cfrags : ∀ f ∈ fs, M.checkFrag f fs.length = 0
  frags : ∀ f ∈ fs, OkFrg f
  cdefs : ∀ d ∈ ds, M.checkDef d fs = 0
  defs : ∀ d ∈ ds, OkDfn d

theorem part_ok {fs : List M.Frg} {ds : List M.Dfn} (h : M.checkPart ⟨fs, ds⟩ = 0) : OkPrt fs ds := by
  unfold M.checkPart at h
  split at h
  · cases h
  rename_i h1
  simp only [not_or, Nat.not_lt] at h1
  split at h
  · rename_i h2
    have hc := frags_ok (many := fs.length) (by omega) fs h2
    have hF : ∀ f ∈ fs, OkFrg f := fun f hf => frag_ok (many := fs.length) (by omega) (hc f hf)
    have hd := defs_ok fs ds h
    exact ⟨h1.1, h1.2, hc, hF, hd, fun d hd' => def_ok h1.1 hF (hd d hd')⟩
  · rename_i h2; exact absurd h h2

theorem line5 (a b c d e : M.Txt) : M.line [a, b, c, d, e] = a ++ 32 :: (b ++ 32 :: (c ++ 32 :: (d ++ 32 :: (e ++ [10])))) := by
  simp [M.line, Lib.join, List.intercalate]
theorem line5_len (a b c d e : M.Txt) : (M.line [a, b, c, d, e]).length = a.length + b.length + c.length + d.length + e.length + 5 := by
  rw [line5]; simp; omega

theorem itoa_len {n : Int} (h : -100000 ≤ n ∧ n ≤ 100000) : (Lib.itoa n).length ≤ 21 := Lib.itoa_length_le n (by omega) (by omega)

theorem word_len (t : List M.Txt) (ht : ∀ x ∈ t, x.length ≤ 6) (k : Int) : (M.wordOf t k).length ≤ 6 := by
  unfold M.wordOf
  rw [List.getD_eq_getElem?_getD]
  cases h : t[k.toNat]? with
  | none => simp
  | some x => exact ht x (List.mem_of_getElem? h)

theorem orDash_len (t : M.Txt) (n : Nat) (h : t.length ≤ n) : (M.orDash t).length ≤ n + 1 := by
  unfold M.orDash
  split
  · simp
  · omega

theorem relLine_len {r : M.Rel} (h : OkRel r) : (M.relLine r).length ≤ 100 := by
  unfold M.relLine
  rw [line5_len]
  have h1 := itoa_len (n := r.pos) (by have := h.pos; omega)
  have h2 := itoa_len (n := r.add) (by have := h.add; omega)
  have h3 := word_len M.kindT (by decide) r.kind
  have h4 : (M.toWord r).length ≤ 22 := by
    unfold M.toWord
    split
    · have := itoa_len (n := r.frag) (by have := h.frag; omega)
      simp; omega
    · rw [size_txt]; have := h.name; omega
  have h5 : M.wAt.length = 2 := rfl
  omega

theorem fragLine_len {f : M.Frg} (h : OkFrg f) : (M.fragLine f).length ≤ 200 := by
  unfold M.fragLine
  rw [line5_len]
  have h1 := itoa_len (n := f.align) (by have := h.align; omega)
  have h3 := word_len M.sectT (by decide) f.sect
  have h4 := orDash_len (M.txt f.group) 8 (by rw [size_txt]; exact h.group)
  have h5 : (M.content f).length ≤ 129 := by
    unfold M.content
    split
    · have := itoa_len (n := f.size) (by have := h.size; omega)
      omega
    · exact orDash_len _ 128 (by rw [hex_len]; have := h.bytes; omega)
  have h6 : M.wFrag.length = 4 := rfl
  omega

theorem defLine_len {d : M.Dfn} (h : OkDfn d) : (M.defLine d).length ≤ 100 := by
  unfold M.defLine
  rw [line5_len]
  have h1 := itoa_len (n := M.defFirst d) (by have := h.first; omega)
  have h2 := itoa_len (n := M.defSecond d) (by have := h.second; omega)
  have h3 := word_len M.defT (by decide) d.kind
  have h4 : (M.txt d.name).length ≤ 8 := by rw [size_txt]; exact h.name
  have h6 : M.wDef.length = 3 := rfl
  omega

theorem flat_take {α : Type} (d : α) (f : α → M.Txt) (l : List α) (k : Nat) (hk : k < l.length) : (l.take (k + 1)).flatMap f = (l.take k).flatMap f ++ f (l.getD k d) := by
  rw [List.take_add_one, List.getElem?_eq_getElem hk, List.flatMap_append, List.getD_eq_getElem?_getD, List.getElem?_eq_getElem hk]
  simp

end Go.Proofs.YtogipjjmnmahnaaDoor
