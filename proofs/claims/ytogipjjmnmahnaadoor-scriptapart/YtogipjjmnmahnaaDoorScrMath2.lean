/-
  What is printed is read: plain mathematics.
-/
import Derived.Test.YtogipjjmnmahnaaDoorScrMath
namespace Go.Proofs.YtogipjjmnmahnaaDoor
open Go Go.RowKit
set_option linter.unusedVariables false

/-- a word: not empty, no blank, no line feed -/
def Word (t : M.Txt) : Prop := t ≠ [] ∧ ∀ x ∈ t, x ≠ 32 ∧ x ≠ 10

theorem itoa_word (n : Int) : Word (Lib.itoa n) := ⟨itoa_ne n, fun x hx => by
  rcases itoa_letters n x hx with rfl | ⟨h1, h2⟩
  · decide
  · constructor <;> (intro h; subst h; revert h1; decide)⟩

theorem name_word {s : ByteArray} (h : M.isName s = true) : Word (M.txt s) ∧ ∀ x ∈ M.txt s, x ≠ 45 ∧ x ≠ 35 := by
  have hsz := isName_size h
  simp only [M.isName, Bool.and_eq_true] at h
  have hb : ∀ x ∈ M.txt s, M.nameByte x.toNat = true := fun x hx => List.all_eq_true.1 h.2 x hx
  have key : ∀ (c : UInt8), M.nameByte c.toNat = false → ∀ x ∈ M.txt s, x ≠ c := fun c hc x hx he => by
    subst he
    have := hb x hx
    rw [hc] at this
    cases this
  refine ⟨⟨fun he => ?_, fun x hx => ⟨key 32 (by decide) x hx, key 10 (by decide) x hx⟩⟩, fun x hx => ⟨key 45 (by decide) x hx, key 35 (by decide) x hx⟩⟩
  have := size_txt s
  rw [he] at this
  simp at this
  omega

theorem digit_word : ∀ n, n < 16 → M.digit n ≠ 32 ∧ M.digit n ≠ 10 := by decide

theorem hex_letters : ∀ (bs : List Int), (∀ b ∈ bs, 0 ≤ b ∧ b < 256) → ∀ x ∈ M.hex bs, x ≠ 32 ∧ x ≠ 10
  | [], _, x, hx => by cases hx
  | b :: l, h, x, hx => by
    have hb := h b (by simp)
    rcases List.mem_append.1 (show x ∈ M.hex1 b ++ M.hex l from hx) with hx | hx
    · simp only [M.hex1, List.mem_cons, List.not_mem_nil, or_false] at hx
      rcases hx with rfl | rfl
      · exact digit_word _ (by omega)
      · exact digit_word _ (by omega)
    · exact hex_letters l (fun y hy => h y (by simp [hy])) x hx

theorem word5 {w0 w1 w2 w3 w4 : M.Txt} (h0 : Word w0) (h1 : Word w1) (h2 : Word w2) (h3 : Word w3) (h4 : Word w4) :
    ∃ t, M.line [w0, w1, w2, w3, w4] = t ++ [10] ∧ (∀ x ∈ t, x ≠ 10) ∧ M.five (M.pieces 32 t) = some (w0, w1, w2, w3, w4) := by
  refine ⟨w0 ++ 32 :: (w1 ++ 32 :: (w2 ++ 32 :: (w3 ++ 32 :: w4))), ?_, ?_, ?_⟩
  · rw [line5]; simp
  · intro x hx
    simp only [List.mem_append, List.mem_cons] at hx
    rcases hx with hx | rfl | hx | rfl | hx | rfl | hx | rfl | hx
    · exact (h0.2 x hx).2
    · decide
    · exact (h1.2 x hx).2
    · decide
    · exact (h2.2 x hx).2
    · decide
    · exact (h3.2 x hx).2
    · decide
    · exact (h4.2 x hx).2
  · rw [pieces_app 32 w0 _ (fun x hx => (h0.2 x hx).1), pieces_app 32 w1 _ (fun x hx => (h1.2 x hx).1), pieces_app 32 w2 _ (fun x hx => (h2.2 x hx).1), pieces_app 32 w3 _ (fun x hx => (h3.2 x hx).1), pieces_word 32 w4 (fun x hx => (h4.2 x hx).1)]
    exact five_full ⟨h0.1, h1.1, h2.1, h3.1, h4.1⟩

/-- one line is read -/
theorem readL_line {w0 w1 w2 w3 w4 : M.Txt} (h0 : Word w0) (h1 : Word w1) (h2 : Word w2) (h3 : Word w3) (h4 : Word w4) {p q : M.Prt} (hq : M.addWords p w0 w1 w2 w3 w4 = some q) (k : Nat) (r : M.Txt) :
    M.readL k p (M.pieces 10 (M.line [w0, w1, w2, w3, w4] ++ r)) = M.readL (k + 1) q (M.pieces 10 r) := by
  obtain ⟨t, e1, e2, e3⟩ := word5 h0 h1 h2 h3 h4
  rw [e1, List.append_assoc, List.cons_append, List.nil_append, pieces_app 10 t r e2]
  have ha : M.addLine p t = some q := by rw [M.addLine, e3]; exact hq
  cases hp : M.pieces 10 r with
  | nil => exact absurd hp (pieces_ne 10 r)
  | cons a l => simp only [M.readL, ha]

theorem sect_find : ∀ k, 1 ≤ k → k ≤ 5 → M.find M.sectT (M.sectT.getD k []) = some k := by
  intro k h1 h2
  rcases (by omega : k = 1 ∨ k = 2 ∨ k = 3 ∨ k = 4 ∨ k = 5) with rfl | rfl | rfl | rfl | rfl <;> decide
theorem kind_find : ∀ k, 1 ≤ k → k ≤ 4 → M.find M.kindT (M.kindT.getD k []) = some k := by
  intro k h1 h2
  rcases (by omega : k = 1 ∨ k = 2 ∨ k = 3 ∨ k = 4) with rfl | rfl | rfl | rfl <;> decide
theorem def_find : ∀ k, 1 ≤ k → k ≤ 3 → M.find M.defT (M.defT.getD k []) = some k := by
  intro k h1 h2
  rcases (by omega : k = 1 ∨ k = 2 ∨ k = 3) with rfl | rfl | rfl <;> decide
theorem sect_word : ∀ k, 1 ≤ k → k ≤ 5 → Word (M.sectT.getD k []) := by
  intro k h1 h2
  rcases (by omega : k = 1 ∨ k = 2 ∨ k = 3 ∨ k = 4 ∨ k = 5) with rfl | rfl | rfl | rfl | rfl <;> exact ⟨by decide, by decide⟩
theorem kind_word : ∀ k, 1 ≤ k → k ≤ 4 → Word (M.kindT.getD k []) := by
  intro k h1 h2
  rcases (by omega : k = 1 ∨ k = 2 ∨ k = 3 ∨ k = 4) with rfl | rfl | rfl | rfl <;> exact ⟨by decide, by decide⟩
theorem def_word : ∀ k, 1 ≤ k → k ≤ 3 → Word (M.defT.getD k []) := by
  intro k h1 h2
  rcases (by omega : k = 1 ∨ k = 2 ∨ k = 3) with rfl | rfl | rfl <;> exact ⟨by decide, by decide⟩

theorem num_small {n : Int} (h : -100000 ≤ n ∧ n ≤ 100000) : M.num (Lib.itoa n) = some n := num_itoa n (by omega) (by omega)

/-- a group that may stand -/
theorem group_back {g : ByteArray} (h : g.toList.isEmpty = true ∨ M.isName g = true) : M.groupOf (M.orDash (M.txt g)) = g ∧ Word (M.orDash (M.txt g)) := by
  rcases h with h | h
  · have := txt_nil g h
    rw [this]
    refine ⟨?_, by decide, by decide⟩
    show M.groupOf [45] = g
    rw [M.groupOf, if_pos rfl, ← this, str_txt]
  · obtain ⟨h1, h2⟩ := name_word h
    rw [M.orDash, if_neg h1.1]
    refine ⟨?_, h1⟩
    rw [M.groupOf, if_neg, str_txt]
    intro he
    exact (h2 45 (by rw [he]; simp)).1 rfl

theorem content_back {bs : List Int} (h : ∀ b ∈ bs, 0 ≤ b ∧ b < 256) : M.bytesOf (M.orDash (M.hex bs)) = some bs ∧ Word (M.orDash (M.hex bs)) := by
  cases bs with
  | nil => exact ⟨by decide, by decide, by decide⟩
  | cons b l =>
    have hne : M.hex (b :: l) ≠ [] := fun he => by have := hex_len (b :: l); rw [he] at this; simp at this
    rw [M.orDash, if_neg hne]
    refine ⟨?_, hne, hex_letters _ h⟩
    rw [M.bytesOf, if_neg]
    · exact pairs_hex _ h
    · intro he
      have := hex_len (b :: l)
      rw [he] at this
      simp at this
      omega

/-- the first line of a fragment -/
theorem readL_frag {f : M.Frg} {many : Int} (hm : many ≤ 60) (hc : M.checkFrag f many = 0) (hb : ∀ b ∈ f.bytes, 0 ≤ b ∧ b < 256) (fs : List M.Frg) (k : Nat) (r : M.Txt) :
    M.readL k ⟨fs, []⟩ (M.pieces 10 (M.fragLine f ++ r)) = M.readL (k + 1) ⟨fs ++ [{ f with rels := [] }], []⟩ (M.pieces 10 r) := by
  have hO := frag_ok hm hc
  have hgr : f.group.toList.isEmpty = true ∨ M.isName f.group = true := by
    unfold M.checkFrag at hc
    split at hc
    · cases hc
    split at hc
    · cases hc
    rename_i h2
    cases h3 : f.group.toList.isEmpty
    · cases h4 : M.isName f.group
      · exact absurd ⟨h3, h4⟩ h2
      · exact .inr rfl
    · exact .inl rfl
  have hfo : M.formed f = true := by
    unfold M.checkFrag at hc
    split at hc
    · cases hc
    split at hc
    · cases hc
    split at hc
    · cases hc
    split at hc
    · cases hc
    rename_i h4
    simpa using h4
  obtain ⟨g1, g2⟩ := group_back hgr
  obtain ⟨c1, c2⟩ := content_back hb
  have hs := hO.sect
  obtain ⟨m, hm'⟩ := Int.eq_ofNat_of_zero_le (show 0 ≤ f.sect by omega)
  have ewd : M.wordOf M.sectT f.sect = M.sectT.getD m [] := by rw [M.wordOf, hm', Int.toNat_natCast]
  have hm1 : 1 ≤ m := by omega
  have hm5 : m ≤ 5 := by omega
  unfold M.fragLine
  rw [ewd]
  by_cases h5 : f.sect = 5
  · have hm5' : m = 5 := by omega
    subst hm5'
    have hz : M.content f = Lib.itoa f.size := by rw [M.content, if_pos h5]
    rw [hz]
    refine readL_line ⟨by decide, by decide⟩ (sect_word 5 hm1 hm5) (itoa_word _) g2 (itoa_word _) ?_ k r
    have hbs : f.bytes = [] := by
      unfold M.formed at hfo
      rw [if_pos h5] at hfo
      simp only [Bool.and_eq_true, beq_iff_eq] at hfo
      exact List.length_eq_zero_iff.1 hfo.1.1
    rw [M.addWords, if_pos rfl, if_pos rfl, M.addFrag, sect_find 5 hm1 hm5, num_small (by have := hO.align; omega)]
    simp only [if_true]
    rw [num_small (by have := hO.size; omega), g1]
    simp only [Option.map_some]
    rw [← hbs, ← h5]
  · have hm5' : ¬ m = 5 := by omega
    have hz : M.content f = M.orDash (M.hex f.bytes) := by rw [M.content, if_neg h5]
    rw [hz]
    refine readL_line ⟨by decide, by decide⟩ (sect_word m hm1 hm5) (itoa_word _) g2 c2 ?_ k r
    have hsz : f.size = 0 := by
      unfold M.formed at hfo
      rw [if_neg h5] at hfo
      split at hfo
      · simp only [Bool.and_eq_true, beq_iff_eq] at hfo; exact hfo.1
      · simpa using hfo
    rw [M.addWords, if_pos rfl, if_pos rfl, M.addFrag, sect_find m hm1 hm5, num_small (by have := hO.align; omega)]
    simp only [if_neg hm5']
    rw [c1, g1]
    simp only [Option.map_some]
    rw [← hsz, ← hm']

/-- what a place leads to is read back -/
theorem lead_back {r : M.Rel} {many : Int} (hO : OkRel r) (ht : M.target r many = 0) : M.leads (M.toWord r) = some (r.name, r.frag) ∧ Word (M.toWord r) := by
  unfold M.target at ht
  split at ht
  · rename_i he
    have hn := txt_nil r.name he
    have hr : r.name = M.str [] := by rw [← hn, str_txt]
    rw [M.toWord, if_pos hn]
    refine ⟨?_, by simp, fun x hx => ?_⟩
    · rw [M.leads, if_pos rfl, num_small (by have := hO.frag; omega), hr]; rfl
    · rcases List.mem_cons.1 hx with rfl | hx
      · decide
      · exact (itoa_word _).2 x hx
  · split at ht
    · rename_i h2
      simp only [Bool.and_eq_true, beq_iff_eq] at h2
      obtain ⟨h3, h4⟩ := name_word h2.1
      rw [M.toWord, if_neg h3.1]
      refine ⟨?_, h3⟩
      cases hx : M.txt r.name with
      | nil => exact absurd hx h3.1
      | cons c l =>
        have hc : c ≠ 35 := (h4 c (by rw [hx]; simp)).2
        rw [M.leads, if_neg hc, ← hx, str_txt, h2.2]
    · cases ht

theorem checkRels_target {len many : Int} : ∀ (rs : List M.Rel) (e : Int), M.checkRels len many e rs = 0 → ∀ r ∈ rs, M.target r many = 0
  | [], _, _, r, hr => by cases hr
  | x :: rs, e, h, r, hr => by
    simp only [M.checkRels] at h
    by_cases hp : M.placed x e len = true
    · rw [if_pos hp] at h
      by_cases ht : M.target x many = 0
      · rw [if_pos ht] at h
        rcases List.mem_cons.1 hr with rfl | hr
        · exact ht
        · exact checkRels_target rs _ h r hr
      · rw [if_neg ht] at h; exact absurd h ht
    · rw [if_neg hp] at h; cases h

theorem readL_rels {many : Int} (f : M.Frg) (fs : List M.Frg) : ∀ (rs done : List M.Rel), (∀ r ∈ rs, OkRel r ∧ M.target r many = 0) → ∀ (k : Nat) (t : M.Txt),
    ∃ k', M.readL k ⟨fs ++ [{ f with rels := done }], []⟩ (M.pieces 10 (M.relsText rs ++ t)) = M.readL k' ⟨fs ++ [{ f with rels := done ++ rs }], []⟩ (M.pieces 10 t)
  | [], done, _, k, t => ⟨k, by simp [M.relsText]⟩
  | r :: rs, done, h, k, t => by
    obtain ⟨hO, ht⟩ := h r (by simp)
    obtain ⟨l1, l2⟩ := lead_back hO ht
    have hk := hO.kind
    obtain ⟨m, hm⟩ := Int.eq_ofNat_of_zero_le (show 0 ≤ r.kind by omega)
    have ewd : M.wordOf M.kindT r.kind = M.kindT.getD m [] := by rw [M.wordOf, hm, Int.toNat_natCast]
    have hstep : M.readL k ⟨fs ++ [{ f with rels := done }], []⟩ (M.pieces 10 (M.relLine r ++ (M.relsText rs ++ t))) = M.readL (k + 1) ⟨fs ++ [{ f with rels := done ++ [r] }], []⟩ (M.pieces 10 (M.relsText rs ++ t)) := by
      unfold M.relLine
      rw [ewd]
      refine readL_line ⟨by decide, by decide⟩ (itoa_word _) (kind_word m (by omega) (by omega)) l2 (itoa_word _) ?_ k _
      rw [M.addWords, if_neg (by decide), if_pos rfl, if_pos rfl, M.addPlace, if_neg (by simp), M.rel4, num_small (by have := hO.pos; omega), kind_find m (by omega) (by omega), l1, num_small (by have := hO.add; omega)]
      simp only [Option.map_some, onLast_append, M.addRel]
      rw [← hm]
    obtain ⟨k', hk'⟩ := readL_rels f fs rs (done ++ [r]) (fun x hx => h x (by simp [hx])) (k + 1) t
    refine ⟨k', ?_⟩
    have e : M.relsText (r :: rs) ++ t = M.relLine r ++ (M.relsText rs ++ t) := by simp [M.relsText]
    rw [e, hstep, hk']
    simp

theorem readL_frags {many : Int} (hm : many ≤ 60) : ∀ (fs done : List M.Frg), (∀ f ∈ fs, M.checkFrag f many = 0 ∧ ∀ b ∈ f.bytes, 0 ≤ b ∧ b < 256) → ∀ (k : Nat) (t : M.Txt),
    ∃ k', M.readL k ⟨done, []⟩ (M.pieces 10 (M.fragsText fs ++ t)) = M.readL k' ⟨done ++ fs, []⟩ (M.pieces 10 t)
  | [], done, _, k, t => ⟨k, by simp [M.fragsText]⟩
  | f :: fs, done, h, k, t => by
    obtain ⟨hc, hb⟩ := h f (by simp)
    have hO := frag_ok hm hc
    have htg : ∀ r ∈ f.rels, OkRel r ∧ M.target r many = 0 := fun r hr => ⟨hO.rels r hr, by
      unfold M.checkFrag at hc
      split at hc
      · cases hc
      split at hc
      · cases hc
      split at hc
      · cases hc
      split at hc
      · cases hc
      exact checkRels_target _ _ hc r hr⟩
    have e : M.fragsText (f :: fs) ++ t = M.fragLine f ++ (M.relsText f.rels ++ (M.fragsText fs ++ t)) := by simp [M.fragsText, M.fragText]
    rw [e, readL_frag hm hc hb]
    obtain ⟨k1, h1⟩ := readL_rels f done f.rels [] htg (k + 1) (M.fragsText fs ++ t)
    rw [h1, List.nil_append]
    obtain ⟨k2, h2⟩ := readL_frags hm fs (done ++ [f]) (fun x hx => h x (by simp [hx])) k1 t
    refine ⟨k2, ?_⟩
    rw [h2]
    simp

theorem def_back {d : M.Dfn} {fs : List M.Frg} (hO : OkDfn d) (h : M.checkDef d fs = 0) : M.isName d.name = true ∧ M.def4 (M.txt d.name) (M.wordOf M.defT d.kind) (Lib.itoa (M.defFirst d)) (Lib.itoa (M.defSecond d)) = some d := by
  have hk := hO.kind
  obtain ⟨m, hm⟩ := Int.eq_ofNat_of_zero_le (show 0 ≤ d.kind by omega)
  have ewd : M.wordOf M.defT d.kind = M.defT.getD m [] := by rw [M.wordOf, hm, Int.toNat_natCast]
  have hf := num_small (n := M.defFirst d) (by have := hO.first; omega)
  have hs := num_small (n := M.defSecond d) (by have := hO.second; omega)
  unfold M.checkDef at h
  split at h
  · cases h
  rename_i h1
  refine ⟨by simpa using h1, ?_⟩
  rw [M.def4, ewd, def_find m (by omega) (by omega), hf, hs]
  simp only [Option.some.injEq]
  obtain ⟨name, kind, frag, pos, size, align⟩ := d
  simp only at *
  split at h
  · rename_i h2
    have h3 : ¬ m = 3 := by omega
    have hk3 : ¬ (kind = 3) := by omega
    rw [if_neg h3]
    unfold M.defAt at h
    split at h
    · rename_i hw
      have hw := within_iff.1 hw
      have hlt : frag.toNat < fs.length := by omega
      rw [List.getElem?_eq_getElem hlt] at h
      simp only [M.inFrag] at h
      cases hq : M.within pos 0 (M.long fs[frag.toNat]) && size == 0 && align == 0
      · rw [hq] at h; cases h
      · simp only [Bool.and_eq_true, beq_iff_eq] at hq
        have e1 : M.defFirst ⟨name, kind, frag, pos, size, align⟩ = frag := if_neg hk3
        have e2 : M.defSecond ⟨name, kind, frag, pos, size, align⟩ = pos := if_neg hk3
        rw [e1, e2, str_txt, hq.1.2, hq.2, hm]
    · cases h
  · split at h
    · rename_i h3
      have h4 : m = 3 := by omega
      rw [if_pos h4]
      cases hq : frag == 0 && pos == 0 && M.within size 1 64 && M.isAlign align
      · rw [hq] at h; cases h
      · simp only [Bool.and_eq_true, beq_iff_eq] at hq
        have e1 : M.defFirst ⟨name, kind, frag, pos, size, align⟩ = size := if_pos h3
        have e2 : M.defSecond ⟨name, kind, frag, pos, size, align⟩ = align := if_pos h3
        rw [e1, e2, str_txt, hq.1.1.1, hq.1.1.2, h3]
    · cases h

theorem readL_defs (fs : List M.Frg) : ∀ (ds done : List M.Dfn), (∀ d ∈ ds, OkDfn d ∧ M.checkDef d fs = 0) → ∀ (k : Nat) (t : M.Txt),
    ∃ k', M.readL k ⟨fs, done⟩ (M.pieces 10 (M.defsText ds ++ t)) = M.readL k' ⟨fs, done ++ ds⟩ (M.pieces 10 t)
  | [], done, _, k, t => ⟨k, by simp [M.defsText]⟩
  | d :: ds, done, h, k, t => by
    obtain ⟨hO, hc⟩ := h d (by simp)
    obtain ⟨h1, h2⟩ := def_back hO hc
    have hk := hO.kind
    obtain ⟨m, hm⟩ := Int.eq_ofNat_of_zero_le (show 0 ≤ d.kind by omega)
    have ewd : M.wordOf M.defT d.kind = M.defT.getD m [] := by rw [M.wordOf, hm, Int.toNat_natCast]
    have hstep : M.readL k ⟨fs, done⟩ (M.pieces 10 (M.defLine d ++ (M.defsText ds ++ t))) = M.readL (k + 1) ⟨fs, done ++ [d]⟩ (M.pieces 10 (M.defsText ds ++ t)) := by
      unfold M.defLine
      refine readL_line ⟨by decide, by decide⟩ (name_word h1).1 (by rw [ewd]; exact def_word m (by omega) (by omega)) (itoa_word _) (itoa_word _) ?_ k _
      rw [M.addWords, if_neg (by decide), if_neg (by decide), if_pos rfl, M.addDef, h2]
      rfl
    obtain ⟨k', hk'⟩ := readL_defs fs ds (done ++ [d]) (fun x hx => h x (by simp [hx])) (k + 1) t
    refine ⟨k', ?_⟩
    have e : M.defsText (d :: ds) ++ t = M.defLine d ++ (M.defsText ds ++ t) := by simp [M.defsText]
    rw [e, hstep, hk']
    simp

theorem read_print {fs : List M.Frg} {ds : List M.Dfn} (h : M.checkPart ⟨fs, ds⟩ = 0) (hb : ∀ f ∈ fs, ∀ b ∈ f.bytes, 0 ≤ b ∧ b < 256) : M.read (M.print ⟨fs, ds⟩) = (⟨fs, ds⟩, 0, 0) := by
  have hO := part_ok h
  have hn := hO.nfrags
  obtain ⟨k1, h1⟩ := readL_frags (many := fs.length) (by omega) fs [] (fun f hf => ⟨hO.cfrags f hf, hb f hf⟩) 0 (M.defsText ds)
  obtain ⟨k2, h2⟩ := readL_defs fs ds [] (fun d hd => ⟨hO.defs d hd, hO.cdefs d hd⟩) k1 []
  rw [List.append_nil] at h2
  show M.readL 0 ⟨[], []⟩ (M.pieces 10 (M.fragsText fs ++ M.defsText ds)) = _
  rw [h1, List.nil_append, h2, List.nil_append]
  simp only [M.pieces, M.readL, if_true, M.fin]
  rw [if_pos h]

end Go.Proofs.YtogipjjmnmahnaaDoor
