/-
  What is printed is read, and what is read is printed as it was: plain mathematics.
-/
import Derived.Test.YtogipjjmnmahnaaDoorScrParse
namespace Go.Proofs.YtogipjjmnmahnaaDoor
open Go Go.RowKit
set_option linter.unusedVariables false

/-! ### what is read is printed as it was -/

theorem cutAt_eq {c : UInt8} : ∀ {l : M.Txt} {x : M.Txt × M.Txt}, M.cutAt c l = some x → l = x.1 ++ c :: x.2
  | [], x, h => by simp [M.cutAt] at h
  | b :: l, x, h => by
    simp only [M.cutAt] at h
    by_cases hb : b = c
    · rw [if_pos hb] at h
      cases h
      simp [hb]
    · rw [if_neg hb] at h
      obtain ⟨y, hy, rfl⟩ := Option.map_eq_some_iff.1 h
      rw [cutAt_eq hy]
      rfl

theorem words_line {t w0 w1 w2 w3 w4 : M.Txt} (h5 : M.five (M.pieces 32 t) = some (w0, w1, w2, w3, w4)) : M.line [w0, w1, w2, w3, w4] = t ++ [10] := by
  have h := (five_some h5).1
  have hj := join_pieces 32 t
  rw [h] at hj
  rw [M.line, hj]

theorem find_word {t : List M.Txt} {w : M.Txt} {k : Nat} (h : M.find t w = some k) : M.wordOf t (k : Int) = w := by
  rw [M.wordOf, Int.toNat_natCast]; exact (find_lt h).2

theorem group_print {w : M.Txt} (h : w ≠ []) : M.orDash (M.txt (M.groupOf w)) = w := by
  unfold M.groupOf
  split
  · rename_i he; rw [txt_str, M.orDash, if_pos rfl, he]
  · rw [txt_str, M.orDash, if_neg h]

theorem content_print {w : M.Txt} {bs : List Int} (hw : w ≠ []) (h : M.bytesOf w = some bs) : M.orDash (M.hex bs) = w := by
  unfold M.bytesOf at h
  split at h
  · rename_i he; cases h; rw [he]; rfl
  · have := (hex_pairs w bs h).1
    rw [this, M.orDash, if_neg hw]

theorem lead_print {w : M.Txt} {x : ByteArray × Int} (hw : w ≠ []) (h : M.leads w = some x) : (if M.txt x.1 = [] then 35 :: Lib.itoa x.2 else M.txt x.1) = w := by
  cases w with
  | nil => exact absurd rfl hw
  | cons c r =>
    simp only [M.leads] at h
    split at h
    · rename_i hc
      obtain ⟨n, hn, rfl⟩ := Option.map_eq_some_iff.1 h
      simp only [txt_str, if_true]
      rw [(itoa_num hn).1, hc]
    · cases h
      rw [txt_str, if_neg hw]

theorem frags_app (fs : List M.Frg) (f : M.Frg) : M.fragsText (fs ++ [f]) = M.fragsText fs ++ M.fragText f := by simp [M.fragsText]
theorem rels_app (rs : List M.Rel) (r : M.Rel) : M.relsText (rs ++ [r]) = M.relsText rs ++ M.relLine r := by simp [M.relsText]
theorem defs_app (ds : List M.Dfn) (d : M.Dfn) : M.defsText (ds ++ [d]) = M.defsText ds ++ M.defLine d := by simp [M.defsText]

theorem line_print {p q : M.Prt} {t : M.Txt} (h : M.addLine p t = some q) : M.print q = M.print p ++ (t ++ [10]) := by
  unfold M.addLine at h
  split at h
  · rename_i w0 w1 w2 w3 w4 h5
    have hl := words_line h5
    obtain ⟨_, n0, n1, n2, n3, n4⟩ := five_some h5
    unfold M.addWords at h
    split at h
    · rename_i hw0
      split at h
      · rename_i hd
        unfold M.addFrag at h
        split at h
        · rename_i k a hf ha
          split at h
          · rename_i hk
            obtain ⟨n, hn, rfl⟩ := Option.map_eq_some_iff.1 h
            subst hk
            have e : M.fragLine ⟨5, a, M.groupOf w3, [], n, []⟩ = t ++ [10] := by
              rw [← hl, hw0]
              have := find_word hf
              simp only [M.fragLine, M.content, if_true, group_print n3, (itoa_num ha).1, (itoa_num hn).1]
              rw [show M.wordOf M.sectT 5 = w1 from this]
            simp only [M.print, frags_app, hd, M.fragText, M.relsText, List.flatMap_nil, List.append_nil, M.defsText, e]
          · rename_i hk
            obtain ⟨bs, hbs, rfl⟩ := Option.map_eq_some_iff.1 h
            have e : M.fragLine ⟨k, a, M.groupOf w3, bs, 0, []⟩ = t ++ [10] := by
              rw [← hl, hw0]
              have := find_word hf
              have hk5 : ¬ ((k : Int) = 5) := by omega
              simp only [M.fragLine, M.content, if_neg hk5, group_print n3, (itoa_num ha).1, content_print n4 hbs, this]
            simp only [M.print, frags_app, hd, M.fragText, M.relsText, List.flatMap_nil, List.append_nil, M.defsText, e]
        · cases h
      · cases h
    · split at h
      · rename_i hw0
        split at h
        · rename_i hd
          unfold M.addPlace at h
          split at h
          · cases h
          · rename_i hne
            obtain ⟨r, hr, rfl⟩ := Option.map_eq_some_iff.1 h
            have e : M.relLine r = t ++ [10] := by
              unfold M.rel4 at hr
              split at hr
              · rename_i x k nm fr b h1 h2 h3 h4
                cases hr
                rw [← hl, hw0]
                have := lead_print n3 h3
                simp only at this
                simp only [M.relLine, M.toWord, (itoa_num h1).1, find_word h2, this, (itoa_num h4).1]
              · cases hr
            rcases List.eq_nil_or_concat p.frags with he | ⟨init, l, he⟩
            · exact absurd he hne
            · rw [List.concat_eq_append] at he
              simp only [M.print, he, onLast_append, frags_app, hd, M.fragText, M.addRel, rels_app, M.defsText, List.flatMap_nil, List.append_nil, e]
              simp [M.fragLine, M.content]
        · cases h
      · split at h
        · rename_i hw0
          unfold M.addDef at h
          obtain ⟨d, hd, rfl⟩ := Option.map_eq_some_iff.1 h
          have e : M.defLine d = t ++ [10] := by
            unfold M.def4 at hd
            split at hd
            · rename_i k a b h1 h2 h3
              cases hd
              rw [← hl, hw0]
              have hw := find_word h1
              by_cases hk : k = 3
              · subst hk
                rw [if_pos rfl]
                simp only [M.defLine, M.defFirst, M.defSecond, if_true, txt_str, (itoa_num h2).1, (itoa_num h3).1]
                rw [show M.wordOf M.defT 3 = w2 from hw]
              · have hk3 : ¬ ((k : Int) = 3) := by omega
                rw [if_neg hk]
                simp only [M.defLine, M.defFirst, M.defSecond, if_neg hk3, txt_str, (itoa_num h2).1, (itoa_num h3).1, hw]
            · cases hd
          simp only [M.print, defs_app, e, List.append_assoc]
        · cases h
  · cases h

theorem print_readL : ∀ (n : Nat) (r : M.Txt), r.length ≤ n → ∀ (k : Nat) (p q : M.Prt) (j : Nat), M.readL k p (M.pieces 10 r) = (q, j, 0) → M.print q = M.print p ++ r ∧ M.checkPart q = 0 ∧ j = 0 := by
  intro n
  induction n with
  | zero =>
    intro r hr k p q j h
    have : r = [] := List.length_eq_zero_iff.1 (by omega)
    subst this
    simp only [M.pieces, M.readL, if_true, M.fin] at h
    split at h
    · rename_i hc; cases h; exact ⟨by simp, hc, rfl⟩
    · rename_i hc; simp only [Prod.mk.injEq] at h; exact absurd h.2.2 hc
  | succ n ih =>
    intro r hr k p q j h
    cases hc : M.cutAt 10 r with
    | none =>
      rw [pieces_none hc] at h
      simp only [M.readL] at h
      split at h
      · rename_i he
        subst he
        simp only [M.fin] at h
        split at h
        · rename_i hc; cases h; exact ⟨by simp, hc, rfl⟩
        · rename_i hc; simp only [Prod.mk.injEq] at h; exact absurd h.2.2 hc
      · simp at h
    | some xy =>
      obtain ⟨x, y⟩ := xy
      have hl := cutAt_len hc
      simp only at hl
      rw [pieces_some hc] at h
      have h2 : (match M.addLine p x with | some q => M.readL (k + 1) q (M.pieces 10 y) | none => (M.nil, k, 1)) = (q, j, 0) := by
        cases hp : M.pieces 10 y with
        | nil => exact absurd hp (pieces_ne 10 y)
        | cons a l => simp only [hp, M.readL] at h; exact h
      cases ha : M.addLine p x with
      | none => rw [ha] at h2; simp at h2
      | some p' =>
        rw [ha] at h2
        obtain ⟨h3, h4, h5⟩ := ih y (by omega) _ _ _ _ h2
        refine ⟨?_, h4, h5⟩
        have e := cutAt_eq hc
        simp only at e
        rw [h3, line_print ha, e]
        simp

theorem print_read {s : M.Txt} {q : M.Prt} {j : Nat} (h : M.read s = (q, j, 0)) : M.print q = s ∧ M.checkPart q = 0 ∧ j = 0 := by
  obtain ⟨h1, h2, h3⟩ := print_readL s.length s (Nat.le_refl _) 0 M.nil q j h
  exact ⟨by rw [h1]; rfl, h2, h3⟩

end Go.Proofs.YtogipjjmnmahnaaDoor
