/-
  Plain facts on texts: cut at a letter, in pieces; numerals and digits there and back.
-/
import Derived.Test.YtogipjjmnmahnaaDoorScrModel
import Derived.Lib.IndexMore
import Derived.Lib.AtoiAllCases
namespace Go.Proofs.YtogipjjmnmahnaaDoor
open Go

theorem cut_one (c : UInt8) : ∀ (l : M.Txt), Lib.cut l [c] = match M.cutAt c l with | some x => (x.1, x.2, true) | none => (l, [], false)
  | [] => by simp [Lib.cut, M.cutAt, Lib.index_one, Lib.indexByte]
  | b :: l => by
    have ih := cut_one c l
    unfold Lib.cut at ih ⊢
    simp only [Lib.index_one, M.cutAt, Lib.indexByte] at ih ⊢
    by_cases h : b = c
    · simp [h]
    · have hb : (b == c) = false := by simpa using h
      rw [hb, if_neg h]
      simp only [Bool.false_eq_true, if_false]
      cases hc : M.cutAt c l with
      | none =>
        rw [hc] at ih
        simp only at ih
        by_cases h0 : 0 ≤ Lib.indexByte l c
        · rw [if_pos h0] at ih; simp at ih
        · have := Lib.indexByte_ge l c
          have e : Lib.indexByte l c = -1 := by omega
          simp [e]
      | some x =>
        rw [hc] at ih
        simp only at ih
        by_cases h0 : 0 ≤ Lib.indexByte l c
        · rw [if_pos h0] at ih
          have e : (Lib.indexByte l c == -1) = false := by rw [beq_eq_false_iff_ne]; omega
          rw [e]
          simp only [Bool.false_eq_true, if_false, Option.map_some]
          rw [if_pos (by omega)]
          have e2 : (Lib.indexByte l c + 1).toNat = (Lib.indexByte l c).toNat + 1 := by omega
          rw [e2]
          simp only [List.take_succ_cons, List.length_cons, List.length_nil, Nat.zero_add, List.drop_succ_cons]
          simp only [Prod.mk.injEq, List.length_cons, List.length_nil, Nat.zero_add] at ih
          rw [ih.1, ih.2.1]
        · rw [if_neg h0] at ih; simp at ih

theorem pieces_some {c : UInt8} : ∀ {l : M.Txt} {x : M.Txt × M.Txt}, M.cutAt c l = some x → M.pieces c l = x.1 :: M.pieces c x.2
  | [], x, h => by simp [M.cutAt] at h
  | b :: l, x, h => by
    simp only [M.cutAt] at h
    by_cases hb : b = c
    · rw [if_pos hb] at h
      cases h
      simp [M.pieces, hb]
    · rw [if_neg hb] at h
      obtain ⟨y, hy, rfl⟩ := Option.map_eq_some_iff.1 h
      rw [M.pieces, if_neg hb, pieces_some hy]
      rfl

theorem pieces_none {c : UInt8} : ∀ {l : M.Txt}, M.cutAt c l = none → M.pieces c l = [l]
  | [], _ => rfl
  | b :: l, h => by
    simp only [M.cutAt] at h
    by_cases hb : b = c
    · rw [if_pos hb] at h; cases h
    · rw [if_neg hb] at h
      rw [M.pieces, if_neg hb, pieces_none (by simpa using h)]
      rfl

theorem cutAt_len {c : UInt8} : ∀ {l : M.Txt} {x : M.Txt × M.Txt}, M.cutAt c l = some x → x.1.length + x.2.length + 1 = l.length
  | [], x, h => by simp [M.cutAt] at h
  | b :: l, x, h => by
    simp only [M.cutAt] at h
    by_cases hb : b = c
    · rw [if_pos hb] at h
      cases h
      simp
    · rw [if_neg hb] at h
      obtain ⟨y, hy, rfl⟩ := Option.map_eq_some_iff.1 h
      have := cutAt_len hy
      simp only [List.length_cons]
      omega

theorem pieces_ne (c : UInt8) (l : M.Txt) : M.pieces c l ≠ [] := by
  cases h : M.cutAt c l with
  | none => rw [pieces_none h]; simp
  | some x => rw [pieces_some h]; simp

/-- a piece, then c, then the rest -/
theorem pieces_app (c : UInt8) : ∀ (a r : M.Txt), (∀ x ∈ a, x ≠ c) → M.pieces c (a ++ c :: r) = a :: M.pieces c r
  | [], r, _ => by simp [M.pieces]
  | b :: a, r, h => by
    have hb : b ≠ c := h b (by simp)
    rw [List.cons_append, M.pieces, if_neg hb, pieces_app c a r (fun x hx => h x (by simp [hx]))]
    rfl

theorem pieces_word (c : UInt8) : ∀ (a : M.Txt), (∀ x ∈ a, x ≠ c) → M.pieces c a = [a]
  | [], _ => rfl
  | b :: a, h => by
    rw [M.pieces, if_neg (h b (by simp)), pieces_word c a (fun x hx => h x (by simp [hx]))]
    rfl

/-- the pieces' join is the text -/
theorem join_pieces (c : UInt8) : ∀ (l : M.Txt), Lib.join (M.pieces c l) [c] = l
  | [] => rfl
  | b :: l => by
    have ih := join_pieces c l
    rw [M.pieces]
    by_cases hb : b = c
    · rw [if_pos hb]
      cases hp : M.pieces c l with
      | nil => exact absurd hp (pieces_ne c l)
      | cons x r =>
        rw [hp] at ih
        rw [Lib.join] at ih ⊢
        rw [← ih, hb]
        simp [List.intercalate]
    · rw [if_neg hb]
      cases hp : M.pieces c l with
      | nil => exact absurd hp (pieces_ne c l)
      | cons x r =>
        rw [hp] at ih
        rw [← ih]
        cases r with
        | nil => simp [M.push, Lib.join, List.intercalate]
        | cons y r => simp [M.push, Lib.join, List.intercalate]

theorem no_sep (c : UInt8) : ∀ (l : M.Txt), ∀ x ∈ M.pieces c l, c ∉ x
  | [], x, h => by simp [M.pieces] at h; subst h; simp
  | b :: l, x, h => by
    have ih := no_sep c l
    rw [M.pieces] at h
    by_cases hb : b = c
    · rw [if_pos hb] at h
      rcases List.mem_cons.1 h with rfl | h
      · simp
      · exact ih x h
    · rw [if_neg hb] at h
      cases hp : M.pieces c l with
      | nil => exact absurd hp (pieces_ne c l)
      | cons y r =>
        rw [hp] at h ih
        simp only [M.push] at h
        rcases List.mem_cons.1 h with rfl | h
        · have := ih y (by simp)
          intro hc
          rcases List.mem_cons.1 hc with hc | hc
          · exact hb hc.symm
          · exact this hc
        · exact ih x (by simp [h])

/-! ### numerals -/

theorem decDigits_ne (u : Nat) : Lib.decDigits u ≠ [] := by
  rw [Lib.decDigits]; split <;> simp

theorem decDigits_digit (u : Nat) : ∀ x ∈ Lib.decDigits u, 48 ≤ x.toNat ∧ x.toNat ≤ 57 := by
  induction u using Nat.strongRecOn with
  | _ u ih =>
    rw [Lib.decDigits]
    split
    · intro x hx
      simp only [List.mem_singleton] at hx
      subst hx
      have : (48 + u) % 256 = 48 + u := Nat.mod_eq_of_lt (by omega)
      simp only [UInt8.toNat_ofNat']
      omega
    · intro x hx
      rcases List.mem_append.1 hx with hx | hx
      · exact ih (u / 10) (by omega) x hx
      · simp only [List.mem_singleton] at hx
        subst hx
        simp only [UInt8.toNat_ofNat']
        omega

theorem itoa_letters (n : Int) : ∀ x ∈ Lib.itoa n, x = 45 ∨ (48 ≤ x.toNat ∧ x.toNat ≤ 57) := by
  unfold Lib.itoa
  split
  · intro x hx
    rcases List.mem_cons.1 hx with rfl | hx
    · exact .inl rfl
    · exact .inr (decDigits_digit _ x hx)
  · exact fun x hx => .inr (decDigits_digit _ x hx)

theorem itoa_ne (n : Int) : Lib.itoa n ≠ [] := by
  unfold Lib.itoa
  split
  · simp
  · exact decDigits_ne _

theorem parse_dec : ∀ (u : Nat), u < 18446744073709551616 → ∀ (l : M.Txt), Lib.parseUint10 0 (Lib.decDigits u ++ l) = Lib.parseUint10 u l := by
  intro u
  induction u using Nat.strongRecOn with
  | _ u ih =>
    intro hu l
    rw [Lib.decDigits]
    split
    · rename_i h
      have e : (UInt8.ofNat (48 + u)).toNat = 48 + u := by simp only [UInt8.toNat_ofNat']; omega
      simp only [List.cons_append, List.nil_append, Lib.parseUint10, e]
      rw [if_pos ⟨by omega, by omega⟩, if_neg (by omega), if_neg (by omega)]
      congr 1; omega
    · rename_i h
      rw [List.append_assoc, ih (u / 10) (by omega) (by omega)]
      have e : (UInt8.ofNat (48 + u % 10)).toNat = 48 + u % 10 := by simp only [UInt8.toNat_ofNat']; omega
      simp only [List.cons_append, List.nil_append, Lib.parseUint10, e]
      rw [if_pos ⟨by omega, by omega⟩, if_neg (by omega), if_neg (by omega)]
      congr 1; omega

theorem mag_dec (u : Nat) (hu : u < 18446744073709551616) : Lib.parseMag (Lib.decDigits u) = .ok u := by
  unfold Lib.parseMag
  rw [if_neg (decDigits_ne u)]
  have := parse_dec u hu []
  rw [List.append_nil] at this
  rw [this]; rfl

theorem atoi_itoa (n : Int) (h0 : -9223372036854775808 ≤ n) (h1 : n ≤ 9223372036854775807) : Lib.atoiAll (Lib.itoa n) = .ok n := by
  unfold Lib.itoa
  split
  · rename_i h
    simp only [Lib.atoiAll]
    have e : (45 : UInt8).toNat = 45 := rfl
    simp only [e, or_true, if_true]
    rw [mag_dec _ (by omega)]
    simp only [not_true, false_and, if_false, true_and]
    rw [if_neg (by omega)]
    congr 1; omega
  · rename_i h
    cases hd : Lib.decDigits n.toNat with
    | nil => exact absurd hd (decDigits_ne _)
    | cons c r =>
      have hc := decDigits_digit n.toNat c (by rw [hd]; simp)
      simp only [Lib.atoiAll]
      rw [if_neg (by omega), ← hd, mag_dec _ (by omega)]
      have h45 : ¬ (c.toNat = 45) := by omega
      simp only [h45, not_false_eq_true, true_and, false_and, if_false]
      rw [if_neg (by omega)]
      congr 1; omega

theorem num_itoa (n : Int) (h0 : -9223372036854775808 ≤ n) (h1 : n ≤ 9223372036854775807) : M.num (Lib.itoa n) = some n := by
  unfold M.num
  rw [atoi_itoa n h0 h1]
  simp

theorem itoa_num {t : M.Txt} {n : Int} (h : M.num t = some n) : Lib.itoa n = t ∧ -9223372036854775808 ≤ n ∧ n ≤ 9223372036854775807 := by
  unfold M.num at h
  split at h
  · rename_i v hv
    split at h
    · rename_i he
      cases h
      exact ⟨he, Lib.atoiAll_bounds hv⟩
    · cases h
  · cases h

/-! ### digits -/

theorem nib_digit : ∀ (n : Nat), n < 16 → M.nib (M.digit n) = some n := by decide
theorem digit_nib {c : UInt8} {n : Nat} (h : M.nib c = some n) : n < 16 ∧ M.digit n = c := by
  unfold M.nib at h
  rw [List.idxOf?, List.findIdx?_eq_some_iff_getElem] at h
  obtain ⟨h1, h2, _⟩ := h
  have hl : M.digits.length = 16 := rfl
  refine ⟨by omega, ?_⟩
  unfold M.digit
  rw [List.getD_eq_getElem?_getD, List.getElem?_eq_getElem h1]
  simpa using h2

theorem hex_pairs : ∀ (t : M.Txt) (bs : List Int), M.pairs t = some bs → M.hex bs = t ∧ ∀ b ∈ bs, 0 ≤ b ∧ b < 256
  | [], bs, h => by simp [M.pairs] at h; subst h; exact ⟨rfl, fun b hb => by cases hb⟩
  | [a], bs, h => by simp [M.pairs] at h
  | a :: b :: r, bs, h => by
    simp only [M.pairs] at h
    cases hx : M.nib a with
    | none => simp [hx] at h
    | some x =>
      cases hy : M.nib b with
      | none => simp [hx, hy] at h
      | some y =>
        simp only [hx, hy] at h
        obtain ⟨l, hl, rfl⟩ := Option.map_eq_some_iff.1 h
        obtain ⟨h1, h2⟩ := hex_pairs r l hl
        obtain ⟨x1, x2⟩ := digit_nib hx
        obtain ⟨y1, y2⟩ := digit_nib hy
        refine ⟨?_, fun z hz => ?_⟩
        · show M.hex1 _ ++ M.hex l = _
          rw [h1]
          have e1 : (16 * x + y) / 16 = x := by omega
          have e2 : (16 * x + y) % 16 = y := by omega
          simp only [M.hex1, Int.toNat_natCast, e1, e2, x2, y2]
          rfl
        · rcases List.mem_cons.1 hz with rfl | hz
          · omega
          · exact h2 z hz

theorem pairs_hex : ∀ (bs : List Int), (∀ b ∈ bs, 0 ≤ b ∧ b < 256) → M.pairs (M.hex bs) = some bs
  | [], _ => rfl
  | b :: l, h => by
    obtain ⟨h0, h1⟩ := h b (by simp)
    have ih := pairs_hex l (fun x hx => h x (by simp [hx]))
    show M.pairs (M.hex1 b ++ M.hex l) = _
    simp only [M.hex1, List.cons_append, List.nil_append, M.pairs]
    rw [nib_digit _ (by omega), nib_digit _ (by omega), ih]
    simp only [Option.map_some]
    congr 2
    omega

theorem index_idx (c : UInt8) : ∀ (l : M.Txt), Lib.indexByte l c = match l.idxOf? c with | some n => (n : Int) | none => -1
  | [] => rfl
  | b :: l => by
    have ih := index_idx c l
    rw [Lib.indexByte, List.idxOf?_cons]
    cases hb : b == c
    · simp only [Bool.false_eq_true, if_false]
      cases hl : l.idxOf? c with
      | none => rw [hl] at ih; simp only at ih; rw [ih]; rfl
      | some n =>
        rw [hl] at ih
        simp only at ih
        rw [ih]
        have : ((n : Int) == -1) = false := by rw [beq_eq_false_iff_ne]; omega
        rw [this]
        simp
    · simp

theorem nib_index (c : UInt8) : Lib.indexByte M.digits c = match M.nib c with | some n => (n : Int) | none => -1 := index_idx c M.digits

end Go.Proofs.YtogipjjmnmahnaaDoor
