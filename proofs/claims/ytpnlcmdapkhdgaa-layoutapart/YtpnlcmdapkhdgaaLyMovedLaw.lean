/-
  LayoutMoved's law: whatever the part, the base and the times: true.
-/
import Derived.Test.YtpnlcmdapkhdgaaLyLaid
import Derived.Test.YtpnlcmdapkhdgaaLyShift
import Derived.Test.YtpnlcmdapkhdgaaLater
namespace Go.Proofs.Ytpnlcmdapkhdgaa
open Go Go.RowKit
set_option linter.unusedVariables false
attribute [local go_sem] lat_cell

theorem texts_refl' : ∀ l : List ByteArray, sameTexts l l = true
  | [] => rfl
  | x :: l => by
    show (_ && sameTexts l l) = true
    rw [texts_refl' l]
    simp


/-- Lay, as a walk meets it -/
theorem lay_g {p : M.Prt} {base : Int} {a1 a2 : Option Addr} {c1 c2 : Nat} {w : World} (hf : FragsAt w (.slice a1 p.frags.length c1) p.frags) (hd : DefsAt w (.slice a2 p.defs.length c2) p.defs) (l : M.Lay) (er : Int) (hl : M.lay p base = (l, er)) :
    Calls Try.prog 4 #[.agg #[.slice a1 p.frags.length c1, .slice a2 p.defs.length c2], .int .i64 base] w fun e w' => Below w.heap.size w w' ∧ ∃ xf yf xn yn xc yc, e = .returned (.tuple #[.agg #[(.slice xf l.frags.length yf), (.slice xn l.names.length yn), (.slice xc l.coms.length yc), .int .i64 (l.fr 0), .int .i64 (l.fr 1), .int .i64 (l.fr 2), .int .i64 (l.fr 3), .int .i64 (l.fr 4), .int .i64 (l.fr 5), .int .i64 (l.ti 0), .int .i64 (l.ti 1), .int .i64 (l.ti 2), .int .i64 (l.ti 3), .int .i64 (l.ti 4), .int .i64 (l.ti 5)], .int .i64 er]) ∧ IntsAt w' (.slice xf l.frags.length yf) l.frags ∧ StrsAt w' (.slice xn l.names.length yn) l.names ∧ IntsAt w' (.slice xc l.coms.length yc) l.coms := by
  refine (lay_any p base a1 a2 c1 c2 w hf hd).mono ?_
  rintro e w' ⟨hb, vF, vN, vC, rfl, h1, h2, h3⟩
  rw [hl] at h1 h2 h3 ⊢
  obtain ⟨xf, yf, rfl, _⟩ := SlAt.form h1
  obtain ⟨xn, yn, rfl, _⟩ := SlAt.form h2.1
  obtain ⟨xc, yc, rfl, _⟩ := SlAt.form h3
  exact ⟨hb, xf, yf, xn, yn, xc, yc, rfl, h1, h2, h3⟩

theorem lay_cases (p : M.Prt) (base : Int) : (∃ er, er ≠ 0 ∧ M.lay p base = (M.lay0, er) ∧ (M.checkPart p = 0 → er = 10 ∨ er = 3)) ∨ (M.lay p base = (M.layAll p base, 0) ∧ M.checkPart p = 0 ∧ 0 ≤ base ∧ base < 65536 ∧ M.tillOf p base 5 ≤ 65536) := by
  unfold M.lay
  by_cases h1 : M.checkPart p = 0
  · rw [if_pos h1]
    by_cases h2 : base < 0 ∨ 65536 ≤ base
    · rw [if_pos h2]; exact .inl ⟨3, by decide, rfl, fun _ => .inr rfl⟩
    · rw [if_neg h2]
      by_cases h3 : 65536 < M.tillOf p base 5
      · rw [if_pos h3]; exact .inl ⟨10, by decide, rfl, fun _ => .inl rfl⟩
      · rw [if_neg h3]; exact .inr ⟨rfl, h1, by omega, by omega, by omega⟩
  · rw [if_neg h1]; exact .inl ⟨_, h1, rfl, fun h => absurd h h1⟩

/-- what the law holds against each other -/
structure Both (t : Int) (F1 F2 C1 C2 : List Int) (N1 N2 : List ByteArray) (f1 t1 f2 t2 : Nat → Int) : Prop where
  lf : F2.length = F1.length
  lc : C2.length = C1.length
  nm : N2 = N1
  fr : ∀ j, j < F1.length → F2.getD j 0 = F1.getD j 0 + 16 * t ∧ 0 ≤ F1.getD j 0 ∧ F1.getD j 0 ≤ 200000
  cm : ∀ j, j < C1.length → C2.getD j 0 = C1.getD j 0 + 16 * t ∧ 0 ≤ C1.getD j 0 ∧ C1.getD j 0 ≤ 200000
  fs : ∀ i, 1 ≤ i → i ≤ 5 → f2 i = f1 i + 16 * t ∧ 0 ≤ f1 i ∧ f1 i ≤ 200000
  ts : ∀ i, 1 ≤ i → i ≤ 5 → t2 i = t1 i + 16 * t ∧ 0 ≤ t1 i ∧ t1 i ≤ 200000

theorem comAlign {p : M.Prt} (hp : M.Ok p) : ∀ n, (M.find p.defs n).2 = 0 → (M.find p.defs n).1.kind = 3 → M.AlignOk (M.find p.defs n).1.align ∧ 0 ≤ (M.find p.defs n).1.size := fun n h1 h2 => ⟨(common_ok hp n h1 h2).align, (common_ok hp n h1 h2).size0⟩

theorem both_of {p : M.Prt} {base t : Int} (hp : M.Ok p) (h0 : 0 ≤ base) (h1 : base < 65536) (h5 : M.tillOf p base 5 ≤ 65536) : Both t (M.layAll p base).frags (M.layAll p (base + 16 * t)).frags (M.layAll p base).coms (M.layAll p (base + 16 * t)).coms (M.layAll p base).names (M.layAll p (base + 16 * t)).names (M.layAll p base).fr (M.layAll p base).ti (M.layAll p (base + 16 * t)).fr (M.layAll p (base + 16 * t)).ti := by
  have hf : ∀ f ∈ p.frags, M.FrgOk f := fun f hf => M.frgOk_of (hp.shape f hf)
  have hm := M.layMoved (base := base) (t := t) hf fun n h1 h2 => (comAlign hp n h1 h2).1
  have hpos := M.secN_pos hf hp.nf h0
  have hlow := M.secN_low hf hp.nf h0 5
  have hp5 := hpos 5
  have hcl := M.com_low (comAlign hp) (M.defined p) ⟨[], [], (M.secN p.frags base 5).2⟩ (by show 0 ≤ (M.secN p.frags base 5).2; omega) (fun x hx => by cases hx) rfl
  have e5 : M.tillOf p base 5 = (M.commons p (M.secN p.frags base 5).2).pos := rfl
  rw [e5] at h5
  have hlen : (M.layAll p base).frags.length = p.frags.length := M.secN_len _ _ _
  refine ⟨?_, ?_, hm.names, fun j hj => ?_, fun j hj => ?_, fun i h1 h2 => ?_, fun i h1 h2 => ?_⟩
  · rw [hlen]; exact M.secN_len _ _ _
  · rw [hm.coms, List.length_map]
  · refine ⟨hm.frags j (by rw [← hlen]; exact hj), ?_⟩
    have := hlow _ (getD_mem _ 0 j hj)
    rw [M.lay_frags]
    omega
  · have := hcl.2.1 _ (getD_mem _ 0 j hj)
    refine ⟨?_, ?_⟩
    · rw [hm.coms, List.getD_eq_getElem?_getD, List.getElem?_map, List.getElem?_eq_getElem hj, List.getD_eq_getElem?_getD, List.getElem?_eq_getElem hj]
      rfl
    · have e : (M.layAll p base).coms = (M.commons p (M.secN p.frags base 5).2).at_ := rfl
      rw [e]
      have h9 : (List.foldl (M.comStep p.defs) ⟨[], [], (M.secN p.frags base 5).2⟩ (M.defined p)).pos ≤ 65536 := h5
      show 0 ≤ (List.foldl (M.comStep p.defs) ⟨[], [], (M.secN p.frags base 5).2⟩ (M.defined p)).at_.getD j 0 ∧ (List.foldl (M.comStep p.defs) ⟨[], [], (M.secN p.frags base 5).2⟩ (M.defined p)).at_.getD j 0 ≤ 200000
      omega
  · refine ⟨hm.fr i h1 h2, ?_⟩
    rw [M.lay_fr]
    unfold M.frAt
    rw [if_pos ⟨h1, h2⟩]
    have ha := hpos (i - 1)
    have hb := M.next_bounds (a := (M.secN p.frags base (i - 1)).2) (d := 16) (by omega) (.inr (.inr (.inr (.inr rfl))))
    omega
  · refine ⟨hm.ti i h1 h2, ?_⟩
    rw [M.lay_ti]
    unfold M.tiAt
    rw [if_pos ⟨h1, h2⟩]
    have ha := hpos i
    unfold M.tillOf
    split
    · have := hcl.1
      have h9 : (List.foldl (M.comStep p.defs) ⟨[], [], (M.secN p.frags base 5).2⟩ (M.defined p)).pos ≤ 65536 := h5
      show 0 ≤ (List.foldl (M.comStep p.defs) ⟨[], [], (M.secN p.frags base 5).2⟩ (M.defined p)).pos ∧ (List.foldl (M.comStep p.defs) ⟨[], [], (M.secN p.frags base 5).2⟩ (M.defined p)).pos ≤ 200000
      omega
    · omega

end Go.Proofs.Ytpnlcmdapkhdgaa
