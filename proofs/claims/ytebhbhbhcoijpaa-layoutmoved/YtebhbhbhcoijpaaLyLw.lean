/-
  LayoutMoved's law: whatever the part, the base and the times: true. LayoutMoved's law, walked.
-/
import Derived.Test.YtebhbhbhcoijpaaLyLaid
import Derived.Test.YtebhbhbhcoijpaaLyShift
import Derived.Test.YtebhbhbhcoijpaaLater

namespace Go.Proofs.Ytebhbhbhcoijpaa
open Go Go.RowKit
set_option linter.unusedVariables false
attribute [local go_sem] lat_cell

theorem texts_refl' : ∀ l : List ByteArray, sameTexts l l = true
  | [] => rfl
  | x :: l => by
    show (_ && sameTexts l l) = true
    rw [texts_refl' l]
    simp

set_option maxRecDepth 100000 in
theorem at_any (k : Int) (w : World) : Calls Try.prog 30 #[.int .i64 k, .int .i64 100] w fun e w' => (∃ t, e = .returned (.int .i64 t) ∧ 0 ≤ t ∧ t < 100) ∧ w = w' := by
  have h1 : k.tmod 100 < 100 := Int.tmod_lt_of_pos k (by decide)
  have h2 : -100 < k.tmod 100 := by
    have := Int.tmod_lt_of_pos (-k) (b := 100) (by decide)
    rw [Int.neg_tmod] at this
    omega
  generalize hq : k.tmod 100 = q at *
  by_cases h : q < 0
  · go_enter Try.func30, Try.ntmps30
    go_wp2
    go_ret
    exact ⟨⟨_, rfl, by omega, by omega⟩, rfl⟩
  · have h' : decide (q < 0) = false := by simpa using h
    go_enter Try.func30, Try.ntmps30
    go_wp2
    go_ret
    exact ⟨⟨_, rfl, by omega, by omega⟩, rfl⟩

/-- Lay, as a walk meets it -/
theorem lay_g {p : M.Prt} {base : Int} {a1 a2 : Option Addr} {c1 c2 : Nat} {w : World} (hf : FragsAt w (.slice a1 p.frags.length c1) p.frags) (hd : DefsAt w (.slice a2 p.defs.length c2) p.defs) (l : M.Lay) (er : Int) (hl : M.lay p base = (l, er)) :
    Calls Try.prog 28 #[.agg #[.slice a1 p.frags.length c1, .slice a2 p.defs.length c2], .int .i64 base] w fun e w' => Below w.heap.size w w' ∧ ∃ xf yf xn yn xc yc, e = .returned (.tuple #[.agg #[(.slice xf l.frags.length yf), (.slice xn l.names.length yn), (.slice xc l.coms.length yc), .int .i64 (l.fr 0), .int .i64 (l.fr 1), .int .i64 (l.fr 2), .int .i64 (l.fr 3), .int .i64 (l.fr 4), .int .i64 (l.fr 5), .int .i64 (l.ti 0), .int .i64 (l.ti 1), .int .i64 (l.ti 2), .int .i64 (l.ti 3), .int .i64 (l.ti 4), .int .i64 (l.ti 5)], .int .i64 er]) ∧ IntsAt w' (.slice xf l.frags.length yf) l.frags ∧ StrsAt w' (.slice xn l.names.length yn) l.names ∧ IntsAt w' (.slice xc l.coms.length yc) l.coms := by
  refine (lay_any p base a1 a2 c1 c2 w hf hd).mono ?_
  rintro e w' ⟨hb, vF, vN, vC, rfl, h1, h2, h3⟩
  rw [hl] at h1 h2 h3 ⊢
  obtain ⟨xf, yf, rfl, _⟩ := SlAt.form h1
  obtain ⟨xn, yn, rfl, _⟩ := SlAt.form h2.1
  obtain ⟨xc, yc, rfl, _⟩ := SlAt.form h3
  exact ⟨hb, xf, yf, xn, yn, xc, yc, rfl, h1, h2, h3⟩

theorem lay_cases (p : M.Prt) (base : Int) : (∃ er, er ≠ 0 ∧ M.lay p base = (M.lay0, er) ∧ (M.checkPart p = 0 → er = 10 ∨ er = 3)) ∨ (M.lay p base = (M.layAll p base, 0) ∧ M.checkPart p = 0 ∧ 0 ≤ base ∧ base < 65536 ∧ M.tillOf p base 5 ≤ 65536) := by
  unfold M.lay
  by_cases h1 : M.checkPart p = 0
  · rw [if_pos h1]
    by_cases h2 : base < 0 ∨ 65536 ≤ base
    · rw [if_pos h2]; exact .inl ⟨3, by decide, rfl, fun _ => .inr rfl⟩
    · rw [if_neg h2]
      by_cases h3 : 65536 < M.tillOf p base 5
      · rw [if_pos h3]; exact .inl ⟨10, by decide, rfl, fun _ => .inl rfl⟩
      · rw [if_neg h3]; exact .inr ⟨rfl, h1, by omega, by omega, by omega⟩
  · rw [if_neg h1]; exact .inl ⟨_, h1, rfl, fun h => absurd h h1⟩

/-- what the law holds against each other -/
structure Both (t : Int) (F1 F2 C1 C2 : List Int) (N1 N2 : List ByteArray) (f1 t1 f2 t2 : Nat → Int) : Prop where
  lf : F2.length = F1.length
  lc : C2.length = C1.length
  nm : N2 = N1
  fr : ∀ j, j < F1.length → F2.getD j 0 = F1.getD j 0 + 16 * t ∧ 0 ≤ F1.getD j 0 ∧ F1.getD j 0 ≤ 200000
  cm : ∀ j, j < C1.length → C2.getD j 0 = C1.getD j 0 + 16 * t ∧ 0 ≤ C1.getD j 0 ∧ C1.getD j 0 ≤ 200000
  fs : ∀ i, 1 ≤ i → i ≤ 5 → f2 i = f1 i + 16 * t ∧ 0 ≤ f1 i ∧ f1 i ≤ 200000
  ts : ∀ i, 1 ≤ i → i ≤ 5 → t2 i = t1 i + 16 * t ∧ 0 ≤ t1 i ∧ t1 i ≤ 200000

theorem comAlign {p : M.Prt} (hp : M.Ok p) : ∀ n, (M.find p.defs n).2 = 0 → (M.find p.defs n).1.kind = 3 → M.AlignOk (M.find p.defs n).1.align ∧ 0 ≤ (M.find p.defs n).1.size := fun n h1 h2 => ⟨(common_ok hp n h1 h2).align, (common_ok hp n h1 h2).size0⟩

theorem both_of {p : M.Prt} {base t : Int} (hp : M.Ok p) (h0 : 0 ≤ base) (h1 : base < 65536) (h5 : M.tillOf p base 5 ≤ 65536) : Both t (M.layAll p base).frags (M.layAll p (base + 16 * t)).frags (M.layAll p base).coms (M.layAll p (base + 16 * t)).coms (M.layAll p base).names (M.layAll p (base + 16 * t)).names (M.layAll p base).fr (M.layAll p base).ti (M.layAll p (base + 16 * t)).fr (M.layAll p (base + 16 * t)).ti := by
  have hf : ∀ f ∈ p.frags, M.FrgOk f := fun f hf => M.frgOk_of (hp.shape f hf)
  have hm := M.layMoved (base := base) (t := t) hf fun n h1 h2 => (comAlign hp n h1 h2).1
  have hpos := M.secN_pos hf hp.nf h0
  have hlow := M.secN_low hf hp.nf h0 5
  have hp5 := hpos 5
  have hcl := M.com_low (comAlign hp) (M.defined p) ⟨[], [], (M.secN p.frags base 5).2⟩ (by show 0 ≤ (M.secN p.frags base 5).2; omega) (fun x hx => by cases hx) rfl
  have e5 : M.tillOf p base 5 = (M.commons p (M.secN p.frags base 5).2).pos := rfl
  rw [e5] at h5
  have hlen : (M.layAll p base).frags.length = p.frags.length := M.secN_len _ _ _
  refine ⟨?_, ?_, hm.names, fun j hj => ?_, fun j hj => ?_, fun i h1 h2 => ?_, fun i h1 h2 => ?_⟩
  · rw [hlen]; exact M.secN_len _ _ _
  · rw [hm.coms, List.length_map]
  · refine ⟨hm.frags j (by rw [← hlen]; exact hj), ?_⟩
    have := hlow _ (getD_mem _ 0 j hj)
    rw [M.lay_frags]
    omega
  · have := hcl.2.1 _ (getD_mem _ 0 j hj)
    refine ⟨?_, ?_⟩
    · rw [hm.coms, List.getD_eq_getElem?_getD, List.getElem?_map, List.getElem?_eq_getElem hj, List.getD_eq_getElem?_getD, List.getElem?_eq_getElem hj]
      rfl
    · have e : (M.layAll p base).coms = (M.commons p (M.secN p.frags base 5).2).at_ := rfl
      rw [e]
      have h9 : (List.foldl (M.comStep p.defs) ⟨[], [], (M.secN p.frags base 5).2⟩ (M.defined p)).pos ≤ 65536 := h5
      show 0 ≤ (List.foldl (M.comStep p.defs) ⟨[], [], (M.secN p.frags base 5).2⟩ (M.defined p)).at_.getD j 0 ∧ (List.foldl (M.comStep p.defs) ⟨[], [], (M.secN p.frags base 5).2⟩ (M.defined p)).at_.getD j 0 ≤ 200000
      omega
  · refine ⟨hm.fr i h1 h2, ?_⟩
    rw [M.lay_fr]
    unfold M.frAt
    rw [if_pos ⟨h1, h2⟩]
    have ha := hpos (i - 1)
    have hb := M.next_bounds (a := (M.secN p.frags base (i - 1)).2) (d := 16) (by omega) (.inr (.inr (.inr (.inr rfl))))
    omega
  · refine ⟨hm.ti i h1 h2, ?_⟩
    rw [M.lay_ti]
    unfold M.tiAt
    rw [if_pos ⟨h1, h2⟩]
    have ha := hpos i
    unfold M.tillOf
    split
    · have := hcl.1
      have h9 : (List.foldl (M.comStep p.defs) ⟨[], [], (M.secN p.frags base 5).2⟩ (M.defined p)).pos ≤ 65536 := h5
      show 0 ≤ (List.foldl (M.comStep p.defs) ⟨[], [], (M.secN p.frags base 5).2⟩ (M.defined p)).pos ∧ (List.foldl (M.comStep p.defs) ⟨[], [], (M.secN p.frags base 5).2⟩ (M.defined p)).pos ≤ 200000
      omega
    · omega

end Go.Proofs.Ytebhbhbhcoijpaa

namespace Go.Proofs.Ytebhbhbhcoijpaa
open Go Go.RowKit
set_option linter.unusedVariables false
attribute [local go_sem] lat_cell

/-- a layout that a variable holds -/
def LV1 (W : World) (n : Nat) (xf xn xc : Option Addr) (yf yn yc : Nat) (F C : List Int) (N : List ByteArray) (f t : Nat → Int) : Prop :=
  W.heap[n]? = some (.cells (layArr (.slice xf F.length yf) (.slice xn N.length yn) (.slice xc C.length yc) f t) 55 (0, 0)) ∧ IntsAt W (.slice xf F.length yf) F ∧ StrsAt W (.slice xn N.length yn) N ∧ IntsAt W (.slice xc C.length yc) C
theorem LV1.later {W X : World} {n : Nat} {xf xn xc : Option Addr} {yf yn yc : Nat} {F C : List Int} {N : List ByteArray} {f t : Nat → Int} (h : LV1 W n xf xn xc yf yn yc F C N f t) (hb : Below W.heap.size W X) : LV1 X n xf xn xc yf yn yc F C N f t :=
  ⟨(hb.block _ (Array.getElem?_eq_some_iff.1 h.1).1).trans h.1, h.2.1.later hb, h.2.2.1.later hb, h.2.2.2.later hb⟩

set_option maxHeartbeats 16000000 in
set_option maxRecDepth 100000 in
theorem moved_law (p : M.Prt) (base times : Int) (a1 a2 : Option Addr) (c1 c2 : Nat) (w : World) (hf : FragsAt w (.slice a1 p.frags.length c1) p.frags) (hd : DefsAt w (.slice a2 p.defs.length c2) p.defs) :
    Calls Try.prog 6 #[.agg #[.slice a1 p.frags.length c1, .slice a2 p.defs.length c2], .int .i64 base, .int .i64 times] w fun e w' => e = .returned (.bool true) ∧ Below w.heap.size w w' := by
  have q0 := heap_alloc_new w (.cells #[.slice a1 p.frags.length c1, .slice a2 p.defs.length c2] 25)
  have HB0 : Hid (Below w.heap.size w (w.alloc (.cells #[.slice a1 p.frags.length c1, .slice a2 p.defs.length c2] 25))) := (Below.refl _ _).alloc (Nat.le_refl _) _
  have HFD : Hid (∀ W, Below w.heap.size w W → FragsAt W (.slice a1 p.frags.length c1) p.frags ∧ DefsAt W (.slice a2 p.defs.length c2) p.defs) := fun W hW => ⟨hf.later hW, hd.later hW⟩
  clear hf hd
  obtain ⟨l, er, hl⟩ : ∃ l er, M.lay p base = (l, er) := ⟨_, _, rfl⟩
  have HC : Hid _ := lay_cases p base
  rw [hl] at HC
  have HL : Hid (M.lay p base = (l, er)) := hl
  clear hl
  go_enter Try.func6, Try.ntmps6
  go_upto_region 1 with fail
  generalize w.alloc (.cells #[.slice a1 p.frags.length c1, .slice a2 p.defs.length c2] 25) = X at *
  have hl0 : w.heap.size < X.heap.size := (Array.getElem?_eq_some_iff.1 q0).1
  have HS : Hid (∀ W, Below X.heap.size X W → W.cell? ⟨w.heap.size, 0, none⟩ = some (.slice a1 p.frags.length c1) ∧ W.cell? ⟨w.heap.size, 1, none⟩ = some (.slice a2 p.defs.length c2) ∧ w.heap.size < W.heap.size) := fun W hW => by
    have y := (hW.block _ hl0).trans q0
    exact ⟨cellB y 0, cellB y 1, (Array.getElem?_eq_some_iff.1 y).1⟩
  have KL : Hid (∀ b l er W, M.lay p b = (l, er) → Below X.heap.size X W → Calls Try.prog 28 #[.agg #[.slice a1 p.frags.length c1, .slice a2 p.defs.length c2], .int .i64 b] W fun e w' => Below W.heap.size W w' ∧ ∃ xf yf xn yn xc yc, e = .returned (.tuple #[.agg #[.slice xf l.frags.length yf, .slice xn l.names.length yn, .slice xc l.coms.length yc, .int .i64 (l.fr 0), .int .i64 (l.fr 1), .int .i64 (l.fr 2), .int .i64 (l.fr 3), .int .i64 (l.fr 4), .int .i64 (l.fr 5), .int .i64 (l.ti 0), .int .i64 (l.ti 1), .int .i64 (l.ti 2), .int .i64 (l.ti 3), .int .i64 (l.ti 4), .int .i64 (l.ti 5)], .int .i64 er]) ∧ IntsAt w' (.slice xf l.frags.length yf) l.frags ∧ StrsAt w' (.slice xn l.names.length yn) l.names ∧ IntsAt w' (.slice xc l.coms.length yc) l.coms) := fun b l er W h hW =>
    lay_g (HFD.out W (HB0.out.trans (hW.mono HB0.out.size))).1 (HFD.out W (HB0.out.trans (hW.mono HB0.out.size))).2 l er h
  have hX0 : Below X.heap.size X X := Below.refl _ _
  clear q0 hl0
  obtain ⟨c00, c01, hl0⟩ := HS.out _ hX0
  go_upto_region 2 with (go_at_call 28; refine (KL.out _ _ _ _ HL.out hX0).mono ?_; rintro e w1 ⟨hb1, xf, yf, xn, yn, xc, yc, rfl, hF1, hN1, hC1⟩)
  have hb1a : Below X.heap.size X (w1.alloc (.cells #[.slice xf l.frags.length yf, .slice xn l.names.length yn, .slice xc l.coms.length yc, .int .i64 (l.fr 0), .int .i64 (l.fr 1), .int .i64 (l.fr 2), .int .i64 (l.fr 3), .int .i64 (l.fr 4), .int .i64 (l.fr 5), .int .i64 (l.ti 0), .int .i64 (l.ti 1), .int .i64 (l.ti 2), .int .i64 (l.ti 3), .int .i64 (l.ti 4), .int .i64 (l.ti 5)] 55)) := hb1.alloc hb1.size _
  have hba : Below w1.heap.size w1 (w1.alloc (.cells #[.slice xf l.frags.length yf, .slice xn l.names.length yn, .slice xc l.coms.length yc, .int .i64 (l.fr 0), .int .i64 (l.fr 1), .int .i64 (l.fr 2), .int .i64 (l.fr 3), .int .i64 (l.fr 4), .int .i64 (l.fr 5), .int .i64 (l.ti 0), .int .i64 (l.ti 1), .int .i64 (l.ti 2), .int .i64 (l.ti 3), .int .i64 (l.ti 4), .int .i64 (l.ti 5)] 55)) := (Below.refl _ _).alloc (Nat.le_refl _) _
  have V1 : Hid (LV1 (w1.alloc (.cells #[.slice xf l.frags.length yf, .slice xn l.names.length yn, .slice xc l.coms.length yc, .int .i64 (l.fr 0), .int .i64 (l.fr 1), .int .i64 (l.fr 2), .int .i64 (l.fr 3), .int .i64 (l.fr 4), .int .i64 (l.fr 5), .int .i64 (l.ti 0), .int .i64 (l.ti 1), .int .i64 (l.ti 2), .int .i64 (l.ti 3), .int .i64 (l.ti 4), .int .i64 (l.ti 5)] 55)) w1.heap.size xf xn xc yf yn yc l.frags l.coms l.names l.fr l.ti) := ⟨heap_alloc_new _ _, hF1.later hba, hN1.later hba, hC1.later hba⟩
  clear c00 c01 hl0 hX0 hb1 hba hF1 hN1 hC1
  generalize w1.alloc (.cells #[.slice xf l.frags.length yf, .slice xn l.names.length yn, .slice xc l.coms.length yc, .int .i64 (l.fr 0), .int .i64 (l.fr 1), .int .i64 (l.fr 2), .int .i64 (l.fr 3), .int .i64 (l.fr 4), .int .i64 (l.fr 5), .int .i64 (l.ti 0), .int .i64 (l.ti 1), .int .i64 (l.ti 2), .int .i64 (l.ti 3), .int .i64 (l.ti 4), .int .i64 (l.ti 5)] 55) = X1 at *
  generalize w1.heap.size = n1 at *
  have HX1 : Hid (Below w.heap.size w X1) := HB0.out.trans (hb1a.mono HB0.out.size)
  rcases HC.out with ⟨er', hne, he, _⟩ | ⟨he, hck, hb0, hb6, ht5⟩
  · cases he
    have hn : (er != 0) = true := by simpa using hne
    clear HC hne V1 HFD HS KL HL
    go_upto_region 3 with (go_at_call 29; refine (laid_any _).mono ?_; rintro e w2 ⟨rfl, hb2⟩)
    go_wp2_with (go_at_call 29; refine (laid_any _).mono ?_; rintro e w3 ⟨rfl, hb3⟩)
    go_ret
    exact ⟨rfl, HX1.out.trans ((hb2.trans (hb3.mono hb2.size)).mono HX1.out.size)⟩
  · cases he
    have hok := (M.ok_iff p).1 hck
    clear HC
    go_upto_region 4 with (go_at_call 29; refine (laid_any _).mono ?_; rintro e w2 ⟨rfl, hb2⟩)
    have hX2 : Below X.heap.size X w2 := hb1a.trans (hb2.mono hb1a.size)
    have V2 : Hid (LV1 w2 n1 xf xn xc yf yn yc (M.layAll p base).frags (M.layAll p base).coms (M.layAll p base).names (M.layAll p base).fr (M.layAll p base).ti) := V1.out.later hb2
    clear V1 hb2 hb1a HX1
    go_upto_region 5 with (go_at_call 30; refine (at_any times _).mono ?_; rintro e w3 ⟨⟨t, rfl, ht0, ht1⟩, rfl⟩)
    have HBo : Hid (Both t _ _ _ _ _ _ _ _ _ _) := both_of (t := t) hok hb0 hb6 ht5
    obtain ⟨l2, er2, hl2⟩ : ∃ l er, M.lay p (base + 16 * t) = (l, er) := ⟨_, _, rfl⟩
    have HC2 : Hid _ := lay_cases p (base + 16 * t)
    rw [hl2] at HC2
    have HL2 : Hid (M.lay p (base + 16 * t) = (l2, er2)) := hl2
    clear hl2
    obtain ⟨c00, c01, hl0⟩ := HS.out _ hX2
    go_upto_region 6 with (go_at_call 28; refine (KL.out _ _ _ _ HL2.out hX2).mono ?_; rintro e w4 ⟨hb4, zf, uf, zn, un, zc, uc, rfl, hF2, hN2, hC2⟩)
    have hb4a : Below w2.heap.size w2 (w4.alloc (.cells #[.slice zf l2.frags.length uf, .slice zn l2.names.length un, .slice zc l2.coms.length uc, .int .i64 (l2.fr 0), .int .i64 (l2.fr 1), .int .i64 (l2.fr 2), .int .i64 (l2.fr 3), .int .i64 (l2.fr 4), .int .i64 (l2.fr 5), .int .i64 (l2.ti 0), .int .i64 (l2.ti 1), .int .i64 (l2.ti 2), .int .i64 (l2.ti 3), .int .i64 (l2.ti 4), .int .i64 (l2.ti 5)] 55)) := hb4.alloc hb4.size _
    have hba : Below w4.heap.size w4 (w4.alloc (.cells #[.slice zf l2.frags.length uf, .slice zn l2.names.length un, .slice zc l2.coms.length uc, .int .i64 (l2.fr 0), .int .i64 (l2.fr 1), .int .i64 (l2.fr 2), .int .i64 (l2.fr 3), .int .i64 (l2.fr 4), .int .i64 (l2.fr 5), .int .i64 (l2.ti 0), .int .i64 (l2.ti 1), .int .i64 (l2.ti 2), .int .i64 (l2.ti 3), .int .i64 (l2.ti 4), .int .i64 (l2.ti 5)] 55)) := (Below.refl _ _).alloc (Nat.le_refl _) _
    have W2 : Hid (LV1 (w4.alloc (.cells #[.slice zf l2.frags.length uf, .slice zn l2.names.length un, .slice zc l2.coms.length uc, .int .i64 (l2.fr 0), .int .i64 (l2.fr 1), .int .i64 (l2.fr 2), .int .i64 (l2.fr 3), .int .i64 (l2.fr 4), .int .i64 (l2.fr 5), .int .i64 (l2.ti 0), .int .i64 (l2.ti 1), .int .i64 (l2.ti 2), .int .i64 (l2.ti 3), .int .i64 (l2.ti 4), .int .i64 (l2.ti 5)] 55)) w4.heap.size zf zn zc uf un uc l2.frags l2.coms l2.names l2.fr l2.ti) := ⟨heap_alloc_new _ _, hF2.later hba, hN2.later hba, hC2.later hba⟩
    have V4 : Hid (LV1 (w4.alloc (.cells #[.slice zf l2.frags.length uf, .slice zn l2.names.length un, .slice zc l2.coms.length uc, .int .i64 (l2.fr 0), .int .i64 (l2.fr 1), .int .i64 (l2.fr 2), .int .i64 (l2.fr 3), .int .i64 (l2.fr 4), .int .i64 (l2.fr 5), .int .i64 (l2.ti 0), .int .i64 (l2.ti 1), .int .i64 (l2.ti 2), .int .i64 (l2.ti 3), .int .i64 (l2.ti 4), .int .i64 (l2.ti 5)] 55)) n1 xf xn xc yf yn yc (M.layAll p base).frags (M.layAll p base).coms (M.layAll p base).names (M.layAll p base).fr (M.layAll p base).ti) := V2.out.later hb4a
    have hX4 : Below X.heap.size X (w4.alloc (.cells #[.slice zf l2.frags.length uf, .slice zn l2.names.length un, .slice zc l2.coms.length uc, .int .i64 (l2.fr 0), .int .i64 (l2.fr 1), .int .i64 (l2.fr 2), .int .i64 (l2.fr 3), .int .i64 (l2.fr 4), .int .i64 (l2.fr 5), .int .i64 (l2.ti 0), .int .i64 (l2.ti 1), .int .i64 (l2.ti 2), .int .i64 (l2.ti 3), .int .i64 (l2.ti 4), .int .i64 (l2.ti 5)] 55)) := hX2.trans (hb4a.mono hX2.size)
    clear c00 c01 hl0 hb4 hb4a hba hF2 hN2 hC2 V2 hX2 KL HL HL2
    generalize w4.alloc (.cells #[.slice zf l2.frags.length uf, .slice zn l2.names.length un, .slice zc l2.coms.length uc, .int .i64 (l2.fr 0), .int .i64 (l2.fr 1), .int .i64 (l2.fr 2), .int .i64 (l2.fr 3), .int .i64 (l2.fr 4), .int .i64 (l2.fr 5), .int .i64 (l2.ti 0), .int .i64 (l2.ti 1), .int .i64 (l2.ti 2), .int .i64 (l2.ti 3), .int .i64 (l2.ti 4), .int .i64 (l2.ti 5)] 55) = Y at *
    generalize w4.heap.size = n2 at *
    have HEnd : Hid (Below w.heap.size w Y) := HB0.out.trans (hX4.mono HB0.out.size)
    clear HB0 hX4 HS HFD
    rcases HC2.out with ⟨er', hne, he, h103⟩ | ⟨he, _, _, _, _⟩
    · cases he
      have hn : (er2 != 0) = true := by simpa using hne
      clear HC2 V4 W2 HBo
      rcases h103 hck with rfl | rfl
      · go_wp2
        go_ret
        exact ⟨rfl, HEnd.out⟩
      · go_wp2
        go_ret
        exact ⟨rfl, HEnd.out⟩
    · cases he
      clear HC2 hok hck hb0 hb6 ht5
      generalize (M.layAll p base).frags = F1 at *
      generalize (M.layAll p base).coms = C1 at *
      generalize (M.layAll p base).names = N1 at *
      generalize (M.layAll p base).fr = f1 at *
      generalize (M.layAll p base).ti = t1 at *
      generalize (M.layAll p (base + 16 * t)).frags = F2 at *
      generalize (M.layAll p (base + 16 * t)).coms = C2 at *
      generalize (M.layAll p (base + 16 * t)).names = N2 at *
      generalize (M.layAll p (base + 16 * t)).fr = f2 at *
      generalize (M.layAll p (base + 16 * t)).ti = t2 at *
      obtain rfl : N2 = N1 := HBo.out.nm
      have lf := HBo.out.lf
      have lc := HBo.out.lc
      have HLf : Hid (F2.length = F1.length) := lf
      have HLc : Hid (C2.length = C1.length) := lc
      rw [lf, lc]
      clear lf lc
      have HV : Hid (∀ W, Below Y.heap.size Y W → LV1 W n1 xf xn xc yf yn yc F1 C1 N2 f1 t1 ∧ LV1 W n2 zf zn zc uf un uc F2 C2 N2 f2 t2) := fun W hW => ⟨V4.out.later hW, W2.out.later hW⟩
      have KE : Hid (Calls Try.prog 16 #[.slice zn N2.length un, .slice xn N2.length yn] Y fun e w' => e = .returned (.bool true) ∧ Below Y.heap.size Y w') := by
        have := equalS_any N2 N2 zn xn un yn Y W2.out.2.2.1 V4.out.2.2.1
        rwa [texts_refl'] at this
      obtain ⟨v1, v2⟩ := HV.out Y (Below.refl _ _)
      have a0 : Y.cell? ⟨n1, 0, none⟩ = some (.slice xf F1.length yf) := cellB v1.1 0
      have a1' : Y.cell? ⟨n1, 1, none⟩ = some (.slice xn N2.length yn) := cellB v1.1 1
      have a2' : Y.cell? ⟨n1, 2, none⟩ = some (.slice xc C1.length yc) := cellB v1.1 2
      have b0 : Y.cell? ⟨n2, 0, none⟩ = some (.slice zf F1.length uf) := by rw [← HLf.out]; exact cellB v2.1 0
      have b1 : Y.cell? ⟨n2, 1, none⟩ = some (.slice zn N2.length un) := cellB v2.1 1
      have b2 : Y.cell? ⟨n2, 2, none⟩ = some (.slice zc C1.length uc) := by rw [← HLc.out]; exact cellB v2.1 2
      have hln1 : n1 < Y.heap.size := (Array.getElem?_eq_some_iff.1 v1.1).1
      have hln2 : n2 < Y.heap.size := (Array.getElem?_eq_some_iff.1 v2.1).1
      clear v1 v2 V4 W2
      go_wp2_with (go_at_call 16; refine KE.out.mono ?_; rintro e Y1 ⟨rfl, hy1⟩; obtain ⟨v1, v2⟩ := HV.out _ hy1; have d0 : Y1.cell? ⟨n1, 0, none⟩ = some (.slice xf F1.length yf) := cellB v1.1 0; have hld : n1 < Y1.heap.size := (Array.getElem?_eq_some_iff.1 v1.1).1; clear v1 v2)
      clear a0 a1' a2' b0 b1 b2 KE hln1 hln2
      go_loopw [73] (fun s73 wr => ∃ (k : Nat), k ≤ F1.length ∧ s73 = .int .i64 k ∧ Hid (Below Y.heap.size Y wr)) (fun s73 _ => F1.length - (intOf s73).toNat)
      case atStart => exact ⟨0, Nat.zero_le _, rfl, hy1⟩
      case round =>
        obtain ⟨k, hk, rfl, HBr⟩ := hrel
        by_cases hlt : k < F1.length
        · obtain ⟨kk, hkk⟩ : ∃ kk, kk = k := ⟨_, rfl⟩
          clear hkk kk d0 hld
          obtain ⟨HV1, HV2⟩ := HV.out wr HBr.out
          have k1 : wr.cell? ⟨n1, 0, none⟩ = some (.slice xf F1.length yf) := cellB HV1.1 0
          have k2 : wr.cell? ⟨n2, 0, none⟩ = some (.slice zf F1.length uf) := by rw [← HLf.out]; exact cellB HV2.1 0
          have hlt2 : k < F2.length := by rw [HLf.out]; exact hlt
          have hl1' : n1 < wr.heap.size := (Array.getElem?_eq_some_iff.1 HV1.1).1
          have hl2' : n2 < wr.heap.size := (Array.getElem?_eq_some_iff.1 HV2.1).1
          obtain ⟨b, off, hxa, e1, hbr⟩ := IntsAt.cell HV1.2.1 k hlt
          obtain ⟨b', off', hza, e2, hbr'⟩ := IntsAt.cell HV2.2.1 k hlt2
          obtain ⟨hq, hq0, hq1⟩ := HBo.out.fr k hlt
          have hmx : F1.length ≤ maxLen := by obtain ⟨_, _, _, h⟩ := SlAt.form HV1.2.1; exact h
          unfold maxLen at hmx
          rw [hxa] at k1
          rw [hza] at k2
          rw [hq] at e2
          have hkl : (k : Int) < (F1.length : Int) := by omega
          have hk0 : (0 : Int) ≤ (k : Int) := by omega
          generalize F1.getD k 0 = x at *
          have hne0 : ((x + 16 * t) != (x + 16 * t)) = false := by simp
          clear HV1 HV2 hxa hza hq
          go_upto_region 13 with fail
          refine wp_region_lat (by kernel_rfl) (by kernel_rfl) ?_
          intro hne
          repeat (go_big_quiet_step (fail))
          refine wpQuiet_nil ?_
          intro V hbV
          have hbV := lat_out hbV
          clear hne k1 k2 e1 e2
          go_wp2
          go_roundw
          case rel => exact ⟨k + 1, by omega, by go_num, HBr.out.trans (hbV.mono HBr.out.size)⟩
          case measure => simp [intOf]; omega
        · have hkl : k = F1.length := by omega
          subst hkl
          obtain ⟨WA, hWA⟩ : ∃ WA, WA = wr := ⟨_, rfl⟩
          subst hWA
          obtain ⟨v1, v2⟩ := HV.out _ HBr.out
          have d2 : WA.cell? ⟨n1, 2, none⟩ = some (.slice xc C1.length yc) := cellB v1.1 2
          have hld2 : n1 < WA.heap.size := (Array.getElem?_eq_some_iff.1 v1.1).1
          clear v1 v2 d0 hld
          go_wp2_with fail
          have HBA : Hid (Below Y.heap.size Y WA) := HBr
          go_loopw [93] (fun s93 wr => ∃ (k : Nat), k ≤ C1.length ∧ s93 = .int .i64 k ∧ Hid (Below Y.heap.size Y wr)) (fun s93 _ => C1.length - (intOf s93).toNat)
          case atStart => exact ⟨0, Nat.zero_le _, rfl, HBA⟩
          case round =>
            clear HBr HBA d2 hld2
            obtain ⟨k, hk, rfl, HBr⟩ := hrel
            by_cases hlt : k < C1.length
            · skip
              obtain ⟨HV1, HV2⟩ := HV.out wr HBr.out
              have k1 : wr.cell? ⟨n1, 2, none⟩ = some (.slice xc C1.length yc) := cellB HV1.1 2
              have k2 : wr.cell? ⟨n2, 2, none⟩ = some (.slice zc C1.length uc) := by rw [← HLc.out]; exact cellB HV2.1 2
              have hlt2 : k < C2.length := by rw [HLc.out]; exact hlt
              have hl1' : n1 < wr.heap.size := (Array.getElem?_eq_some_iff.1 HV1.1).1
              have hl2' : n2 < wr.heap.size := (Array.getElem?_eq_some_iff.1 HV2.1).1
              obtain ⟨b, off, hxa, e1, hbr⟩ := IntsAt.cell HV1.2.2.2 k hlt
              obtain ⟨b', off', hza, e2, hbr'⟩ := IntsAt.cell HV2.2.2.2 k hlt2
              obtain ⟨hq, hq0, hq1⟩ := HBo.out.cm k hlt
              have hmx : C1.length ≤ maxLen := by obtain ⟨_, _, _, h⟩ := SlAt.form HV1.2.2.2; exact h
              unfold maxLen at hmx
              rw [hxa] at k1
              rw [hza] at k2
              rw [hq] at e2
              have hkl : (k : Int) < (C1.length : Int) := by omega
              have hk0 : (0 : Int) ≤ (k : Int) := by omega
              generalize C1.getD k 0 = x at *
              have hne0 : ((x + 16 * t) != (x + 16 * t)) = false := by simp
              clear HV1 HV2 hxa hza hq
              go_upto_region 19 with fail
              refine wp_region_lat (by kernel_rfl) (by kernel_rfl) ?_
              intro hne
              repeat (go_big_quiet_step (fail))
              refine wpQuiet_nil ?_
              intro V hbV
              have hbV := lat_out hbV
              clear hne k1 k2 e1 e2
              go_wp2
              go_roundw
              case rel => exact ⟨k + 1, by omega, by go_num, HBr.out.trans (hbV.mono HBr.out.size)⟩
              case measure => simp [intOf]; omega
            · have hkl : k = C1.length := by omega
              subst hkl
              obtain ⟨WB, hWB⟩ : ∃ WB, WB = wr := ⟨_, rfl⟩
              subst hWB
              go_wp2_with fail
              have HBB : Hid (Below Y.heap.size Y WB) := HBr
              go_loopw [13] (fun s13 wr => ∃ (k : Nat), 1 ≤ k ∧ k ≤ 6 ∧ s13 = .int .i64 k ∧ Hid (Below Y.heap.size Y wr)) (fun s13 _ => 6 - (intOf s13).toNat)
              case atStart => exact ⟨1, by decide, by decide, rfl, HBB⟩
              case round =>
                clear HBr HBB
                obtain ⟨k, hk1, hk6, rfl, HBr⟩ := hrel
                obtain ⟨HV1, HV2⟩ := HV.out wr HBr.out
                have hl1' : n1 < wr.heap.size := (Array.getElem?_eq_some_iff.1 HV1.1).1
                have hl2' : n2 < wr.heap.size := (Array.getElem?_eq_some_iff.1 HV2.1).1
                have hcase : k = 1 ∨ k = 2 ∨ k = 3 ∨ k = 4 ∨ k = 5 ∨ k = 6 := by omega
                rcases hcase with rfl | rfl | rfl | rfl | rfl | rfl
                · have ef := HBo.out.fs 1 (by decide) (by decide)
                  have et := HBo.out.ts 1 (by decide) (by decide)
                  have hnf : ((f2 1) != (f1 1 + 16 * t)) = false := by simp [ef.1]
                  have hnt : ((t2 1) != (t1 1 + 16 * t)) = false := by simp [et.1]
                  have k1 : wr.cell? ⟨n2, 4, none⟩ = some (.int .i64 (f2 1)) := cellB HV2.1 4
                  have k2 : wr.cell? ⟨n1, 4, none⟩ = some (.int .i64 (f1 1)) := cellB HV1.1 4
                  have k3 : wr.cell? ⟨n2, 10, none⟩ = some (.int .i64 (t2 1)) := cellB HV2.1 10
                  have k4 : wr.cell? ⟨n1, 10, none⟩ = some (.int .i64 (t1 1)) := cellB HV1.1 10
                  obtain ⟨-, ef1, ef2⟩ := ef
                  obtain ⟨-, et1, et2⟩ := et
                  go_upto_region 25 with fail
                  refine wp_region_lat (by kernel_rfl) (by kernel_rfl) ?_
                  intro hne
                  repeat (go_big_quiet_step (fail))
                  refine wpQuiet_nil ?_
                  intro V hbV
                  have hbV := lat_out hbV
                  clear hne k1 k2 k3 k4
                  go_wp2
                  go_roundw
                  case rel => exact ⟨2, by decide, by decide, by go_num, HBr.out.trans (hbV.mono HBr.out.size)⟩
                  case measure => simp [intOf]
                · have ef := HBo.out.fs 2 (by decide) (by decide)
                  have et := HBo.out.ts 2 (by decide) (by decide)
                  have hnf : ((f2 2) != (f1 2 + 16 * t)) = false := by simp [ef.1]
                  have hnt : ((t2 2) != (t1 2 + 16 * t)) = false := by simp [et.1]
                  have k1 : wr.cell? ⟨n2, 5, none⟩ = some (.int .i64 (f2 2)) := cellB HV2.1 5
                  have k2 : wr.cell? ⟨n1, 5, none⟩ = some (.int .i64 (f1 2)) := cellB HV1.1 5
                  have k3 : wr.cell? ⟨n2, 11, none⟩ = some (.int .i64 (t2 2)) := cellB HV2.1 11
                  have k4 : wr.cell? ⟨n1, 11, none⟩ = some (.int .i64 (t1 2)) := cellB HV1.1 11
                  obtain ⟨-, ef1, ef2⟩ := ef
                  obtain ⟨-, et1, et2⟩ := et
                  go_upto_region 25 with fail
                  refine wp_region_lat (by kernel_rfl) (by kernel_rfl) ?_
                  intro hne
                  repeat (go_big_quiet_step (fail))
                  refine wpQuiet_nil ?_
                  intro V hbV
                  have hbV := lat_out hbV
                  clear hne k1 k2 k3 k4
                  go_wp2
                  go_roundw
                  case rel => exact ⟨3, by decide, by decide, by go_num, HBr.out.trans (hbV.mono HBr.out.size)⟩
                  case measure => simp [intOf]
                · have ef := HBo.out.fs 3 (by decide) (by decide)
                  have et := HBo.out.ts 3 (by decide) (by decide)
                  have hnf : ((f2 3) != (f1 3 + 16 * t)) = false := by simp [ef.1]
                  have hnt : ((t2 3) != (t1 3 + 16 * t)) = false := by simp [et.1]
                  have k1 : wr.cell? ⟨n2, 6, none⟩ = some (.int .i64 (f2 3)) := cellB HV2.1 6
                  have k2 : wr.cell? ⟨n1, 6, none⟩ = some (.int .i64 (f1 3)) := cellB HV1.1 6
                  have k3 : wr.cell? ⟨n2, 12, none⟩ = some (.int .i64 (t2 3)) := cellB HV2.1 12
                  have k4 : wr.cell? ⟨n1, 12, none⟩ = some (.int .i64 (t1 3)) := cellB HV1.1 12
                  obtain ⟨-, ef1, ef2⟩ := ef
                  obtain ⟨-, et1, et2⟩ := et
                  go_upto_region 25 with fail
                  refine wp_region_lat (by kernel_rfl) (by kernel_rfl) ?_
                  intro hne
                  repeat (go_big_quiet_step (fail))
                  refine wpQuiet_nil ?_
                  intro V hbV
                  have hbV := lat_out hbV
                  clear hne k1 k2 k3 k4
                  go_wp2
                  go_roundw
                  case rel => exact ⟨4, by decide, by decide, by go_num, HBr.out.trans (hbV.mono HBr.out.size)⟩
                  case measure => simp [intOf]
                · have ef := HBo.out.fs 4 (by decide) (by decide)
                  have et := HBo.out.ts 4 (by decide) (by decide)
                  have hnf : ((f2 4) != (f1 4 + 16 * t)) = false := by simp [ef.1]
                  have hnt : ((t2 4) != (t1 4 + 16 * t)) = false := by simp [et.1]
                  have k1 : wr.cell? ⟨n2, 7, none⟩ = some (.int .i64 (f2 4)) := cellB HV2.1 7
                  have k2 : wr.cell? ⟨n1, 7, none⟩ = some (.int .i64 (f1 4)) := cellB HV1.1 7
                  have k3 : wr.cell? ⟨n2, 13, none⟩ = some (.int .i64 (t2 4)) := cellB HV2.1 13
                  have k4 : wr.cell? ⟨n1, 13, none⟩ = some (.int .i64 (t1 4)) := cellB HV1.1 13
                  obtain ⟨-, ef1, ef2⟩ := ef
                  obtain ⟨-, et1, et2⟩ := et
                  go_upto_region 25 with fail
                  refine wp_region_lat (by kernel_rfl) (by kernel_rfl) ?_
                  intro hne
                  repeat (go_big_quiet_step (fail))
                  refine wpQuiet_nil ?_
                  intro V hbV
                  have hbV := lat_out hbV
                  clear hne k1 k2 k3 k4
                  go_wp2
                  go_roundw
                  case rel => exact ⟨5, by decide, by decide, by go_num, HBr.out.trans (hbV.mono HBr.out.size)⟩
                  case measure => simp [intOf]
                · have ef := HBo.out.fs 5 (by decide) (by decide)
                  have et := HBo.out.ts 5 (by decide) (by decide)
                  have hnf : ((f2 5) != (f1 5 + 16 * t)) = false := by simp [ef.1]
                  have hnt : ((t2 5) != (t1 5 + 16 * t)) = false := by simp [et.1]
                  have k1 : wr.cell? ⟨n2, 8, none⟩ = some (.int .i64 (f2 5)) := cellB HV2.1 8
                  have k2 : wr.cell? ⟨n1, 8, none⟩ = some (.int .i64 (f1 5)) := cellB HV1.1 8
                  have k3 : wr.cell? ⟨n2, 14, none⟩ = some (.int .i64 (t2 5)) := cellB HV2.1 14
                  have k4 : wr.cell? ⟨n1, 14, none⟩ = some (.int .i64 (t1 5)) := cellB HV1.1 14
                  obtain ⟨-, ef1, ef2⟩ := ef
                  obtain ⟨-, et1, et2⟩ := et
                  go_upto_region 25 with fail
                  refine wp_region_lat (by kernel_rfl) (by kernel_rfl) ?_
                  intro hne
                  repeat (go_big_quiet_step (fail))
                  refine wpQuiet_nil ?_
                  intro V hbV
                  have hbV := lat_out hbV
                  clear hne k1 k2 k3 k4
                  go_wp2
                  go_roundw
                  case rel => exact ⟨6, by decide, by decide, by go_num, HBr.out.trans (hbV.mono HBr.out.size)⟩
                  case measure => simp [intOf]
                · clear HV1 HV2
                  go_wp2
                  go_ret
                  exact ⟨rfl, HEnd.out.trans (HBr.out.mono HEnd.out.size)⟩

end Go.Proofs.Ytebhbhbhcoijpaa
