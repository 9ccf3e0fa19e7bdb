/-
  NamesTell's law: whatever the part and the text: true.
-/
import Derived.Test.YthbdfnphnppagaaDoorFlA2
import Derived.Test.YthbdfnphnppagaaDoorRefCheck
import Derived.Test.YthbdfnphnppagaaDoorNmFound
import Derived.Test.YthbdfnphnppagaaDoorLiA
namespace Go.Proofs.YthbdfnphnppagaaDoor
open Go Go.RowKit
set_option linter.unusedVariables false

theorem texts_same : ∀ l : List ByteArray, sameTexts l l = true
  | [] => rfl
  | x :: l => by
    show (_ && sameTexts l l) = true
    rw [texts_same l]
    simp

theorem flts_same : ∀ l : List Flt, M.allTwo sameFlt l l = true
  | [] => rfl
  | x :: l => by
    show (_ && M.allTwo sameFlt l l) = true
    rw [flts_same l]
    simp [sameFlt]

theorem find_dfn (ds : List M.Dfn) (s : ByteArray) (p : M.Prt) (h : M.checkPart p = 0) : findOf p s = M.find p.defs s := if_pos h

/-- the names that are lacking, as the law gathers them -/
theorem lack_take (LD L : List ByteArray) (k : Nat) (h : k < L.length) : (L.take (k + 1)).filter (fun s => !(M.has LD s)) = (L.take k).filter (fun s => !(M.has LD s)) ++ bif M.has LD (L.getD k str0) then [] else [L.getD k str0] := by
  rw [List.take_succ_eq_append_getElem h, List.filter_append, List.getD_eq_getElem?_getD, List.getElem?_eq_getElem h, Option.getD_some, List.filter_cons, List.filter_nil]
  cases M.has LD L[k] <;> rfl

/-- the answers where the part is wrong, and where it is right -/
theorem tell_cases (p : M.Prt) (s : ByteArray) : (M.checkPart p ≠ 0 ∧ wantedOfP p = [] ∧ definedOfP p = [] ∧ lackingOfP p = [] ∧ faultsOfP p = [] ∧ findOf p s = (M.dfnZ, M.checkPart p)) ∨
    (M.checkPart p = 0 ∧ M.Ok p ∧ wantedOfP p = M.rising (M.wantedNames p.frags) ∧ definedOfP p = M.rising (M.definedNames p.defs) ∧ lackingOfP p = (M.rising (M.wantedNames p.frags)).filter (fun s => !(M.has (M.rising (M.definedNames p.defs)) s)) ∧ faultsOfP p = M.faults p ∧ findOf p s = M.find p.defs s) := by
  by_cases h : M.checkPart p = 0
  · exact .inr ⟨h, (M.ok_iff p).1 h, if_pos h, if_pos h, if_pos h, if_pos h, if_pos h⟩
  · exact .inl ⟨h, if_neg h, if_neg h, if_neg h, if_neg h, if_neg h⟩

set_option maxHeartbeats 8000000 in
set_option maxRecDepth 100000 in
theorem tell_law (p : M.Prt) (s : ByteArray) (a1 a2 : Option Addr) (c1 c2 : Nat) (w : World) (hf : FragsAt w (.slice a1 p.frags.length c1) p.frags) (hd : DefsAt w (.slice a2 p.defs.length c2) p.defs) :
    Calls Tryd.prog 6 #[.agg #[.slice a1 p.frags.length c1, .slice a2 p.defs.length c2], .string s] w fun e w' => e = .returned (.bool true) ∧ Below w.heap.size w w' := by
  have HC : Hid _ := tell_cases p s
  obtain ⟨i0, hi, hz0, hz1, hz2⟩ := info_parts (P := Tryd.prog) (e := 9) (z := .string ⟨#[]⟩) (size := 1) (bytes := 16) (by kernel_rfl)
  have u3 := Tryd.underlying3
  have u9 := Tryd.underlying9
  have q0 := heap_alloc_new w (.cells #[.slice a1 p.frags.length c1, .slice a2 p.defs.length c2] 25)
  have HB0 : Hid (Below w.heap.size w (w.alloc (.cells #[.slice a1 p.frags.length c1, .slice a2 p.defs.length c2] 25))) := (Below.refl _ _).alloc (Nat.le_refl _) _
  go_enter Tryd.func6, Tryd.ntmps6
  go_upto_region 1 with fail
  generalize w.alloc (.cells #[.slice a1 p.frags.length c1, .slice a2 p.defs.length c2] 25) = X at *
  have hl0 : w.heap.size < X.heap.size := (Array.getElem?_eq_some_iff.1 q0).1
  have HS : Hid (∀ W, Below X.heap.size X W → (W.cell? ⟨w.heap.size, 0, none⟩ = some (.slice a1 p.frags.length c1) ∧ W.cell? ⟨w.heap.size, 1, none⟩ = some (.slice a2 p.defs.length c2) ∧ w.heap.size < W.heap.size)) := fun W hW => by
    have y := (hW.block _ hl0).trans q0
    exact ⟨cellB y 0, cellB y 1, (Array.getElem?_eq_some_iff.1 y).1⟩
  have HF : Hid (∀ W, Below X.heap.size X W → FragsAt W (.slice a1 p.frags.length c1) p.frags) := fun W hW => (hf.later HB0.out).later hW
  have HD : Hid (∀ W, Below X.heap.size X W → DefsAt W (.slice a2 p.defs.length c2) p.defs) := fun W hW => (hd.later HB0.out).later hW
  have KW : Hid (∀ W, Below X.heap.size X W → Calls Tryd.prog 28 #[.agg #[.slice a1 p.frags.length c1, .slice a2 p.defs.length c2]] W fun e w' => Below W.heap.size W w' ∧ ∃ x y, e = .returned (.tuple #[.slice x (wantedOfP p).length y, .int .i64 (M.checkPart p)]) ∧ StrsAt w' (.slice x (wantedOfP p).length y) (wantedOfP p)) := fun W hW =>
    (wantedP_any p a1 a2 c1 c2 W (HF.out W hW) (HD.out W hW)).mono fun e w' ⟨h1, v, h2, h3, h4⟩ => by
      obtain ⟨x, y, rfl⟩ := own_len h3
      exact ⟨h1, x, y, h2, row_strs h3 h4⟩
  have KD : Hid (∀ W, Below X.heap.size X W → Calls Tryd.prog 29 #[.agg #[.slice a1 p.frags.length c1, .slice a2 p.defs.length c2]] W fun e w' => Below W.heap.size W w' ∧ ∃ x y, e = .returned (.tuple #[.slice x (definedOfP p).length y, .int .i64 (M.checkPart p)]) ∧ StrsAt w' (.slice x (definedOfP p).length y) (definedOfP p)) := fun W hW =>
    (definedP_any p a1 a2 c1 c2 W (HF.out W hW) (HD.out W hW)).mono fun e w' ⟨h1, v, h2, h3, h4⟩ => by
      obtain ⟨x, y, rfl⟩ := own_len h3
      exact ⟨h1, x, y, h2, row_strs h3 h4⟩
  have KL : Hid (∀ W, Below X.heap.size X W → Calls Tryd.prog 30 #[.agg #[.slice a1 p.frags.length c1, .slice a2 p.defs.length c2]] W fun e w' => Below W.heap.size W w' ∧ ∃ x y, e = .returned (.tuple #[.slice x (lackingOfP p).length y, .int .i64 (M.checkPart p)]) ∧ StrsAt w' (.slice x (lackingOfP p).length y) (lackingOfP p)) := fun W hW =>
    (lackingP_any p a1 a2 c1 c2 W (HF.out W hW) (HD.out W hW)).mono fun e w' ⟨h1, v, h2, h3, h4⟩ => by
      obtain ⟨x, y, rfl⟩ := own_len h3
      exact ⟨h1, x, y, h2, row_strs h3 h4⟩
  have KX : Hid (∀ W, Below X.heap.size X W → Calls Tryd.prog 31 #[.agg #[.slice a1 p.frags.length c1, .slice a2 p.defs.length c2], .string s] W fun e w' => e = .returned (.tuple #[.agg (dfnArr (findOf p s).1), .int .i64 (findOf p s).2]) ∧ Below W.heap.size W w') := fun W hW => findP_any p s a1 a2 c1 c2 W (HF.out W hW) (HD.out W hW)
  have KT : Hid (∀ W, Below X.heap.size X W → Calls Tryd.prog 32 #[.agg #[.slice a1 p.frags.length c1, .slice a2 p.defs.length c2]] W fun e w' => Below W.heap.size W w' ∧ ∃ x y, e = .returned (.tuple #[.slice x (faultsOfP p).length y, .int .i64 (M.checkPart p)]) ∧ FltsAt w' (.slice x (faultsOfP p).length y) ((faultsOfP p).map fun x => (⟨x.1, x.2, 0, 0⟩ : Flt))) := fun W hW =>
    (faultsP_any p a1 a2 c1 c2 W (HF.out W hW) (HD.out W hW)).mono fun e w' ⟨h1, v, h2, h3⟩ => by
      obtain ⟨x, y, rfl⟩ := own_len h3
      rw [fltMap] at h3
      exact ⟨h1, x, y, h2, row_flts (l := (faultsOfP p).map fun x => (⟨x.1, x.2, 0, 0⟩ : Flt)) (by rwa [List.length_map])⟩
  have KC : Hid (∀ W, Below X.heap.size X W → Calls Tryd.prog 9 #[.agg #[.slice a1 p.frags.length c1, .slice a2 p.defs.length c2]] W fun e w' => e = .returned (.int .i64 (M.checkPart p)) ∧ Below W.heap.size W w') := fun W hW => rcheck_any p.frags p.defs a1 a2 c1 c2 W (HF.out W hW) (HD.out W hW)
  have hX0 : Below X.heap.size X X := Below.refl _ _
  clear hf hd q0 hl0
  generalize hLW : wantedOfP p = LW at *
  generalize hLD : definedOfP p = LD at *
  generalize hLL : lackingOfP p = LL at *
  generalize hFT : faultsOfP p = FT at *
  generalize hFD : findOf p s = FD at *
  generalize hEr : M.checkPart p = er at *
  obtain ⟨⟨nm, kd, fg, pos, sz, al⟩, er2⟩ := FD
  simp only [dfnArr] at KX
  have HEr : Hid (M.checkPart p = er) := hEr
  clear hLW hLD hLL hFT hFD hEr
  obtain ⟨c00, c01, hl0⟩ := HS.out _ hX0
  go_upto_region 2 with (go_at_call 28; refine (KW.out _ hX0).mono ?_; rintro e w1 ⟨hb1, xw, yw, rfl, hw1⟩)
  have hX1 : Below X.heap.size X w1 := hb1
  clear c00 c01 hl0 KW hb1 hX0
  obtain ⟨c00, c01, hl0⟩ := HS.out _ hX1
  go_upto_region 3 with (go_at_call 29; refine (KD.out _ hX1).mono ?_; rintro e w2 ⟨hb2, xd, yd, rfl, hd2⟩)
  have hX2 : Below X.heap.size X w2 := hX1.trans (hb2.mono hX1.size)
  have hw2 := hw1.later hb2
  clear c00 c01 hl0 KD hb2 hX1 hw1
  obtain ⟨c00, c01, hl0⟩ := HS.out _ hX2
  go_upto_region 4 with (go_at_call 30; refine (KL.out _ hX2).mono ?_; rintro e w3 ⟨hb3, xl, yl, rfl, hl3⟩)
  have hX3 : Below X.heap.size X w3 := hX2.trans (hb3.mono hX2.size)
  have hw3 := hw2.later hb3
  have hd3 := hd2.later hb3
  clear c00 c01 hl0 KL hb3 hX2 hw2 hd2
  obtain ⟨c00, c01, hl0⟩ := HS.out _ hX3
  go_upto_region 5 with (go_at_call 31; refine (KX.out _ hX3).mono ?_; rintro e w4 ⟨rfl, hb4⟩)
  have hb4a : Below w3.heap.size w3 (w4.alloc (.cells #[.string nm, .int .i64 kd, .int .i64 fg, .int .i64 pos, .int .i64 sz, .int .i64 al] 53)) := hb4.alloc hb4.size _
  have d4 := heap_alloc_new w4 (.cells #[.string nm, .int .i64 kd, .int .i64 fg, .int .i64 pos, .int .i64 sz, .int .i64 al] 53)
  generalize w4.alloc (.cells #[.string nm, .int .i64 kd, .int .i64 fg, .int .i64 pos, .int .i64 sz, .int .i64 al] 53) = X4 at *
  generalize w4.heap.size = n4 at *
  have hX4 : Below X.heap.size X X4 := hX3.trans (hb4a.mono hX3.size)
  have hw4 := hw3.later hb4a
  have hd4 := hd3.later hb4a
  have hl4 := hl3.later hb4a
  clear c00 c01 hl0 KX hb4 hb4a hX3 hw3 hd3 hl3
  obtain ⟨c00, c01, hl0⟩ := HS.out _ hX4
  go_upto_region 6 with (go_at_call 32; refine (KT.out _ hX4).mono ?_; rintro e w5 ⟨hb5, xt, yt, rfl, ht5⟩)
  have hX5 : Below X.heap.size X w5 := hX4.trans (hb5.mono hX4.size)
  have hw5 := hw4.later hb5
  have hd5 := hd4.later hb5
  have hl5 := hl4.later hb5
  have d5 := (hb5.block _ (Array.getElem?_eq_some_iff.1 d4).1).trans d4
  clear c00 c01 hl0 KT hb5 hX4 hw4 hd4 hl4 d4
  obtain ⟨c00, c01, hl0⟩ := HS.out _ hX5
  go_upto_region 7 with (go_at_call 9; refine (KC.out _ hX5).mono ?_; rintro e w6 ⟨rfl, hb6⟩)
  have hX6 : Below X.heap.size X w6 := hX5.trans (hb6.mono hX5.size)
  have hw6 : Hid (StrsAt w6 (.slice xw LW.length yw) LW) := hw5.later hb6
  have hd6 : Hid (StrsAt w6 (.slice xd LD.length yd) LD) := hd5.later hb6
  have hl6 : Hid (StrsAt w6 (.slice xl LL.length yl) LL) := hl5.later hb6
  have ht6 : Hid (FltsAt w6 (.slice xt FT.length yt) (FT.map fun x => (⟨x.1, x.2, 0, 0⟩ : Flt))) := ht5.later hb6
  have d6 := (hb6.block _ (Array.getElem?_eq_some_iff.1 d5).1).trans d5
  clear c00 c01 hl0 KC hb6 hX5 hw5 hd5 hl5 ht5 d5
  rcases HC.out with ⟨hne, rfl, rfl, rfl, rfl, hfd⟩ | ⟨rfl, hok, hlw, hld, hll, hft, hfd⟩
  · have HB6 : Hid (Below w.heap.size w w6) := HB0.out.trans (hX6.mono HB0.out.size)
    have hn : (er != 0) = true := by simpa using hne
    simp only [Prod.mk.injEq, M.dfnZ, M.Dfn.mk.injEq] at hfd
    obtain ⟨⟨rfl, rfl, rfl, rfl, rfl, rfl⟩, rfl⟩ := hfd
    have HQ : Hid (∀ W, Below w6.heap.size w6 W → W.heap[n4]? = some (.cells #[.string ⟨#[]⟩, .int .i64 0, .int .i64 0, .int .i64 0, .int .i64 0, .int .i64 0] 53 (0, 0))) := fun W hW => (hW.block _ (Array.getElem?_eq_some_iff.1 d6).1).trans d6
    clear HC hne hw6 hd6 hl6 ht6 d6 HS HF HD hX6 HB0
    go_upto_region 8 with (go_at_call 33; refine (found_any _).mono ?_; rintro e w7 ⟨rfl, hb7⟩)
    go_wp2_with (go_at_call 33; refine (found_any _).mono ?_; rintro e w8 ⟨rfl, hb8⟩; have hY := hb7.trans (hb8.mono hb7.size); have y := HQ.out _ hY; have g0 : w8.cell? ⟨n4, 0, none⟩ = some (.string ⟨#[]⟩) := cellB y 0; have g1 : w8.cell? ⟨n4, 1, none⟩ = some (.int .i64 0) := cellB y 1; have g2 : w8.cell? ⟨n4, 2, none⟩ = some (.int .i64 0) := cellB y 2; have g3 : w8.cell? ⟨n4, 3, none⟩ = some (.int .i64 0) := cellB y 3; have g4 : w8.cell? ⟨n4, 4, none⟩ = some (.int .i64 0) := cellB y 4; have g5 : w8.cell? ⟨n4, 5, none⟩ = some (.int .i64 0) := cellB y 5; have hl8 : n4 < w8.heap.size := (Array.getElem?_eq_some_iff.1 y).1; clear y)
    go_ret
    exact ⟨rfl, HB6.out.trans (hY.mono HB6.out.size)⟩
  · have HB6 : Hid (Below w.heap.size w w6) := HB0.out.trans (hX6.mono HB0.out.size)
    rw [← hlw, ← hld] at hll
    have KW2 : Hid (∀ W, Below X.heap.size X W → Calls Tryd.prog 34 #[.agg #[.slice a1 p.frags.length c1, .slice a2 p.defs.length c2]] W fun e w' => Below W.heap.size W w' ∧ ∃ x y, e = .returned (.slice x LW.length y) ∧ StrsAt w' (.slice x LW.length y) LW ∧ LW.length ≤ 480) := fun W hW =>
      (wantedBy_any p.frags a1 a2 _ c1 c2 W (HF.out W hW) hok.nf (ok_rels hok) LW hlw.symm).mono fun e w' ⟨h1, x, y, B, h2, h3, h4, h5, h6⟩ => ⟨h1, x, y, h2, row_strs h3 h5, h6⟩
    have KD2 : Hid (∀ W, Below X.heap.size X W → Calls Tryd.prog 35 #[.agg #[.slice a1 p.frags.length c1, .slice a2 p.defs.length c2]] W fun e w' => Below W.heap.size W w' ∧ ∃ x y, e = .returned (.slice x LD.length y) ∧ StrsAt w' (.slice x LD.length y) LD) := fun W hW =>
      (definedBy_any p.defs a1 a2 _ c1 c2 W (HD.out W hW) hok.nd LD hld.symm).mono fun e w' ⟨h1, x, y, B, h2, h3, h4, h5, h6⟩ => ⟨h1, x, y, h2, row_strs h3 h5⟩
    have KX2 : Hid (∀ W, Below X.heap.size X W → Calls Tryd.prog 37 #[.agg #[.slice a1 p.frags.length c1, .slice a2 p.defs.length c2], .string s] W fun e w' => e = .returned (.tuple #[.agg #[.string nm, .int .i64 kd, .int .i64 fg, .int .i64 pos, .int .i64 sz, .int .i64 al], .int .i64 er2]) ∧ Below W.heap.size W w') := fun W hW => by
      have := rfound_any p.defs s a1 a2 p.frags.length c1 c2 W (HD.out W hW) hok.nd hok.plain
      rw [← hfd] at this
      exact this
    have KT2 : Hid (∀ W, Below X.heap.size X W → Calls Tryd.prog 39 #[.agg #[.slice a1 p.frags.length c1, .slice a2 p.defs.length c2]] W fun e w' => Below W.heap.size W w' ∧ ∃ x y, e = .returned (.slice x FT.length y) ∧ FltsAt w' (.slice x FT.length y) (FT.map fun x => (⟨x.1, x.2, 0, 0⟩ : Flt))) := fun W hW =>
      (rfaults_any p a1 a2 c1 c2 W (HF.out W hW) (HD.out W hW) hok).mono fun e w' ⟨h1, v, h2, h3⟩ => by
        rw [← hft] at h3
        obtain ⟨x, y, rfl⟩ := own_len h3
        rw [fltMap] at h3
        exact ⟨h1, x, y, h2, row_flts (l := FT.map fun x => (⟨x.1, x.2, 0, 0⟩ : Flt)) (by rwa [List.length_map])⟩
    have HLL : Hid (LL = LW.filter (fun s => !(M.has LD s))) := hll
    have HQ6 : Hid (w6.heap[n4]? = some (.cells #[.string nm, .int .i64 kd, .int .i64 fg, .int .i64 pos, .int .i64 sz, .int .i64 al] 53 (0, 0))) := d6
    clear HC hlw hld hll hft hfd hok HF HD d6 HEr
    go_upto_region 9 with (go_at_call 33; refine (found_any _).mono ?_; rintro e w7 ⟨rfl, hb7⟩)
    have hX7 : Below X.heap.size X w7 := hX6.trans (hb7.mono hX6.size)
    have hA0 : Below X.heap.size X w7.drew := hX7.drew
    go_region_held3 (fun w' => w'.cell? ⟨w.heap.size, 0, none⟩ = some (.slice a1 p.frags.length c1) ∧ w'.cell? ⟨w.heap.size, 1, none⟩ = some (.slice a2 p.defs.length c2)) (first | exact ⟨(HS.out _ hA0).1, (HS.out _ hA0).2.1⟩ | exact ⟨(HS.out _ hX9).1, (HS.out _ hX9).2.1⟩ | exact ⟨(HS.out _ hX8).1, (HS.out _ hX8).2.1⟩) (first | (go_at_call 34; refine (KW2.out _ hA0).mono ?_; rintro e w8 ⟨hb8, xW, yW, rfl, hW8, hn8⟩; have hX8 : Below X.heap.size X w8 := hA0.trans (hb8.mono hA0.size)) | (go_at_call 35; refine (KD2.out _ hX8).mono ?_; rintro e w9 ⟨hb9, xD, yD, rfl, hD9⟩; have hX9 : Below X.heap.size X w9 := hX8.trans (hb9.mono hX8.size)))
    have hb69 : Below w6.heap.size w6 w9 := ((hb7.drew).trans (hb8.mono hb7.size)).trans (hb9.mono (Nat.le_trans hb7.size hb8.size))
    have HW9 : Hid (StrsAt w9 (.slice xW LW.length yW) LW) := hW8.later hb9
    have HD9 : Hid (StrsAt w9 (.slice xD LD.length yD) LD) := hD9
    have HO9 : Hid (Below w6.heap.size w6 w9) := hb69
    have HX9 : Hid (Below X.heap.size X w9) := hX9
    clear hb69 hW8 hD9 hb7 hb8 hb9 hX7 hX8 hX9 hA0 KW2 KD2 hX6
    have KCn : Hid (∀ n W, Below w9.heap.size w9 W → Calls Tryd.prog 36 #[.slice xD LD.length yD, .string n] W fun e w' => e = .returned (.bool (M.has LD n)) ∧ W = w') := fun n W hW => (containsS_any LD n xD yD W (HD9.out.later hW)).mono fun e w' ⟨h1, h2⟩ => ⟨h1, h2.symm⟩
    go_wp2_with fail
    go_loopw [18, 108] (fun s18 s108 wr => ∃ (k : Nat) (lk : List ByteArray), k ≤ LW.length ∧ s108 = .int .i64 k ∧ Hid (lk = (LW.take k).filter (fun s => !(M.has LD s))) ∧ lk.length ≤ k ∧ wr.ownsRow w9.heap.size 9 1 s18 lk.length (lk.map Value.string) ∧ Hid (Below w9.heap.size w9 wr)) (fun _ s108 _ => LW.length - (intOf s108).toNat)
    case atStart => exact ⟨0, [], Nat.zero_le _, rfl, rfl, Nat.le_refl _, World.ownsRow_nil _ _ _ _, Below.refl _ _⟩
    case round =>
      obtain ⟨k, lk, hk, rfl, HL, hlk, hown, HB⟩ := hrel
      have hw0 : w9.heap.size ≤ wr.heap.size := HB.out.size
      by_cases hlt : k < LW.length
      · obtain ⟨b, off, rfl, e0, hbr⟩ := (HW9.out.later HB.out).cell k hlt
        have HL1 := lack_take LD LW k hlt
        rw [← HL.out] at HL1
        have hkl : (k : Int) < (LW.length : Int) := by omega
        have KC1 : Hid (Calls Tryd.prog 36 #[.slice xD LD.length yD, .string (LW.getD k str0)] wr fun e w' => e = .returned (.bool (M.has LD (LW.getD k str0))) ∧ wr = w') := KCn.out _ wr HB.out
        clear HL
        have hnm : (LW.getD k str0).size ≤ maxLen := HW9.out.2 _ (getD_mem LW str0 k hlt)
        generalize LW.getD k str0 = n at *
        generalize M.has LD n = R at *
        obtain ⟨a5, n5, c5, rfl⟩ := own_form hown
        cases R
        · have HL2 : Hid (lk ++ [n] = (LW.take (k + 1)).filter (fun s => !(M.has LD s))) := HL1.symm
          clear HL1
          have hnews : ∀ j u, (#[.string n] : Array Value).toList[j]? = some u → (wr.alloc (.cells #[.string n] 9)).cell? ((⟨wr.heap.size, 0, none⟩ : Addr).add j) = some u := World.news_of_block (heap_alloc_new wr _)
          have HE : Hid (∀ v' w3, (wr.alloc (.cells #[.string n] 9)).grownBy w3 (Value.slice a5 n5 c5).ownBlock → w3.ownsRow w9.heap.size 9 1 v' (lk.length + 1) (lk.map Value.string ++ (#[.string n] : Array Value).toList) → w3.ownsRow w9.heap.size 9 1 v' (lk ++ [n]).length ((lk ++ [n]).map Value.string) ∧ Below w9.heap.size w9 w3) := fun v' w3 hg3 ho3 => ⟨by rw [List.length_append, List.map_append]; exact ho3, (HB.out.alloc hw0 _).grown hg3 (by simp; omega) (fun k hk => (hown.lt k hk).1)⟩
          go_wp2_with (first | (go_at_call 36; refine KC1.out.mono ?_; rintro e w4 ⟨rfl, rfl⟩) | (at_builtin; refine wpList_append_own _ rfl _ _ 38 rfl w9.heap.size 9 i0 (.string ⟨#[]⟩) 1 16 Tryd.underlying38 hi hz0 hz1 hz2 rfl (by decide) _ _ _ rfl (hown.alloc _) ⟨wr.heap.size, 0, none⟩ 1 1 (#[.string n] : Array Value).toList rfl rfl hnews (fun u hu => by simp at hu; subst hu; rfl) (by unfold maxLen; omega) (by omega) (by simp; omega) ?_; intro v' w3 hown' hgrow3 hnil3))
          have HE' := HE.out _ _ hgrow3 hown'
          go_roundw
          case rel => exact ⟨k + 1, lk ++ [n], by omega, by go_num, HL2, by simp; omega, HE'.1, HE'.2⟩
          case measure => simp [intOf]; omega
        · have HL2 : Hid (lk = (LW.take (k + 1)).filter (fun s => !(M.has LD s))) := by rw [Hid, HL1]; simp
          clear HL1
          go_wp2_with (go_at_call 36; refine KC1.out.mono ?_; rintro e w4 ⟨rfl, rfl⟩)
          go_roundw
          case rel => exact ⟨k + 1, lk, by omega, by go_num, HL2, by omega, hown, HB⟩
          case measure => simp [intOf]; omega
      · have hkl : k = LW.length := by omega
        have HL2 : Hid (lk = LL) := by rw [Hid, HL.out, HLL.out, hkl, List.take_length]
        clear HL hlk
        subst hkl
        have HXr : Hid (Below X.heap.size X wr) := HX9.out.trans (HB.out.mono HX9.out.size)
        have HOr : Hid (Below w6.heap.size w6 wr) := HO9.out.trans (HB.out.mono HO9.out.size)
        obtain rfl : lk = LL := HL2.out
        obtain ⟨a5, c5, rfl⟩ := own_len hown
        have HLr : Hid (StrsAt wr (.slice a5 lk.length c5) lk) := row_strs hown (fun x hx => HW9.out.2 x (by have := HLL.out; rw [this] at hx; exact (List.mem_filter.1 hx).1))
        obtain ⟨c00, c01, hl0⟩ := HS.out _ HXr.out
        clear hown HL2 HLL KCn hw0
        go_upto_region 18 with (go_at_call 37; refine (KX2.out _ HXr.out).mono ?_; rintro e w4 ⟨rfl, hb4⟩)
        have hb4a : Below wr.heap.size wr (w4.alloc (.cells #[.string nm, .int .i64 kd, .int .i64 fg, .int .i64 pos, .int .i64 sz, .int .i64 al] 53)) := hb4.alloc hb4.size _
        have g4 := heap_alloc_new w4 (.cells #[.string nm, .int .i64 kd, .int .i64 fg, .int .i64 pos, .int .i64 sz, .int .i64 al] 53)
        generalize w4.alloc (.cells #[.string nm, .int .i64 kd, .int .i64 fg, .int .i64 pos, .int .i64 sz, .int .i64 al] 53) = Y at *
        generalize w4.heap.size = n5 at *
        have HXY : Hid (Below X.heap.size X Y) := HXr.out.trans (hb4a.mono HXr.out.size)
        have HOY : Hid (Below w6.heap.size w6 Y) := HOr.out.trans (hb4a.mono HOr.out.size)
        have HQY : Hid (∀ W, Below Y.heap.size Y W → W.heap[n5]? = some (.cells #[.string nm, .int .i64 kd, .int .i64 fg, .int .i64 pos, .int .i64 sz, .int .i64 al] 53 (0, 0)) ∧ W.heap[n4]? = some (.cells #[.string nm, .int .i64 kd, .int .i64 fg, .int .i64 pos, .int .i64 sz, .int .i64 al] 53 (0, 0))) := fun W hW =>
          ⟨(hW.block _ (Array.getElem?_eq_some_iff.1 g4).1).trans g4, ((HOY.out.trans (hW.mono HOY.out.size)).block _ (Array.getElem?_eq_some_iff.1 HQ6.out).1).trans HQ6.out⟩
        have KE1 : Hid (Calls Tryd.prog 21 #[.slice xw LW.length yw, .slice xW LW.length yW] Y fun e w' => e = .returned (.bool true) ∧ Below Y.heap.size Y w') := by
          have := equalS_any LW LW xw xW yw yW Y (hw6.out.later HOY.out) ((HW9.out.later HB.out).later hb4a)
          rwa [texts_same] at this
        have KE2 : Hid (∀ W, Below Y.heap.size Y W → Calls Tryd.prog 21 #[.slice xd LD.length yd, .slice xD LD.length yD] W fun e w' => e = .returned (.bool true) ∧ Below W.heap.size W w') := fun W hW => by
          have := equalS_any LD LD xd xD yd yD W ((hd6.out.later HOY.out).later hW) (((HD9.out.later HB.out).later hb4a).later hW)
          rwa [texts_same] at this
        have KE3 : Hid (∀ W, Below Y.heap.size Y W → Calls Tryd.prog 21 #[.slice xl lk.length yl, .slice a5 lk.length c5] W fun e w' => e = .returned (.bool true) ∧ Below W.heap.size W w') := fun W hW => by
          have := equalS_any lk lk xl a5 yl c5 W ((hl6.out.later HOY.out).later hW) ((HLr.out.later hb4a).later hW)
          rwa [texts_same] at this
        have KF : Hid (∀ x y W, Below Y.heap.size Y W → FltsAt W (.slice x FT.length y) (FT.map fun x => (⟨x.1, x.2, 0, 0⟩ : Flt)) → Calls Tryd.prog 38 #[.slice xt FT.length yt, .slice x FT.length y] W fun e w' => e = .returned (.bool true) ∧ Below W.heap.size W w') := fun x y W hW hx => by
          have := eqFlts_any (FT.map fun x => (⟨x.1, x.2, 0, 0⟩ : Flt)) (FT.map fun x => (⟨x.1, x.2, 0, 0⟩ : Flt)) xt x yt y W (by rw [List.length_map]; exact (ht6.out.later HOY.out).later hW) (by rw [List.length_map]; exact hx)
          rw [flts_same, List.length_map] at this
          exact this
        have HEnd : Hid (Below w.heap.size w Y) := HB6.out.trans (HOY.out.mono HB6.out.size)
        clear hw6 hd6 hl6 ht6 HW9 HD9 HLr HB HO9 HX9 HXr HOr hb4 hb4a g4 c00 c01 hl0 HQ6 HB6 KX2 HB0
        go_wp2_with (go_at_call 21; refine KE1.out.mono ?_; rintro e y1 ⟨rfl, hy1⟩; refine Hid.out ?_)
        refine Lib.hid ?_
        go_wp2_with (go_at_call 21; refine (KE2.out _ hy1).mono ?_; rintro e y2 ⟨rfl, hb2⟩; refine Hid.out ?_)
        have hy2 : Below Y.heap.size Y y2 := hy1.trans (hb2.mono hy1.size)
        refine Lib.hid ?_
        go_wp2_with (go_at_call 21; refine (KE3.out _ hy2).mono ?_; rintro e y3 ⟨rfl, hb3⟩; refine Hid.out ?_)
        have hy3 : Below Y.heap.size Y y3 := hy2.trans (hb3.mono hy2.size)
        obtain ⟨r5, r4⟩ := HQY.out _ hy3
        obtain ⟨c00, c01, hl0⟩ := HS.out _ (HXY.out.trans (hy3.mono HXY.out.size))
        have g0 : y3.cell? ⟨n4, 0, none⟩ = some (.string nm) := cellB r4 0
        have g1 : y3.cell? ⟨n4, 1, none⟩ = some (.int .i64 kd) := cellB r4 1
        have g2 : y3.cell? ⟨n4, 2, none⟩ = some (.int .i64 fg) := cellB r4 2
        have g3 : y3.cell? ⟨n4, 3, none⟩ = some (.int .i64 pos) := cellB r4 3
        have g4 : y3.cell? ⟨n4, 4, none⟩ = some (.int .i64 sz) := cellB r4 4
        have g5 : y3.cell? ⟨n4, 5, none⟩ = some (.int .i64 al) := cellB r4 5
        have f0 : y3.cell? ⟨n5, 0, none⟩ = some (.string nm) := cellB r5 0
        have f1 : y3.cell? ⟨n5, 1, none⟩ = some (.int .i64 kd) := cellB r5 1
        have f2 : y3.cell? ⟨n5, 2, none⟩ = some (.int .i64 fg) := cellB r5 2
        have f3 : y3.cell? ⟨n5, 3, none⟩ = some (.int .i64 pos) := cellB r5 3
        have f4 : y3.cell? ⟨n5, 4, none⟩ = some (.int .i64 sz) := cellB r5 4
        have f5 : y3.cell? ⟨n5, 5, none⟩ = some (.int .i64 al) := cellB r5 5
        have l4 : n4 < y3.heap.size := (Array.getElem?_eq_some_iff.1 r4).1
        have l5 : n5 < y3.heap.size := (Array.getElem?_eq_some_iff.1 r5).1
        have KT3 : Hid (Calls Tryd.prog 39 #[.agg #[.slice a1 p.frags.length c1, .slice a2 p.defs.length c2]] y3 _) := KT2.out _ (HXY.out.trans (hy3.mono HXY.out.size))
        clear r4 r5 KE1 KE2 KE3 hb2 hb3 hy1 hy2 HQY KT2 HS HXY HOY
        refine Lib.hid ?_
        go_wp2_with (first | (go_at_call 39; refine KT3.out.mono ?_; rintro e y4 ⟨hb4, xf, yf, rfl, hf4⟩) | (go_at_call 38; refine (KF.out _ _ _ (hy3.trans (hb4.mono hy3.size)) hf4).mono ?_; rintro e y5 ⟨rfl, hb5⟩))
        go_ret
        exact ⟨rfl, HEnd.out.trans (((hy3.trans (hb4.mono hy3.size)).trans (hb5.mono (Nat.le_trans hy3.size hb4.size))).mono HEnd.out.size)⟩

end Go.Proofs.YthbdfnphnppagaaDoor
