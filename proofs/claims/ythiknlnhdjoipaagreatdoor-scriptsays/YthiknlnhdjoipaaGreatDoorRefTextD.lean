/-
  The reference's PartText: the lines of its names.
-/
import Derived.Test.YthiknlnhdjoipaaGreatDoorRefTextL
import Derived.Deep.DeepCutAuto
namespace Go.Proofs.YthiknlnhdjoipaaGreatDoor
open Go Go.RowKit
set_option linter.unusedVariables false
attribute [local go_sem] lat_cell

theorem rd_fields {w X : World} (hG : Glob w) (hBk : Blanks w) (hb : Below w.heap.size w X) :
    Calls Tryz.prog 29 #[.string ⟨#[45, 32, 115, 116, 114, 111, 110, 103, 32, 119, 101, 97, 107, 32, 99, 111, 109, 109, 111, 110]⟩] X fun e w' => e = .returned (.slice (some ⟨X.heap.size, 0, none⟩) 4 4) ∧ w' = X.alloc (.cells ((([[45], [115, 116, 114, 111, 110, 103], [119, 101, 97, 107], [99, 111, 109, 109, 111, 110]] : List M.Txt).map M.str).map Value.string).toArray 9) :=
  fields_any ⟨#[45, 32, 115, 116, 114, 111, 110, 103, 32, 119, 101, 97, 107, 32, 99, 111, 109, 109, 111, 110]⟩ (([[45], [115, 116, 114, 111, 110, 103], [119, 101, 97, 107], [99, 111, 109, 109, 111, 110]] : List M.Txt).map M.str) (by decide +kernel) (by decide) (by decide) X (hBk.later hG hb)
theorem rd_word (m : Nat) (h : 1 ≤ m ∧ m ≤ 3) : ((([[45], [115, 116, 114, 111, 110, 103], [119, 101, 97, 107], [99, 111, 109, 109, 111, 110]] : List M.Txt).map M.str).map Value.string).toArray[m]? = some (.string (M.str (M.defT.getD m []))) := by
  match m, h with
  | 1, _ | 2, _ | 3, _ => rfl
  | m + 4, h => omega

set_option maxHeartbeats 8000000 in
set_option maxRecDepth 1000000 in
theorem rt_defs {zc0 zc1 zc2 zc4 zc5 zc7 zc8 zc9 zc10 zc11 zc12 zc13 zc14 zc15 zc16 zc17 zc18 zc19 zc20 zc21 zc22 zc23 zc24 zc25 zc26 zc27 zc28 zc29 zc30 zc31 zc32 zc33 zc34 zc35 zc36 zc37 zc38 zc39 zc40 zc41 zc42 zc43 zc44 zc45 zc46 zc47 zc48 zc49 zc50 zc51 zc52 zc53 zc54 zc55 zc56 zc57 zc58 zc59 zc60 zc61 zc62 zc63 zc64 zc65 zc66 zc67 zc68 zc69 zc70 zc71 zc72 zc73 zc74 zc75 zc76 zc77 zc78 zc79 zc80 zc81 zc82 zc83 zc84 zc85 zc86 zc87 zc88 zc89 zc90 zc91 zc92 zc93 zc94 zc95 zc96 zc97 zc98 zc99 zc100 zc101 zc102 zc103 zc104 zc105 zc106 zc107 zc108 zc112 zc113 zc114 zc115 zc116 zc117 zc118 zc119 zc120 zc121 zc122 zc123 zc124 zc125 zc126 zc127 zc128 zc129 zc130 zc131 zc132 zc133 zc134 zc135 zc136 zc137 zc138 zc139 zc140 zc141 zc142 zc143 : Value} (w W0 : World) (b1 b5 : Nat) (pc : Array Value) (hG : Glob w) (hBk : Blanks w) (hb5 : w.heap.size ≤ b5) (hne15 : b1 ≠ b5) (T0 : M.Txt) (L0 : Nat) (ds : List M.Dfn) (ad : Option Addr) (cd : Nat) (HDl : Hid (∀ W, Below w.heap.size w W → DefsAt W (.slice ad ds.length cd) ds)) (HOk : Hid (∀ d ∈ ds, OkDfn d)) (hn : ds.length ≤ 100) (hL0 : L0 ≤ 100000) (HS : Hid (PtS w b1 b5 pc T0 W0)) (hT0 : T0.length ≤ L0) {Q0 : Exit → Act → World → Prop}
    (hexit : ∀ (zv16 zv17 zv18 zv111 zv112 zv113 zv114 zv115 zv116 zv117 zv118 zv119 zv120 zv121 zv122 zv123 zv124 zv125 zv126 zv127 zv128 zv129 zv130 zv131 zv132 zv133 zv134 zv135 zv136 zv137 zv138 zv139 zv140 zv141 zv142 : Value) (w'' : World), PtS w b1 b5 pc (T0 ++ M.defsText ds) w'' → Q0 (.exit 6) ⟨List.toArray (zc0 :: zc1 :: zc2 :: .func (.func (16 : Nat)) #[] #[] :: zc4 :: zc5 :: .func (.func (28 : Nat)) #[] #[.pointer (some ⟨b5, 0, none⟩)] :: zc7 :: zc8 :: zc9 :: zc10 :: zc11 :: zc12 :: zc13 :: zc14 :: zc15 :: zv16 :: zv17 :: zv18 :: zc19 :: zc20 :: zc21 :: zc22 :: zc23 :: zc24 :: zc25 :: zc26 :: zc27 :: zc28 :: zc29 :: zc30 :: zc31 :: zc32 :: zc33 :: zc34 :: zc35 :: zc36 :: zc37 :: zc38 :: zc39 :: zc40 :: zc41 :: zc42 :: zc43 :: zc44 :: zc45 :: zc46 :: zc47 :: zc48 :: zc49 :: zc50 :: zc51 :: zc52 :: zc53 :: zc54 :: zc55 :: zc56 :: zc57 :: zc58 :: zc59 :: zc60 :: zc61 :: zc62 :: zc63 :: zc64 :: zc65 :: zc66 :: zc67 :: zc68 :: zc69 :: zc70 :: zc71 :: zc72 :: zc73 :: zc74 :: zc75 :: zc76 :: zc77 :: zc78 :: zc79 :: zc80 :: zc81 :: zc82 :: zc83 :: zc84 :: zc85 :: zc86 :: zc87 :: zc88 :: zc89 :: zc90 :: zc91 :: zc92 :: zc93 :: zc94 :: zc95 :: zc96 :: zc97 :: zc98 :: zc99 :: zc100 :: zc101 :: zc102 :: zc103 :: zc104 :: zc105 :: zc106 :: zc107 :: zc108 :: .slice ad ds.length cd :: .int .i64 ds.length :: zv111 :: zv112 :: zv113 :: zv114 :: zv115 :: zv116 :: zv117 :: zv118 :: zv119 :: zv120 :: zv121 :: zv122 :: zv123 :: zv124 :: zv125 :: zv126 :: zv127 :: zv128 :: zv129 :: zv130 :: zv131 :: zv132 :: zv133 :: zv134 :: zv135 :: zv136 :: zv137 :: zv138 :: zv139 :: zv140 :: zv141 :: zv142 :: zc143 :: []), []⟩ w'') :
    Code.wp Tryz.prog (Code.loop (((Tryz.f8.body.map loopsOfT).getD [])[3]?.getD .skip : Code)) Q0 ⟨List.toArray (zc0 :: zc1 :: zc2 :: .func (.func (16 : Nat)) #[] #[] :: zc4 :: zc5 :: .func (.func (28 : Nat)) #[] #[.pointer (some ⟨b5, 0, none⟩)] :: zc7 :: zc8 :: zc9 :: zc10 :: zc11 :: zc12 :: zc13 :: zc14 :: zc15 :: zc16 :: zc17 :: zc18 :: zc19 :: zc20 :: zc21 :: zc22 :: zc23 :: zc24 :: zc25 :: zc26 :: zc27 :: zc28 :: zc29 :: zc30 :: zc31 :: zc32 :: zc33 :: zc34 :: zc35 :: zc36 :: zc37 :: zc38 :: zc39 :: zc40 :: zc41 :: zc42 :: zc43 :: zc44 :: zc45 :: zc46 :: zc47 :: zc48 :: zc49 :: zc50 :: zc51 :: zc52 :: zc53 :: zc54 :: zc55 :: zc56 :: zc57 :: zc58 :: zc59 :: zc60 :: zc61 :: zc62 :: zc63 :: zc64 :: zc65 :: zc66 :: zc67 :: zc68 :: zc69 :: zc70 :: zc71 :: zc72 :: zc73 :: zc74 :: zc75 :: zc76 :: zc77 :: zc78 :: zc79 :: zc80 :: zc81 :: zc82 :: zc83 :: zc84 :: zc85 :: zc86 :: zc87 :: zc88 :: zc89 :: zc90 :: zc91 :: zc92 :: zc93 :: zc94 :: zc95 :: zc96 :: zc97 :: zc98 :: zc99 :: zc100 :: zc101 :: zc102 :: zc103 :: zc104 :: zc105 :: zc106 :: zc107 :: zc108 :: .slice ad ds.length cd :: .int .i64 ds.length :: .int .i64 0 :: zc112 :: zc113 :: zc114 :: zc115 :: zc116 :: zc117 :: zc118 :: zc119 :: zc120 :: zc121 :: zc122 :: zc123 :: zc124 :: zc125 :: zc126 :: zc127 :: zc128 :: zc129 :: zc130 :: zc131 :: zc132 :: zc133 :: zc134 :: zc135 :: zc136 :: zc137 :: zc138 :: zc139 :: zc140 :: zc141 :: zc142 :: zc143 :: []), []⟩ W0 := by
  conv => arg 2; arg 1; whnf
  go_loopw [111] (fun s111 wr => ∃ (j : Nat), j ≤ ds.length ∧ s111 = .int .i64 j ∧ Hid (PtS w b1 b5 pc (T0 ++ M.defsText (ds.take j)) wr) ∧ (T0 ++ M.defsText (ds.take j)).length ≤ L0 + 100 * j) (fun s111 _ => ds.length - (intOf s111).toNat)
  case atStart => exact ⟨0, Nat.zero_le _, rfl, by simpa [M.defsText] using HS, by simpa [M.defsText] using hT0⟩
  case round =>
    obtain ⟨j, hj, rfl, HSr, hlen⟩ := hrel
    clear HS hT0
    by_cases hjt : j < ds.length
    · obtain ⟨b', off', har, e0, e1, e2, e3, e4, e5, hnm⟩ := (HDl.out wr HSr.out.bel).cells j hjt
      have HO1 : Hid (OkDfn (ds.getD j dfn0)) := HOk.out _ (getD_mem ds dfn0 j hjt)
      have HT : Hid (M.defsText (ds.take (j + 1)) = M.defsText (ds.take j) ++ M.defLine (ds.getD j dfn0)) := flat_take dfn0 M.defLine ds j hjt
      generalize ds.getD j dfn0 = d at *
      obtain ⟨name, kind, frag, pos, size, align⟩ := d
      simp only at e0 e1 e2 e3 e4 e5 hnm
      subst har
      have hbr : b' < wr.heap.size := World.block_lt_of_cell? _ _ e0
      have hjl : (j : Int) < (ds.length : Int) := by omega
      have hse := HO1.out.kind
      simp only at hse
      obtain ⟨m', rfl⟩ := Int.eq_ofNat_of_zero_le (show 0 ≤ kind by omega)
      have hkm : 1 ≤ m' ∧ m' ≤ 3 := by omega
      have hm0 : (0 : Int) ≤ (m' : Int) := by omega
      have hm1 : (m' : Int) < ((4 : Nat) : Int) := by omega
      have HLL : Hid ((M.defLine ⟨name, m', frag, pos, size, align⟩).length ≤ 100) := defLine_len HO1.out
      clear hnm
      go_upto_region 30 with fail
      have hA := (Below.refl wr.heap.size wr).alloc (Nat.le_refl _) (.cells #[.string name, .int .i64 m', .int .i64 frag, .int .i64 pos, .int .i64 size, .int .i64 align] 60)
      have q0 := heap_alloc_new wr (.cells #[.string name, .int .i64 m', .int .i64 frag, .int .i64 pos, .int .i64 size, .int .i64 align] 60)
      have HW : Hid (PtS w b1 b5 pc (T0 ++ M.defsText (ds.take j)) (wr.alloc (.cells #[.string name, .int .i64 m', .int .i64 frag, .int .i64 pos, .int .i64 size, .int .i64 align] 60))) := HSr.out.later hA
      clear hA HSr e0 e1 e2 e3 e4 e5 hbr
      generalize wr.heap.size = bb at *
      generalize wr.alloc (.cells #[.string name, .int .i64 m', .int .i64 frag, .int .i64 pos, .int .i64 size, .int .i64 align] 60) = W at *
      have x0 : W.cell? ⟨bb, 0, none⟩ = some (.string name) := cellB q0 0
      have x1 : W.cell? ⟨bb, 1, none⟩ = some (.int .i64 m') := cellB q0 1
      have x2 : W.cell? ⟨bb, 2, none⟩ = some (.int .i64 frag) := cellB q0 2
      have x3 : W.cell? ⟨bb, 3, none⟩ = some (.int .i64 pos) := cellB q0 3
      have x4 : W.cell? ⟨bb, 4, none⟩ = some (.int .i64 size) := cellB q0 4
      have x5 : W.cell? ⟨bb, 5, none⟩ = some (.int .i64 align) := cellB q0 5
      clear q0
      refine wp_region_lat (by kernel_rfl) (by kernel_rfl) ?_
      intro hne
      repeat (go_big_quiet_step (fail))
      refine wpQuiet_nil ?_
      intro w2 hb2
      have hb2 := lat_out hb2
      clear hne
      have HW2 : Hid (PtS w b1 b5 pc (T0 ++ M.defsText (ds.take j)) w2) := HW.out.later hb2
      replace x0 := cell_later hb2 x0
      replace x1 := cell_later hb2 x1
      replace x4 := cell_later hb2 x4
      replace x5 := cell_later hb2 x5
      clear hb2 HW x2 x3
      by_cases hk3 : (m' : Int) = 3
      · have hkb : ((m' : Int) == 3) = true := by simpa using hk3
        have HK3 : Hid ((m' : Int) = 3) := hk3
        clear hk3
        go_upto_region 32 with fail
        refine wp_region_lat (by kernel_rfl) (by kernel_rfl) ?_
        intro hne
        repeat (go_big_quiet_step (fail))
        refine wpQuiet_nil ?_
        intro V hbV
        have hbV := lat_out hbV
        clear hne
        have HV : Hid (PtS w b1 b5 pc (T0 ++ M.defsText (ds.take j)) V) := HW2.out.later hbV
        replace x0 := cell_later hbV x0
        replace x1 := cell_later hbV x1
        clear hbV HW2 x4 x5 hkb
        go_upto_region 33 with fail
        have HL : Hid (M.defLine ⟨name, m', frag, pos, size, align⟩ = M.line (([⟨#[100, 101, 102]⟩, name, M.str (M.defT.getD m' []), M.str (Lib.itoa size), M.str (Lib.itoa align)] : List ByteArray).map M.txt)) := by
          simp only [Hid, List.map_cons, List.map_nil, txt_str, M.defLine, M.defFirst, M.defSecond, if_pos HK3.out]; rfl
        have KF : Hid (∀ X, Below V.heap.size V X → Calls Tryz.prog 29 #[.string ⟨#[45, 32, 115, 116, 114, 111, 110, 103, 32, 119, 101, 97, 107, 32, 99, 111, 109, 109, 111, 110]⟩] X fun e w' => e = .returned (.slice (some ⟨X.heap.size, 0, none⟩) 4 4) ∧ w' = X.alloc (.cells ((([[45], [115, 116, 114, 111, 110, 103], [119, 101, 97, 107], [99, 111, 109, 109, 111, 110]] : List M.Txt).map M.str).map Value.string).toArray 9)) := fun X hX => rd_fields hG hBk (HV.out.bel.trans (hX.mono HV.out.bel.size))
        have K1 : Hid (∀ X, Below V.heap.size V X → Calls Tryz.prog 16 #[.int .i64 size] X fun e w' => e = .returned (.string (M.str (Lib.itoa size))) ∧ Below X.heap.size X w') := fun X hX => itoa_any size (fits_of (by have := HO1.out.first; simp only [M.defFirst, if_pos HK3.out] at this; omega)) X (hG.later (HV.out.bel.trans (hX.mono HV.out.bel.size)))
        have K2 : Hid (∀ X, Below V.heap.size V X → Calls Tryz.prog 16 #[.int .i64 align] X fun e w' => e = .returned (.string (M.str (Lib.itoa align))) ∧ Below X.heap.size X w') := fun X hX => itoa_any align (fits_of (by have := HO1.out.second; simp only [M.defSecond, if_pos HK3.out] at this; omega)) X (hG.later (HV.out.bel.trans (hX.mono HV.out.bel.size)))
        have hc5 : V.cell? ⟨b5, 0, none⟩ = some (.string (M.str (T0 ++ M.defsText (ds.take j)))) := cellB HV.out.c5 0
        have hl5 : b5 < V.heap.size := (Array.getElem?_eq_some_iff.1 HV.out.c5).1
        have hz5 : V.frozen? ⟨b5, 0, none⟩ = false := frozenB HV.out.c5 0
        refine rt_r33 w V b5 bb m' 4 _ _ _ _ size align _ _ _ KF rfl (rd_word m' hkm) hm0 hm1 hc5 hl5 hz5 K1 K2 x0 x1 (by rw [← HL.out]; have := HLL.out; omega) ?_
        intro y126 y127 y128 y129 y130 y131 y132 y133 y134 y135 y136 y137 y138 y139 y140 y141 X hX
        rw [← HL.out]
        have HE : Hid (PtS w b1 b5 pc (T0 ++ M.defsText (ds.take j) ++ M.defLine ⟨name, m', frag, pos, size, align⟩) (X.setCell ⟨b5, 0, none⟩ (.string (M.str (T0 ++ M.defsText (ds.take j) ++ M.defLine ⟨name, m', frag, pos, size, align⟩))))) := (HV.out.later hX).put hb5 hne15 _
        clear KF K1 K2 hc5 hl5 hz5 HL x0 x1 HV hX
        go_wp2_with fail
        go_roundw
        case rel =>
          refine ⟨j + 1, by omega, by go_num, by rw [HT.out, ← List.append_assoc]; exact HE, ?_⟩
          rw [HT.out, ← List.append_assoc, List.length_append]
          have := HLL.out
          omega
        case measure => simp [intOf]; omega
      · have hkb : ((m' : Int) == 3) = false := by simpa using hk3
        have HK3 : Hid (¬ (m' : Int) = 3) := hk3
        clear hk3 x4 x5
        go_upto_region 33 with fail
        obtain ⟨V, HVW⟩ : ∃ V, V = w2 := ⟨_, rfl⟩
        rw [← HVW]
        have HV : Hid (PtS w b1 b5 pc (T0 ++ M.defsText (ds.take j)) V) := by rw [Hid, HVW]; exact HW2.out
        rw [← HVW] at x0 x1
        clear HVW HW2 hkb
        have HL : Hid (M.defLine ⟨name, m', frag, pos, size, align⟩ = M.line (([⟨#[100, 101, 102]⟩, name, M.str (M.defT.getD m' []), M.str (Lib.itoa frag), M.str (Lib.itoa pos)] : List ByteArray).map M.txt)) := by
          simp only [Hid, List.map_cons, List.map_nil, txt_str, M.defLine, M.defFirst, M.defSecond, if_neg HK3.out]; rfl
        have KF : Hid (∀ X, Below V.heap.size V X → Calls Tryz.prog 29 #[.string ⟨#[45, 32, 115, 116, 114, 111, 110, 103, 32, 119, 101, 97, 107, 32, 99, 111, 109, 109, 111, 110]⟩] X fun e w' => e = .returned (.slice (some ⟨X.heap.size, 0, none⟩) 4 4) ∧ w' = X.alloc (.cells ((([[45], [115, 116, 114, 111, 110, 103], [119, 101, 97, 107], [99, 111, 109, 109, 111, 110]] : List M.Txt).map M.str).map Value.string).toArray 9)) := fun X hX => rd_fields hG hBk (HV.out.bel.trans (hX.mono HV.out.bel.size))
        have K1 : Hid (∀ X, Below V.heap.size V X → Calls Tryz.prog 16 #[.int .i64 frag] X fun e w' => e = .returned (.string (M.str (Lib.itoa frag))) ∧ Below X.heap.size X w') := fun X hX => itoa_any frag (fits_of (by have := HO1.out.first; simp only [M.defFirst, if_neg HK3.out] at this; omega)) X (hG.later (HV.out.bel.trans (hX.mono HV.out.bel.size)))
        have K2 : Hid (∀ X, Below V.heap.size V X → Calls Tryz.prog 16 #[.int .i64 pos] X fun e w' => e = .returned (.string (M.str (Lib.itoa pos))) ∧ Below X.heap.size X w') := fun X hX => itoa_any pos (fits_of (by have := HO1.out.second; simp only [M.defSecond, if_neg HK3.out] at this; omega)) X (hG.later (HV.out.bel.trans (hX.mono HV.out.bel.size)))
        have hc5 : V.cell? ⟨b5, 0, none⟩ = some (.string (M.str (T0 ++ M.defsText (ds.take j)))) := cellB HV.out.c5 0
        have hl5 : b5 < V.heap.size := (Array.getElem?_eq_some_iff.1 HV.out.c5).1
        have hz5 : V.frozen? ⟨b5, 0, none⟩ = false := frozenB HV.out.c5 0
        refine rt_r33 w V b5 bb m' 4 _ _ _ _ frag pos _ _ _ KF rfl (rd_word m' hkm) hm0 hm1 hc5 hl5 hz5 K1 K2 x0 x1 (by rw [← HL.out]; have := HLL.out; omega) ?_
        intro y126 y127 y128 y129 y130 y131 y132 y133 y134 y135 y136 y137 y138 y139 y140 y141 X hX
        rw [← HL.out]
        have HE : Hid (PtS w b1 b5 pc (T0 ++ M.defsText (ds.take j) ++ M.defLine ⟨name, m', frag, pos, size, align⟩) (X.setCell ⟨b5, 0, none⟩ (.string (M.str (T0 ++ M.defsText (ds.take j) ++ M.defLine ⟨name, m', frag, pos, size, align⟩))))) := (HV.out.later hX).put hb5 hne15 _
        clear KF K1 K2 hc5 hl5 hz5 HL x0 x1 HV hX
        go_wp2_with fail
        go_roundw
        case rel =>
          refine ⟨j + 1, by omega, by go_num, by rw [HT.out, ← List.append_assoc]; exact HE, ?_⟩
          rw [HT.out, ← List.append_assoc, List.length_append]
          have := HLL.out
          omega
        case measure => simp [intOf]; omega
    · have hjn : j = ds.length := by omega
      subst hjn
      have HE : Hid (PtS w b1 b5 pc (T0 ++ M.defsText ds) wr) := by rw [List.take_length] at HSr; exact HSr.out
      clear HSr hlen
      go_wp2_with fail
      exact HE.out

end Go.Proofs.YthiknlnhdjoipaaGreatDoor
