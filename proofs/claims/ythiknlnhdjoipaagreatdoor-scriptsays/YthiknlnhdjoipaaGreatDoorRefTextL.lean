/-
  The reference's PartText: the lines of a fragment's places.
-/
import Derived.Test.YthiknlnhdjoipaaGreatDoorRefTextH
import Derived.Test.YthiknlnhdjoipaaGreatDoorRefTextR
import Derived.Test.YthiknlnhdjoipaaGreatDoorScrPrint
import Derived.Deep.DeepCutAuto
namespace Go.Proofs.YthiknlnhdjoipaaGreatDoor
open Go Go.RowKit
set_option linter.unusedVariables false
attribute [local go_sem] lat_cell

/-- what PartText has in memory -/
structure PtS (w : World) (b1 b5 : Nat) (pc : Array Value) (T : M.Txt) (W : World) : Prop where
  bel : Below w.heap.size w W
  c1 : W.heap[b1]? = some (.cells pc 25 (0, 0))
  c5 : W.heap[b5]? = some (.cells #[.string (M.str T)] 9 (0, 0))
theorem PtS.later {w W X : World} {b1 b5 : Nat} {pc : Array Value} {T : M.Txt} (h : PtS w b1 b5 pc T W) (hb : Below W.heap.size W X) : PtS w b1 b5 pc T X :=
  ⟨h.bel.trans (hb.mono h.bel.size), (hb.block _ (Array.getElem?_eq_some_iff.1 h.c1).1).trans h.c1, (hb.block _ (Array.getElem?_eq_some_iff.1 h.c5).1).trans h.c5⟩
theorem PtS.put {w X : World} {b1 b5 : Nat} {pc : Array Value} {T : M.Txt} (h : PtS w b1 b5 pc T X) (hb5 : w.heap.size ≤ b5) (hne : b1 ≠ b5) (T' : M.Txt) : PtS w b1 b5 pc T' (X.setCell ⟨b5, 0, none⟩ (.string (M.str T'))) :=
  ⟨h.bel.setCell hb5 _, (Below.heap_setCell _ _ _ _ hne).trans h.c1, setB' h.c5 _⟩
theorem Blanks.later {w W : World} (h : Blanks w) (hG : Glob w) (hb : Below w.heap.size w W) : Blanks W := h.on hb (Nat.lt_of_lt_of_le (by decide) hG.size)

theorem rk_fields {w X : World} (hG : Glob w) (hBk : Blanks w) (hb : Below w.heap.size w X) :
    Calls Tryz.prog 29 #[.string ⟨#[45, 32, 97, 98, 115, 49, 32, 97, 98, 115, 50, 32, 114, 101, 108, 49, 32, 114, 101, 108, 50]⟩] X fun e w' => e = .returned (.slice (some ⟨X.heap.size, 0, none⟩) 5 5) ∧ w' = X.alloc (.cells ((([[45], [97, 98, 115, 49], [97, 98, 115, 50], [114, 101, 108, 49], [114, 101, 108, 50]] : List M.Txt).map M.str).map Value.string).toArray 9) :=
  fields_any ⟨#[45, 32, 97, 98, 115, 49, 32, 97, 98, 115, 50, 32, 114, 101, 108, 49, 32, 114, 101, 108, 50]⟩ (([[45], [97, 98, 115, 49], [97, 98, 115, 50], [114, 101, 108, 49], [114, 101, 108, 50]] : List M.Txt).map M.str) (by decide +kernel) (by decide) (by decide) X (hBk.later hG hb)
theorem rk_word (m : Nat) (h : 1 ≤ m ∧ m ≤ 4) : ((([[45], [97, 98, 115, 49], [97, 98, 115, 50], [114, 101, 108, 49], [114, 101, 108, 50]] : List M.Txt).map M.str).map Value.string).toArray[m]? = some (.string (M.str (M.kindT.getD m []))) := by
  match m, h with
  | 1, _ | 2, _ | 3, _ | 4, _ => rfl
  | m + 5, h => omega

set_option maxHeartbeats 8000000 in
set_option maxRecDepth 1000000 in
theorem rt_rels {zc0 zc1 zc2 zc4 zc5 zc7 zc8 zc9 zc10 zc11 zc12 zc13 zc14 zc15 zc16 zc17 zc18 zc19 zc20 zc21 zc22 zc23 zc24 zc25 zc26 zc27 zc28 zc29 zc30 zc31 zc32 zc33 zc34 zc35 zc36 zc37 zc38 zc39 zc40 zc41 zc42 zc43 zc44 zc45 zc46 zc47 zc48 zc49 zc50 zc51 zc52 zc53 zc54 zc55 zc56 zc57 zc58 zc59 zc60 zc61 zc62 zc63 zc64 zc65 zc66 zc67 zc68 zc69 zc70 zc71 zc72 zc73 zc77 zc78 zc79 zc80 zc81 zc82 zc83 zc84 zc85 zc86 zc87 zc88 zc89 zc90 zc91 zc92 zc93 zc94 zc95 zc96 zc97 zc98 zc99 zc100 zc101 zc102 zc103 zc104 zc105 zc106 zc107 zc108 zc109 zc110 zc111 zc112 zc113 zc114 zc115 zc116 zc117 zc118 zc119 zc120 zc121 zc122 zc123 zc124 zc125 zc126 zc127 zc128 zc129 zc130 zc131 zc132 zc133 zc134 zc135 zc136 zc137 zc138 zc139 zc140 zc141 zc142 zc143 : Value} (w W0 : World) (b1 b5 : Nat) (pc : Array Value) (hG : Glob w) (hBk : Blanks w) (hb5 : w.heap.size ≤ b5) (hne15 : b1 ≠ b5) (T0 : M.Txt) (L0 : Nat) (rs : List M.Rel) (ar : Option Addr) (cr : Nat) (HRl : Hid (∀ W, Below w.heap.size w W → RelsAt W (.slice ar rs.length cr) rs)) (HOk : Hid (∀ r ∈ rs, OkRel r)) (hn8 : rs.length ≤ 8) (hL0 : L0 ≤ 100000) (HS : Hid (PtS w b1 b5 pc T0 W0)) (hT0 : T0.length ≤ L0) {Q0 : Exit → Act → World → Prop}
    (hexit : ∀ (zv13 zv14 zv76 zv77 zv78 zv79 zv80 zv81 zv82 zv83 zv84 zv85 zv86 zv87 zv88 zv89 zv90 zv91 zv92 zv93 zv94 zv95 zv96 zv97 zv98 zv99 zv100 zv101 zv102 zv103 zv104 zv105 zv106 : Value) (w'' : World), (PtS w b1 b5 pc (T0 ++ M.relsText rs) w'' ∧ (T0 ++ M.relsText rs).length ≤ L0 + 100 * rs.length) → Q0 (.exit 4) ⟨List.toArray (zc0 :: zc1 :: zc2 :: .func (.func (16 : Nat)) #[] #[] :: zc4 :: zc5 :: .func (.func (28 : Nat)) #[] #[.pointer (some ⟨b5, 0, none⟩)] :: zc7 :: zc8 :: zc9 :: zc10 :: zc11 :: zc12 :: zv13 :: zv14 :: zc15 :: zc16 :: zc17 :: zc18 :: zc19 :: zc20 :: zc21 :: zc22 :: zc23 :: zc24 :: zc25 :: zc26 :: zc27 :: zc28 :: zc29 :: zc30 :: zc31 :: zc32 :: zc33 :: zc34 :: zc35 :: zc36 :: zc37 :: zc38 :: zc39 :: zc40 :: zc41 :: zc42 :: zc43 :: zc44 :: zc45 :: zc46 :: zc47 :: zc48 :: zc49 :: zc50 :: zc51 :: zc52 :: zc53 :: zc54 :: zc55 :: zc56 :: zc57 :: zc58 :: zc59 :: zc60 :: zc61 :: zc62 :: zc63 :: zc64 :: zc65 :: zc66 :: zc67 :: zc68 :: zc69 :: zc70 :: zc71 :: zc72 :: zc73 :: .slice ar rs.length cr :: .int .i64 rs.length :: zv76 :: zv77 :: zv78 :: zv79 :: zv80 :: zv81 :: zv82 :: zv83 :: zv84 :: zv85 :: zv86 :: zv87 :: zv88 :: zv89 :: zv90 :: zv91 :: zv92 :: zv93 :: zv94 :: zv95 :: zv96 :: zv97 :: zv98 :: zv99 :: zv100 :: zv101 :: zv102 :: zv103 :: zv104 :: zv105 :: zv106 :: zc107 :: zc108 :: zc109 :: zc110 :: zc111 :: zc112 :: zc113 :: zc114 :: zc115 :: zc116 :: zc117 :: zc118 :: zc119 :: zc120 :: zc121 :: zc122 :: zc123 :: zc124 :: zc125 :: zc126 :: zc127 :: zc128 :: zc129 :: zc130 :: zc131 :: zc132 :: zc133 :: zc134 :: zc135 :: zc136 :: zc137 :: zc138 :: zc139 :: zc140 :: zc141 :: zc142 :: zc143 :: []), []⟩ w'') :
    Code.wp Tryz.prog (Code.loop (((Tryz.f8.body.map loopsOfT).getD [])[2]?.getD .skip : Code)) Q0 ⟨List.toArray (zc0 :: zc1 :: zc2 :: .func (.func (16 : Nat)) #[] #[] :: zc4 :: zc5 :: .func (.func (28 : Nat)) #[] #[.pointer (some ⟨b5, 0, none⟩)] :: zc7 :: zc8 :: zc9 :: zc10 :: zc11 :: zc12 :: zc13 :: zc14 :: zc15 :: zc16 :: zc17 :: zc18 :: zc19 :: zc20 :: zc21 :: zc22 :: zc23 :: zc24 :: zc25 :: zc26 :: zc27 :: zc28 :: zc29 :: zc30 :: zc31 :: zc32 :: zc33 :: zc34 :: zc35 :: zc36 :: zc37 :: zc38 :: zc39 :: zc40 :: zc41 :: zc42 :: zc43 :: zc44 :: zc45 :: zc46 :: zc47 :: zc48 :: zc49 :: zc50 :: zc51 :: zc52 :: zc53 :: zc54 :: zc55 :: zc56 :: zc57 :: zc58 :: zc59 :: zc60 :: zc61 :: zc62 :: zc63 :: zc64 :: zc65 :: zc66 :: zc67 :: zc68 :: zc69 :: zc70 :: zc71 :: zc72 :: zc73 :: .slice ar rs.length cr :: .int .i64 rs.length :: .int .i64 0 :: zc77 :: zc78 :: zc79 :: zc80 :: zc81 :: zc82 :: zc83 :: zc84 :: zc85 :: zc86 :: zc87 :: zc88 :: zc89 :: zc90 :: zc91 :: zc92 :: zc93 :: zc94 :: zc95 :: zc96 :: zc97 :: zc98 :: zc99 :: zc100 :: zc101 :: zc102 :: zc103 :: zc104 :: zc105 :: zc106 :: zc107 :: zc108 :: zc109 :: zc110 :: zc111 :: zc112 :: zc113 :: zc114 :: zc115 :: zc116 :: zc117 :: zc118 :: zc119 :: zc120 :: zc121 :: zc122 :: zc123 :: zc124 :: zc125 :: zc126 :: zc127 :: zc128 :: zc129 :: zc130 :: zc131 :: zc132 :: zc133 :: zc134 :: zc135 :: zc136 :: zc137 :: zc138 :: zc139 :: zc140 :: zc141 :: zc142 :: zc143 :: []), []⟩ W0 := by
  conv => arg 2; arg 1; whnf
  go_loopw [76] (fun s76 wr => ∃ (j : Nat), j ≤ rs.length ∧ s76 = .int .i64 j ∧ Hid (PtS w b1 b5 pc (T0 ++ M.relsText (rs.take j)) wr) ∧ (T0 ++ M.relsText (rs.take j)).length ≤ L0 + 100 * j) (fun s76 _ => rs.length - (intOf s76).toNat)
  case atStart => exact ⟨0, Nat.zero_le _, rfl, by simpa [M.relsText] using HS, by simpa [M.relsText] using hT0⟩
  case round =>
    obtain ⟨j, hj, rfl, HSr, hlen⟩ := hrel
    clear HS hT0
    by_cases hjt : j < rs.length
    · obtain ⟨b', off', har, hc⟩ := (HRl.out wr HSr.out.bel).1.at j hjt
      have HO1 : Hid (OkRel (rs.getD j rel0)) := HOk.out _ (getD_mem rs rel0 j hjt)
      have HT : Hid (M.relsText (rs.take (j + 1)) = M.relsText (rs.take j) ++ M.relLine (rs.getD j rel0)) := flat_take rel0 M.relLine rs j hjt
      generalize rs.getD j rel0 = r at *
      obtain ⟨pos, kind, name, frag, add⟩ := r
      have e0 := hc 0 (by decide)
      have e1 := hc 1 (by decide)
      have e2 := hc 2 (by decide)
      have e3 := hc 3 (by decide)
      have e4 := hc 4 (by decide)
      simp only [relCell, Nat.add_zero] at e0 e1 e2 e3 e4
      subst har
      have hbr : b' < wr.heap.size := World.block_lt_of_cell? _ _ e0
      have hjl : (j : Int) < (rs.length : Int) := by omega
      have hse := HO1.out.kind
      simp only at hse
      obtain ⟨m', rfl⟩ := Int.eq_ofNat_of_zero_le (show 0 ≤ kind by omega)
      have hkm : 1 ≤ m' ∧ m' ≤ 4 := by omega
      have hm0 : (0 : Int) ≤ (m' : Int) := by omega
      have hm1 : (m' : Int) < ((5 : Nat) : Int) := by omega
      have HLL : Hid ((M.relLine ⟨pos, m', name, frag, add⟩).length ≤ 100) := relLine_len HO1.out
      have HFr : Hid (Fits frag) := fits_of (by have := HO1.out.frag; simp only at this; omega)
      clear hc
      go_upto_region 21 with fail
      have hA := (Below.refl wr.heap.size wr).alloc (Nat.le_refl _) (.cells #[.int .i64 pos, .int .i64 m', .string name, .int .i64 frag, .int .i64 add] 57)
      have q0 := heap_alloc_new wr (.cells #[.int .i64 pos, .int .i64 m', .string name, .int .i64 frag, .int .i64 add] 57)
      have HW : Hid (PtS w b1 b5 pc (T0 ++ M.relsText (rs.take j)) (wr.alloc (.cells #[.int .i64 pos, .int .i64 m', .string name, .int .i64 frag, .int .i64 add] 57))) := HSr.out.later hA
      clear hA HSr e0 e1 e2 e3 e4 hbr
      generalize wr.heap.size = bb at *
      generalize wr.alloc (.cells #[.int .i64 pos, .int .i64 m', .string name, .int .i64 frag, .int .i64 add] 57) = W at *
      have x0 : W.cell? ⟨bb, 0, none⟩ = some (.int .i64 pos) := cellB q0 0
      have x1 : W.cell? ⟨bb, 1, none⟩ = some (.int .i64 m') := cellB q0 1
      have x2 : W.cell? ⟨bb, 2, none⟩ = some (.string name) := cellB q0 2
      have x3 : W.cell? ⟨bb, 3, none⟩ = some (.int .i64 frag) := cellB q0 3
      have x4 : W.cell? ⟨bb, 4, none⟩ = some (.int .i64 add) := cellB q0 4
      have hlb : bb < W.heap.size := (Array.getElem?_eq_some_iff.1 q0).1
      clear q0
      cases hnm : name.toList.isEmpty
      · have HL : Hid (M.relLine ⟨pos, m', name, frag, add⟩ = M.line (([⟨#[97, 116]⟩, M.str (Lib.itoa pos), M.str (M.kindT.getD m' []), name, M.str (Lib.itoa add)] : List ByteArray).map M.txt)) := by
          simp only [Hid, List.map_cons, List.map_nil, txt_str]
          unfold M.relLine M.toWord
          rw [if_neg (txt_ne name hnm)]
          rfl
        go_upto_region 24 with fail
        obtain ⟨V, HVW⟩ : ∃ V, V = W := ⟨_, rfl⟩
        rw [← HVW]
        have HV : Hid (PtS w b1 b5 pc (T0 ++ M.relsText (rs.take j)) V) := by rw [Hid, HVW]; exact HW.out
        rw [← HVW] at x0 x1 x2 x3 x4
        clear HVW HW hnm hlb
        have KF : Hid (∀ X, Below V.heap.size V X → Calls Tryz.prog 29 #[.string ⟨#[45, 32, 97, 98, 115, 49, 32, 97, 98, 115, 50, 32, 114, 101, 108, 49, 32, 114, 101, 108, 50]⟩] X fun e w' => e = .returned (.slice (some ⟨X.heap.size, 0, none⟩) 5 5) ∧ w' = X.alloc (.cells ((([[45], [97, 98, 115, 49], [97, 98, 115, 50], [114, 101, 108, 49], [114, 101, 108, 50]] : List M.Txt).map M.str).map Value.string).toArray 9)) := fun X hX => rk_fields hG hBk (HV.out.bel.trans (hX.mono HV.out.bel.size))
        have K1 : Hid (∀ X, Below V.heap.size V X → Calls Tryz.prog 16 #[.int .i64 pos] X fun e w' => e = .returned (.string (M.str (Lib.itoa pos))) ∧ Below X.heap.size X w') := fun X hX => itoa_any pos (fits_of (by have := HO1.out.pos; simp only at this; omega)) X (hG.later (HV.out.bel.trans (hX.mono HV.out.bel.size)))
        have K2 : Hid (∀ X, Below V.heap.size V X → Calls Tryz.prog 16 #[.int .i64 add] X fun e w' => e = .returned (.string (M.str (Lib.itoa add))) ∧ Below X.heap.size X w') := fun X hX => itoa_any add (fits_of (by have := HO1.out.add; simp only at this; omega)) X (hG.later (HV.out.bel.trans (hX.mono HV.out.bel.size)))
        have hc5 : V.cell? ⟨b5, 0, none⟩ = some (.string (M.str (T0 ++ M.relsText (rs.take j)))) := cellB HV.out.c5 0
        have hl5 : b5 < V.heap.size := (Array.getElem?_eq_some_iff.1 HV.out.c5).1
        have hz5 : V.frozen? ⟨b5, 0, none⟩ = false := frozenB HV.out.c5 0
        refine rt_r24 w V b5 bb m' 5 _ _ _ _ pos add _ _ _ KF rfl (rk_word m' hkm) hm0 hm1 hc5 hl5 hz5 K1 K2 x0 x1 x4 (by rw [← HL.out]; have := HLL.out; omega) ?_
        intro y89 y90 y91 y92 y93 y94 y95 y96 y97 y98 y99 y100 y101 y102 y103 y104 y105 X hX
        rw [← HL.out]
        have HE : Hid (PtS w b1 b5 pc (T0 ++ M.relsText (rs.take j) ++ M.relLine ⟨pos, m', name, frag, add⟩) (X.setCell ⟨b5, 0, none⟩ (.string (M.str (T0 ++ M.relsText (rs.take j) ++ M.relLine ⟨pos, m', name, frag, add⟩))))) := (HV.out.later hX).put hb5 hne15 _
        clear KF K1 K2 hc5 hl5 hz5 HL x0 x1 x2 x3 x4 HV hX
        go_wp2_with fail
        go_roundw
        case rel =>
          refine ⟨j + 1, by omega, by go_num, by rw [HT.out, ← List.append_assoc]; exact HE, ?_⟩
          rw [HT.out, ← List.append_assoc, List.length_append]
          have := HLL.out
          omega
        case measure => simp [intOf]; omega
      · have HK : Hid (Calls Tryz.prog 16 #[.int .i64 frag] W fun e w' => e = .returned (.string (M.str (Lib.itoa frag))) ∧ Below W.heap.size W w') := itoa_any frag HFr.out W (hG.later HW.out.bel)
        have HL : Hid (M.relLine ⟨pos, m', name, frag, add⟩ = M.line (([⟨#[97, 116]⟩, M.str (Lib.itoa pos), M.str (M.kindT.getD m' []), ⟨#[35]⟩ ++ M.str (Lib.itoa frag), M.str (Lib.itoa add)] : List ByteArray).map M.txt)) := by
          have h35 : M.txt (⟨#[35]⟩ ++ M.str (Lib.itoa frag)) = 35 :: Lib.itoa frag := by simp [M.txt, M.str]
          simp only [Hid, List.map_cons, List.map_nil, txt_str, h35]
          unfold M.relLine M.toWord
          rw [if_pos (txt_nil name hnm)]
          rfl
        have hfs : (M.str (Lib.itoa frag)).size ≤ 1000 := by
          have h1 := itoa_len (n := frag) (by have := HO1.out.frag; simp only at this; omega)
          rw [sizeStr]; omega
        generalize M.str (Lib.itoa frag) = FS at *
        have hL1 : ¬ (9223372036854775807 < 1 + FS.size) := by omega
        go_upto_region 24 with (go_at_call 16; refine HK.out.mono ?_; rintro e V ⟨rfl, hbV⟩)
        have HV : Hid (PtS w b1 b5 pc (T0 ++ M.relsText (rs.take j)) V) := HW.out.later hbV
        replace x0 := cell_later hbV x0
        replace x1 := cell_later hbV x1
        replace x4 := cell_later hbV x4
        clear HW HK hbV hnm hlb hfs hL1
        have KF : Hid (∀ X, Below V.heap.size V X → Calls Tryz.prog 29 #[.string ⟨#[45, 32, 97, 98, 115, 49, 32, 97, 98, 115, 50, 32, 114, 101, 108, 49, 32, 114, 101, 108, 50]⟩] X fun e w' => e = .returned (.slice (some ⟨X.heap.size, 0, none⟩) 5 5) ∧ w' = X.alloc (.cells ((([[45], [97, 98, 115, 49], [97, 98, 115, 50], [114, 101, 108, 49], [114, 101, 108, 50]] : List M.Txt).map M.str).map Value.string).toArray 9)) := fun X hX => rk_fields hG hBk (HV.out.bel.trans (hX.mono HV.out.bel.size))
        have K1 : Hid (∀ X, Below V.heap.size V X → Calls Tryz.prog 16 #[.int .i64 pos] X fun e w' => e = .returned (.string (M.str (Lib.itoa pos))) ∧ Below X.heap.size X w') := fun X hX => itoa_any pos (fits_of (by have := HO1.out.pos; simp only at this; omega)) X (hG.later (HV.out.bel.trans (hX.mono HV.out.bel.size)))
        have K2 : Hid (∀ X, Below V.heap.size V X → Calls Tryz.prog 16 #[.int .i64 add] X fun e w' => e = .returned (.string (M.str (Lib.itoa add))) ∧ Below X.heap.size X w') := fun X hX => itoa_any add (fits_of (by have := HO1.out.add; simp only at this; omega)) X (hG.later (HV.out.bel.trans (hX.mono HV.out.bel.size)))
        have hc5 : V.cell? ⟨b5, 0, none⟩ = some (.string (M.str (T0 ++ M.relsText (rs.take j)))) := cellB HV.out.c5 0
        have hl5 : b5 < V.heap.size := (Array.getElem?_eq_some_iff.1 HV.out.c5).1
        have hz5 : V.frozen? ⟨b5, 0, none⟩ = false := frozenB HV.out.c5 0
        refine rt_r24 w V b5 bb m' 5 _ _ _ _ pos add _ _ _ KF rfl (rk_word m' hkm) hm0 hm1 hc5 hl5 hz5 K1 K2 x0 x1 x4 (by rw [← HL.out]; have := HLL.out; omega) ?_
        intro y89 y90 y91 y92 y93 y94 y95 y96 y97 y98 y99 y100 y101 y102 y103 y104 y105 X hX
        rw [← HL.out]
        have HE : Hid (PtS w b1 b5 pc (T0 ++ M.relsText (rs.take j) ++ M.relLine ⟨pos, m', name, frag, add⟩) (X.setCell ⟨b5, 0, none⟩ (.string (M.str (T0 ++ M.relsText (rs.take j) ++ M.relLine ⟨pos, m', name, frag, add⟩))))) := (HV.out.later hX).put hb5 hne15 _
        clear KF K1 K2 hc5 hl5 hz5 HL x0 x1 x2 x3 x4 HV hX
        go_wp2_with fail
        go_roundw
        case rel =>
          refine ⟨j + 1, by omega, by go_num, by rw [HT.out, ← List.append_assoc]; exact HE, ?_⟩
          rw [HT.out, ← List.append_assoc, List.length_append]
          have := HLL.out
          omega
        case measure => simp [intOf]; omega
    · have hjn : j = rs.length := by omega
      subst hjn
      have HE : Hid (PtS w b1 b5 pc (T0 ++ M.relsText rs) wr ∧ (T0 ++ M.relsText rs).length ≤ L0 + 100 * rs.length) := by rw [List.take_length] at HSr hlen; exact ⟨HSr.out, hlen⟩
      clear HSr hlen
      go_wp2_with fail
      exact HE.out

end Go.Proofs.YthiknlnhdjoipaaGreatDoor
