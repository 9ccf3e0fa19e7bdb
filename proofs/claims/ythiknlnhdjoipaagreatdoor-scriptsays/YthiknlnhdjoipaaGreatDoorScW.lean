/-
  The words that Print writes: a group's, a place's, and the line that they make. The reference's two small functions of PartText: a word or a dash; a line behind a text. The word of a fragment's content: its bytes, two digits each, or how many noughts. What a part that is right has: its numbers fit, its words are short; how long its text is.
-/
import Derived.Test.YthiknlnhdjoipaaGreatDoorScrLib
import Derived.Lib.ItoaLen

namespace Go.Proofs.YthiknlnhdjoipaaGreatDoor
open Go Go.RowKit
set_option linter.unusedVariables false

theorem str_txt (g : ByteArray) : M.str (M.txt g) = g := by simp [M.str, M.txt]
theorem txt_str (t : M.Txt) : M.txt (M.str t) = t := by simp [M.str, M.txt]
theorem ret_str {a b : ByteArray} (h : a = b) : Ending.returned (.string a) = .returned (.string b) := by rw [h]
theorem txt_nil (g : ByteArray) : g.toList.isEmpty = true → M.txt g = [] := by
  rw [Lib.toList_data]; unfold M.txt; simp
theorem txt_ne (g : ByteArray) : g.toList.isEmpty = false → M.txt g ≠ [] := by
  rw [Lib.toList_data]; unfold M.txt; simp

theorem groupWord_any (g : ByteArray) (w : World) :
    Calls Tryz.prog 17 #[.string g] w fun e w' => e = .returned (.string (M.str (M.orDash (M.txt g)))) ∧ w' = w := by
  cases h : g.toList.isEmpty
  · have HX : Hid (M.str (M.orDash (M.txt g)) = g) := by rw [Hid, M.orDash, if_neg (txt_ne g h), str_txt]
    generalize M.str (M.orDash (M.txt g)) = R at *
    go_enter Tryz.func17, Tryz.ntmps17
    go_wp2
    go_ret
    exact ⟨ret_str HX.out.symm, rfl⟩
  · have HX : Hid (M.str (M.orDash (M.txt g)) = ⟨#[45]⟩) := by rw [Hid, M.orDash, if_pos (txt_nil g h)]; rfl
    generalize M.str (M.orDash (M.txt g)) = R at *
    go_enter Tryz.func17, Tryz.ntmps17
    go_wp2
    go_ret
    exact ⟨ret_str HX.out.symm, rfl⟩

theorem cat_str (a : ByteArray) (t : M.Txt) : a ++ M.str t = M.str (M.txt a ++ t) := by
  apply WideShapes.bytes_inj
  simp [M.str, M.txt]

theorem targetWord_any (r : M.Rel) (hn : Fits r.frag) (w : World) (hG : Glob w) :
    Calls Tryz.prog 19 #[.agg #[.int .i64 r.pos, .int .i64 r.kind, .string r.name, .int .i64 r.frag, .int .i64 r.add]] w fun e w' => e = .returned (.string (M.str (M.toWord r))) ∧ Below w.heap.size w w' := by
  obtain ⟨pos, kind, name, frag, add⟩ := r
  simp only at hn
  cases h : name.toList.isEmpty
  · have HX : Hid (M.str (M.toWord ⟨pos, kind, name, frag, add⟩) = name) := by rw [Hid, M.toWord, if_neg (txt_ne name h), str_txt]
    generalize M.str (M.toWord ⟨pos, kind, name, frag, add⟩) = R at *
    go_enter Tryz.func19, Tryz.ntmps19
    go_wp2
    go_ret
    exact ⟨ret_str HX.out.symm, (Below.refl _ _).alloc (Nat.le_refl _) _⟩
  · have HX : Hid (M.str (M.toWord ⟨pos, kind, name, frag, add⟩) = M.str (35 :: Lib.itoa frag)) := by rw [Hid, M.toWord, if_pos (txt_nil name h)]
    generalize M.str (M.toWord ⟨pos, kind, name, frag, add⟩) = R at *
    have HP : Hid (∀ W, Below w.heap.size w W → Calls Tryz.prog 16 #[.int .i64 frag] W fun e w' => e = .returned (.string (M.str (Lib.itoa frag))) ∧ Below W.heap.size W w') := fun W hW => itoa_any frag hn W (hG.later hW)
    have hL : ¬ (9223372036854775807 < 1 + (M.str (Lib.itoa frag)).size) := by
      have h1 := Lib.itoa_length_le frag hn.1 hn.2
      have : (M.str (Lib.itoa frag)).size = (Lib.itoa frag).length := by rw [Lib.size_eq]; simp [M.str]
      omega
    go_enter Tryz.func19, Tryz.ntmps19
    go_wp2_with (go_at_call 16; refine (HP.out _ ((Below.refl _ _).alloc (Nat.le_refl _) _)).mono ?_; rintro e w1 ⟨rfl, hb1⟩)
    go_ret
    exact ⟨ret_str (by rw [HX.out, cat_str]; rfl), ((Below.refl _ _).alloc (Nat.le_refl _) _).trans (hb1.mono (by simp))⟩

theorem write_any (B b bk o c : Nat) (l : M.Txt) (xs : List ByteArray) (w : World) (h : Bld w B b l) (hcells : ∀ (j : Nat) x, xs[j]? = some x → w.cell? ⟨bk, o + j, none⟩ = some (.string x)) (hbk : bk < w.heap.size) (hN : xs.length ≤ 1000) (hcap : xs.length ≤ c)
    (hlen : l.length + (M.line (xs.map M.txt)).length ≤ 140737488355328) :
    Calls Tryz.prog 12 #[.slice (some ⟨bk, o, none⟩) xs.length c, .pointer (some ⟨b, 0, none⟩)] w fun e w' => e = .returned (.tuple #[]) ∧ Bld w' B b (l ++ M.line (xs.map M.txt)) ∧ Below B w w' ∧ Lib.OthersKept 5 (some b) w w' := by
  have hlb := h.lt
  unfold M.line at hlen
  simp only [List.length_append, List.length_cons, List.length_nil] at hlen
  have HJ : Hid (Calls Tryz.prog 14 #[.slice (some ⟨bk, o, none⟩) xs.length c, .string ⟨#[32]⟩] w fun e w' => e = .returned (.string (M.str (Lib.join (xs.map M.txt) [32]))) ∧ Below w.heap.size w w') :=
    join_any bk o c xs w hcells hbk hN hcap (by omega)
  have HS : Hid (∀ W, Below w.heap.size w W → Calls Tryz.prog 13 #[.pointer (some ⟨b, 0, none⟩), .string (M.str (Lib.join (xs.map M.txt) [32]))] W fun e w' => e = .returned (.tuple #[.int .i64 (M.str (Lib.join (xs.map M.txt) [32])).size, .nilIface]) ∧ Bld w' B b (l ++ Lib.join (xs.map M.txt) [32]) ∧ Below B W w' ∧ Lib.OthersKept 5 (some b) W w') := fun W hW => by
    have := wstring_any B b l (M.str (Lib.join (xs.map M.txt) [32])) W (h.later hW) (by
      have : (M.str (Lib.join (xs.map M.txt) [32])).size = (Lib.join (xs.map M.txt) [32]).length := by rw [Lib.size_eq]; simp [M.str]
      omega)
    rwa [txt_str] at this
  have HW : Hid (∀ W, Bld W B b (l ++ Lib.join (xs.map M.txt) [32]) → Calls Tryz.prog 15 #[.pointer (some ⟨b, 0, none⟩), .int .u8 10] W fun e w' => e = .returned .nilIface ∧ Bld w' B b (l ++ Lib.join (xs.map M.txt) [32] ++ [10]) ∧ Below B W w' ∧ Lib.OthersKept 5 (some b) W w') := fun W hW =>
    wbyte_any B b _ 10 W hW (by simp only [List.length_append]; omega)
  have HR : Hid (l ++ M.line (xs.map M.txt) = l ++ Lib.join (xs.map M.txt) [32] ++ [10]) := by simp [Hid, M.line]
  generalize l ++ M.line (xs.map M.txt) = R at *
  generalize Lib.join (xs.map M.txt) [32] = J at *
  clear hlen hcells h
  generalize xs.length = n at *
  go_enter Tryz.func12, Tryz.ntmps12
  go_wp2_with (first | (go_at_call 14; refine HJ.out.mono ?_; rintro e w1 ⟨rfl, hb1⟩) | (go_at_call 13; refine (HS.out _ hb1).mono ?_; rintro e w2 ⟨rfl, hl2, hb2, hk2⟩) | (go_at_call 15; refine (HW.out _ hl2).mono ?_; rintro e w3 ⟨rfl, hl3, hb3, hk3⟩))
  refine bodyPost_end (v := .tuple #[]) (by simp [results, Tryz.results12, go_sem]) rfl ?_
  exact ⟨rfl, by rw [HR.out]; exact hl3, ((hb1.mono (by omega)).trans hb2).trans hb3, ((kept_of_below hb1).trans hk2).trans hk3⟩

end Go.Proofs.YthiknlnhdjoipaaGreatDoor

namespace Go.Proofs.YthiknlnhdjoipaaGreatDoor
open Go Go.RowKit
set_option linter.unusedVariables false
attribute [local go_sem] lat_cell

theorem refOr_any (g : ByteArray) (w : World) :
    Calls Tryz.prog 27 #[.string g] w fun e w' => e = .returned (.string (M.str (M.orDash (M.txt g)))) ∧ w' = w := by
  cases h : g.toList.isEmpty
  · have HX : Hid (M.str (M.orDash (M.txt g)) = g) := by rw [Hid, M.orDash, if_neg (txt_ne g h), str_txt]
    generalize M.str (M.orDash (M.txt g)) = R at *
    go_enter Tryz.func27, Tryz.ntmps27
    go_wp2
    go_ret
    exact ⟨ret_str HX.out.symm, rfl⟩
  · have HX : Hid (M.str (M.orDash (M.txt g)) = ⟨#[45]⟩) := by rw [Hid, M.orDash, if_pos (txt_nil g h)]; rfl
    generalize M.str (M.orDash (M.txt g)) = R at *
    go_enter Tryz.func27, Tryz.ntmps27
    go_wp2
    go_ret
    exact ⟨ret_str HX.out.symm, rfl⟩

theorem lat_bel0 {W : World} (x : Lat W) : Below W.heap.size W (lat W x) := x.below

theorem sizeStr (t : M.Txt) : (M.str t).size = t.length := by rw [Lib.size_eq]; simp [M.str]

theorem refLine_any (b bk o c : Nat) (l : M.Txt) (xs : List ByteArray) (w : World) (hc : w.cell? ⟨b, 0, none⟩ = some (.string (M.str l))) (hz : w.frozen? ⟨b, 0, none⟩ = false) (hcells : ∀ (j : Nat) x, xs[j]? = some x → w.cell? ⟨bk, o + j, none⟩ = some (.string x)) (hbk : bk < w.heap.size) (hN : xs.length ≤ 1000) (hcap : xs.length ≤ c)
    (hlen : l.length + (M.line (xs.map M.txt)).length ≤ 1000000) :
    Calls Tryz.prog 28 #[.slice (some ⟨bk, o, none⟩) xs.length c, .pointer (some ⟨b, 0, none⟩)] w fun e w' => e = .returned (.tuple #[]) ∧ ∃ x, Below w.heap.size w x ∧ w' = x.setCell ⟨b, 0, none⟩ (.string (M.str (l ++ M.line (xs.map M.txt)))) := by
  unfold M.line at hlen
  simp only [List.length_append, List.length_cons, List.length_nil] at hlen
  have HJ : Hid (∀ W, Below w.heap.size w W → Calls Tryz.prog 14 #[.slice (some ⟨bk, o, none⟩) xs.length c, .string ⟨#[32]⟩] W fun e w' => e = .returned (.string (M.str (Lib.join (xs.map M.txt) [32]))) ∧ Below W.heap.size W w') := fun W hW =>
    join_any bk o c xs W (fun j x hj => cell_later hW (hcells j x hj)) (Nat.lt_of_lt_of_le hbk hW.size) hN hcap (by omega)
  have HR : Hid (M.str (l ++ M.line (xs.map M.txt)) = M.str l ++ (M.str (Lib.join (xs.map M.txt) [32]) ++ ⟨#[10]⟩)) := by
    apply WideShapes.bytes_inj
    simp [M.str, M.line]
  have hs1 := sizeStr (Lib.join (xs.map M.txt) [32])
  have hs2 := sizeStr l
  rw [HR.out]
  generalize M.str (Lib.join (xs.map M.txt) [32]) = J at *
  generalize M.str l = S at *
  have hL1 : ¬ (9223372036854775807 < J.size + 1) := by omega
  have hL2 : ¬ (9223372036854775807 < S.size + (J.size + 1)) := by omega
  have hbw : b < w.heap.size := World.block_lt_of_cell? _ _ hc
  clear hlen hcells hs1 hs2 HR
  generalize xs.length = n at *
  go_enter Tryz.func28, Tryz.ntmps28
  go_wp2_with fail
  refine wp_region_tail 5 (by kernel_rfl) (by kernel_rfl) ?_
  intro hne
  simp only [List.take_succ_cons, List.take_zero, List.drop_succ_cons, List.drop_zero]
  repeat (go_big_quiet_step ((go_at_call 14; exact lat_of (HJ.out _ (lat_bel0 _)))))
  refine wpQuiet_nil ?_
  intro x hb
  have hb := lat_out hb
  clear hne
  have hc' := cell_later hb hc
  have hz' : x.frozen? ⟨b, 0, none⟩ = false := (hb.frozen (p := ⟨b, 0, none⟩) hbw).trans hz
  go_wp2
  refine bodyPost_end (v := .tuple #[]) (by simp [results, Tryz.results28, go_sem]) rfl ?_
  exact ⟨rfl, x, hb, rfl⟩

end Go.Proofs.YthiknlnhdjoipaaGreatDoor

namespace Go.Proofs.YthiknlnhdjoipaaGreatDoor
open Go Go.RowKit
set_option linter.unusedVariables false

theorem content_zero (al sz : Int) (g : ByteArray) (ab : Option Addr) (n cb : Nat) (vr : Value) (w : World) (hG : Glob w) (hn : Fits sz) :
    Calls Tryz.prog 18 #[.agg #[.int .i64 5, .int .i64 al, .string g, .slice ab n cb, .int .i64 sz, vr]] w fun e w' => e = .returned (.string (M.str (Lib.itoa sz))) ∧ Below w.heap.size w w' := by
  have HP : Hid (∀ W, Below w.heap.size w W → Calls Tryz.prog 16 #[.int .i64 sz] W fun e w' => e = .returned (.string (M.str (Lib.itoa sz))) ∧ Below W.heap.size W w') := fun W hW => itoa_any sz hn W (hG.later hW)
  generalize M.str (Lib.itoa sz) = R at *
  go_enter Tryz.func18, Tryz.ntmps18
  go_wp2_with (go_at_call 16; refine (HP.out _ ((Below.refl _ _).alloc (Nat.le_refl _) _)).mono ?_; rintro e w1 ⟨rfl, hb1⟩)
  go_ret
  exact ⟨rfl, ((Below.refl _ _).alloc (Nat.le_refl _) _).trans (hb1.mono (by simp))⟩

theorem content_none (s al sz : Int) (hs : (s == 5) = false) (g : ByteArray) (ab : Option Addr) (cb : Nat) (vr : Value) (w : World) :
    Calls Tryz.prog 18 #[.agg #[.int .i64 s, .int .i64 al, .string g, .slice ab 0 cb, .int .i64 sz, vr]] w fun e w' => e = .returned (.string (M.str [45])) ∧ Below w.heap.size w w' := by
  go_enter Tryz.func18, Tryz.ntmps18
  go_wp2
  go_ret
  exact ⟨rfl, (Below.refl _ _).alloc (Nat.le_refl _) _⟩

theorem run_index_digits {P : Program} (w : World) (t : TypeId) (k : IntKind) (i : Int) (h : P.underlying t = some .string) (h0 : 0 ≤ i) (h1 : i ≤ 15) :
    (Instr.index t (.string ⟨#[48, 49, 50, 51, 52, 53, 54, 55, 56, 57, 97, 98, 99, 100, 101, 102]⟩) (.int k i)).run P w = .ok (.int .u8 (M.digit i.toNat).toNat) w := by
  have hs : (⟨#[48, 49, 50, 51, 52, 53, 54, 55, 56, 57, 97, 98, 99, 100, 101, 102]⟩ : ByteArray).size = 16 := rfl
  rw [run_index_string w t _ k i h, dif_pos ⟨h0, by rw [hs]; omega⟩]
  obtain ⟨n, rfl⟩ := Int.eq_ofNat_of_zero_le h0
  have hn : n < 16 := by omega
  match n, hn with
  | 0, _ | 1, _ | 2, _ | 3, _ | 4, _ | 5, _ | 6, _ | 7, _ | 8, _ | 9, _ | 10, _ | 11, _ | 12, _ | 13, _ | 14, _ | 15, _ => rfl
  | n + 16, h => omega
attribute [local go_sem high] run_index_digits

theorem hex_take {bs : List Int} {k : Nat} (hk : k < bs.length) : M.hex (bs.take (k + 1)) = M.hex (bs.take k) ++ M.hex1 (bs.getD k 0) := by
  unfold M.hex
  rw [List.take_add_one, List.getElem?_eq_getElem hk, List.flatMap_append, List.getD_eq_getElem?_getD, List.getElem?_eq_getElem hk]
  simp
theorem hex_len (bs : List Int) : (M.hex bs).length = 2 * bs.length := by
  induction bs with
  | nil => rfl
  | cons b l ih => simp [M.hex, M.hex1] at ih ⊢; omega

set_option maxHeartbeats 1000000 in
theorem content_bytes (s al sz : Int) (hs : (s == 5) = false) (g : ByteArray) (bs : List Int) (ab : Option Addr) (cb : Nat) (vr : Value) (w : World) (hb : BytesAt w (.slice ab bs.length cb) bs) (h0 : 0 < bs.length) (h64 : bs.length ≤ 64) :
    Calls Tryz.prog 18 #[.agg #[.int .i64 s, .int .i64 al, .string g, .slice ab bs.length cb, .int .i64 sz, vr]] w fun e w' => e = .returned (.string (M.str (M.hex bs))) ∧ Below w.heap.size w w' := by
  have hz : ((bs.length : Int) == 0) = false := by rw [beq_eq_false_iff_ne]; omega
  go_enter Tryz.func18, Tryz.ntmps18
  go_wp2_with fail
  go_loopw [19] (fun s19 wr => ∃ (k : Nat), k ≤ bs.length ∧ s19 = .int .i64 k ∧ Bld wr (w.heap.size + 1) (w.heap.size + 1) (M.hex (bs.take k)) ∧ Hid (Below (w.heap.size + 1) (w.alloc (.cells #[.int .i64 s, .int .i64 al, .string g, .slice ab bs.length cb, .int .i64 sz, vr] 50)) wr)) (fun s19 _ => bs.length - (intOf s19).toNat)
  case atStart => exact ⟨0, Nat.zero_le _, rfl, (by have h := bld_new (w.alloc (.cells #[.int .i64 s, .int .i64 al, .string g, .slice ab bs.length cb, .int .i64 sz, vr] 50)); rw [show (w.alloc (.cells #[.int .i64 s, .int .i64 al, .string g, .slice ab bs.length cb, .int .i64 sz, vr] 50)).heap.size = w.heap.size + 1 from by simp] at h; exact h), (Below.refl _ _).alloc (by simp) _⟩
  case round =>
    obtain ⟨k, hk, rfl, hl, HB⟩ := hrel
    by_cases hlt : k < bs.length
    · have hbw : Below w.heap.size w wr := ((Below.refl _ _).alloc (Nat.le_refl _) _).trans (HB.out.mono (by simp))
      obtain ⟨b, off, har, hc⟩ := (hb.1.later hbw).at k hlt
      have e0 := hc 0 (by decide)
      obtain ⟨hb0, hb1⟩ := hb.2 _ (getD_mem bs 0 k hlt)
      subst har
      simp only [Nat.mul_one, Nat.add_zero] at e0
      have HT : Hid (M.hex (bs.take (k + 1)) = M.hex (bs.take k) ++ M.hex1 (bs.getD k 0)) := hex_take hlt
      have hlen : (M.hex (bs.take k)).length ≤ 128 := by rw [hex_len, List.length_take]; omega
      generalize bs.getD k 0 = c at *
      obtain ⟨c, rfl⟩ := Int.eq_ofNat_of_zero_le hb0
      have hand : bits .and .u8 (c : Int) 15 = (c : Int) % 16 := u8_and15 _ (by omega) (by omega)
      have hq0 : (0 : Int) ≤ (c : Int) / 16 := by omega
      have hq1 : (c : Int) / 16 ≤ 15 := by omega
      have hr0 : (0 : Int) ≤ (c : Int) % 16 := by omega
      have hr1 : (c : Int) % 16 ≤ 15 := by omega
      have HB1 : Hid (∀ W (d : UInt8), Bld W (w.heap.size + 1) (w.heap.size + 1) (M.hex (bs.take k)) → Calls Tryz.prog 15 #[.pointer (some ⟨w.heap.size + 1, 0, none⟩), .int .u8 d.toNat] W fun e w' => e = .returned .nilIface ∧ Bld w' (w.heap.size + 1) (w.heap.size + 1) (M.hex (bs.take k) ++ [d]) ∧ Below (w.heap.size + 1) W w' ∧ Lib.OthersKept 5 (some (w.heap.size + 1)) W w') := fun W d hW =>
        wbyte_any _ _ _ _ W hW (by omega)
      have HB2 : Hid (∀ W (d0 d : UInt8), Bld W (w.heap.size + 1) (w.heap.size + 1) (M.hex (bs.take k) ++ [d0]) → Calls Tryz.prog 15 #[.pointer (some ⟨w.heap.size + 1, 0, none⟩), .int .u8 d.toNat] W fun e w' => e = .returned .nilIface ∧ Bld w' (w.heap.size + 1) (w.heap.size + 1) (M.hex (bs.take k) ++ [d0] ++ [d]) ∧ Below (w.heap.size + 1) W w' ∧ Lib.OthersKept 5 (some (w.heap.size + 1)) W w') := fun W d0 d hW =>
        wbyte_any _ _ _ _ W hW (by simp only [List.length_append, List.length_cons, List.length_nil]; omega)
      clear hc hlen
      go_wp2_with (first | (go_at_call 15; refine (HB1.out _ _ hl).mono ?_; rintro e w1 ⟨rfl, hl1, hb1, hk1⟩) | (go_at_call 15; refine (HB2.out _ _ _ hl1).mono ?_; rintro e w2 ⟨rfl, hl2, hb2, hk2⟩))
      go_roundw
      case rel =>
        refine ⟨k + 1, by omega, by go_num, ?_, (HB.out.trans hb1).trans hb2⟩
        rw [HT.out]
        simpa [M.hex1] using hl2
      case measure => simp [intOf]; omega
    · have hkn : k = bs.length := by omega
      subst hkn
      rw [List.take_length] at hl
      have HS : Hid (∀ W, Bld W (w.heap.size + 1) (w.heap.size + 1) (M.hex bs) → Calls Tryz.prog 20 #[.pointer (some ⟨w.heap.size + 1, 0, none⟩)] W fun e w' => e = .returned (.string (M.str (M.hex bs))) ∧ Below (w.heap.size + 1) W w') := fun W hW => bstring_any _ _ _ W hW
      go_wp2_with (go_at_call 20; refine (HS.out _ hl).mono ?_; rintro e w1 ⟨rfl, hb1⟩)
      go_ret
      exact ⟨rfl, ((Below.refl _ _).alloc (Nat.le_refl _) _).trans ((HB.out.trans hb1).mono (by simp))⟩

theorem content_any (f : M.Frg) (ab : Option Addr) (cb : Nat) (vr : Value) (w : World) (hG : Glob w) (hb : BytesAt w (.slice ab f.bytes.length cb) f.bytes) (h64 : f.bytes.length ≤ 64) (hn : Fits f.size) :
    Calls Tryz.prog 18 #[.agg #[.int .i64 f.sect, .int .i64 f.align, .string f.group, .slice ab f.bytes.length cb, .int .i64 f.size, vr]] w fun e w' => e = .returned (.string (M.str (M.content f))) ∧ Below w.heap.size w w' := by
  obtain ⟨s, al, g, bs, sz, rs⟩ := f
  simp only at hb h64 hn ⊢
  by_cases h5 : s = 5
  · subst h5
    have : M.content ⟨5, al, g, bs, sz, rs⟩ = Lib.itoa sz := by simp [M.content]
    rw [this]
    exact content_zero al sz g ab _ cb vr w hG hn
  · have hs : (s == 5) = false := by simpa using h5
    by_cases h0 : bs.length = 0
    · have hn : bs = [] := List.length_eq_zero_iff.1 h0
      subst hn
      have : M.content ⟨s, al, g, [], sz, rs⟩ = [45] := by simp [M.content, h5, M.hex, M.orDash]
      rw [this]
      exact content_none s al sz hs g ab cb vr w
    · have : M.content ⟨s, al, g, bs, sz, rs⟩ = M.hex bs := by
        have hne : M.hex bs ≠ [] := fun h => by have := hex_len bs; rw [h] at this; simp at this; omega
        simp [M.content, h5, M.orDash, hne]
      rw [this]
      exact content_bytes s al sz hs g bs ab cb vr w hb (by omega) h64

end Go.Proofs.YthiknlnhdjoipaaGreatDoor

namespace Go.Proofs.YthiknlnhdjoipaaGreatDoor
open Go Go.RowKit
set_option linter.unusedVariables false

theorem within_iff {n a b : Int} : M.within n a b = true ↔ a ≤ n ∧ n ≤ b := by simp [M.within]
theorem isName_size {s : ByteArray} (h : M.isName s = true) : 1 ≤ s.size ∧ s.size ≤ 8 := by
  simp only [M.isName, Bool.and_eq_true, decide_eq_true_eq] at h
  exact h.1
theorem size_txt (s : ByteArray) : (M.txt s).length = s.size := (Lib.size_eq s).symm

structure OkRel (r : M.Rel) : Prop where
  kind : 1 ≤ r.kind ∧ r.kind ≤ 4
  pos : 0 ≤ r.pos ∧ r.pos ≤ 64
  add : -10000 ≤ r.add ∧ r.add ≤ 10000
  frag : -1 ≤ r.frag ∧ r.frag ≤ 60
  name : r.name.size ≤ 8

structure OkFrg (f : M.Frg) : Prop where
  sect : 1 ≤ f.sect ∧ f.sect ≤ 5
  align : 0 ≤ f.align ∧ f.align ≤ 8
  group : f.group.size ≤ 8
  bytes : f.bytes.length ≤ 64
  nrels : f.rels.length ≤ 8
  size : 0 ≤ f.size ∧ f.size ≤ 64
  rels : ∀ r ∈ f.rels, OkRel r

structure OkDfn (d : M.Dfn) : Prop where
  kind : 1 ≤ d.kind ∧ d.kind ≤ 3
  name : d.name.size ≤ 8
  first : 0 ≤ M.defFirst d ∧ M.defFirst d ≤ 64
  second : 0 ≤ M.defSecond d ∧ M.defSecond d ≤ 64

theorem wide_cases {k : Int} (h : (M.wide k == 0) = false) : 1 ≤ k ∧ k ≤ 4 ∧ 1 ≤ M.wide k := by
  unfold M.wide at h ⊢
  by_cases h1 : k = 1 ∨ k = 3
  · rw [if_pos h1]; omega
  · rw [if_neg h1] at h ⊢
    by_cases h2 : k = 2 ∨ k = 4
    · rw [if_pos h2]; omega
    · rw [if_neg h2] at h; cases h

theorem isAlign_le {n : Int} (h : M.isAlign n = true) : 0 ≤ n ∧ n ≤ 8 := by
  simp only [M.isAlign, Bool.or_eq_true, beq_iff_eq] at h
  omega

theorem rels_ok (len many : Int) (hl : len ≤ 64) (hm : many ≤ 60) : ∀ (rs : List M.Rel) (e : Int), 0 ≤ e → M.checkRels len many e rs = 0 → ∀ r ∈ rs, OkRel r
  | [], _, _, _, r, hr => by cases hr
  | x :: rs, e, he, h, r, hr => by
    simp only [M.checkRels] at h
    by_cases hp : M.placed x e len = true
    · rw [if_pos hp] at h
      by_cases ht : M.target x many = 0
      · rw [if_pos ht] at h
        simp only [M.placed, Bool.and_eq_true, Bool.not_eq_true', within_iff] at hp
        obtain ⟨⟨hw, hp1⟩, hp2⟩ := hp
        obtain ⟨k1, k2, k3⟩ := wide_cases hw
        rcases List.mem_cons.1 hr with rfl | hr
        · refine ⟨⟨k1, k2⟩, by omega, hp2, ?_, ?_⟩
          · unfold M.target at ht
            split at ht
            · split at ht
              · rename_i hq; rw [within_iff] at hq; omega
              · cases ht
            · split at ht
              · rename_i hq; simp only [Bool.and_eq_true, beq_iff_eq] at hq; omega
              · cases ht
          · unfold M.target at ht
            split at ht
            · rename_i hq
              have := txt_nil _ hq
              rw [← size_txt, this]; simp
            · split at ht
              · rename_i hq; simp only [Bool.and_eq_true] at hq; exact (isName_size hq.1).2
              · cases ht
        · exact rels_ok len many hl hm rs _ (by omega) h r hr
      · rw [if_neg ht] at h; exact absurd h ht
    · rw [if_neg hp] at h; cases h

theorem frag_ok {f : M.Frg} {many : Int} (hm : many ≤ 60) (h : M.checkFrag f many = 0) : OkFrg f := by
  unfold M.checkFrag at h
  split at h
  · cases h
  rename_i h1
  simp only [Bool.or_eq_true, Bool.not_eq_true', not_or, Bool.not_eq_false] at h1
  split at h
  · cases h
  rename_i h2
  split at h
  · cases h
  rename_i h3
  split at h
  · cases h
  rename_i h4
  have h5 := within_iff.1 h1.1
  have hf : M.formed f = true := by simpa using h4
  have hsz : 0 ≤ f.size ∧ f.size ≤ 64 := by
    unfold M.formed at hf
    split at hf
    · simp only [Bool.and_eq_true, within_iff] at hf; exact hf.2
    · split at hf
      · simp only [Bool.and_eq_true, beq_iff_eq] at hf; omega
      · simp only [beq_iff_eq] at hf; omega
  refine ⟨h5, isAlign_le h1.2, ?_, by omega, by omega, hsz, rels_ok _ many (by omega) hm f.rels 0 (by omega) h⟩
  by_cases he : f.group.toList.isEmpty = true
  · have := txt_nil _ he
    rw [← size_txt, this]; simp
  · by_cases hn : M.isName f.group = true
    · exact (isName_size hn).2
    · exact absurd ⟨by simpa using he, by simpa using hn⟩ h2

theorem frags_ok {many : Int} (hm : many ≤ 60) : ∀ (fs : List M.Frg), M.checkFrags many fs = 0 → ∀ f ∈ fs, M.checkFrag f many = 0
  | [], _, f, hf => by cases hf
  | x :: fs, h, f, hf => by
    simp only [M.checkFrags] at h
    by_cases hx : M.checkFrag x many = 0
    · rw [if_pos hx] at h
      rcases List.mem_cons.1 hf with rfl | hf
      · exact hx
      · exact frags_ok hm fs h f hf
    · rw [if_neg hx] at h; exact absurd h hx

theorem defs_ok (fs : List M.Frg) : ∀ (ds : List M.Dfn), M.checkDefs fs ds = 0 → ∀ d ∈ ds, M.checkDef d fs = 0
  | [], _, f, hf => by cases hf
  | x :: ds, h, f, hf => by
    simp only [M.checkDefs] at h
    by_cases hx : M.checkDef x fs = 0
    · rw [if_pos hx] at h
      rcases List.mem_cons.1 hf with rfl | hf
      · exact hx
      · exact defs_ok fs ds h f hf
    · rw [if_neg hx] at h; exact absurd h hx

theorem def_ok {d : M.Dfn} {fs : List M.Frg} (hn : fs.length ≤ 60) (hF : ∀ f ∈ fs, OkFrg f) (h : M.checkDef d fs = 0) : OkDfn d := by
  unfold M.checkDef at h
  split at h
  · cases h
  rename_i h1
  have hname := (isName_size (s := d.name) (by simpa using h1)).2
  split at h
  · rename_i h2
    unfold M.defAt at h
    split at h
    · rename_i h3
      have h3 := within_iff.1 h3
      have hlt : d.frag.toNat < fs.length := by omega
      rw [List.getElem?_eq_getElem hlt] at h
      simp only [M.inFrag] at h
      have hk : d.kind ≠ 3 := by omega
      have hOk := hF _ (List.getElem_mem hlt)
      have hlong : M.long fs[d.frag.toNat] ≤ 64 := by
        unfold M.long M.lng
        split
        · exact hOk.size.2
        · have := hOk.bytes; omega
      cases hq : M.within d.pos 0 (M.long fs[d.frag.toNat]) && d.size == 0 && d.align == 0
      · rw [hq] at h; cases h
      · simp only [Bool.and_eq_true, within_iff] at hq
        exact ⟨by omega, hname, by simp only [M.defFirst, if_neg hk]; omega, by simp only [M.defSecond, if_neg hk]; omega⟩
    · cases h
  · split at h
    · rename_i h3
      cases hq : d.frag == 0 && d.pos == 0 && M.within d.size 1 64 && M.isAlign d.align
      · rw [hq] at h; cases h
      · simp only [Bool.and_eq_true, within_iff] at hq
        have := isAlign_le hq.2
        exact ⟨by omega, hname, by simp only [M.defFirst, if_pos h3]; omega, by simp only [M.defSecond, if_pos h3]; omega⟩
    · cases h

structure OkPrt (fs : List M.Frg) (ds : List M.Dfn) : Prop where
  nfrags : fs.length ≤ 60
  ndefs : ds.length ≤ 60
  cfrags : ∀ f ∈ fs, M.checkFrag f fs.length = 0
  frags : ∀ f ∈ fs, OkFrg f
  cdefs : ∀ d ∈ ds, M.checkDef d fs = 0
  defs : ∀ d ∈ ds, OkDfn d

theorem part_ok {fs : List M.Frg} {ds : List M.Dfn} (h : M.checkPart ⟨fs, ds⟩ = 0) : OkPrt fs ds := by
  unfold M.checkPart at h
  split at h
  · cases h
  rename_i h1
  simp only [not_or, Nat.not_lt] at h1
  split at h
  · rename_i h2
    have hc := frags_ok (many := fs.length) (by omega) fs h2
    have hF : ∀ f ∈ fs, OkFrg f := fun f hf => frag_ok (many := fs.length) (by omega) (hc f hf)
    have hd := defs_ok fs ds h
    exact ⟨h1.1, h1.2, hc, hF, hd, fun d hd' => def_ok h1.1 hF (hd d hd')⟩
  · rename_i h2; exact absurd h h2

theorem line5 (a b c d e : M.Txt) : M.line [a, b, c, d, e] = a ++ 32 :: (b ++ 32 :: (c ++ 32 :: (d ++ 32 :: (e ++ [10])))) := by
  simp [M.line, Lib.join, List.intercalate]
theorem line5_len (a b c d e : M.Txt) : (M.line [a, b, c, d, e]).length = a.length + b.length + c.length + d.length + e.length + 5 := by
  rw [line5]; simp; omega

theorem itoa_len {n : Int} (h : -100000 ≤ n ∧ n ≤ 100000) : (Lib.itoa n).length ≤ 21 := Lib.itoa_length_le n (by omega) (by omega)

theorem word_len (t : List M.Txt) (ht : ∀ x ∈ t, x.length ≤ 6) (k : Int) : (M.wordOf t k).length ≤ 6 := by
  unfold M.wordOf
  rw [List.getD_eq_getElem?_getD]
  cases h : t[k.toNat]? with
  | none => simp
  | some x => exact ht x (List.mem_of_getElem? h)

theorem orDash_len (t : M.Txt) (n : Nat) (h : t.length ≤ n) : (M.orDash t).length ≤ n + 1 := by
  unfold M.orDash
  split
  · simp
  · omega

theorem relLine_len {r : M.Rel} (h : OkRel r) : (M.relLine r).length ≤ 100 := by
  unfold M.relLine
  rw [line5_len]
  have h1 := itoa_len (n := r.pos) (by have := h.pos; omega)
  have h2 := itoa_len (n := r.add) (by have := h.add; omega)
  have h3 := word_len M.kindT (by decide) r.kind
  have h4 : (M.toWord r).length ≤ 22 := by
    unfold M.toWord
    split
    · have := itoa_len (n := r.frag) (by have := h.frag; omega)
      simp; omega
    · rw [size_txt]; have := h.name; omega
  have h5 : M.wAt.length = 2 := rfl
  omega

theorem fragLine_len {f : M.Frg} (h : OkFrg f) : (M.fragLine f).length ≤ 200 := by
  unfold M.fragLine
  rw [line5_len]
  have h1 := itoa_len (n := f.align) (by have := h.align; omega)
  have h3 := word_len M.sectT (by decide) f.sect
  have h4 := orDash_len (M.txt f.group) 8 (by rw [size_txt]; exact h.group)
  have h5 : (M.content f).length ≤ 129 := by
    unfold M.content
    split
    · have := itoa_len (n := f.size) (by have := h.size; omega)
      omega
    · exact orDash_len _ 128 (by rw [hex_len]; have := h.bytes; omega)
  have h6 : M.wFrag.length = 4 := rfl
  omega

theorem defLine_len {d : M.Dfn} (h : OkDfn d) : (M.defLine d).length ≤ 100 := by
  unfold M.defLine
  rw [line5_len]
  have h1 := itoa_len (n := M.defFirst d) (by have := h.first; omega)
  have h2 := itoa_len (n := M.defSecond d) (by have := h.second; omega)
  have h3 := word_len M.defT (by decide) d.kind
  have h4 : (M.txt d.name).length ≤ 8 := by rw [size_txt]; exact h.name
  have h6 : M.wDef.length = 3 := rfl
  omega

theorem flat_take {α : Type} (d : α) (f : α → M.Txt) (l : List α) (k : Nat) (hk : k < l.length) : (l.take (k + 1)).flatMap f = (l.take k).flatMap f ++ f (l.getD k d) := by
  rw [List.take_add_one, List.getElem?_eq_getElem hk, List.flatMap_append, List.getD_eq_getElem?_getD, List.getElem?_eq_getElem hk]
  simp

end Go.Proofs.YthiknlnhdjoipaaGreatDoor
