/-
  The words that Print writes: a group's, a place's, and the line that they make.
-/
import Derived.Test.YtogipjjmnmahnaaDoorScrLib
import Derived.Lib.ItoaLen
namespace Go.Proofs.YtogipjjmnmahnaaDoor
open Go Go.RowKit
set_option linter.unusedVariables false

theorem str_txt (g : ByteArray) : M.str (M.txt g) = g := by simp [M.str, M.txt]
theorem txt_str (t : M.Txt) : M.txt (M.str t) = t := by simp [M.str, M.txt]
theorem ret_str {a b : ByteArray} (h : a = b) : Ending.returned (.string a) = .returned (.string b) := by rw [h]
theorem txt_nil (g : ByteArray) : g.toList.isEmpty = true → M.txt g = [] := by
  rw [Lib.toList_data]; unfold M.txt; simp
theorem txt_ne (g : ByteArray) : g.toList.isEmpty = false → M.txt g ≠ [] := by
  rw [Lib.toList_data]; unfold M.txt; simp

theorem groupWord_any (g : ByteArray) (w : World) :
    Calls Tryd.prog 15 #[.string g] w fun e w' => e = .returned (.string (M.str (M.orDash (M.txt g)))) ∧ w' = w := by
  cases h : g.toList.isEmpty
  · have HX : Hid (M.str (M.orDash (M.txt g)) = g) := by rw [Hid, M.orDash, if_neg (txt_ne g h), str_txt]
    generalize M.str (M.orDash (M.txt g)) = R at *
    go_enter Tryd.func15, Tryd.ntmps15
    go_wp2
    go_ret
    exact ⟨ret_str HX.out.symm, rfl⟩
  · have HX : Hid (M.str (M.orDash (M.txt g)) = ⟨#[45]⟩) := by rw [Hid, M.orDash, if_pos (txt_nil g h)]; rfl
    generalize M.str (M.orDash (M.txt g)) = R at *
    go_enter Tryd.func15, Tryd.ntmps15
    go_wp2
    go_ret
    exact ⟨ret_str HX.out.symm, rfl⟩

theorem cat_str (a : ByteArray) (t : M.Txt) : a ++ M.str t = M.str (M.txt a ++ t) := by
  apply WideShapes.bytes_inj
  simp [M.str, M.txt]

theorem targetWord_any (r : M.Rel) (hn : Fits r.frag) (w : World) (hG : Glob w) :
    Calls Tryd.prog 17 #[.agg #[.int .i64 r.pos, .int .i64 r.kind, .string r.name, .int .i64 r.frag, .int .i64 r.add]] w fun e w' => e = .returned (.string (M.str (M.toWord r))) ∧ Below w.heap.size w w' := by
  obtain ⟨pos, kind, name, frag, add⟩ := r
  simp only at hn
  cases h : name.toList.isEmpty
  · have HX : Hid (M.str (M.toWord ⟨pos, kind, name, frag, add⟩) = name) := by rw [Hid, M.toWord, if_neg (txt_ne name h), str_txt]
    generalize M.str (M.toWord ⟨pos, kind, name, frag, add⟩) = R at *
    go_enter Tryd.func17, Tryd.ntmps17
    go_wp2
    go_ret
    exact ⟨ret_str HX.out.symm, (Below.refl _ _).alloc (Nat.le_refl _) _⟩
  · have HX : Hid (M.str (M.toWord ⟨pos, kind, name, frag, add⟩) = M.str (35 :: Lib.itoa frag)) := by rw [Hid, M.toWord, if_pos (txt_nil name h)]
    generalize M.str (M.toWord ⟨pos, kind, name, frag, add⟩) = R at *
    have HP : Hid (∀ W, Below w.heap.size w W → Calls Tryd.prog 14 #[.int .i64 frag] W fun e w' => e = .returned (.string (M.str (Lib.itoa frag))) ∧ Below W.heap.size W w') := fun W hW => itoa_any frag hn W (hG.later hW)
    have hL : ¬ (9223372036854775807 < 1 + (M.str (Lib.itoa frag)).size) := by
      have h1 := Lib.itoa_length_le frag hn.1 hn.2
      have : (M.str (Lib.itoa frag)).size = (Lib.itoa frag).length := by rw [Lib.size_eq]; simp [M.str]
      omega
    go_enter Tryd.func17, Tryd.ntmps17
    go_wp2_with (go_at_call 14; refine (HP.out _ ((Below.refl _ _).alloc (Nat.le_refl _) _)).mono ?_; rintro e w1 ⟨rfl, hb1⟩)
    go_ret
    exact ⟨ret_str (by rw [HX.out, cat_str]; rfl), ((Below.refl _ _).alloc (Nat.le_refl _) _).trans (hb1.mono (by simp))⟩

theorem write_any (B b bk o c : Nat) (l : M.Txt) (xs : List ByteArray) (w : World) (h : Bld w B b l) (hcells : ∀ (j : Nat) x, xs[j]? = some x → w.cell? ⟨bk, o + j, none⟩ = some (.string x)) (hbk : bk < w.heap.size) (hN : xs.length ≤ 1000) (hcap : xs.length ≤ c)
    (hlen : l.length + (M.line (xs.map M.txt)).length ≤ 140737488355328) :
    Calls Tryd.prog 10 #[.slice (some ⟨bk, o, none⟩) xs.length c, .pointer (some ⟨b, 0, none⟩)] w fun e w' => e = .returned (.tuple #[]) ∧ Bld w' B b (l ++ M.line (xs.map M.txt)) ∧ Below B w w' ∧ Lib.OthersKept 5 (some b) w w' := by
  have hlb := h.lt
  unfold M.line at hlen
  simp only [List.length_append, List.length_cons, List.length_nil] at hlen
  have HJ : Hid (Calls Tryd.prog 12 #[.slice (some ⟨bk, o, none⟩) xs.length c, .string ⟨#[32]⟩] w fun e w' => e = .returned (.string (M.str (Lib.join (xs.map M.txt) [32]))) ∧ Below w.heap.size w w') :=
    join_any bk o c xs w hcells hbk hN hcap (by omega)
  have HS : Hid (∀ W, Below w.heap.size w W → Calls Tryd.prog 11 #[.pointer (some ⟨b, 0, none⟩), .string (M.str (Lib.join (xs.map M.txt) [32]))] W fun e w' => e = .returned (.tuple #[.int .i64 (M.str (Lib.join (xs.map M.txt) [32])).size, .nilIface]) ∧ Bld w' B b (l ++ Lib.join (xs.map M.txt) [32]) ∧ Below B W w' ∧ Lib.OthersKept 5 (some b) W w') := fun W hW => by
    have := wstring_any B b l (M.str (Lib.join (xs.map M.txt) [32])) W (h.later hW) (by
      have : (M.str (Lib.join (xs.map M.txt) [32])).size = (Lib.join (xs.map M.txt) [32]).length := by rw [Lib.size_eq]; simp [M.str]
      omega)
    rwa [txt_str] at this
  have HW : Hid (∀ W, Bld W B b (l ++ Lib.join (xs.map M.txt) [32]) → Calls Tryd.prog 13 #[.pointer (some ⟨b, 0, none⟩), .int .u8 10] W fun e w' => e = .returned .nilIface ∧ Bld w' B b (l ++ Lib.join (xs.map M.txt) [32] ++ [10]) ∧ Below B W w' ∧ Lib.OthersKept 5 (some b) W w') := fun W hW =>
    wbyte_any B b _ 10 W hW (by simp only [List.length_append]; omega)
  have HR : Hid (l ++ M.line (xs.map M.txt) = l ++ Lib.join (xs.map M.txt) [32] ++ [10]) := by simp [Hid, M.line]
  generalize l ++ M.line (xs.map M.txt) = R at *
  generalize Lib.join (xs.map M.txt) [32] = J at *
  clear hlen hcells h
  generalize xs.length = n at *
  go_enter Tryd.func10, Tryd.ntmps10
  go_wp2_with (first | (go_at_call 12; refine HJ.out.mono ?_; rintro e w1 ⟨rfl, hb1⟩) | (go_at_call 11; refine (HS.out _ hb1).mono ?_; rintro e w2 ⟨rfl, hl2, hb2, hk2⟩) | (go_at_call 13; refine (HW.out _ hl2).mono ?_; rintro e w3 ⟨rfl, hl3, hb3, hk3⟩))
  refine bodyPost_end (v := .tuple #[]) (by simp [results, Tryd.results10, go_sem]) rfl ?_
  exact ⟨rfl, by rw [HR.out]; exact hl3, ((hb1.mono (by omega)).trans hb2).trans hb3, ((kept_of_below hb1).trans hk2).trans hk3⟩

end Go.Proofs.YtogipjjmnmahnaaDoor
