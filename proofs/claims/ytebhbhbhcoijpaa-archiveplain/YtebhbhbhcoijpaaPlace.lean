/-
  The contracts of placeChecker and of the check that it makes.
-/
import Derived.Test.YtebhbhbhcoijpaaPlaced
namespace Go.Proofs.Ytebhbhbhcoijpaa
open Go.RowKit
set_option linter.unusedVariables false

theorem wide_bd (k : Int) : 0 ≤ M.wide k ∧ M.wide k ≤ 2 := by
  unfold M.wide; split
  · omega
  · split <;> omega

def plcB (pos kind add e len : Int) : Bool := !(M.wide kind == 0) && M.within pos e (len - M.wide kind) && M.within add (-10000) 10000

theorem plcB_eq (r : M.Rel) (e len : Int) : plcB r.pos r.kind r.add e len = M.placed r e len := rfl

theorem place_no (pos kind : Int) (name : ByteArray) (frag add : Int) (X : Nat) (len many e : Int) (w : World) (hX : X + 2 < w.heap.size)
    (c0 : w.cell? ⟨X, 0, none⟩ = some (.int .i64 len)) (c1 : w.cell? ⟨X + 1, 0, none⟩ = some (.int .i64 many)) (c2 : w.cell? ⟨X + 2, 0, none⟩ = some (.int .i64 e))
    (hl : 0 ≤ len ∧ len ≤ 1000) (hp : plcB pos kind add e len = false) :
    Calls Try.prog 106 #[.agg #[.int .i64 pos, .int .i64 kind, .string name, .int .i64 frag, .int .i64 add], .pointer (some ⟨X + 2, 0, none⟩), .pointer (some ⟨X, 0, none⟩), .pointer (some ⟨X + 1, 0, none⟩)] w fun r w' =>
      r = .returned (.int .i64 3) ∧ Below w.heap.size w w' := by
  have hb := wide_bd kind
  have hX0 : X < w.heap.size := by omega
  have hX1 : X + 1 < w.heap.size := by omega
  obtain ⟨hl0, hl1⟩ := hl
  obtain ⟨hb0, hb1⟩ := hb
  cases hz : (M.wide kind == 0)
  · cases hi : M.within pos e (len - M.wide kind)
    · clear hp
      go_enter Try.func106, Try.ntmps106
      go_wp2_with (first | (go_at_call 107; refine (wide_any _ _).mono ?_; rintro e w' ⟨rfl, rfl⟩) | (go_at_call 82; refine (within_any _ _ _ _).mono ?_; rintro e w' ⟨rfl, rfl⟩))
      go_ret
      exact ⟨rfl, (Below.refl _ _).alloc (Nat.le_refl _) _⟩
    · have ha : M.within add (-10000) 10000 = false := by simpa [plcB, hz, hi] using hp
      clear hp
      go_enter Try.func106, Try.ntmps106
      go_wp2_with (first | (go_at_call 107; refine (wide_any _ _).mono ?_; rintro e w' ⟨rfl, rfl⟩) | (go_at_call 82; refine (within_any _ _ _ _).mono ?_; rintro e w' ⟨rfl, rfl⟩))
      go_ret
      exact ⟨rfl, (Below.refl _ _).alloc (Nat.le_refl _) _⟩
  · clear hp
    go_enter Try.func106, Try.ntmps106
    go_wp2_with (first | (go_at_call 107; refine (wide_any _ _).mono ?_; rintro e w' ⟨rfl, rfl⟩) | (go_at_call 82; refine (within_any _ _ _ _).mono ?_; rintro e w' ⟨rfl, rfl⟩))
    go_ret
    exact ⟨rfl, (Below.refl _ _).alloc (Nat.le_refl _) _⟩

set_option maxHeartbeats 400000 in
theorem place_yes (pos kind : Int) (name : ByteArray) (frag add : Int) (X : Nat) (len many e : Int) (w : World) (hX : X + 2 < w.heap.size)
    (c0 : w.cell? ⟨X, 0, none⟩ = some (.int .i64 len)) (c1 : w.cell? ⟨X + 1, 0, none⟩ = some (.int .i64 many)) (c2 : w.cell? ⟨X + 2, 0, none⟩ = some (.int .i64 e)) (hf : w.frozen? ⟨X + 2, 0, none⟩ = false)
    (hl : 0 ≤ len ∧ len ≤ 1000) (he : 0 ≤ e) (hm : 0 ≤ many ∧ many ≤ 1000) (hn : name.size ≤ maxLen) (hp : plcB pos kind add e len = true) :
    Calls Try.prog 106 #[.agg #[.int .i64 pos, .int .i64 kind, .string name, .int .i64 frag, .int .i64 add], .pointer (some ⟨X + 2, 0, none⟩), .pointer (some ⟨X, 0, none⟩), .pointer (some ⟨X + 1, 0, none⟩)] w fun r w' =>
      r = .returned (.int .i64 (M.target ⟨pos, kind, name, frag, add⟩ many)) ∧ Below (X + 2) w w' ∧ w'.cell? ⟨X + 2, 0, none⟩ = some (.int .i64 (pos + M.wide kind)) ∧ w'.frozen? ⟨X + 2, 0, none⟩ = false := by
  have hb := wide_bd kind
  have hX0 : X < w.heap.size := by omega
  have hX1 : X + 1 < w.heap.size := by omega
  obtain ⟨hl0, hl1⟩ := hl
  obtain ⟨hm0, hm1⟩ := hm
  obtain ⟨hb0, hb1⟩ := hb
  have h3 : (M.wide kind == 0) = false ∧ M.within pos e (len - M.wide kind) = true ∧ M.within add (-10000) 10000 = true := by
    simp only [plcB, Bool.and_eq_true, Bool.not_eq_true'] at hp
    exact ⟨hp.1.1, hp.1.2, hp.2⟩
  obtain ⟨hz, hi, ha⟩ := h3
  have hpos : e ≤ pos ∧ pos ≤ len - M.wide kind := by simpa [M.within] using hi
  obtain ⟨hpos0, hpos1⟩ := hpos
  clear hp
  go_enter Try.func106, Try.ntmps106
  go_wp2_with (first | (go_at_call 107; refine (wide_any _ _).mono ?_; rintro e w' ⟨rfl, rfl⟩) | (go_at_call 82; refine (within_any _ _ _ _).mono ?_; rintro e w' ⟨rfl, rfl⟩) | (go_at_call 108; refine (target_any _ _ _ _ _ _ _ hn hm0 hm1).mono ?_; rintro e w' ⟨rfl, hb⟩))
  go_ret
  have hsz : X + 2 < ((w.setCell ⟨X + 2, 0, none⟩ (.int .i64 (pos + M.wide kind))).alloc (.cells #[.int .i64 pos, .int .i64 kind, .string name, .int .i64 frag, .int .i64 add] 121)).heap.size := by simp [World.setCell]; omega
  refine ⟨rfl, ?_, ?_, ?_⟩
  · exact ((((Below.refl (X + 2) w).setCell (p := ⟨X + 2, 0, none⟩) (Nat.le_refl _) _).alloc (by simp [World.setCell]; omega) _).trans (hb.mono (by omega)))
  · rw [hb.cell (p := ⟨X + 2, 0, none⟩) hsz, World.cell?_alloc_past _ _ _ (by simp [World.setCell]; omega)]
    exact World.cell?_setCell_same' _ _ _ (by rw [c2]; rfl)
  · rw [hb.frozen (p := ⟨X + 2, 0, none⟩) hsz, World.frozen?_alloc_past _ _ _ (by simp [World.setCell]; omega), World.frozen?_setCell]
    exact hf

theorem checker_any (len many : Int) (w : World) :
    Calls Try.prog 86 #[.int .i64 len, .int .i64 many] w fun r w' =>
      r = .returned (.func (.func 106) #[] #[.pointer (some ⟨w.heap.size + 2, 0, none⟩), .pointer (some ⟨w.heap.size, 0, none⟩), .pointer (some ⟨w.heap.size + 1, 0, none⟩)]) ∧
      w' = ((w.alloc (.cells #[.int .i64 len] 3)).alloc (.cells #[.int .i64 many] 3)).alloc (.cells #[.int .i64 0] 3) := by
  go_enter Try.func86, Try.ntmps86
  go_wp2
  go_ret
  exact ⟨rfl, rfl⟩

end Go.Proofs.Ytebhbhbhcoijpaa
