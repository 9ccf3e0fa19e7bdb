/-
  The contract of addFrag.
-/
import Derived.Test.YtogipjjmnmahnaaDoorScrMem
import Derived.Deep.RegionHeld3
namespace Go.Proofs.YtogipjjmnmahnaaDoor
open Go Go.RowKit
set_option linter.unusedVariables false
attribute [local go_sem] lat_cell

theorem sectT_eq : M.sectT = [M.sectT.getD 0 [], M.sectT.getD 1 [], M.sectT.getD 2 [], M.sectT.getD 3 [], M.sectT.getD 4 [], M.sectT.getD 5 []] := rfl
theorem kindT_eq : M.kindT = [M.kindT.getD 0 [], M.kindT.getD 1 [], M.kindT.getD 2 [], M.kindT.getD 3 [], M.kindT.getD 4 [], M.kindT.getD 5 []] := rfl
theorem defT_eq : M.defT = [M.defT.getD 0 [], M.defT.getD 1 [], M.defT.getD 2 [], M.defT.getD 3 [], M.defT.getD 4 [], M.defT.getD 5 []] := rfl

theorem findS_any (t : M.Txt) (w : World) :
    Calls Tryd.prog 47 #[.agg #[.string (M.str (M.sectT.getD 0 [])), .string (M.str (M.sectT.getD 1 [])), .string (M.str (M.sectT.getD 2 [])), .string (M.str (M.sectT.getD 3 [])), .string (M.str (M.sectT.getD 4 [])), .string (M.str (M.sectT.getD 5 []))], .string (M.str t)] w fun e w' =>
      e = .returned (.tuple #[.int .i64 (((M.find M.sectT t).getD 0 : Nat) : Int), .bool (M.find M.sectT t).isSome]) ∧ Below w.heap.size w w' := by
  have := find_any (M.sectT.getD 0 []) (M.sectT.getD 1 []) (M.sectT.getD 2 []) (M.sectT.getD 3 []) (M.sectT.getD 4 []) (M.sectT.getD 5 []) (M.str t) w
  rwa [txt_str] at this

theorem numT_any (t : M.Txt) (ht : t.length ≤ 100000) (w : World) (hG : Glob w) :
    Calls Tryd.prog 48 #[.string (M.str t)] w fun e w' => e = .returned (.tuple #[.int .i64 ((M.num t).getD 0), .bool (M.num t).isSome]) ∧ Below w.heap.size w w' := by
  have := number_any (M.str t) (by rw [str_size]; exact ht) w hG
  rwa [txt_str] at this

theorem find_lt {t : List M.Txt} {w : M.Txt} {k : Nat} (h : M.find t w = some k) : k < t.length ∧ t.getD k [] = w := by
  have key : ∀ (t : List M.Txt) (j k : Nat), M.findFrom j t w = some k → j ≤ k ∧ k - j < t.length ∧ t.getD (k - j) [] = w := by
    intro t
    induction t with
    | nil => intro j k h; cases h
    | cons x r ih =>
      intro j k h
      simp only [M.findFrom] at h
      by_cases hx : x = w
      · rw [if_pos hx] at h
        cases h
        simp [hx]
      · rw [if_neg hx] at h
        obtain ⟨h1, h2, h3⟩ := ih _ _ h
        have e : k - j = (k - (j + 1)) + 1 := by omega
        refine ⟨by omega, by simp; omega, ?_⟩
        rw [e]
        simpa using h3
  obtain ⟨_, h2, h3⟩ := key t 0 k h
  exact ⟨by simpa using h2, by simpa using h3⟩

set_option maxHeartbeats 4000000 in
set_option maxRecDepth 100000 in
theorem addFrag_no (w0 w1 w2 w3 w4 : M.Txt) (b : Nat) (w : World) (hG : Glob w) (h2 : w2.length ≤ 100000)
    (hno : M.find M.sectT w1 = none ∨ M.num w2 = none) :
    Calls Tryd.prog 31 #[.pointer (some ⟨b, 0, none⟩), .agg #[.string (M.str w0), .string (M.str w1), .string (M.str w2), .string (M.str w3), .string (M.str w4)]] w fun e w' => e = .returned (.bool false) ∧ Below w.heap.size w w' := by
  have K1 : Hid (∀ W, Calls Tryd.prog 47 #[.agg #[.string (M.str (M.sectT.getD 0 [])), .string (M.str (M.sectT.getD 1 [])), .string (M.str (M.sectT.getD 2 [])), .string (M.str (M.sectT.getD 3 [])), .string (M.str (M.sectT.getD 4 [])), .string (M.str (M.sectT.getD 5 []))], .string (M.str w1)] W fun e w' =>
      e = .returned (.tuple #[.int .i64 (((M.find M.sectT w1).getD 0 : Nat) : Int), .bool (M.find M.sectT w1).isSome]) ∧ Below W.heap.size W w') := fun W => findS_any w1 W
  have K2 : Hid (∀ W, Below w.heap.size w W → Calls Tryd.prog 48 #[.string (M.str w2)] W fun e w' => e = .returned (.tuple #[.int .i64 ((M.num w2).getD 0), .bool (M.num w2).isSome]) ∧ Below W.heap.size W w') := fun W hW => numT_any w2 h2 W (hG.later hW)
  have g0 := hG.sects 0 (by decide)
  have g1 := hG.sects 1 (by decide)
  have g2 := hG.sects 2 (by decide)
  have g3 := hG.sects 3 (by decide)
  have g4 := hG.sects 4 (by decide)
  have g5 := hG.sects 5 (by decide)
  have hg16 := hG.size
  have hg0 : 0 < w.heap.size := by omega
  have hdone : (M.find M.sectT w1).isSome = false ∨ ((M.find M.sectT w1).isSome = true ∧ (M.num w2).isSome = false) := by
    cases hf : M.find M.sectT w1 with
    | none => exact .inl rfl
    | some k =>
      rcases hno with h | h
      · rw [hf] at h; cases h
      · exact .inr ⟨rfl, by rw [h]; rfl⟩
  clear hno
  generalize (M.find M.sectT w1).isSome = fb at *
  generalize (M.find M.sectT w1).getD 0 = fk at *
  generalize (M.num w2).isSome = nb at *
  generalize (M.num w2).getD 0 = nk at *
  generalize M.str (M.sectT.getD 0 []) = t0 at *
  generalize M.str (M.sectT.getD 1 []) = t1 at *
  generalize M.str (M.sectT.getD 2 []) = t2 at *
  generalize M.str (M.sectT.getD 3 []) = t3 at *
  generalize M.str (M.sectT.getD 4 []) = t4 at *
  generalize M.str (M.sectT.getD 5 []) = t5 at *
  rcases hdone with rfl | ⟨rfl, rfl⟩
  all_goals
    go_enter Tryd.func31, Tryd.ntmps31
    go_wp2_with (first | (go_at_call 47; refine (K1.out _).mono ?_; rintro e x1 ⟨rfl, hb1⟩; obtain ⟨hc1, hf1⟩ := bcell hb1; have hz1 := three_lt hb1) | (go_at_call 48; refine (K2.out _ (((Below.refl _ _).alloc (Nat.le_refl _) _).trans (hb1.mono (by simp)))).mono ?_; rintro e x2 ⟨rfl, hb2⟩))
    go_ret
    exact ⟨rfl, ((Below.refl _ _).alloc (Nat.le_refl _) _).trans ((hb1.mono (by simp)).trans (hb2.mono (by have := hb1.size; simp at this; omega)))⟩

end Go.Proofs.YtogipjjmnmahnaaDoor
