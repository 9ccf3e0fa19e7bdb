/-
  slices.Equal at nodes.
-/
import Derived.Test.YtmlojlbmfceogaaPlMk
import Derived.Test.YtmlojlbmfceogaaPlShelf
import Derived.Test.YtmlojlbmfceogaaMemB
import Derived.Test.YtmlojlbmfceogaaSame
namespace Go.Proofs.Ytmlojlbmfceogaa
open Go.RowKit Go.Shelf
set_option linter.unusedVariables false

theorem neqNd : NeqAt Try.prog 39 (fun x => .agg (encNd x).toArray) M.sameNd := by
  refine ⟨fun x y w => ?_, GuardAt.agg _ (by kernel_rfl)⟩
  have u3 := Try.underlying3
  have a3 := Try.isAgg3
  have z3 := Try.sizeOf3
  have hS : Try.prog.underlying 39 = some (.struct (Try.prog.fieldsOf 39)) := by kernel_rfl
  have hp : Try.prog.stoodInHeld 39 = false := by kernel_rfl
  simp only [encNd]
  rw [run_neq_struct, show (10000 : Nat) = 9999 + 1 from rfl, run_equalIn_agg w 9999 39 _ _ hS hp]
  simp only [Program.fieldsOf, Try.underlying39]
  go_simp
  by_cases h0 : x.leaf = y.leaf <;> by_cases h1 : x.left = y.left <;> by_cases h2 : x.right = y.right <;> simp [M.sameNd, h0, h1, h2]

theorem encNd_at (n : M.Nd) (i : Nat) (v : Value) (h : (encNd n)[i]? = some v) : i < 3 ∧ v = ndCell n i := by
  match i, h with
  | 0, h => simp [encNd] at h; exact ⟨by omega, h.symm⟩
  | 1, h => simp [encNd] at h; exact ⟨by omega, h.symm⟩
  | 2, h => simp [encNd] at h; exact ⟨by omega, h.symm⟩
  | k + 3, h => simp [encNd] at h

set_option maxRecDepth 100000 in
theorem eqNodes_short (a1 a2 : Option Addr) (n c m d : Nat) (w : World) (hn : n ≤ maxLen) (hm : m ≤ maxLen) (h : ¬ n = m ∨ n = 0 ∧ m = 0) :
    Calls Try.prog 10 #[.slice a1 n c, .slice a2 m d] w fun e w' => e = .returned (.bool (decide (n = m))) ∧ w' = w := by
  unfold maxLen at hn hm
  rcases h with h | ⟨rfl, rfl⟩
  · have hne : (n != m) = true := by rw [bne_iff_ne]; exact h
    have hni : ¬ (n : Int) = (m : Int) := by omega
    have HX : Hid (decide (n = m) = false) := decide_eq_false h
    generalize decide (n = m) = R at *
    clear h
    go_enter Try.func10, Try.ntmps10
    go_wp2
    go_ret
    exact ⟨by rw [HX.out]; rfl, rfl⟩
  · go_enter Try.func10, Try.ntmps10
    go_wp2_with fail
    refine wp_loop_rounds 1 ?_
    rw [rounds_succ]
    go_wp2
    go_ret
    exact ⟨rfl, rfl⟩

theorem eqNodes_any (xs ys : List M.Nd) (a1 a2 : Option Addr) (c d : Nat) (w : World) (h1 : NodesAt w (.slice a1 xs.length c) xs) (h2 : NodesAt w (.slice a2 ys.length d) ys) :
    Calls Try.prog 10 #[.slice a1 xs.length c, .slice a2 ys.length d] w fun e w' => e = .returned (.bool (M.allTwo M.sameNd xs ys)) ∧ Below w.heap.size w w' := by
  have hx : xs.length ≤ maxLen := h1.small
  have hy : ys.length ≤ maxLen := h2.small
  by_cases hsh : ¬ xs.length = ys.length ∨ xs.length = 0 ∧ ys.length = 0
  · refine (eqNodes_short a1 a2 _ c _ d w hx hy hsh).mono fun e w' ⟨he, hw⟩ => ⟨?_, by rw [hw]; exact Below.refl _ _⟩
    rw [he]
    congr 2
    rcases hsh with h | ⟨h, h'⟩
    · rw [decide_eq_false h, ← allTwo_eq, Lib.allEq_len _ _ _ h]
    · rw [List.eq_nil_of_length_eq_zero h, List.eq_nil_of_length_eq_zero h']; rfl
  · have hlen : xs.length = ys.length ∧ 0 < xs.length := by omega
    obtain ⟨b1, o1, rfl, hc1⟩ : ∃ b off, a1 = some ⟨b, off, none⟩ ∧ ∀ j i, j < xs.length → i < 3 → w.cell? ⟨b, off + j * 3 + i, none⟩ = some (ndCell (xs.getD j M.nd0) i) := SlAt.all h1 (by omega)
    obtain ⟨b2, o2, rfl, hc2⟩ : ∃ b off, a2 = some ⟨b, off, none⟩ ∧ ∀ j i, j < ys.length → i < 3 → w.cell? ⟨b, off + j * 3 + i, none⟩ = some (ndCell (ys.getD j M.nd0) i) := SlAt.all h2 (by omega)
    have key := @AnyQ.slices_Equal Try.prog Try.eqNode_ren M.Nd ⟨M.nd0⟩ Try.eqNode 3 Try.isAgg39 Try.sizeOf39 encNd (fun _ => rfl) M.sameNd neqNd b1 o1 xs.length c b2 o2 ys.length d xs ys w (Nat.le_refl _) (Nat.le_refl _) hx hy
      (fun j hj i v hv => by
        obtain ⟨hi, rfl⟩ := encNd_at _ _ _ hv
        have := hc1 j i hj hi
        rw [this]
        simp [List.getElem!_eq_getElem?_getD, List.getD_eq_getElem?_getD])
      (fun j hj i v hv => by
        obtain ⟨hi, rfl⟩ := encNd_at _ _ _ hv
        have := hc2 j i hj hi
        rw [this]
        simp [List.getElem!_eq_getElem?_getD, List.getD_eq_getElem?_getD])
    rw [List.take_length, List.take_length, allTwo_eq] at key
    refine Calls.mono key fun e w' ⟨he, q, hw⟩ => ⟨he, ?_⟩
    rw [hw]
    exact below_drewN' _ _ _

theorem sameNd_self : ∀ l : List M.Nd, M.allTwo M.sameNd l l = true
  | [] => rfl
  | n :: l => by simp [M.allTwo, M.sameNd, sameNd_self l]

end Go.Proofs.Ytmlojlbmfceogaa
