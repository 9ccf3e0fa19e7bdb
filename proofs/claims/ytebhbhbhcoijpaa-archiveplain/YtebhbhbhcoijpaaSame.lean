/-
  Whether two lists are alike: the library's Equal at definitions, places, bytes; bytes.Equal.
-/
import Derived.Test.YtebhbhbhcoijpaaLater
import Derived.Test.YtebhbhbhcoijpaaMem
import Derived.Test.YtebhbhbhcoijpaaShelf
import Derived.Laws.StructEq
namespace Go.Proofs.Ytebhbhbhcoijpaa
open Go.RowKit Go.Shelf
set_option linter.unusedVariables false

def encRel (r : M.Rel) : List Value := [.int .i64 r.pos, .int .i64 r.kind, .string r.name, .int .i64 r.frag, .int .i64 r.add]
def encDfn (d : M.Dfn) : List Value := [.string d.name, .int .i64 d.kind, .int .i64 d.frag, .int .i64 d.pos, .int .i64 d.size, .int .i64 d.align]

theorem neqRel : NeqAt Try.prog 121 (fun x => .agg (encRel x).toArray) M.sameRel := by
  refine ⟨fun x y w => ?_, GuardAt.agg _ (by kernel_rfl)⟩
  have u3 := Try.underlying3
  have a3 := Try.isAgg3
  have z3 := Try.sizeOf3
  have u9 := Try.underlying9
  have a9 := Try.isAgg9
  have z9 := Try.sizeOf9
  have hS : Try.prog.underlying 121 = some (.struct (Try.prog.fieldsOf 121)) := by kernel_rfl
  have hp : Try.prog.stoodInHeld 121 = false := by kernel_rfl
  simp only [encRel]
  rw [run_neq_struct, show (10000 : Nat) = 9999 + 1 from rfl, run_equalIn_agg w 9999 121 _ _ hS hp]
  simp only [Program.fieldsOf, Try.underlying121]
  go_simp
  by_cases h0 : x.pos = y.pos <;> by_cases h1 : x.kind = y.kind <;> by_cases h2 : x.name.toList = y.name.toList <;> by_cases h3 : x.frag = y.frag <;> by_cases h4 : x.add = y.add <;> simp [M.sameRel, h0, h1, h2, h3, h4]

theorem neqDfn : NeqAt Try.prog 69 (fun x => .agg (encDfn x).toArray) M.sameDfn := by
  refine ⟨fun x y w => ?_, GuardAt.agg _ (by kernel_rfl)⟩
  have u3 := Try.underlying3
  have a3 := Try.isAgg3
  have z3 := Try.sizeOf3
  have u9 := Try.underlying9
  have a9 := Try.isAgg9
  have z9 := Try.sizeOf9
  have hS : Try.prog.underlying 69 = some (.struct (Try.prog.fieldsOf 69)) := by kernel_rfl
  have hp : Try.prog.stoodInHeld 69 = false := by kernel_rfl
  simp only [encDfn]
  rw [run_neq_struct, show (10000 : Nat) = 9999 + 1 from rfl, run_equalIn_agg w 9999 69 _ _ hS hp]
  simp only [Program.fieldsOf, Try.underlying69]
  go_simp
  by_cases h0 : x.name.toList = y.name.toList <;> by_cases h1 : x.kind = y.kind <;> by_cases h2 : x.frag = y.frag <;> by_cases h3 : x.pos = y.pos <;> by_cases h4 : x.size = y.size <;> by_cases h5 : x.align = y.align <;> simp [M.sameDfn, h0, h1, h2, h3, h4, h5]

theorem allTwo_eq {α : Type} (eq : α → α → Bool) : ∀ xs ys : List α, Lib.allEq eq xs ys = M.allTwo eq xs ys
  | [], [] => rfl
  | [], y :: ys => rfl
  | x :: xs, [] => rfl
  | x :: xs, y :: ys => by rw [Lib.allEq, M.allTwo, allTwo_eq eq xs ys]

theorem SlAt.all {w : World} {a : Option Addr} {c k n : Nat} {cell : Nat → Nat → Value} (h : SlAt w (.slice a n c) k n cell) (hn : 0 < n) :
    ∃ b off, a = some ⟨b, off, none⟩ ∧ ∀ j i, j < n → i < k → w.cell? ⟨b, off + j * k + i, none⟩ = some (cell j i) := by
  obtain ⟨a', c', e, _, h⟩ := h
  cases e
  rcases h with h | h
  · omega
  · exact h

theorem below_drewN' (B : Nat) (w : World) (q : Nat) : Below B w (w.drewN q) := ⟨rfl, rfl, rfl, Nat.le_refl _, fun _ _ => rfl⟩

theorem encRel_at (r : M.Rel) (i : Nat) (v : Value) (h : (encRel r)[i]? = some v) : i < 5 ∧ v = relCell r i := by
  match i with
  | 0 => simp [encRel] at h; exact ⟨by decide, h.symm⟩
  | 1 => simp [encRel] at h; exact ⟨by decide, h.symm⟩
  | 2 => simp [encRel] at h; exact ⟨by decide, h.symm⟩
  | 3 => simp [encRel] at h; exact ⟨by decide, h.symm⟩
  | 4 => simp [encRel] at h; exact ⟨by decide, h.symm⟩
  | i + 5 => simp [encRel] at h

set_option maxRecDepth 100000 in
theorem eqRels_short (a1 a2 : Option Addr) (n c m d : Nat) (w : World) (hn : n ≤ maxLen) (hm : m ≤ maxLen) (h : ¬ n = m ∨ n = 0 ∧ m = 0) :
    Calls Try.prog 81 #[.slice a1 n c, .slice a2 m d] w fun e w' => e = .returned (.bool (decide (n = m))) ∧ w' = w := by
  unfold maxLen at hn hm
  rcases h with h | ⟨rfl, rfl⟩
  · have hne : (n != m) = true := by rw [bne_iff_ne]; exact h
    have hni : ¬ (n : Int) = (m : Int) := by omega
    have HX : Hid (decide (n = m) = false) := decide_eq_false h
    generalize decide (n = m) = R at *
    clear h
    go_enter Try.func81, Try.ntmps81
    go_wp2
    go_ret
    exact ⟨by rw [HX.out]; rfl, rfl⟩
  · go_enter Try.func81, Try.ntmps81
    go_wp2_with fail
    refine wp_loop_rounds 1 ?_
    rw [rounds_succ]
    go_wp2
    go_ret
    exact ⟨rfl, rfl⟩

theorem eqRels_any (xs ys : List M.Rel) (a1 a2 : Option Addr) (c d : Nat) (w : World) (h1 : RelsAt w (.slice a1 xs.length c) xs) (h2 : RelsAt w (.slice a2 ys.length d) ys) :
    Calls Try.prog 81 #[.slice a1 xs.length c, .slice a2 ys.length d] w fun e w' => e = .returned (.bool (M.allTwo M.sameRel xs ys)) ∧ Below w.heap.size w w' := by
  have hx : xs.length ≤ maxLen := by obtain ⟨_, _, _, h⟩ := h1.1.form; exact h
  have hy : ys.length ≤ maxLen := by obtain ⟨_, _, _, h⟩ := h2.1.form; exact h
  by_cases hsh : ¬ xs.length = ys.length ∨ xs.length = 0 ∧ ys.length = 0
  · refine (eqRels_short a1 a2 _ c _ d w hx hy hsh).mono fun e w' ⟨he, hw⟩ => ⟨?_, by rw [hw]; exact Below.refl _ _⟩
    rw [he]
    congr 2
    rcases hsh with h | ⟨h, h'⟩
    · rw [decide_eq_false h, ← allTwo_eq, Lib.allEq_len _ _ _ h]
    · rw [List.eq_nil_of_length_eq_zero h, List.eq_nil_of_length_eq_zero h']; rfl
  · have hlen : xs.length = ys.length ∧ 0 < xs.length := by omega
    obtain ⟨b1, o1, rfl, hc1⟩ : ∃ b off, a1 = some ⟨b, off, none⟩ ∧ ∀ j i, j < xs.length → i < 5 → w.cell? ⟨b, off + j * 5 + i, none⟩ = some (relCell (xs.getD j rel0) i) := h1.1.all (by omega)
    obtain ⟨b2, o2, rfl, hc2⟩ : ∃ b off, a2 = some ⟨b, off, none⟩ ∧ ∀ j i, j < ys.length → i < 5 → w.cell? ⟨b, off + j * 5 + i, none⟩ = some (relCell (ys.getD j rel0) i) := h2.1.all (by omega)
    have inh : Inhabited M.Rel := ⟨rel0⟩
    have key := @AnyQ.slices_Equal Try.prog Try.eqRel_ren M.Rel ⟨rel0⟩ Try.eqRel 5 Try.isAgg121 Try.sizeOf121 encRel (fun _ => rfl) M.sameRel neqRel b1 o1 xs.length c b2 o2 ys.length d xs ys w (Nat.le_refl _) (Nat.le_refl _) hx hy
      (fun j hj i v hv => by
        obtain ⟨hi, rfl⟩ := encRel_at _ _ _ hv
        have := hc1 j i hj hi
        rw [this]
        simp [List.getElem!_eq_getElem?_getD, List.getD_eq_getElem?_getD])
      (fun j hj i v hv => by
        obtain ⟨hi, rfl⟩ := encRel_at _ _ _ hv
        have := hc2 j i hj hi
        rw [this]
        simp [List.getElem!_eq_getElem?_getD, List.getD_eq_getElem?_getD])
    rw [List.take_length, List.take_length, allTwo_eq] at key
    refine Calls.mono key fun e w' ⟨he, q, hw⟩ => ⟨he, ?_⟩
    rw [hw]
    exact below_drewN' _ _ _

theorem encDfn_at (r : M.Dfn) (i : Nat) (v : Value) (h : (encDfn r)[i]? = some v) : i < 6 ∧ v = dfnCell r i := by
  match i with
  | 0 => simp [encDfn] at h; exact ⟨by decide, h.symm⟩
  | 1 => simp [encDfn] at h; exact ⟨by decide, h.symm⟩
  | 2 => simp [encDfn] at h; exact ⟨by decide, h.symm⟩
  | 3 => simp [encDfn] at h; exact ⟨by decide, h.symm⟩
  | 4 => simp [encDfn] at h; exact ⟨by decide, h.symm⟩
  | 5 => simp [encDfn] at h; exact ⟨by decide, h.symm⟩
  | i + 6 => simp [encDfn] at h

set_option maxRecDepth 100000 in
theorem eqDefs_short (a1 a2 : Option Addr) (n c m d : Nat) (w : World) (hn : n ≤ maxLen) (hm : m ≤ maxLen) (h : ¬ n = m ∨ n = 0 ∧ m = 0) :
    Calls Try.prog 47 #[.slice a1 n c, .slice a2 m d] w fun e w' => e = .returned (.bool (decide (n = m))) ∧ w' = w := by
  unfold maxLen at hn hm
  rcases h with h | ⟨rfl, rfl⟩
  · have hne : (n != m) = true := by rw [bne_iff_ne]; exact h
    have hni : ¬ (n : Int) = (m : Int) := by omega
    have HX : Hid (decide (n = m) = false) := decide_eq_false h
    generalize decide (n = m) = R at *
    clear h
    go_enter Try.func47, Try.ntmps47
    go_wp2
    go_ret
    exact ⟨by rw [HX.out]; rfl, rfl⟩
  · go_enter Try.func47, Try.ntmps47
    go_wp2_with fail
    refine wp_loop_rounds 1 ?_
    rw [rounds_succ]
    go_wp2
    go_ret
    exact ⟨rfl, rfl⟩

theorem eqDefs_any (xs ys : List M.Dfn) (a1 a2 : Option Addr) (c d : Nat) (w : World) (h1 : DefsAt w (.slice a1 xs.length c) xs) (h2 : DefsAt w (.slice a2 ys.length d) ys) :
    Calls Try.prog 47 #[.slice a1 xs.length c, .slice a2 ys.length d] w fun e w' => e = .returned (.bool (M.allTwo M.sameDfn xs ys)) ∧ Below w.heap.size w w' := by
  have hx : xs.length ≤ maxLen := by obtain ⟨_, _, _, h⟩ := h1.1.form; exact h
  have hy : ys.length ≤ maxLen := by obtain ⟨_, _, _, h⟩ := h2.1.form; exact h
  by_cases hsh : ¬ xs.length = ys.length ∨ xs.length = 0 ∧ ys.length = 0
  · refine (eqDefs_short a1 a2 _ c _ d w hx hy hsh).mono fun e w' ⟨he, hw⟩ => ⟨?_, by rw [hw]; exact Below.refl _ _⟩
    rw [he]
    congr 2
    rcases hsh with h | ⟨h, h'⟩
    · rw [decide_eq_false h, ← allTwo_eq, Lib.allEq_len _ _ _ h]
    · rw [List.eq_nil_of_length_eq_zero h, List.eq_nil_of_length_eq_zero h']; rfl
  · have hlen : xs.length = ys.length ∧ 0 < xs.length := by omega
    obtain ⟨b1, o1, rfl, hc1⟩ : ∃ b off, a1 = some ⟨b, off, none⟩ ∧ ∀ j i, j < xs.length → i < 6 → w.cell? ⟨b, off + j * 6 + i, none⟩ = some (dfnCell (xs.getD j dfn0) i) := h1.1.all (by omega)
    obtain ⟨b2, o2, rfl, hc2⟩ : ∃ b off, a2 = some ⟨b, off, none⟩ ∧ ∀ j i, j < ys.length → i < 6 → w.cell? ⟨b, off + j * 6 + i, none⟩ = some (dfnCell (ys.getD j dfn0) i) := h2.1.all (by omega)
    have inh : Inhabited M.Dfn := ⟨dfn0⟩
    have key := @AnyQ.slices_Equal Try.prog Try.eqDef_ren M.Dfn ⟨dfn0⟩ Try.eqDef 6 Try.isAgg69 Try.sizeOf69 encDfn (fun _ => rfl) M.sameDfn neqDfn b1 o1 xs.length c b2 o2 ys.length d xs ys w (Nat.le_refl _) (Nat.le_refl _) hx hy
      (fun j hj i v hv => by
        obtain ⟨hi, rfl⟩ := encDfn_at _ _ _ hv
        have := hc1 j i hj hi
        rw [this]
        simp [List.getElem!_eq_getElem?_getD, List.getD_eq_getElem?_getD])
      (fun j hj i v hv => by
        obtain ⟨hi, rfl⟩ := encDfn_at _ _ _ hv
        have := hc2 j i hj hi
        rw [this]
        simp [List.getElem!_eq_getElem?_getD, List.getD_eq_getElem?_getD])
    rw [List.take_length, List.take_length, allTwo_eq] at key
    refine Calls.mono key fun e w' ⟨he, q, hw⟩ => ⟨he, ?_⟩
    rw [hw]
    exact below_drewN' _ _ _

end Go.Proofs.Ytebhbhbhcoijpaa
