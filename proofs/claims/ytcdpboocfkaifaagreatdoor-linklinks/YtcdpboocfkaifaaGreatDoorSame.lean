/-
  Whether two lists are alike: the library's Equal at definitions, places, bytes; bytes.Equal.
-/
import Derived.Test.YtcdpboocfkaifaaGreatDoorMemB
import Derived.Test.YtcdpboocfkaifaaGreatDoorMemA
import Derived.Test.YtcdpboocfkaifaaGreatDoorShelf
import Derived.Laws.StructEq
namespace Go.Proofs.YtcdpboocfkaifaaGreatDoor
open Go.RowKit Go.Shelf
set_option linter.unusedVariables false

def encRel (r : M.Rel) : List Value := [.int .i64 r.pos, .int .i64 r.kind, .string r.name, .int .i64 r.frag, .int .i64 r.add]
def encDfn (d : M.Dfn) : List Value := [.string d.name, .int .i64 d.kind, .int .i64 d.frag, .int .i64 d.pos, .int .i64 d.size, .int .i64 d.align]

theorem neqRel : NeqAt Tryz.prog 79 (fun x => .agg (encRel x).toArray) M.sameRel := by
  refine ⟨fun x y w => ?_, GuardAt.agg _ (by kernel_rfl)⟩
  have u3 := Tryz.underlying3
  have a3 := Tryz.isAgg3
  have z3 := Tryz.sizeOf3
  have u9 := Tryz.underlying9
  have a9 := Tryz.isAgg9
  have z9 := Tryz.sizeOf9
  have hS : Tryz.prog.underlying 79 = some (.struct (Tryz.prog.fieldsOf 79)) := by kernel_rfl
  have hp : Tryz.prog.stoodInHeld 79 = false := by kernel_rfl
  simp only [encRel]
  rw [run_neq_struct, show (10000 : Nat) = 9999 + 1 from rfl, run_equalIn_agg w 9999 79 _ _ hS hp]
  simp only [Program.fieldsOf, Tryz.underlying79]
  go_simp
  by_cases h0 : x.pos = y.pos <;> by_cases h1 : x.kind = y.kind <;> by_cases h2 : x.name.toList = y.name.toList <;> by_cases h3 : x.frag = y.frag <;> by_cases h4 : x.add = y.add <;> simp [M.sameRel, h0, h1, h2, h3, h4]

theorem neqDfn : NeqAt Tryz.prog 59 (fun x => .agg (encDfn x).toArray) M.sameDfn := by
  refine ⟨fun x y w => ?_, GuardAt.agg _ (by kernel_rfl)⟩
  have u3 := Tryz.underlying3
  have a3 := Tryz.isAgg3
  have z3 := Tryz.sizeOf3
  have u9 := Tryz.underlying9
  have a9 := Tryz.isAgg9
  have z9 := Tryz.sizeOf9
  have hS : Tryz.prog.underlying 59 = some (.struct (Tryz.prog.fieldsOf 59)) := by kernel_rfl
  have hp : Tryz.prog.stoodInHeld 59 = false := by kernel_rfl
  simp only [encDfn]
  rw [run_neq_struct, show (10000 : Nat) = 9999 + 1 from rfl, run_equalIn_agg w 9999 59 _ _ hS hp]
  simp only [Program.fieldsOf, Tryz.underlying59]
  go_simp
  by_cases h0 : x.name.toList = y.name.toList <;> by_cases h1 : x.kind = y.kind <;> by_cases h2 : x.frag = y.frag <;> by_cases h3 : x.pos = y.pos <;> by_cases h4 : x.size = y.size <;> by_cases h5 : x.align = y.align <;> simp [M.sameDfn, h0, h1, h2, h3, h4, h5]

theorem allTwo_eq {α : Type} (eq : α → α → Bool) : ∀ xs ys : List α, Lib.allEq eq xs ys = M.allTwo eq xs ys
  | [], [] => rfl
  | [], y :: ys => rfl
  | x :: xs, [] => rfl
  | x :: xs, y :: ys => by rw [Lib.allEq, M.allTwo, allTwo_eq eq xs ys]

theorem SlAt.all {w : World} {a : Option Addr} {c k n : Nat} {cell : Nat → Nat → Value} (h : SlAt w (.slice a n c) k n cell) (hn : 0 < n) :
    ∃ b off, a = some ⟨b, off, none⟩ ∧ ∀ j i, j < n → i < k → w.cell? ⟨b, off + j * k + i, none⟩ = some (cell j i) := by
  obtain ⟨a', c', e, _, h⟩ := h
  cases e
  rcases h with h | h
  · omega
  · exact h

theorem below_drewN' (B : Nat) (w : World) (q : Nat) : Below B w (w.drewN q) := ⟨rfl, rfl, rfl, Nat.le_refl _, fun _ _ => rfl⟩

theorem encRel_at (r : M.Rel) (i : Nat) (v : Value) (h : (encRel r)[i]? = some v) : i < 5 ∧ v = relCell r i := by
  match i with
  | 0 => simp [encRel] at h; exact ⟨by decide, h.symm⟩
  | 1 => simp [encRel] at h; exact ⟨by decide, h.symm⟩
  | 2 => simp [encRel] at h; exact ⟨by decide, h.symm⟩
  | 3 => simp [encRel] at h; exact ⟨by decide, h.symm⟩
  | 4 => simp [encRel] at h; exact ⟨by decide, h.symm⟩
  | i + 5 => simp [encRel] at h

theorem encDfn_at (r : M.Dfn) (i : Nat) (v : Value) (h : (encDfn r)[i]? = some v) : i < 6 ∧ v = dfnCell r i := by
  match i with
  | 0 => simp [encDfn] at h; exact ⟨by decide, h.symm⟩
  | 1 => simp [encDfn] at h; exact ⟨by decide, h.symm⟩
  | 2 => simp [encDfn] at h; exact ⟨by decide, h.symm⟩
  | 3 => simp [encDfn] at h; exact ⟨by decide, h.symm⟩
  | 4 => simp [encDfn] at h; exact ⟨by decide, h.symm⟩
  | 5 => simp [encDfn] at h; exact ⟨by decide, h.symm⟩
  | i + 6 => simp [encDfn] at h

end Go.Proofs.YtcdpboocfkaifaaGreatDoor
