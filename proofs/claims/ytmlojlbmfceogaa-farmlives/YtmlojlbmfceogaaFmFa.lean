/-
  The closed fact of the farm's laws, reckoned: two parts, one worker, thirteen happenings. What the closed fact of the farm's laws has in memory.
-/
import Derived.Test.YtmlojlbmfceogaaFmMM
import Derived.Test.YtmlojlbmfceogaaTwo
import Derived.Test.YtmlojlbmfceogaaFmNew
import Derived.Test.YtmlojlbmfceogaaSaA
import Derived.Test.YtmlojlbmfceogaaPrtA
import Derived.Test.YtmlojlbmfceogaaPlMk

namespace Go.Proofs.Ytmlojlbmfceogaa
set_option maxRecDepth 100000

def fA : M.Prt := ⟨[frgA], [dfnA]⟩
def fB : M.Prt := ⟨[frgB], [dfnB]⟩
def fmL : List M.Nd := [⟨0, 0, 0⟩, ⟨1, 0, 0⟩, ⟨-1, 0, 1⟩]
def fmQ : List M.Hap := [⟨1, 0, 0⟩, ⟨3, 0, 0⟩, ⟨2, 0, 0⟩, ⟨3, 0, 0⟩]
def fmS : List M.Hap := fmQ ++ fmQ ++ fmQ ++ [⟨1, 0, 0⟩]
def fmE : List Int := [0, 0, 0, 0, 0, 0, 0, 0, 0, 0, 0, 0, 11]
theorem fm_make : M.make 2 [] = fmL := by rfl
theorem fm_makeE : M.makeE 2 [] = 0 := by decide
theorem fm_newE : M.newE [fA, fB] fmL 1 = 0 := by decide +kernel
theorem fm_new : M.new [fA, fB] fmL 1 = M.newF [fA, fB] fmL 1 := by unfold M.new; rw [fm_newE]; rfl
theorem fm_runE : M.runE (M.newF [fA, fB] fmL 1) fmS = 0 := by decide +kernel
theorem fm_run : M.run (M.newF [fA, fB] fmL 1) fmS = M.runF (M.newF [fA, fB] fmL 1) fmS := by unfold M.run; rw [fm_runE]; rfl
theorem fm_said : (M.runF (M.newF [fA, fB] fmL 1) fmS).2 = fmE := by decide +kernel
theorem fm_outE : M.outcomeE (M.runF (M.newF [fA, fB] fmL 1) fmS).1 = 0 := by decide +kernel
theorem fm_joinE : (M.join fA fB).2 = 0 := by decide +kernel
theorem fm_same : M.samePart (M.outcome (M.runF (M.newF [fA, fB] fmL 1) fmS).1) (M.join fA fB).1 = true := by decide +kernel

end Go.Proofs.Ytmlojlbmfceogaa

namespace Go.Proofs.Ytmlojlbmfceogaa
open Go Go.RowKit
set_option linter.unusedVariables false

def encHap (h : M.Hap) : List Value := [.int .i64 h.kind, .int .i64 h.worker, .int .i64 h.k]
theorem row_haps {w : World} {B : Nat} {v : Value} {l : List M.Hap} (h : w.ownsRow B 31 3 v l.length (l.flatMap encHap)) : HapsAt w v l := by
  refine (row_slice (k := 3) hap0 encHap (fun _ => rfl) l h).congr' (fun j i hj hi => ?_)
  match i, hi with
  | 0, _ => rfl
  | 1, _ => rfl
  | 2, _ => rfl
/-- a row of another kind grows -/
theorem FmR.grown {B B' n k : Nat} {W X : World} {f : M.Farm} {x : Fd} {o : Fo} {v : Value} {xs : List Value} (h : FmR B W f x o) (hr : W.ownsRow B' 31 k v n xs) (hg : W.grownBy X v.ownBlock) : FmR B X f x o := by
  have kr : ∀ (e : TypeId) (k n : Nat) (v' : Value) (xs : List Value), W.ownsRow B e k v' n xs → e ≠ 31 → X.ownsRow B e k v' n xs := fun e k n v' xs hx hne => hx.kept hg (own_apart hx hr hne)
  have kp : ∀ e, POwn W B e → POwn X B e := fun e ⟨en, hP, hm⟩ => ⟨en, ⟨kr _ _ _ _ _ hP.rowF (by decide), kr _ _ _ _ _ hP.rowD (by decide), fun e he => kr _ _ _ _ _ (hP.bytes e he) (by decide), hP.small, hP.smallD, fun e he => kr _ _ _ _ _ (hP.rels e he) (by decide)⟩, hm⟩
  exact ⟨kr _ _ _ _ _ h.rowP (by decide), h.mapP, kr _ _ _ _ _ h.rowL (by decide), kr _ _ _ _ _ h.rowD (by decide), kr _ _ _ _ _ h.rowH (by decide), h.mapH, kr _ _ _ _ _ h.rowG (by decide), kr _ _ _ _ _ h.rowW (by decide), kr _ _ _ _ _ h.rowN (by decide), h.mapN,
    fun e he => kp e (h.ownP e he), fun e he => kp e (h.ownH e he), fun e he => kp e.e (h.ownN e he), h.apart⟩

/-- a variable that holds a farm -/
def FBlk (W : World) (b : Nat) (f : M.Farm) (x : Fd) : Prop := W.heap[b]? = some (.cells #[.slice x.p f.parts.length x.pc, .slice x.l f.plan.length x.lc, .int .i64 f.now, .slice x.d f.done.length x.dc, .slice x.h f.got.length x.hc, .slice x.g f.grants.length x.gc, .slice x.k f.work.length x.kc, .slice x.n f.net.length x.nc] 29 (0, 0))

/-- what the region that lets all happen has of each operation -/
def fcR (B N b : Nat) (f z : M.Farm) (x : Fd) (sa : Option Addr) (sc : Nat) (j : Nat) (W : World) (u : Value) : Prop :=
  match j with
  | 0 => u = .agg #[.slice x.p f.parts.length x.pc, .slice x.l f.plan.length x.lc, .int .i64 f.now, .slice x.d f.done.length x.dc, .slice x.h f.got.length x.hc, .slice x.g f.grants.length x.gc, .slice x.k f.work.length x.kc, .slice x.n f.net.length x.nc]
  | 1 => u = .slice sa 12 sc
  | 2 => u = .agg #[.int .i64 1, .int .i64 0, .int .i64 0]
  | 3 => ∃ g, u = .slice (some ⟨g, 0, none⟩) 1 1 ∧ N ≤ g ∧ g < W.heap.size ∧ W.heap[g]? = some (.cells #[.int .i64 1, .int .i64 0, .int .i64 0] 31 (0, 0))
  | 4 => ∃ a c, u = .slice a 13 c ∧ W.ownsRow B 31 3 u 13 (fmS.flatMap encHap)
  | 5 => ∃ (y : Fd) (a : Option Addr) (c : Nat), u = .tuple #[.agg #[.slice y.p z.parts.length y.pc, .slice y.l z.plan.length y.lc, .int .i64 z.now, .slice y.d z.done.length y.dc, .slice y.h z.got.length y.hc, .slice y.g z.grants.length y.gc, .slice y.k z.work.length y.kc, .slice y.n z.net.length y.nc], .slice a 13 c, .int .i64 0] ∧ (∃ o, FmR B W z y o) ∧ W.ownsRow B 32 1 (.slice a 13 c) 13 (fmE.map (Value.int .i64))
  | 6 => ∃ (y : Fd) (a : Option Addr) (c : Nat), u = .tuple #[.agg #[.slice y.p z.parts.length y.pc, .slice y.l z.plan.length y.lc, .int .i64 z.now, .slice y.d z.done.length y.dc, .slice y.h z.got.length y.hc, .slice y.g z.grants.length y.gc, .slice y.k z.work.length y.kc, .slice y.n z.net.length y.nc], .slice a 13 c, .int .i64 0] ∧ (∃ o, FmR B W z y o) ∧ W.ownsRow B 32 1 (.slice a 13 c) 13 (fmE.map (Value.int .i64))
  | 7 => ∃ y : Fd, u = .agg #[.slice y.p z.parts.length y.pc, .slice y.l z.plan.length y.lc, .int .i64 z.now, .slice y.d z.done.length y.dc, .slice y.h z.got.length y.hc, .slice y.g z.grants.length y.gc, .slice y.k z.work.length y.kc, .slice y.n z.net.length y.nc] ∧ ∃ o, FmR B W z y o
  | 8 => ∃ a c, u = .slice a 13 c ∧ W.ownsRow B 32 1 (.slice a 13 c) 13 (fmE.map (Value.int .i64))
  | 9 => u = .int .i64 0
  | 10 => ∃ (y : Fd), FBlk W b z y ∧ ∃ o, FmR B W z y o
  | 11 => ∃ a c, u = .slice a 13 c ∧ W.ownsRow B 32 1 (.slice a 13 c) 13 (fmE.map (Value.int .i64))
  | _ => False
theorem fcR_later {B N b : Nat} {f z : M.Farm} {x : Fd} {sa : Option Addr} {sc : Nat} {W X : World} (hb : Below W.heap.size W X) : ∀ j u, fcR B N b f z x sa sc j W u → fcR B N b f z x sa sc j X u := by
  intro j u h
  have hg := grown_of_below hb Option.none
  match j, h with
  | 0, h => exact h
  | 1, h => exact h
  | 2, h => exact h
  | 9, h => exact h
  | 3, h => obtain ⟨g, h1, h2, h3, h4⟩ := h; exact ⟨g, h1, h2, Nat.lt_of_lt_of_le h3 hb.size, (hb.block _ h3).trans h4⟩
  | 4, h => obtain ⟨a, c, h1, h2⟩ := h; exact ⟨a, c, h1, h2.kept hg own_self⟩
  | 5, h => obtain ⟨y, a, c, h1, ⟨o, h2⟩, h3⟩ := h; exact ⟨y, a, c, h1, ⟨o, h2.later hb⟩, h3.kept hg own_self⟩
  | 6, h => obtain ⟨y, a, c, h1, ⟨o, h2⟩, h3⟩ := h; exact ⟨y, a, c, h1, ⟨o, h2.later hb⟩, h3.kept hg own_self⟩
  | 7, h => obtain ⟨y, h1, o, h2⟩ := h; exact ⟨y, h1, o, h2.later hb⟩
  | 8, h => obtain ⟨a, c, h1, h2⟩ := h; exact ⟨a, c, h1, h2.kept hg own_self⟩
  | 11, h => obtain ⟨a, c, h1, h2⟩ := h; exact ⟨a, c, h1, h2.kept hg own_self⟩
  | 10, h => obtain ⟨y, h1, o, h2⟩ := h; exact ⟨y, (hb.block _ (Array.getElem?_eq_some_iff.1 h1).1).trans h1, o, h2.later hb⟩
/-- (while a row of happenings grows, whose block lies below N) -/
theorem fcR_grow {B N b B' n : Nat} {f z : M.Farm} {x : Fd} {sa : Option Addr} {sc : Nat} {W X : World} {v : Value} {xs : List Value} (hr : W.ownsRow B' 31 3 v n xs) (hg : W.grownBy X v.ownBlock) (hN : ∀ g, v.ownBlock = some g → g < N) : ∀ j u, j ≠ 4 → fcR B N b f z x sa sc j W u → fcR B N b f z x sa sc j X u := by
  intro j u hj h
  match j, hj, h with
  | 0, _, h => exact h
  | 1, _, h => exact h
  | 2, _, h => exact h
  | 9, _, h => exact h
  | 3, _, h =>
    obtain ⟨g, h1, h2, h3, h4⟩ := h
    exact ⟨g, h1, h2, Nat.lt_of_lt_of_le h3 hg.size, (hg.block g h3 (fun e => by have := hN g e.symm; omega)).trans h4⟩
  | 5, _, h => obtain ⟨y, a, c, h1, ⟨o, h2⟩, h3⟩ := h; exact ⟨y, a, c, h1, ⟨o, h2.grown hr hg⟩, h3.kept hg (own_apart h3 hr (by decide))⟩
  | 6, _, h => obtain ⟨y, a, c, h1, ⟨o, h2⟩, h3⟩ := h; exact ⟨y, a, c, h1, ⟨o, h2.grown hr hg⟩, h3.kept hg (own_apart h3 hr (by decide))⟩
  | 7, _, h => obtain ⟨y, h1, o, h2⟩ := h; exact ⟨y, h1, o, h2.grown hr hg⟩
  | 8, _, h => obtain ⟨a, c, h1, h2⟩ := h; exact ⟨a, c, h1, h2.kept hg (own_apart h2 hr (by decide))⟩
  | 11, _, h => obtain ⟨a, c, h1, h2⟩ := h; exact ⟨a, c, h1, h2.kept hg (own_apart h2 hr (by decide))⟩
  | 10, _, h => obtain ⟨y, h1, o, h2⟩ := h; exact ⟨y, block_keptP hr hg h1 (by decide), o, h2.grown hr hg⟩
  | 4, hj, _ => exact absurd rfl hj
/-- (while a block of farms is written) -/
theorem fcR_wr {B N b : Nat} {f z : M.Farm} {x : Fd} {sa : Option Addr} {sc : Nat} {W X : World} (wr : Wr W X 29) (hs : W.heap.size ≤ X.heap.size) : ∀ j u, j ≠ 10 → fcR B N b f z x sa sc j W u → fcR B N b f z x sa sc j X u := by
  intro j u hj h
  match j, hj, h with
  | 0, _, h => exact h
  | 1, _, h => exact h
  | 2, _, h => exact h
  | 9, _, h => exact h
  | 3, _, h => obtain ⟨g, h1, h2, h3, h4⟩ := h; exact ⟨g, h1, h2, Nat.lt_of_lt_of_le h3 hs, wr.block h4 (by decide)⟩
  | 4, _, h => obtain ⟨a, c, h1, h2⟩ := h; exact ⟨a, c, h1, wr.row h2 (by decide)⟩
  | 5, _, h => obtain ⟨y, a, c, h1, ⟨o, h2⟩, h3⟩ := h; exact ⟨y, a, c, h1, ⟨o, h2.wr wr⟩, wr.row h3 (by decide)⟩
  | 6, _, h => obtain ⟨y, a, c, h1, ⟨o, h2⟩, h3⟩ := h; exact ⟨y, a, c, h1, ⟨o, h2.wr wr⟩, wr.row h3 (by decide)⟩
  | 7, _, h => obtain ⟨y, h1, o, h2⟩ := h; exact ⟨y, h1, o, h2.wr wr⟩
  | 8, _, h => obtain ⟨a, c, h1, h2⟩ := h; exact ⟨a, c, h1, wr.row h2 (by decide)⟩
  | 11, _, h => obtain ⟨a, c, h1, h2⟩ := h; exact ⟨a, c, h1, wr.row h2 (by decide)⟩
  | 10, hj, _ => exact absurd rfl hj

end Go.Proofs.Ytmlojlbmfceogaa
