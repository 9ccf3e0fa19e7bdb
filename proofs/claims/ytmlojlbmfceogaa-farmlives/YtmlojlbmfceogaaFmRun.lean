/-
  The contract of farm.Run.
-/
import Derived.Test.YtmlojlbmfceogaaFmOut
namespace Go.Proofs.Ytmlojlbmfceogaa
open Go Go.RowKit
set_option linter.unusedVariables false

def hapCell (h : M.Hap) : Nat → Value
  | 0 => .int .i64 h.kind
  | 1 => .int .i64 h.worker
  | _ => .int .i64 h.k
def hap0 : M.Hap := ⟨0, 0, 0⟩
def HapsAt (w : World) (v : Value) (l : List M.Hap) : Prop := SlAt w v 3 l.length (fun j i => hapCell (l.getD j hap0) i)
theorem HapsAt.later {w w' : World} {v : Value} {l : List M.Hap} (h : HapsAt w v l) (hb : Below w.heap.size w w') : HapsAt w' v l := SlAt.later h hb
theorem HapsAt.cells {w : World} {a : Option Addr} {c : Nat} {l : List M.Hap} (h : HapsAt w (.slice a l.length c) l) (k : Nat) (hk : k < l.length) :
    ∃ b off, a = some ⟨b, off, none⟩ ∧ w.cell? ⟨b, off + k * 3, none⟩ = some (.int .i64 (l.getD k hap0).kind) ∧ w.cell? ⟨b, off + k * 3 + 1, none⟩ = some (.int .i64 (l.getD k hap0).worker) ∧ w.cell? ⟨b, off + k * 3 + 2, none⟩ = some (.int .i64 (l.getD k hap0).k) := by
  obtain ⟨b, off, rfl, hc⟩ := SlAt.at h k hk
  exact ⟨b, off, rfl, hc 0 (by decide), hc 1 (by decide), hc 2 (by decide)⟩

theorem run_snoc : ∀ (l : List M.Hap) (f : M.Farm) (x : M.Hap), M.runF f (l ++ [x]) = ((M.happen (M.runF f l).1 x).1, (M.runF f l).2 ++ [(M.happen (M.runF f l).1 x).2])
  | [], f, x => rfl
  | y :: l, f, x => by
    rw [List.cons_append, M.runF, run_snoc l]
    rfl
theorem run_len : ∀ (l : List M.Hap) (f : M.Farm), (M.runF f l).2.length = l.length
  | [], _ => rfl
  | y :: l, f => by rw [M.runF]; simp [run_len l]
theorem run_plan : ∀ (l : List M.Hap) (f : M.Farm), M.FarmOk f → M.FarmOk (M.runF f l).1
  | [], _, h => h
  | y :: l, f, h => run_plan l _ (M.happen_ok h (fun n hn => node_leaf h hn) y)

theorem row_keep {W X : World} {B n : Nat} {v : Value} {xs : List Value} (h : W.ownsRow B 32 1 v n xs) (hk : KeepE W X) : X.ownsRow B 32 1 v n xs := by
  refine ⟨h.1, ?_⟩
  rcases h.2 with h1 | ⟨g, cap, cur, h1, h2, h3, h4⟩
  · exact .inl h1
  · exact .inr ⟨g, cap, cur, h1, h2, hk g cur h3, h4⟩
/-- a row of errors grows -/
theorem FmO.said {B B' b n : Nat} {W X : World} {f : M.Farm} {x : Fd} {o : Fo} {v : Value} {xs : List Value} (h : FmO B W b f x o) (hr : W.ownsRow B' 32 1 v n xs) (hg : W.grownBy X v.ownBlock) : FmO B X b f x o := by
  have kr : ∀ (e : TypeId) (k n : Nat) (v' : Value) (xs : List Value), W.ownsRow B e k v' n xs → e ≠ 32 → X.ownsRow B e k v' n xs := fun e k n v' xs hx hne => hx.kept hg (own_apart hx hr hne)
  have kp : ∀ e, POwn W B e → POwn X B e := fun e ⟨en, hP, hm⟩ => ⟨en, ⟨kr _ _ _ _ _ hP.rowF (by decide), kr _ _ _ _ _ hP.rowD (by decide), fun e he => kr _ _ _ _ _ (hP.bytes e he) (by decide), hP.small, hP.smallD, fun e he => kr _ _ _ _ _ (hP.rels e he) (by decide)⟩, hm⟩
  exact ⟨block_keptP hr hg h.blk (by decide), h.bge, kr _ _ _ _ _ h.rowP (by decide), h.mapP, kr _ _ _ _ _ h.rowL (by decide), kr _ _ _ _ _ h.rowD (by decide), kr _ _ _ _ _ h.rowH (by decide), h.mapH, kr _ _ _ _ _ h.rowG (by decide), kr _ _ _ _ _ h.rowW (by decide), kr _ _ _ _ _ h.rowN (by decide), h.mapN,
    fun e he => kp e (h.ownP e he), fun e he => kp e (h.ownH e he), fun e he => kp e.e (h.ownN e he), h.apart⟩
theorem row_errs {w : World} {B : Nat} {v : Value} {l : List Int} (h : w.ownsRow B 32 1 v l.length (l.map (Value.int .i64))) : IntsAt w v l := by
  have h' : w.ownsRow B 32 1 v l.length (l.flatMap fun x => [Value.int .i64 x]) := by
    rwa [flat_one l]
  refine (row_slice (k := 1) (0 : Int) (fun x => [Value.int .i64 x]) (fun _ => rfl) l h').congr' (fun j i hj hi => ?_)
  obtain rfl : i = 0 := by omega
  rfl

set_option maxHeartbeats 16000000 in
set_option maxRecDepth 100000 in
theorem run_any (f : M.Farm) (x : Fd) (l : List M.Hap) (a : Option Addr) (c : Nat) (w : World) (hf : FarmAt w f x) (hs : HapsAt w (.slice a l.length c) l) :
    Calls Try.prog 15 #[.agg #[.slice x.p f.parts.length x.pc, .slice x.l f.plan.length x.lc, .int .i64 f.now, .slice x.d f.done.length x.dc, .slice x.h f.got.length x.hc, .slice x.g f.grants.length x.gc, .slice x.k f.work.length x.kc, .slice x.n f.net.length x.nc], .slice a l.length c] w fun e w' => Below w.heap.size w w' ∧ ∃ y v, e = .returned (.tuple #[.agg #[.slice y.p (M.run f l).1.parts.length y.pc, .slice y.l (M.run f l).1.plan.length y.lc, .int .i64 (M.run f l).1.now, .slice y.d (M.run f l).1.done.length y.dc, .slice y.h (M.run f l).1.got.length y.hc, .slice y.g (M.run f l).1.grants.length y.gc, .slice y.k (M.run f l).1.work.length y.kc, .slice y.n (M.run f l).1.net.length y.nc], v, .int .i64 (M.runE f l)]) ∧ (FarmAt w' (M.run f l).1 y ∧ (M.runE f l = 0 → ∃ o, FmR w.heap.size w' (M.run f l).1 y o)) ∧ w'.ownsRow w.heap.size 32 1 v (M.run f l).2.length ((M.run f l).2.map (Value.int .i64)) := by
  obtain ⟨i0, hi0, hz0, hz1, hz2⟩ := info_parts (P := Try.prog) (e := 32) (z := .int .i64 0) (size := 1) (bytes := 8) (by kernel_rfl)
  have hA : Below w.heap.size w ((w.alloc (.cells #[.slice x.p f.parts.length x.pc, .slice x.l f.plan.length x.lc, .int .i64 f.now, .slice x.d f.done.length x.dc, .slice x.h f.got.length x.hc, .slice x.g f.grants.length x.gc, .slice x.k f.work.length x.kc, .slice x.n f.net.length x.nc] 29)).alloc (.cells #[.slice none 0 0, .slice none 0 0, .int .i64 0, .slice none 0 0, .slice none 0 0, .slice none 0 0, .slice none 0 0, .slice none 0 0] 29)) := ((Below.refl _ _).alloc (Nat.le_refl _) _).alloc (by simp) _
  have h0 : ((w.alloc (.cells #[.slice x.p f.parts.length x.pc, .slice x.l f.plan.length x.lc, .int .i64 f.now, .slice x.d f.done.length x.dc, .slice x.h f.got.length x.hc, .slice x.g f.grants.length x.gc, .slice x.k f.work.length x.kc, .slice x.n f.net.length x.nc] 29)).alloc (.cells #[.slice none 0 0, .slice none 0 0, .int .i64 0, .slice none 0 0, .slice none 0 0, .slice none 0 0, .slice none 0 0, .slice none 0 0] 29)).heap[w.heap.size]? = some (.cells #[.slice x.p f.parts.length x.pc, .slice x.l f.plan.length x.lc, .int .i64 f.now, .slice x.d f.done.length x.dc, .slice x.h f.got.length x.hc, .slice x.g f.grants.length x.gc, .slice x.k f.work.length x.kc, .slice x.n f.net.length x.nc] 29 (0, 0)) := (heap_alloc_old _ _ (by simp)).trans (heap_alloc_new _ _)
  have h2 : ((w.alloc (.cells #[.slice x.p f.parts.length x.pc, .slice x.l f.plan.length x.lc, .int .i64 f.now, .slice x.d f.done.length x.dc, .slice x.h f.got.length x.hc, .slice x.g f.grants.length x.gc, .slice x.k f.work.length x.kc, .slice x.n f.net.length x.nc] 29)).alloc (.cells #[.slice none 0 0, .slice none 0 0, .int .i64 0, .slice none 0 0, .slice none 0 0, .slice none 0 0, .slice none 0 0, .slice none 0 0] 29)).heap[w.heap.size + 1]? = some (.cells #[.slice none 0 0, .slice none 0 0, .int .i64 0, .slice none 0 0, .slice none 0 0, .slice none 0 0, .slice none 0 0, .slice none 0 0] 29 (0, 0)) := by
    have := heap_alloc_new (w.alloc (.cells #[.slice x.p f.parts.length x.pc, .slice x.l f.plan.length x.lc, .int .i64 f.now, .slice x.d f.done.length x.dc, .slice x.h f.got.length x.hc, .slice x.g f.grants.length x.gc, .slice x.k f.work.length x.kc, .slice x.n f.net.length x.nc] 29)) (.cells #[.slice none 0 0, .slice none 0 0, .int .i64 0, .slice none 0 0, .slice none 0 0, .slice none 0 0, .slice none 0 0, .slice none 0 0] 29)
    simpa using this
  have hln : l.length ≤ maxLen := by obtain ⟨_, _, _, h⟩ := SlAt.form hs; exact h
  unfold maxLen at hln
  have HA : Hid (Below w.heap.size w ((w.alloc (.cells #[.slice x.p f.parts.length x.pc, .slice x.l f.plan.length x.lc, .int .i64 f.now, .slice x.d f.done.length x.dc, .slice x.h f.got.length x.hc, .slice x.g f.grants.length x.gc, .slice x.k f.work.length x.kc, .slice x.n f.net.length x.nc] 29)).alloc (.cells #[.slice none 0 0, .slice none 0 0, .int .i64 0, .slice none 0 0, .slice none 0 0, .slice none 0 0, .slice none 0 0, .slice none 0 0] 29))) := hA
  have HF : Hid (∀ W, Below w.heap.size w W → FarmAt W f x ∧ HapsAt W (.slice a l.length c) l) := fun W hW => ⟨hf.later hW, hs.later hW⟩
  have HE : Hid (M.runE f l = M.orE (M.checkFarm f) (if 120 < l.length then 2 else 0)) := rfl
  have HS : Hid (M.run f l = if M.runE f l = 0 then M.runF f l else (M.farm0, [])) := rfl
  generalize M.run f l = R at *
  generalize M.runE f l = E at *
  clear hf hA hs
  go_enter Try.func15, Try.ntmps15
  go_upto_region 1 with fail
  obtain ⟨b0, hb0⟩ : ∃ b0, b0 = w.heap.size := ⟨_, rfl⟩
  obtain ⟨r, hr⟩ : ∃ r, r = w.heap.size + 1 := ⟨_, rfl⟩
  have Hr : Hid (w.heap.size ≤ r ∧ b0 ≠ r) := ⟨by omega, by omega⟩
  rw [← hr] at h2 ⊢
  rw [← hb0] at h0 ⊢
  clear hb0 hr
  generalize (w.alloc (.cells #[.slice x.p f.parts.length x.pc, .slice x.l f.plan.length x.lc, .int .i64 f.now, .slice x.d f.done.length x.dc, .slice x.h f.got.length x.hc, .slice x.g f.grants.length x.gc, .slice x.k f.work.length x.kc, .slice x.n f.net.length x.nc] 29)).alloc (.cells #[.slice none 0 0, .slice none 0 0, .int .i64 0, .slice none 0 0, .slice none 0 0, .slice none 0 0, .slice none 0 0, .slice none 0 0] 29) = Z at *
  have KC : Hid (Calls Try.prog 9 #[.agg #[.slice x.p f.parts.length x.pc, .slice x.l f.plan.length x.lc, .int .i64 f.now, .slice x.d f.done.length x.dc, .slice x.h f.got.length x.hc, .slice x.g f.grants.length x.gc, .slice x.k f.work.length x.kc, .slice x.n f.net.length x.nc]] Z fun e w' => e = .returned (.int .i64 (M.checkFarm f)) ∧ Below Z.heap.size Z w') := farmCheck_any f x Z (HF.out Z HA.out).1
  have c0 : Z.cell? ⟨b0, 0, none⟩ = some (.slice x.p f.parts.length x.pc) := cellB h0 0
  have c1 : Z.cell? ⟨b0, 1, none⟩ = some (.slice x.l f.plan.length x.lc) := cellB h0 1
  have c2 : Z.cell? ⟨b0, 2, none⟩ = some (.int .i64 f.now) := cellB h0 2
  have c3 : Z.cell? ⟨b0, 3, none⟩ = some (.slice x.d f.done.length x.dc) := cellB h0 3
  have c4 : Z.cell? ⟨b0, 4, none⟩ = some (.slice x.h f.got.length x.hc) := cellB h0 4
  have c5 : Z.cell? ⟨b0, 5, none⟩ = some (.slice x.g f.grants.length x.gc) := cellB h0 5
  have c6 : Z.cell? ⟨b0, 6, none⟩ = some (.slice x.k f.work.length x.kc) := cellB h0 6
  have c7 : Z.cell? ⟨b0, 7, none⟩ = some (.slice x.n f.net.length x.nc) := cellB h0 7
  have lb0 : b0 < Z.heap.size := (Array.getElem?_eq_some_iff.1 h0).1
  have HH0 : Hid (Z.heap[b0]? = some (.cells #[.slice x.p f.parts.length x.pc, .slice x.l f.plan.length x.lc, .int .i64 f.now, .slice x.d f.done.length x.dc, .slice x.h f.got.length x.hc, .slice x.g f.grants.length x.gc, .slice x.k f.work.length x.kc, .slice x.n f.net.length x.nc] 29 (0, 0)) ∧ Z.heap[r]? = some (.cells #[.slice none 0 0, .slice none 0 0, .int .i64 0, .slice none 0 0, .slice none 0 0, .slice none 0 0, .slice none 0 0, .slice none 0 0] 29 (0, 0))) := ⟨h0, h2⟩
  clear h0 h2
  by_cases hck : M.checkFarm f = 0
  · have HE1 : Hid (E = if 120 < l.length then 2 else 0) := by rw [Hid, HE.out, hck]; rfl
    have hok := (M.farm_iff f).1 hck
    rw [hck] at KC
    clear HE hck
    go_upto_region 4 with (go_at_call 9; refine KC.out.mono ?_; rintro e X ⟨rfl, hbX⟩)
    obtain ⟨h0, h2⟩ := HH0.out
    have x0 := (hbX.block _ (Array.getElem?_eq_some_iff.1 h0).1).trans h0
    have x2 := (hbX.block _ (Array.getElem?_eq_some_iff.1 h2).1).trans h2
    have HX : Hid (Below w.heap.size w X) := HA.out.trans (hbX.mono HA.out.size)
    clear c0 c1 c2 c3 c4 c5 c6 c7 KC hbX h0 h2 HH0 lb0
    by_cases hm : 120 < l.length
    · have hmI : (120 : Int) < (l.length : Int) := by omega
      have HE2 : Hid (E = 2) := by rw [Hid, HE1.out, if_pos hm]
      have HS2 : Hid (R = (M.farm0, [])) := by rw [Hid, HS.out, HE2.out]; rfl
      obtain ⟨hs1, hs2⟩ := store8 X r (.slice none 0 0) (.slice none 0 0) (.int .i64 0) (.slice none 0 0) (.slice none 0 0) (.slice none 0 0) (.slice none 0 0) (.slice none 0 0) (.slice none 0 0) (.slice none 0 0) (.int .i64 0) (.slice none 0 0) (.slice none 0 0) (.slice none 0 0) (.slice none 0 0) (.slice none 0 0) 29 x2
      have HBV : Hid (Below w.heap.size w ((((((((X.setCell ⟨r, 0, none⟩ (.slice none 0 0)).setCell ⟨r, 1, none⟩ (.slice none 0 0)).setCell ⟨r, 2, none⟩ (.int .i64 0)).setCell ⟨r, 3, none⟩ (.slice none 0 0)).setCell ⟨r, 4, none⟩ (.slice none 0 0)).setCell ⟨r, 5, none⟩ (.slice none 0 0)).setCell ⟨r, 6, none⟩ (.slice none 0 0)).setCell ⟨r, 7, none⟩ (.slice none 0 0))) := HX.out.grown hs2 HX.out.size (fun k hk => by cases hk; exact Hr.out.1)
      have r0 : X.cell? ⟨r, 0, none⟩ = some (.slice none 0 0) := cellB x2 0
      have r1 : X.cell? ⟨r, 1, none⟩ = some (.slice none 0 0) := cellB x2 1
      have r2 : X.cell? ⟨r, 2, none⟩ = some (.int .i64 0) := cellB x2 2
      have r3 : X.cell? ⟨r, 3, none⟩ = some (.slice none 0 0) := cellB x2 3
      have r4 : X.cell? ⟨r, 4, none⟩ = some (.slice none 0 0) := cellB x2 4
      have r5 : X.cell? ⟨r, 5, none⟩ = some (.slice none 0 0) := cellB x2 5
      have r6 : X.cell? ⟨r, 6, none⟩ = some (.slice none 0 0) := cellB x2 6
      have r7 : X.cell? ⟨r, 7, none⟩ = some (.slice none 0 0) := cellB x2 7
      have rf : ∀ i, X.frozen? ⟨r, i, none⟩ = false := frozenB x2
      have lr : r < X.heap.size := (Array.getElem?_eq_some_iff.1 x2).1
      clear HE1 HS x0 x2 hs2 hm
      go_wp2_with fail
      have e0 : ((((((((X.setCell ⟨r, 0, none⟩ (.slice none 0 0)).setCell ⟨r, 1, none⟩ (.slice none 0 0)).setCell ⟨r, 2, none⟩ (.int .i64 0)).setCell ⟨r, 3, none⟩ (.slice none 0 0)).setCell ⟨r, 4, none⟩ (.slice none 0 0)).setCell ⟨r, 5, none⟩ (.slice none 0 0)).setCell ⟨r, 6, none⟩ (.slice none 0 0)).setCell ⟨r, 7, none⟩ (.slice none 0 0)).cell? ⟨r, 0, none⟩ = some (.slice none 0 0) := cellB hs1 0
      have e1 : ((((((((X.setCell ⟨r, 0, none⟩ (.slice none 0 0)).setCell ⟨r, 1, none⟩ (.slice none 0 0)).setCell ⟨r, 2, none⟩ (.int .i64 0)).setCell ⟨r, 3, none⟩ (.slice none 0 0)).setCell ⟨r, 4, none⟩ (.slice none 0 0)).setCell ⟨r, 5, none⟩ (.slice none 0 0)).setCell ⟨r, 6, none⟩ (.slice none 0 0)).setCell ⟨r, 7, none⟩ (.slice none 0 0)).cell? ⟨r, 1, none⟩ = some (.slice none 0 0) := cellB hs1 1
      have e2 : ((((((((X.setCell ⟨r, 0, none⟩ (.slice none 0 0)).setCell ⟨r, 1, none⟩ (.slice none 0 0)).setCell ⟨r, 2, none⟩ (.int .i64 0)).setCell ⟨r, 3, none⟩ (.slice none 0 0)).setCell ⟨r, 4, none⟩ (.slice none 0 0)).setCell ⟨r, 5, none⟩ (.slice none 0 0)).setCell ⟨r, 6, none⟩ (.slice none 0 0)).setCell ⟨r, 7, none⟩ (.slice none 0 0)).cell? ⟨r, 2, none⟩ = some (.int .i64 0) := cellB hs1 2
      have e3 : ((((((((X.setCell ⟨r, 0, none⟩ (.slice none 0 0)).setCell ⟨r, 1, none⟩ (.slice none 0 0)).setCell ⟨r, 2, none⟩ (.int .i64 0)).setCell ⟨r, 3, none⟩ (.slice none 0 0)).setCell ⟨r, 4, none⟩ (.slice none 0 0)).setCell ⟨r, 5, none⟩ (.slice none 0 0)).setCell ⟨r, 6, none⟩ (.slice none 0 0)).setCell ⟨r, 7, none⟩ (.slice none 0 0)).cell? ⟨r, 3, none⟩ = some (.slice none 0 0) := cellB hs1 3
      have e4 : ((((((((X.setCell ⟨r, 0, none⟩ (.slice none 0 0)).setCell ⟨r, 1, none⟩ (.slice none 0 0)).setCell ⟨r, 2, none⟩ (.int .i64 0)).setCell ⟨r, 3, none⟩ (.slice none 0 0)).setCell ⟨r, 4, none⟩ (.slice none 0 0)).setCell ⟨r, 5, none⟩ (.slice none 0 0)).setCell ⟨r, 6, none⟩ (.slice none 0 0)).setCell ⟨r, 7, none⟩ (.slice none 0 0)).cell? ⟨r, 4, none⟩ = some (.slice none 0 0) := cellB hs1 4
      have e5 : ((((((((X.setCell ⟨r, 0, none⟩ (.slice none 0 0)).setCell ⟨r, 1, none⟩ (.slice none 0 0)).setCell ⟨r, 2, none⟩ (.int .i64 0)).setCell ⟨r, 3, none⟩ (.slice none 0 0)).setCell ⟨r, 4, none⟩ (.slice none 0 0)).setCell ⟨r, 5, none⟩ (.slice none 0 0)).setCell ⟨r, 6, none⟩ (.slice none 0 0)).setCell ⟨r, 7, none⟩ (.slice none 0 0)).cell? ⟨r, 5, none⟩ = some (.slice none 0 0) := cellB hs1 5
      have e6 : ((((((((X.setCell ⟨r, 0, none⟩ (.slice none 0 0)).setCell ⟨r, 1, none⟩ (.slice none 0 0)).setCell ⟨r, 2, none⟩ (.int .i64 0)).setCell ⟨r, 3, none⟩ (.slice none 0 0)).setCell ⟨r, 4, none⟩ (.slice none 0 0)).setCell ⟨r, 5, none⟩ (.slice none 0 0)).setCell ⟨r, 6, none⟩ (.slice none 0 0)).setCell ⟨r, 7, none⟩ (.slice none 0 0)).cell? ⟨r, 6, none⟩ = some (.slice none 0 0) := cellB hs1 6
      have e7 : ((((((((X.setCell ⟨r, 0, none⟩ (.slice none 0 0)).setCell ⟨r, 1, none⟩ (.slice none 0 0)).setCell ⟨r, 2, none⟩ (.int .i64 0)).setCell ⟨r, 3, none⟩ (.slice none 0 0)).setCell ⟨r, 4, none⟩ (.slice none 0 0)).setCell ⟨r, 5, none⟩ (.slice none 0 0)).setCell ⟨r, 6, none⟩ (.slice none 0 0)).setCell ⟨r, 7, none⟩ (.slice none 0 0)).cell? ⟨r, 7, none⟩ = some (.slice none 0 0) := cellB hs1 7
      refine bodyPost_ret (v := .tuple #[.agg #[.slice none 0 0, .slice none 0 0, .int .i64 0, .slice none 0 0, .slice none 0 0, .slice none 0 0, .slice none 0 0, .slice none 0 0], .slice none 0 0, .int .i64 2]) (by simp [results, Try.results15, go_sem, e0, e1, e2, e3, e4, e5, e6, e7]) rfl ?_
      rw [HS2.out, HE2.out]
      exact ⟨HBV.out, fd0, .slice none 0 0, rfl, ⟨farm0_at _, fun h => absurd h (by decide)⟩, World.ownsRow_nil _ _ _ _⟩
    · have hmI : ¬ (120 : Int) < (l.length : Int) := by omega
      have HE2 : Hid (E = 0) := by rw [Hid, HE1.out, if_neg hm]
      have HS2 : Hid (R = M.runF f l) := by rw [Hid, HS.out, HE2.out]; rfl
      clear HE1 HS
      have d0 : X.cell? ⟨b0, 0, none⟩ = some (.slice x.p f.parts.length x.pc) := cellB x0 0
      have d1 : X.cell? ⟨b0, 1, none⟩ = some (.slice x.l f.plan.length x.lc) := cellB x0 1
      have d2 : X.cell? ⟨b0, 2, none⟩ = some (.int .i64 f.now) := cellB x0 2
      have d3 : X.cell? ⟨b0, 3, none⟩ = some (.slice x.d f.done.length x.dc) := cellB x0 3
      have d4 : X.cell? ⟨b0, 4, none⟩ = some (.slice x.h f.got.length x.hc) := cellB x0 4
      have d5 : X.cell? ⟨b0, 5, none⟩ = some (.slice x.g f.grants.length x.gc) := cellB x0 5
      have d6 : X.cell? ⟨b0, 6, none⟩ = some (.slice x.k f.work.length x.kc) := cellB x0 6
      have d7 : X.cell? ⟨b0, 7, none⟩ = some (.slice x.n f.net.length x.nc) := cellB x0 7
      have lx0 : b0 < X.heap.size := (Array.getElem?_eq_some_iff.1 x0).1
      have KF : Hid (Calls Try.prog 22 #[.agg #[.slice x.p f.parts.length x.pc, .slice x.l f.plan.length x.lc, .int .i64 f.now, .slice x.d f.done.length x.dc, .slice x.h f.got.length x.hc, .slice x.g f.grants.length x.gc, .slice x.k f.work.length x.kc, .slice x.n f.net.length x.nc]] X fun e w' => Below X.heap.size X w' ∧ ∃ y o, e = .returned (.agg #[.slice y.p f.parts.length y.pc, .slice y.l f.plan.length y.lc, .int .i64 f.now, .slice y.d f.done.length y.dc, .slice y.h f.got.length y.hc, .slice y.g f.grants.length y.gc, .slice y.k f.work.length y.kc, .slice y.n f.net.length y.nc]) ∧ FmR X.heap.size w' f y o) := copyFarm_any f x X (HF.out X HX.out).1 hok
      have Hx2 : Hid (X.heap[r]? = some (.cells #[.slice none 0 0, .slice none 0 0, .int .i64 0, .slice none 0 0, .slice none 0 0, .slice none 0 0, .slice none 0 0, .slice none 0 0] 29 (0, 0))) := x2
      clear x0 x2
      go_upto_region 7 with (go_at_call 22; refine KF.out.mono ?_; rintro e X2 ⟨hb2, y, o, rfl, hR2⟩)
      obtain ⟨bo, hbo⟩ : ∃ bo, bo = X2.heap.size := ⟨_, rfl⟩
      have hAl := (Below.refl X2.heap.size X2).alloc (Nat.le_refl _) (.cells #[.slice y.p f.parts.length y.pc, .slice y.l f.plan.length y.lc, .int .i64 f.now, .slice y.d f.done.length y.dc, .slice y.h f.got.length y.hc, .slice y.g f.grants.length y.gc, .slice y.k f.work.length y.kc, .slice y.n f.net.length y.nc] 29)
      have hn := heap_alloc_new X2 (.cells #[.slice y.p f.parts.length y.pc, .slice y.l f.plan.length y.lc, .int .i64 f.now, .slice y.d f.done.length y.dc, .slice y.h f.got.length y.hc, .slice y.g f.grants.length y.gc, .slice y.k f.work.length y.kc, .slice y.n f.net.length y.nc] 29)
      have hX3 := hb2.trans (hAl.mono hb2.size)
      have hO3 : FmO X.heap.size (X2.alloc (.cells #[.slice y.p f.parts.length y.pc, .slice y.l f.plan.length y.lc, .int .i64 f.now, .slice y.d f.done.length y.dc, .slice y.h f.got.length y.hc, .slice y.g f.grants.length y.gc, .slice y.k f.work.length y.kc, .slice y.n f.net.length y.nc] 29)) X2.heap.size f y o := (hR2.later hAl).own hb2.size hn
      have HB3 : Hid (Below X.heap.size X (X2.alloc (.cells #[.slice y.p f.parts.length y.pc, .slice y.l f.plan.length y.lc, .int .i64 f.now, .slice y.d f.done.length y.dc, .slice y.h f.got.length y.hc, .slice y.g f.grants.length y.gc, .slice y.k f.work.length y.kc, .slice y.n f.net.length y.nc] 29))) := hX3
      have hrX : r < X.heap.size := (Array.getElem?_eq_some_iff.1 Hx2.out).1
      rw [← hbo] at hO3 ⊢
      have Hbo : Hid (r ≠ bo) := by rw [Hid, hbo]; have := hb2.size; omega
      have HO3 : Hid (FmO X.heap.size (X2.alloc (.cells #[.slice y.p f.parts.length y.pc, .slice y.l f.plan.length y.lc, .int .i64 f.now, .slice y.d f.done.length y.dc, .slice y.h f.got.length y.hc, .slice y.g f.grants.length y.gc, .slice y.k f.work.length y.kc, .slice y.n f.net.length y.nc] 29)) bo f y o) := hO3
      clear hbo hAl hn hR2 d0 d1 d2 d3 d4 d5 d6 d7 lx0 KF hb2 hO3 hX3
      generalize X2.alloc (.cells #[.slice y.p f.parts.length y.pc, .slice y.l f.plan.length y.lc, .int .i64 f.now, .slice y.d f.done.length y.dc, .slice y.h f.got.length y.hc, .slice y.g f.grants.length y.gc, .slice y.k f.work.length y.kc, .slice y.n f.net.length y.nc] 29) = Y at *
      go_upto_region 9 with fail
      go_loopw [9, 26] (fun s9 s26 wr => ∃ (k : Nat) (xk : Fd) (ok : Fo), k ≤ l.length ∧ s26 = .int .i64 k ∧ Hid (FmO X.heap.size wr bo (M.runF f (l.take k)).1 xk ok) ∧ Hid (wr.ownsRow X.heap.size 32 1 s9 k ((M.runF f (l.take k)).2.map (Value.int .i64))) ∧ Hid (Below X.heap.size X wr)) (fun _ s26 _ => l.length - (intOf s26).toNat)
      case atStart => exact ⟨0, y, o, Nat.zero_le _, rfl, HO3, World.ownsRow_nil _ _ _ _, HB3⟩
      case round =>
        obtain ⟨k, xk, ok, hk, rfl, HO, HRw, HB⟩ := hrel
        clear HO3 HB3
        have hsz : X.heap.size ≤ wr.heap.size := HB.out.size
        have HW : Hid (Below w.heap.size w wr) := HX.out.trans (HB.out.mono HX.out.size)
        by_cases hlt : k < l.length
        · obtain ⟨b, off, rfl, e0, e1, e2⟩ := (HF.out wr HW.out).2.cells k hlt
          have hbr : b < wr.heap.size := World.block_lt_of_cell? _ _ e0
          have hkl : (k : Int) < (l.length : Int) := by omega
          have HT : Hid (M.runF f (l.take (k + 1)) = ((M.happen (M.runF f (l.take k)).1 (l.getD k hap0)).1, (M.runF f (l.take k)).2 ++ [(M.happen (M.runF f (l.take k)).1 (l.getD k hap0)).2])) := by
            rw [Hid, List.take_add_one, getElem?_getD l hap0 k hlt]; exact run_snoc _ _ _
          have hokk := run_plan (l.take k) f hok
          generalize l.getD k hap0 = h at *
          obtain ⟨kd, wk, kk⟩ := h
          simp only at e0 e1 e2
          obtain ⟨ad, nn, cc, rfl⟩ := own_form HRw.out
          go_upto_region 11 with fail
          have hAl := (Below.refl wr.heap.size wr).alloc (Nat.le_refl _) (.cells #[.int .i64 kd, .int .i64 wk, .int .i64 kk] 31)
          have hn := heap_alloc_new wr (.cells #[.int .i64 kd, .int .i64 wk, .int .i64 kk] 31)
          have hO4 := HO.out.later hAl
          have hr4 := HRw.out.kept (grown_of_below hAl Option.none) own_self
          have hB4 := HB.out.trans (hAl.mono hsz)
          obtain ⟨nz, hnz⟩ : ∃ nz, nz = wr.heap.size := ⟨_, rfl⟩
          rw [← hnz] at hn ⊢
          clear hnz e0 e1 e2 hAl HO HRw HB
          generalize wr.alloc (.cells #[.int .i64 kd, .int .i64 wk, .int .i64 kk] 31) = V at *
          have q0 : V.cell? ⟨nz, 0, none⟩ = some (.int .i64 kd) := cellB hn 0
          have q1 : V.cell? ⟨nz, 1, none⟩ = some (.int .i64 wk) := cellB hn 1
          have q2 : V.cell? ⟨nz, 2, none⟩ = some (.int .i64 kk) := cellB hn 2
          have lnz : nz < V.heap.size := (Array.getElem?_eq_some_iff.1 hn).1
          have KH : Hid (Calls Try.prog 23 #[.pointer (some ⟨bo, 0, none⟩), .agg #[.int .i64 kd, .int .i64 wk, .int .i64 kk]] V fun e w' => e = .returned (.int .i64 (M.happen (M.runF f (l.take k)).1 ⟨kd, wk, kk⟩).2) ∧ Below X.heap.size V w' ∧ KeepE V w' ∧ ∃ x' o', FmO X.heap.size w' bo (M.happen (M.runF f (l.take k)).1 ⟨kd, wk, kk⟩).1 x' o') := happen_any V hO4 hB4.size hokk kd wk kk
          have Hr4 : Hid (V.ownsRow X.heap.size 32 1 (.slice ad nn cc) k ((M.runF f (l.take k)).2.map (Value.int .i64))) := hr4
          have HB4 : Hid (Below X.heap.size X V) := hB4
          clear hO4 hr4 hB4 hn hokk
          generalize M.runF f (l.take k) = rk at *
          obtain ⟨fk, ek⟩ := rk
          simp only at KH HT Hr4
          generalize M.happen fk ⟨kd, wk, kk⟩ = hp at *
          obtain ⟨f', e'⟩ := hp
          simp only at KH HT
          go_wp2_with (go_at_call 23; refine KH.out.mono ?_; rintro e U ⟨rfl, hbU, hkU, x', o', hOU⟩; refine Hid.out ?_)
          have hrU := row_keep Hr4.out hkU
          have hBU := HB4.out.trans hbU
          have hsU : X.heap.size ≤ U.heap.size := hBU.size
          have hnews : ∀ j u, (#[.int .i64 e'] : Array Value).toList[j]? = some u → (U.alloc (.cells #[.int .i64 e'] 32)).cell? ((⟨U.heap.size, 0, none⟩ : Addr).add j) = some u := World.news_of_block (heap_alloc_new U _)
          have HAp : Hid (∀ v' w3, (U.alloc (.cells #[.int .i64 e'] 32)).grownBy w3 (Value.slice ad nn cc).ownBlock → w3.ownsRow X.heap.size 32 1 v' (k + 1) (ek.map (Value.int .i64) ++ (#[.int .i64 e'] : Array Value).toList) → FmO X.heap.size w3 bo (M.runF f (l.take (k + 1))).1 x' o' ∧ w3.ownsRow X.heap.size 32 1 v' (k + 1) ((M.runF f (l.take (k + 1))).2.map (Value.int .i64)) ∧ Below X.heap.size X w3) := fun v' w3 hg ho => by
            have hb := (Below.refl U.heap.size U).alloc (Nat.le_refl _) (.cells #[.int .i64 e'] 32)
            have hr' := hrU.alloc (.cells #[.int .i64 e'] 32)
            rw [HT.out]
            refine ⟨(hOU.later hb).said hr' hg, ?_, (hBU.trans (hb.mono hsU)).grown hg (Nat.le_trans hsU hb.size) (fun k hk => (hr'.lt k hk).1)⟩
            rw [List.map_append]; exact ho
          clear KH q0 q1 q2 Hr4 HB4 hbU hkU hOU hBU lnz
          refine Lib.hid ?_
          go_wp2_with (at_builtin; refine wpList_append_own _ rfl _ _ 51 rfl X.heap.size 32 i0 (.int .i64 0) 1 8 Try.underlying51 hi0 hz0 hz1 hz2 rfl (by decide) _ _ _ rfl (hrU.alloc _) ⟨U.heap.size, 0, none⟩ 1 1 (#[.int .i64 e'] : Array Value).toList rfl rfl hnews (fun u hu => by simp at hu; rcases hu with rfl; rfl) (by unfold maxLen; omega) (by omega) (by simp; omega) ?_; intro v' w3 hown' hgrow3 hnil3)
          go_roundw
          case rel =>
            obtain ⟨j1, j2, j3⟩ := HAp.out _ _ hgrow3 hown'
            exact ⟨k + 1, x', o', by omega, by go_num, j1, j2, j3⟩
          case measure => simp [intOf]; omega
        · have hkl : k = l.length := by omega
          have hO := HO.out
          have hRw := HRw.out
          rw [hkl, List.take_length, ← HS2.out] at hO hRw
          have hlen : R.2.length = l.length := by rw [HS2.out]; exact run_len l f
          obtain ⟨ad, nn, cc, rfl⟩ := own_form hRw
          obtain ⟨f', e'⟩ := R
          simp only at hO hRw hlen
          have v2 := (HB.out.block _ hrX).trans Hx2.out
          obtain ⟨hs1, hs2⟩ := store8 wr r (.slice none 0 0) (.slice none 0 0) (.int .i64 0) (.slice none 0 0) (.slice none 0 0) (.slice none 0 0) (.slice none 0 0) (.slice none 0 0) (.slice xk.p f'.parts.length xk.pc) (.slice xk.l f'.plan.length xk.lc) (.int .i64 f'.now) (.slice xk.d f'.done.length xk.dc) (.slice xk.h f'.got.length xk.hc) (.slice xk.g f'.grants.length xk.gc) (.slice xk.k f'.work.length xk.kc) (.slice xk.n f'.net.length xk.nc) 29 v2
          have wrF : Wr wr ((((((((wr.setCell ⟨r, 0, none⟩ (.slice xk.p f'.parts.length xk.pc)).setCell ⟨r, 1, none⟩ (.slice xk.l f'.plan.length xk.lc)).setCell ⟨r, 2, none⟩ (.int .i64 f'.now)).setCell ⟨r, 3, none⟩ (.slice xk.d f'.done.length xk.dc)).setCell ⟨r, 4, none⟩ (.slice xk.h f'.got.length xk.hc)).setCell ⟨r, 5, none⟩ (.slice xk.g f'.grants.length xk.gc)).setCell ⟨r, 6, none⟩ (.slice xk.k f'.work.length xk.kc)).setCell ⟨r, 7, none⟩ (.slice xk.n f'.net.length xk.nc)) 29 := ⟨r, _, v2, hs2⟩
          have HFA : Hid (FmR w.heap.size ((((((((wr.setCell ⟨r, 0, none⟩ (.slice xk.p f'.parts.length xk.pc)).setCell ⟨r, 1, none⟩ (.slice xk.l f'.plan.length xk.lc)).setCell ⟨r, 2, none⟩ (.int .i64 f'.now)).setCell ⟨r, 3, none⟩ (.slice xk.d f'.done.length xk.dc)).setCell ⟨r, 4, none⟩ (.slice xk.h f'.got.length xk.hc)).setCell ⟨r, 5, none⟩ (.slice xk.g f'.grants.length xk.gc)).setCell ⟨r, 6, none⟩ (.slice xk.k f'.work.length xk.kc)).setCell ⟨r, 7, none⟩ (.slice xk.n f'.net.length xk.nc)) f' xk ok) := (hO.rows.wr wrF).base HX.out.size
          have HIn : Hid (World.ownsRow ((((((((wr.setCell ⟨r, 0, none⟩ (.slice xk.p f'.parts.length xk.pc)).setCell ⟨r, 1, none⟩ (.slice xk.l f'.plan.length xk.lc)).setCell ⟨r, 2, none⟩ (.int .i64 f'.now)).setCell ⟨r, 3, none⟩ (.slice xk.d f'.done.length xk.dc)).setCell ⟨r, 4, none⟩ (.slice xk.h f'.got.length xk.hc)).setCell ⟨r, 5, none⟩ (.slice xk.g f'.grants.length xk.gc)).setCell ⟨r, 6, none⟩ (.slice xk.k f'.work.length xk.kc)).setCell ⟨r, 7, none⟩ (.slice xk.n f'.net.length xk.nc)) w.heap.size 32 1 (.slice ad nn cc) e'.length (e'.map (Value.int .i64))) := row_base (by rw [hlen]; exact wrF.row hRw (by decide)) HX.out.size
          have HBV : Hid (Below w.heap.size w ((((((((wr.setCell ⟨r, 0, none⟩ (.slice xk.p f'.parts.length xk.pc)).setCell ⟨r, 1, none⟩ (.slice xk.l f'.plan.length xk.lc)).setCell ⟨r, 2, none⟩ (.int .i64 f'.now)).setCell ⟨r, 3, none⟩ (.slice xk.d f'.done.length xk.dc)).setCell ⟨r, 4, none⟩ (.slice xk.h f'.got.length xk.hc)).setCell ⟨r, 5, none⟩ (.slice xk.g f'.grants.length xk.gc)).setCell ⟨r, 6, none⟩ (.slice xk.k f'.work.length xk.kc)).setCell ⟨r, 7, none⟩ (.slice xk.n f'.net.length xk.nc))) := HW.out.grown hs2 HW.out.size (fun k hk => by cases hk; exact Hr.out.1)
          have k0 : wr.cell? ⟨bo, 0, none⟩ = some (.slice xk.p f'.parts.length xk.pc) := cellB hO.blk 0
          have k1 : wr.cell? ⟨bo, 1, none⟩ = some (.slice xk.l f'.plan.length xk.lc) := cellB hO.blk 1
          have k2 : wr.cell? ⟨bo, 2, none⟩ = some (.int .i64 f'.now) := cellB hO.blk 2
          have k3 : wr.cell? ⟨bo, 3, none⟩ = some (.slice xk.d f'.done.length xk.dc) := cellB hO.blk 3
          have k4 : wr.cell? ⟨bo, 4, none⟩ = some (.slice xk.h f'.got.length xk.hc) := cellB hO.blk 4
          have k5 : wr.cell? ⟨bo, 5, none⟩ = some (.slice xk.g f'.grants.length xk.gc) := cellB hO.blk 5
          have k6 : wr.cell? ⟨bo, 6, none⟩ = some (.slice xk.k f'.work.length xk.kc) := cellB hO.blk 6
          have k7 : wr.cell? ⟨bo, 7, none⟩ = some (.slice xk.n f'.net.length xk.nc) := cellB hO.blk 7
          have lbo : bo < wr.heap.size := (Array.getElem?_eq_some_iff.1 hO.blk).1
          have r0 : wr.cell? ⟨r, 0, none⟩ = some (.slice none 0 0) := cellB v2 0
          have r1 : wr.cell? ⟨r, 1, none⟩ = some (.slice none 0 0) := cellB v2 1
          have r2 : wr.cell? ⟨r, 2, none⟩ = some (.int .i64 0) := cellB v2 2
          have r3 : wr.cell? ⟨r, 3, none⟩ = some (.slice none 0 0) := cellB v2 3
          have r4 : wr.cell? ⟨r, 4, none⟩ = some (.slice none 0 0) := cellB v2 4
          have r5 : wr.cell? ⟨r, 5, none⟩ = some (.slice none 0 0) := cellB v2 5
          have r6 : wr.cell? ⟨r, 6, none⟩ = some (.slice none 0 0) := cellB v2 6
          have r7 : wr.cell? ⟨r, 7, none⟩ = some (.slice none 0 0) := cellB v2 7
          have rf : ∀ i, wr.frozen? ⟨r, i, none⟩ = false := frozenB v2
          have lr : r < wr.heap.size := (Array.getElem?_eq_some_iff.1 v2).1
          have hbor := Hbo.out
          clear HS2 hO hRw v2 hs2 wrF HO HRw HB hlen
          subst hkl
          go_wp2_with fail
          have e0 : ((((((((wr.setCell ⟨r, 0, none⟩ (.slice xk.p f'.parts.length xk.pc)).setCell ⟨r, 1, none⟩ (.slice xk.l f'.plan.length xk.lc)).setCell ⟨r, 2, none⟩ (.int .i64 f'.now)).setCell ⟨r, 3, none⟩ (.slice xk.d f'.done.length xk.dc)).setCell ⟨r, 4, none⟩ (.slice xk.h f'.got.length xk.hc)).setCell ⟨r, 5, none⟩ (.slice xk.g f'.grants.length xk.gc)).setCell ⟨r, 6, none⟩ (.slice xk.k f'.work.length xk.kc)).setCell ⟨r, 7, none⟩ (.slice xk.n f'.net.length xk.nc)).cell? ⟨r, 0, none⟩ = some (.slice xk.p f'.parts.length xk.pc) := cellB hs1 0
          have e1 : ((((((((wr.setCell ⟨r, 0, none⟩ (.slice xk.p f'.parts.length xk.pc)).setCell ⟨r, 1, none⟩ (.slice xk.l f'.plan.length xk.lc)).setCell ⟨r, 2, none⟩ (.int .i64 f'.now)).setCell ⟨r, 3, none⟩ (.slice xk.d f'.done.length xk.dc)).setCell ⟨r, 4, none⟩ (.slice xk.h f'.got.length xk.hc)).setCell ⟨r, 5, none⟩ (.slice xk.g f'.grants.length xk.gc)).setCell ⟨r, 6, none⟩ (.slice xk.k f'.work.length xk.kc)).setCell ⟨r, 7, none⟩ (.slice xk.n f'.net.length xk.nc)).cell? ⟨r, 1, none⟩ = some (.slice xk.l f'.plan.length xk.lc) := cellB hs1 1
          have e2 : ((((((((wr.setCell ⟨r, 0, none⟩ (.slice xk.p f'.parts.length xk.pc)).setCell ⟨r, 1, none⟩ (.slice xk.l f'.plan.length xk.lc)).setCell ⟨r, 2, none⟩ (.int .i64 f'.now)).setCell ⟨r, 3, none⟩ (.slice xk.d f'.done.length xk.dc)).setCell ⟨r, 4, none⟩ (.slice xk.h f'.got.length xk.hc)).setCell ⟨r, 5, none⟩ (.slice xk.g f'.grants.length xk.gc)).setCell ⟨r, 6, none⟩ (.slice xk.k f'.work.length xk.kc)).setCell ⟨r, 7, none⟩ (.slice xk.n f'.net.length xk.nc)).cell? ⟨r, 2, none⟩ = some (.int .i64 f'.now) := cellB hs1 2
          have e3 : ((((((((wr.setCell ⟨r, 0, none⟩ (.slice xk.p f'.parts.length xk.pc)).setCell ⟨r, 1, none⟩ (.slice xk.l f'.plan.length xk.lc)).setCell ⟨r, 2, none⟩ (.int .i64 f'.now)).setCell ⟨r, 3, none⟩ (.slice xk.d f'.done.length xk.dc)).setCell ⟨r, 4, none⟩ (.slice xk.h f'.got.length xk.hc)).setCell ⟨r, 5, none⟩ (.slice xk.g f'.grants.length xk.gc)).setCell ⟨r, 6, none⟩ (.slice xk.k f'.work.length xk.kc)).setCell ⟨r, 7, none⟩ (.slice xk.n f'.net.length xk.nc)).cell? ⟨r, 3, none⟩ = some (.slice xk.d f'.done.length xk.dc) := cellB hs1 3
          have e4 : ((((((((wr.setCell ⟨r, 0, none⟩ (.slice xk.p f'.parts.length xk.pc)).setCell ⟨r, 1, none⟩ (.slice xk.l f'.plan.length xk.lc)).setCell ⟨r, 2, none⟩ (.int .i64 f'.now)).setCell ⟨r, 3, none⟩ (.slice xk.d f'.done.length xk.dc)).setCell ⟨r, 4, none⟩ (.slice xk.h f'.got.length xk.hc)).setCell ⟨r, 5, none⟩ (.slice xk.g f'.grants.length xk.gc)).setCell ⟨r, 6, none⟩ (.slice xk.k f'.work.length xk.kc)).setCell ⟨r, 7, none⟩ (.slice xk.n f'.net.length xk.nc)).cell? ⟨r, 4, none⟩ = some (.slice xk.h f'.got.length xk.hc) := cellB hs1 4
          have e5 : ((((((((wr.setCell ⟨r, 0, none⟩ (.slice xk.p f'.parts.length xk.pc)).setCell ⟨r, 1, none⟩ (.slice xk.l f'.plan.length xk.lc)).setCell ⟨r, 2, none⟩ (.int .i64 f'.now)).setCell ⟨r, 3, none⟩ (.slice xk.d f'.done.length xk.dc)).setCell ⟨r, 4, none⟩ (.slice xk.h f'.got.length xk.hc)).setCell ⟨r, 5, none⟩ (.slice xk.g f'.grants.length xk.gc)).setCell ⟨r, 6, none⟩ (.slice xk.k f'.work.length xk.kc)).setCell ⟨r, 7, none⟩ (.slice xk.n f'.net.length xk.nc)).cell? ⟨r, 5, none⟩ = some (.slice xk.g f'.grants.length xk.gc) := cellB hs1 5
          have e6 : ((((((((wr.setCell ⟨r, 0, none⟩ (.slice xk.p f'.parts.length xk.pc)).setCell ⟨r, 1, none⟩ (.slice xk.l f'.plan.length xk.lc)).setCell ⟨r, 2, none⟩ (.int .i64 f'.now)).setCell ⟨r, 3, none⟩ (.slice xk.d f'.done.length xk.dc)).setCell ⟨r, 4, none⟩ (.slice xk.h f'.got.length xk.hc)).setCell ⟨r, 5, none⟩ (.slice xk.g f'.grants.length xk.gc)).setCell ⟨r, 6, none⟩ (.slice xk.k f'.work.length xk.kc)).setCell ⟨r, 7, none⟩ (.slice xk.n f'.net.length xk.nc)).cell? ⟨r, 6, none⟩ = some (.slice xk.k f'.work.length xk.kc) := cellB hs1 6
          have e7 : ((((((((wr.setCell ⟨r, 0, none⟩ (.slice xk.p f'.parts.length xk.pc)).setCell ⟨r, 1, none⟩ (.slice xk.l f'.plan.length xk.lc)).setCell ⟨r, 2, none⟩ (.int .i64 f'.now)).setCell ⟨r, 3, none⟩ (.slice xk.d f'.done.length xk.dc)).setCell ⟨r, 4, none⟩ (.slice xk.h f'.got.length xk.hc)).setCell ⟨r, 5, none⟩ (.slice xk.g f'.grants.length xk.gc)).setCell ⟨r, 6, none⟩ (.slice xk.k f'.work.length xk.kc)).setCell ⟨r, 7, none⟩ (.slice xk.n f'.net.length xk.nc)).cell? ⟨r, 7, none⟩ = some (.slice xk.n f'.net.length xk.nc) := cellB hs1 7
          refine bodyPost_ret (v := .tuple #[.agg #[.slice xk.p f'.parts.length xk.pc, .slice xk.l f'.plan.length xk.lc, .int .i64 f'.now, .slice xk.d f'.done.length xk.dc, .slice xk.h f'.got.length xk.hc, .slice xk.g f'.grants.length xk.gc, .slice xk.k f'.work.length xk.kc, .slice xk.n f'.net.length xk.nc], .slice ad nn cc, .int .i64 0]) (by simp [results, Try.results15, go_sem, e0, e1, e2, e3, e4, e5, e6, e7]) rfl ?_
          rw [HE2.out]
          exact ⟨HBV.out, xk, .slice ad nn cc, rfl, ⟨HFA.out.at, fun _ => ⟨ok, HFA.out⟩⟩, HIn.out⟩
  · have HE2 : Hid (E = M.checkFarm f) := by rw [Hid, HE.out, M.orE, if_neg hck]
    have HS2 : Hid (R = (M.farm0, [])) := by rw [Hid, HS.out, HE2.out, if_neg hck]
    have hne : (M.checkFarm f != 0) = true := by simpa using hck
    clear HE HS hck
    generalize M.checkFarm f = e' at *
    go_upto_region 3 with (go_at_call 9; refine KC.out.mono ?_; rintro e X ⟨rfl, hbX⟩)
    have x2 := (hbX.block _ (Array.getElem?_eq_some_iff.1 HH0.out.2).1).trans HH0.out.2
    have HX : Hid (Below w.heap.size w X) := HA.out.trans (hbX.mono HA.out.size)
    obtain ⟨hs1, hs2⟩ := store8 X r (.slice none 0 0) (.slice none 0 0) (.int .i64 0) (.slice none 0 0) (.slice none 0 0) (.slice none 0 0) (.slice none 0 0) (.slice none 0 0) (.slice none 0 0) (.slice none 0 0) (.int .i64 0) (.slice none 0 0) (.slice none 0 0) (.slice none 0 0) (.slice none 0 0) (.slice none 0 0) 29 x2
    have HBV : Hid (Below w.heap.size w ((((((((X.setCell ⟨r, 0, none⟩ (.slice none 0 0)).setCell ⟨r, 1, none⟩ (.slice none 0 0)).setCell ⟨r, 2, none⟩ (.int .i64 0)).setCell ⟨r, 3, none⟩ (.slice none 0 0)).setCell ⟨r, 4, none⟩ (.slice none 0 0)).setCell ⟨r, 5, none⟩ (.slice none 0 0)).setCell ⟨r, 6, none⟩ (.slice none 0 0)).setCell ⟨r, 7, none⟩ (.slice none 0 0))) := HX.out.grown hs2 HX.out.size (fun k hk => by cases hk; exact Hr.out.1)
    have r0 : X.cell? ⟨r, 0, none⟩ = some (.slice none 0 0) := cellB x2 0
    have r1 : X.cell? ⟨r, 1, none⟩ = some (.slice none 0 0) := cellB x2 1
    have r2 : X.cell? ⟨r, 2, none⟩ = some (.int .i64 0) := cellB x2 2
    have r3 : X.cell? ⟨r, 3, none⟩ = some (.slice none 0 0) := cellB x2 3
    have r4 : X.cell? ⟨r, 4, none⟩ = some (.slice none 0 0) := cellB x2 4
    have r5 : X.cell? ⟨r, 5, none⟩ = some (.slice none 0 0) := cellB x2 5
    have r6 : X.cell? ⟨r, 6, none⟩ = some (.slice none 0 0) := cellB x2 6
    have r7 : X.cell? ⟨r, 7, none⟩ = some (.slice none 0 0) := cellB x2 7
    have rf : ∀ i, X.frozen? ⟨r, i, none⟩ = false := frozenB x2
    have lr : r < X.heap.size := (Array.getElem?_eq_some_iff.1 x2).1
    clear x2 hs2 c0 c1 c2 c3 c4 c5 c6 c7 KC hbX lb0
    go_wp2_with fail
    have e0 : ((((((((X.setCell ⟨r, 0, none⟩ (.slice none 0 0)).setCell ⟨r, 1, none⟩ (.slice none 0 0)).setCell ⟨r, 2, none⟩ (.int .i64 0)).setCell ⟨r, 3, none⟩ (.slice none 0 0)).setCell ⟨r, 4, none⟩ (.slice none 0 0)).setCell ⟨r, 5, none⟩ (.slice none 0 0)).setCell ⟨r, 6, none⟩ (.slice none 0 0)).setCell ⟨r, 7, none⟩ (.slice none 0 0)).cell? ⟨r, 0, none⟩ = some (.slice none 0 0) := cellB hs1 0
    have e1 : ((((((((X.setCell ⟨r, 0, none⟩ (.slice none 0 0)).setCell ⟨r, 1, none⟩ (.slice none 0 0)).setCell ⟨r, 2, none⟩ (.int .i64 0)).setCell ⟨r, 3, none⟩ (.slice none 0 0)).setCell ⟨r, 4, none⟩ (.slice none 0 0)).setCell ⟨r, 5, none⟩ (.slice none 0 0)).setCell ⟨r, 6, none⟩ (.slice none 0 0)).setCell ⟨r, 7, none⟩ (.slice none 0 0)).cell? ⟨r, 1, none⟩ = some (.slice none 0 0) := cellB hs1 1
    have e2 : ((((((((X.setCell ⟨r, 0, none⟩ (.slice none 0 0)).setCell ⟨r, 1, none⟩ (.slice none 0 0)).setCell ⟨r, 2, none⟩ (.int .i64 0)).setCell ⟨r, 3, none⟩ (.slice none 0 0)).setCell ⟨r, 4, none⟩ (.slice none 0 0)).setCell ⟨r, 5, none⟩ (.slice none 0 0)).setCell ⟨r, 6, none⟩ (.slice none 0 0)).setCell ⟨r, 7, none⟩ (.slice none 0 0)).cell? ⟨r, 2, none⟩ = some (.int .i64 0) := cellB hs1 2
    have e3 : ((((((((X.setCell ⟨r, 0, none⟩ (.slice none 0 0)).setCell ⟨r, 1, none⟩ (.slice none 0 0)).setCell ⟨r, 2, none⟩ (.int .i64 0)).setCell ⟨r, 3, none⟩ (.slice none 0 0)).setCell ⟨r, 4, none⟩ (.slice none 0 0)).setCell ⟨r, 5, none⟩ (.slice none 0 0)).setCell ⟨r, 6, none⟩ (.slice none 0 0)).setCell ⟨r, 7, none⟩ (.slice none 0 0)).cell? ⟨r, 3, none⟩ = some (.slice none 0 0) := cellB hs1 3
    have e4 : ((((((((X.setCell ⟨r, 0, none⟩ (.slice none 0 0)).setCell ⟨r, 1, none⟩ (.slice none 0 0)).setCell ⟨r, 2, none⟩ (.int .i64 0)).setCell ⟨r, 3, none⟩ (.slice none 0 0)).setCell ⟨r, 4, none⟩ (.slice none 0 0)).setCell ⟨r, 5, none⟩ (.slice none 0 0)).setCell ⟨r, 6, none⟩ (.slice none 0 0)).setCell ⟨r, 7, none⟩ (.slice none 0 0)).cell? ⟨r, 4, none⟩ = some (.slice none 0 0) := cellB hs1 4
    have e5 : ((((((((X.setCell ⟨r, 0, none⟩ (.slice none 0 0)).setCell ⟨r, 1, none⟩ (.slice none 0 0)).setCell ⟨r, 2, none⟩ (.int .i64 0)).setCell ⟨r, 3, none⟩ (.slice none 0 0)).setCell ⟨r, 4, none⟩ (.slice none 0 0)).setCell ⟨r, 5, none⟩ (.slice none 0 0)).setCell ⟨r, 6, none⟩ (.slice none 0 0)).setCell ⟨r, 7, none⟩ (.slice none 0 0)).cell? ⟨r, 5, none⟩ = some (.slice none 0 0) := cellB hs1 5
    have e6 : ((((((((X.setCell ⟨r, 0, none⟩ (.slice none 0 0)).setCell ⟨r, 1, none⟩ (.slice none 0 0)).setCell ⟨r, 2, none⟩ (.int .i64 0)).setCell ⟨r, 3, none⟩ (.slice none 0 0)).setCell ⟨r, 4, none⟩ (.slice none 0 0)).setCell ⟨r, 5, none⟩ (.slice none 0 0)).setCell ⟨r, 6, none⟩ (.slice none 0 0)).setCell ⟨r, 7, none⟩ (.slice none 0 0)).cell? ⟨r, 6, none⟩ = some (.slice none 0 0) := cellB hs1 6
    have e7 : ((((((((X.setCell ⟨r, 0, none⟩ (.slice none 0 0)).setCell ⟨r, 1, none⟩ (.slice none 0 0)).setCell ⟨r, 2, none⟩ (.int .i64 0)).setCell ⟨r, 3, none⟩ (.slice none 0 0)).setCell ⟨r, 4, none⟩ (.slice none 0 0)).setCell ⟨r, 5, none⟩ (.slice none 0 0)).setCell ⟨r, 6, none⟩ (.slice none 0 0)).setCell ⟨r, 7, none⟩ (.slice none 0 0)).cell? ⟨r, 7, none⟩ = some (.slice none 0 0) := cellB hs1 7
    refine bodyPost_ret (v := .tuple #[.agg #[.slice none 0 0, .slice none 0 0, .int .i64 0, .slice none 0 0, .slice none 0 0, .slice none 0 0, .slice none 0 0, .slice none 0 0], .slice none 0 0, .int .i64 e']) (by simp [results, Try.results15, go_sem, e0, e1, e2, e3, e4, e5, e6, e7]) rfl ?_
    rw [HS2.out, HE2.out]
    exact ⟨HBV.out, fd0, .slice none 0 0, rfl, ⟨farm0_at _, fun h => absurd h (by simpa using hne)⟩, World.ownsRow_nil _ _ _ _⟩

end Go.Proofs.Ytmlojlbmfceogaa
