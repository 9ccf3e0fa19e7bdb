/-
  The contract of farm.New.
-/
import Derived.Test.YtmlojlbmfceogaaFmRun
namespace Go.Proofs.Ytmlojlbmfceogaa
open Go Go.RowKit
set_option linter.unusedVariables false

theorem made_flat1 {α : Type} (enc : α → List Value) (y : α) (z : Value) (hy : enc y = [z]) (n : Nat) : (madeCells #[z] (n * 1)).toList = (List.replicate n y).flatMap enc := by
  rw [Nat.mul_one, toList_madeCells_one]
  induction n with
  | zero => rfl
  | succ n ih => rw [List.replicate_succ, List.replicate_succ, List.flatMap_cons, ← ih, hy]; rfl
theorem made_flat2 {α : Type} (enc : α → List Value) (y : α) (z1 z2 : Value) (hy : enc y = [z1, z2]) (n : Nat) : (madeCells #[z1, z2] (n * 2)).toList = (List.replicate n y).flatMap enc := by
  have key : ∀ n, (List.replicate n y).flatMap enc = (List.range (n * 2)).map (fun i => if i % 2 = 0 then z1 else z2) := by
    intro n
    induction n with
    | zero => rfl
    | succ n ih =>
      rw [List.replicate_succ', List.flatMap_append, ih, show (n + 1) * 2 = n * 2 + 1 + 1 by omega, List.range_succ, List.range_succ, List.map_append, List.map_append, List.append_assoc]
      simp [hy]
  rw [key]
  apply List.ext_getElem
  · simp [madeCells]
  · intro i h1 h2
    rcases (by omega : i % 2 = 0 ∨ i % 2 = 1) with h | h
    · simp [madeCells, h]
    · simp [madeCells, h]

/-- the row of what workers do grows -/
theorem FmO.setWorkRow {B b : Nat} {W X : World} {f : M.Farm} {x : Fd} {o : Fo} (h : FmO B W b f x o) (ms : List Int) (a : Option Addr) (c : Nat) (hw : W.grownBy X (Value.slice x.k f.work.length x.kc).ownBlock)
    (hr : X.ownsRow B 3 1 (.slice a ms.length c) ms.length (ms.flatMap encI)) :
    FmO B (X.setCell ⟨b, 6, none⟩ (.slice a ms.length c)) b { f with work := ms } { x with k := a, kc := c } o := by
  have kr : ∀ (e : TypeId) (k n : Nat) (v : Value) (xs : List Value), W.ownsRow B e k v n xs → e ≠ 3 → X.ownsRow B e k v n xs := fun e k n v xs hx hne => hx.kept hw (own_apart hx h.rowW hne)
  have kp : ∀ e, POwn W B e → POwn X B e := fun e ⟨en, hP, hm⟩ => ⟨en, ⟨kr _ _ _ _ _ hP.rowF (by decide), kr _ _ _ _ _ hP.rowD (by decide), fun e he => kr _ _ _ _ _ (hP.bytes e he) (by decide), hP.small, hP.smallD, fun e he => kr _ _ _ _ _ (hP.rels e he) (by decide)⟩, hm⟩
  have hb := block_keptP h.rowW hw h.blk (by decide)
  have wr : Wr X (X.setCell ⟨b, 6, none⟩ (.slice a ms.length c)) 29 := ⟨b, _, hb, grown_set _ _ _ _⟩
  exact ⟨setB' hb _, h.bge, wr.row (kr _ _ _ _ _ h.rowP (by decide)) (by decide), h.mapP, wr.row (kr _ _ _ _ _ h.rowL (by decide)) (by decide), wr.row (kr _ _ _ _ _ h.rowD (by decide)) (by decide), wr.row (kr _ _ _ _ _ h.rowH (by decide)) (by decide), h.mapH,
    wr.row (kr _ _ _ _ _ h.rowG (by decide)) (by decide), wr.row hr (by decide), wr.row (kr _ _ _ _ _ h.rowN (by decide)) (by decide), h.mapN,
    fun e he => wr.pown (kp e (h.ownP e he)) (by decide) (by decide) (by decide) (by decide), fun e he => wr.pown (kp e (h.ownH e he)) (by decide) (by decide) (by decide) (by decide), fun e he => wr.pown (kp e.e (h.ownN e he)) (by decide) (by decide) (by decide) (by decide), h.apart⟩

/-- what the region that makes a farm's rows has of each operation -/
def nwR (B N : Nat) (parts : List M.Prt) (l : List M.Nd) (a : Option Addr) (c : Nat) (a' : Option Addr) (c' : Nat) (j : Nat) (W : World) (u : Value) : Prop :=
  match j with
  | 0 => u = .slice a parts.length c
  | 1 => ∃ es : List PEnt, es.map (·.p) = parts ∧ W.ownsRow B 44 2 u es.length (es.flatMap pentCells) ∧ ∀ e ∈ es, POwn W B e
  | 2 => u = (Value.slice a' l.length c')
  | 3 => W.ownsRow B 39 3 u l.length (l.flatMap encNd)
  | 4 => u = (Value.slice a' l.length c')
  | 5 => u = .int .i64 l.length
  | 6 => W.ownsRow B 4 1 u l.length ((List.replicate l.length false).flatMap encB)
  | 7 => u = (Value.slice a' l.length c')
  | 8 => u = .int .i64 l.length
  | 9 => W.ownsRow B 44 2 u l.length ((List.replicate l.length pent0).flatMap pentCells)
  | 10 => u = (Value.slice a' l.length c')
  | 11 => u = .int .i64 l.length
  | 12 => W.ownsRow B 78 2 u l.length ((List.replicate l.length M.grt0).flatMap encGrt)
  | 13 => ∃ (y : Fd) (o : Fo), u = .agg #[.slice y.p parts.length y.pc, .slice y.l l.length y.lc, .int .i64 0, .slice y.d l.length y.dc, .slice y.h l.length y.hc, .slice y.g l.length y.gc, .slice none 0 0, .slice none 0 0] ∧ FmR B W ⟨parts, l, 0, List.replicate l.length false, List.replicate l.length M.nil, List.replicate l.length M.grt0, [], []⟩ { y with k := none, kc := 0, n := none, nc := 0 } o
  | 14 => ∃ g, u = .pointer (some ⟨g, 0, none⟩) ∧ (B ≤ g ∧ N ≤ g) ∧ W.heap[g]? = some (.cells #[.slice none 0 0, .slice none 0 0, .int .i64 0, .slice none 0 0, .slice none 0 0, .slice none 0 0, .slice none 0 0, .slice none 0 0] 29 (0, 0))
  | _ => False

theorem nwR_later {B N : Nat} {parts : List M.Prt} {l : List M.Nd} {a : Option Addr} {c : Nat} {a' : Option Addr} {c' : Nat} {W X : World} (hb : Below W.heap.size W X) : ∀ j u, nwR B N parts l a c a' c' j W u → nwR B N parts l a c a' c' j X u := by
  intro j u h
  have hg := grown_of_below hb Option.none
  match j, h with
  | 0, h => exact h
  | 2, h => exact h
  | 4, h => exact h
  | 5, h => exact h
  | 7, h => exact h
  | 8, h => exact h
  | 10, h => exact h
  | 11, h => exact h
  | 1, h => obtain ⟨es, h1, h2, h3⟩ := h; exact ⟨es, h1, h2.kept hg own_self, fun e he => (h3 e he).later hb⟩
  | 3, h => exact World.ownsRow.kept h hg own_self
  | 6, h => exact World.ownsRow.kept h hg own_self
  | 9, h => exact World.ownsRow.kept h hg own_self
  | 12, h => exact World.ownsRow.kept h hg own_self
  | 13, h => obtain ⟨y, o, h1, h2⟩ := h; exact ⟨y, o, h1, h2.later hb⟩
  | 14, h => obtain ⟨g, h1, h2, h3⟩ := h; exact ⟨g, h1, h2, (hb.block _ (Array.getElem?_eq_some_iff.1 h3).1).trans h3⟩

def nwZ (j k : Nat) (u x : Value) : Prop := (j = 1 ∧ k = 9 ∨ j = 9 ∧ k = 1) → u.ownBlock = none ∨ u.ownBlock ≠ x.ownBlock

set_option maxHeartbeats 16000000 in
set_option maxRecDepth 100000 in
theorem new_any (parts : List M.Prt) (l : List M.Nd) (wks : Int) (a a' : Option Addr) (c c' : Nat) (w : World) (hp : PartsAt w (.slice a parts.length c) parts) (hn : NodesAt w (.slice a' l.length c') l) :
    Calls Try.prog 14 #[.slice a parts.length c, .slice a' l.length c', .int .i64 wks] w fun e w' => Below w.heap.size w w' ∧ ∃ y, e = .returned (.tuple #[.agg #[.slice y.p (M.new parts l wks).parts.length y.pc, .slice y.l (M.new parts l wks).plan.length y.lc, .int .i64 (M.new parts l wks).now, .slice y.d (M.new parts l wks).done.length y.dc, .slice y.h (M.new parts l wks).got.length y.hc, .slice y.g (M.new parts l wks).grants.length y.gc, .slice y.k (M.new parts l wks).work.length y.kc, .slice y.n (M.new parts l wks).net.length y.nc], .int .i64 (M.newE parts l wks)]) ∧ FarmAt w' (M.new parts l wks) y ∧ (M.newE parts l wks = 0 → ∃ o, FmR w.heap.size w' (M.new parts l wks) y o) := by
  obtain ⟨iL, hiL, hL0, hL1, hL2⟩ := info_parts (P := Try.prog) (e := 39) (z := .agg #[.int .i64 0, .int .i64 0, .int .i64 0]) (size := 3) (bytes := 24) (by kernel_rfl)
  obtain ⟨iD, hiD, hD0, hD1, hD2⟩ := info_parts (P := Try.prog) (e := 4) (z := .bool false) (size := 1) (bytes := 1) (by kernel_rfl)
  obtain ⟨iG, hiG, hG0, hG1, hG2⟩ := info_parts (P := Try.prog) (e := 78) (z := .agg #[.int .i64 0, .int .i64 0]) (size := 2) (bytes := 16) (by kernel_rfl)
  obtain ⟨iP, hiP, hP0, hP1, hP2⟩ := info_parts (P := Try.prog) (e := 44) (z := .agg #[.slice none 0 0, .slice none 0 0]) (size := 2) (bytes := 48) (by kernel_rfl)
  obtain ⟨iK, hiK, hK0, hK1, hK2⟩ := info_parts (P := Try.prog) (e := 3) (z := .int .i64 0) (size := 1) (bytes := 8) (by kernel_rfl)
  have hpl : parts.length ≤ maxLen := by obtain ⟨_, h, _⟩ := hp; obtain ⟨_, _, _, h⟩ := h.form; exact h
  unfold maxLen at hpl
  have hA : Below w.heap.size w (w.alloc (.cells #[.slice none 0 0, .slice none 0 0, .int .i64 0, .slice none 0 0, .slice none 0 0, .slice none 0 0, .slice none 0 0, .slice none 0 0] 29)) := (Below.refl _ _).alloc (Nat.le_refl _) _
  have h2 := heap_alloc_new w (.cells #[.slice none 0 0, .slice none 0 0, .int .i64 0, .slice none 0 0, .slice none 0 0, .slice none 0 0, .slice none 0 0, .slice none 0 0] 29)
  have HA : Hid (Below w.heap.size w (w.alloc (.cells #[.slice none 0 0, .slice none 0 0, .int .i64 0, .slice none 0 0, .slice none 0 0, .slice none 0 0, .slice none 0 0, .slice none 0 0] 29))) := hA
  have HF : Hid (∀ W, Below w.heap.size w W → PartsAt W (.slice a parts.length c) parts ∧ NodesAt W (.slice a' l.length c') l) := fun W hW => ⟨hp.later hW, hn.later hW⟩
  have HE : Hid (M.newE parts l wks = M.orE (M.checkPlan l parts.length) (bif M.inR wks 1 4 then M.checkEach parts else 3)) := rfl
  have HS : Hid (M.new parts l wks = if M.newE parts l wks = 0 then M.newF parts l wks else M.farm0) := rfl
  generalize M.new parts l wks = R at *
  generalize M.newE parts l wks = E at *
  clear hp hn hA
  go_enter Try.func14, Try.ntmps14
  go_upto_region 1 with fail
  obtain ⟨r, hr⟩ : ∃ r, r = w.heap.size := ⟨_, rfl⟩
  have Hr : Hid (w.heap.size ≤ r) := by rw [Hid, hr]; exact Nat.le_refl _
  rw [← hr] at h2 ⊢
  clear hr
  generalize w.alloc (.cells #[.slice none 0 0, .slice none 0 0, .int .i64 0, .slice none 0 0, .slice none 0 0, .slice none 0 0, .slice none 0 0, .slice none 0 0] 29) = Z at *
  have Hh2 : Hid (Z.heap[r]? = some (.cells #[.slice none 0 0, .slice none 0 0, .int .i64 0, .slice none 0 0, .slice none 0 0, .slice none 0 0, .slice none 0 0, .slice none 0 0] 29 (0, 0))) := h2
  clear h2
  have KP : Hid (Calls Try.prog 25 #[.slice a' l.length c', .int .i64 parts.length] Z fun e w' => e = .returned (.int .i64 (M.checkPlan l parts.length)) ∧ Below Z.heap.size Z w') := planCheck_any l parts.length _ _ Z (HF.out Z HA.out).2
  have KW : Hid (∀ W, Calls Try.prog 26 #[.int .i64 wks, .int .i64 1, .int .i64 4] W fun e w' => e = .returned (.bool (M.inR wks 1 4)) ∧ W = w') := fun W => (fwithin_any wks 1 4 W).mono fun e w' ⟨h1, h2⟩ => ⟨h1, h2.symm⟩
  have KE : Hid (∀ W, Below w.heap.size w W → Calls Try.prog 27 #[.slice a parts.length c] W fun e w' => e = .returned (.int .i64 (M.checkEach parts)) ∧ Below W.heap.size W w') := fun W hW => checkParts_any parts _ _ W (HF.out W hW).1
  by_cases hck : M.checkPlan l parts.length = 0
  · have HE1 : Hid (E = bif M.inR wks 1 4 then M.checkEach parts else 3) := by rw [Hid, HE.out, hck]; rfl
    obtain ⟨hfew, hl23, hl0, _⟩ := check_ok hck
    have hfw := (M.fewParts_iff _).1 hfew
    rw [hck] at KP
    clear HE hck hfew
    go_upto_region 4 with (go_at_call 25; refine KP.out.mono ?_; rintro e X ⟨rfl, hbX⟩)
    have HX : Hid (Below w.heap.size w X) := HA.out.trans (hbX.mono HA.out.size)
    have x2 := (hbX.block _ (Array.getElem?_eq_some_iff.1 Hh2.out).1).trans Hh2.out
    clear KP hbX Hh2
    cases hin : M.inR wks 1 4
    · rw [hin] at KW
      have HE2 : Hid (E = 3) := by rw [Hid, HE1.out, hin]; rfl
      have HS2 : Hid (R = M.farm0) := by rw [Hid, HS.out, HE2.out]; rfl
      obtain ⟨hs1, hs2⟩ := store8 X r (.slice none 0 0) (.slice none 0 0) (.int .i64 0) (.slice none 0 0) (.slice none 0 0) (.slice none 0 0) (.slice none 0 0) (.slice none 0 0) (.slice none 0 0) (.slice none 0 0) (.int .i64 0) (.slice none 0 0) (.slice none 0 0) (.slice none 0 0) (.slice none 0 0) (.slice none 0 0) 29 x2
      have HBV : Hid (Below w.heap.size w ((((((((X.setCell ⟨r, 0, none⟩ (.slice none 0 0)).setCell ⟨r, 1, none⟩ (.slice none 0 0)).setCell ⟨r, 2, none⟩ (.int .i64 0)).setCell ⟨r, 3, none⟩ (.slice none 0 0)).setCell ⟨r, 4, none⟩ (.slice none 0 0)).setCell ⟨r, 5, none⟩ (.slice none 0 0)).setCell ⟨r, 6, none⟩ (.slice none 0 0)).setCell ⟨r, 7, none⟩ (.slice none 0 0))) := HX.out.grown hs2 HX.out.size (fun k hk => by cases hk; exact Hr.out)
      have r0 : X.cell? ⟨r, 0, none⟩ = some (.slice none 0 0) := cellB x2 0
      have r1 : X.cell? ⟨r, 1, none⟩ = some (.slice none 0 0) := cellB x2 1
      have r2 : X.cell? ⟨r, 2, none⟩ = some (.int .i64 0) := cellB x2 2
      have r3 : X.cell? ⟨r, 3, none⟩ = some (.slice none 0 0) := cellB x2 3
      have r4 : X.cell? ⟨r, 4, none⟩ = some (.slice none 0 0) := cellB x2 4
      have r5 : X.cell? ⟨r, 5, none⟩ = some (.slice none 0 0) := cellB x2 5
      have r6 : X.cell? ⟨r, 6, none⟩ = some (.slice none 0 0) := cellB x2 6
      have r7 : X.cell? ⟨r, 7, none⟩ = some (.slice none 0 0) := cellB x2 7
      have rf : ∀ i, X.frozen? ⟨r, i, none⟩ = false := frozenB x2
      have lr : r < X.heap.size := (Array.getElem?_eq_some_iff.1 x2).1
      clear HE1 HS x2 hs2 hin
      go_wp2_with (go_at_call 26; refine (KW.out _).mono ?_; rintro e w1 ⟨rfl, rfl⟩)
      have e0 : ((((((((X.setCell ⟨r, 0, none⟩ (.slice none 0 0)).setCell ⟨r, 1, none⟩ (.slice none 0 0)).setCell ⟨r, 2, none⟩ (.int .i64 0)).setCell ⟨r, 3, none⟩ (.slice none 0 0)).setCell ⟨r, 4, none⟩ (.slice none 0 0)).setCell ⟨r, 5, none⟩ (.slice none 0 0)).setCell ⟨r, 6, none⟩ (.slice none 0 0)).setCell ⟨r, 7, none⟩ (.slice none 0 0)).cell? ⟨r, 0, none⟩ = some (.slice none 0 0) := cellB hs1 0
      have e1 : ((((((((X.setCell ⟨r, 0, none⟩ (.slice none 0 0)).setCell ⟨r, 1, none⟩ (.slice none 0 0)).setCell ⟨r, 2, none⟩ (.int .i64 0)).setCell ⟨r, 3, none⟩ (.slice none 0 0)).setCell ⟨r, 4, none⟩ (.slice none 0 0)).setCell ⟨r, 5, none⟩ (.slice none 0 0)).setCell ⟨r, 6, none⟩ (.slice none 0 0)).setCell ⟨r, 7, none⟩ (.slice none 0 0)).cell? ⟨r, 1, none⟩ = some (.slice none 0 0) := cellB hs1 1
      have e2 : ((((((((X.setCell ⟨r, 0, none⟩ (.slice none 0 0)).setCell ⟨r, 1, none⟩ (.slice none 0 0)).setCell ⟨r, 2, none⟩ (.int .i64 0)).setCell ⟨r, 3, none⟩ (.slice none 0 0)).setCell ⟨r, 4, none⟩ (.slice none 0 0)).setCell ⟨r, 5, none⟩ (.slice none 0 0)).setCell ⟨r, 6, none⟩ (.slice none 0 0)).setCell ⟨r, 7, none⟩ (.slice none 0 0)).cell? ⟨r, 2, none⟩ = some (.int .i64 0) := cellB hs1 2
      have e3 : ((((((((X.setCell ⟨r, 0, none⟩ (.slice none 0 0)).setCell ⟨r, 1, none⟩ (.slice none 0 0)).setCell ⟨r, 2, none⟩ (.int .i64 0)).setCell ⟨r, 3, none⟩ (.slice none 0 0)).setCell ⟨r, 4, none⟩ (.slice none 0 0)).setCell ⟨r, 5, none⟩ (.slice none 0 0)).setCell ⟨r, 6, none⟩ (.slice none 0 0)).setCell ⟨r, 7, none⟩ (.slice none 0 0)).cell? ⟨r, 3, none⟩ = some (.slice none 0 0) := cellB hs1 3
      have e4 : ((((((((X.setCell ⟨r, 0, none⟩ (.slice none 0 0)).setCell ⟨r, 1, none⟩ (.slice none 0 0)).setCell ⟨r, 2, none⟩ (.int .i64 0)).setCell ⟨r, 3, none⟩ (.slice none 0 0)).setCell ⟨r, 4, none⟩ (.slice none 0 0)).setCell ⟨r, 5, none⟩ (.slice none 0 0)).setCell ⟨r, 6, none⟩ (.slice none 0 0)).setCell ⟨r, 7, none⟩ (.slice none 0 0)).cell? ⟨r, 4, none⟩ = some (.slice none 0 0) := cellB hs1 4
      have e5 : ((((((((X.setCell ⟨r, 0, none⟩ (.slice none 0 0)).setCell ⟨r, 1, none⟩ (.slice none 0 0)).setCell ⟨r, 2, none⟩ (.int .i64 0)).setCell ⟨r, 3, none⟩ (.slice none 0 0)).setCell ⟨r, 4, none⟩ (.slice none 0 0)).setCell ⟨r, 5, none⟩ (.slice none 0 0)).setCell ⟨r, 6, none⟩ (.slice none 0 0)).setCell ⟨r, 7, none⟩ (.slice none 0 0)).cell? ⟨r, 5, none⟩ = some (.slice none 0 0) := cellB hs1 5
      have e6 : ((((((((X.setCell ⟨r, 0, none⟩ (.slice none 0 0)).setCell ⟨r, 1, none⟩ (.slice none 0 0)).setCell ⟨r, 2, none⟩ (.int .i64 0)).setCell ⟨r, 3, none⟩ (.slice none 0 0)).setCell ⟨r, 4, none⟩ (.slice none 0 0)).setCell ⟨r, 5, none⟩ (.slice none 0 0)).setCell ⟨r, 6, none⟩ (.slice none 0 0)).setCell ⟨r, 7, none⟩ (.slice none 0 0)).cell? ⟨r, 6, none⟩ = some (.slice none 0 0) := cellB hs1 6
      have e7 : ((((((((X.setCell ⟨r, 0, none⟩ (.slice none 0 0)).setCell ⟨r, 1, none⟩ (.slice none 0 0)).setCell ⟨r, 2, none⟩ (.int .i64 0)).setCell ⟨r, 3, none⟩ (.slice none 0 0)).setCell ⟨r, 4, none⟩ (.slice none 0 0)).setCell ⟨r, 5, none⟩ (.slice none 0 0)).setCell ⟨r, 6, none⟩ (.slice none 0 0)).setCell ⟨r, 7, none⟩ (.slice none 0 0)).cell? ⟨r, 7, none⟩ = some (.slice none 0 0) := cellB hs1 7
      refine bodyPost_ret (v := .tuple #[.agg #[.slice none 0 0, .slice none 0 0, .int .i64 0, .slice none 0 0, .slice none 0 0, .slice none 0 0, .slice none 0 0, .slice none 0 0], .int .i64 3]) (by simp [results, Try.results14, go_sem, e0, e1, e2, e3, e4, e5, e6, e7]) rfl ?_
      rw [HS2.out, HE2.out]
      exact ⟨HBV.out, fd0, rfl, farm0_at _, fun h => absurd h (by decide)⟩
    · rw [hin] at KW
      have hin' := (M.inR_iff _ _ _).1 hin
      have HE2 : Hid (E = M.checkEach parts) := by rw [Hid, HE1.out, hin]; rfl
      have KE1 : Hid (Calls Try.prog 27 #[.slice a parts.length c] X fun e w' => e = .returned (.int .i64 (M.checkEach parts)) ∧ Below X.heap.size X w') := KE.out X HX.out
      by_cases hce : M.checkEach parts = 0
      · have HE3 : Hid (E = 0) := by rw [Hid, HE2.out, hce]
        have HS2 : Hid (R = M.newF parts l wks) := by rw [Hid, HS.out, HE3.out]; rfl
        have HPa : M.checkEach parts = 0 := hce
        rw [hce] at KE1
        have Hx2 : Hid (X.heap[r]? = some (.cells #[.slice none 0 0, .slice none 0 0, .int .i64 0, .slice none 0 0, .slice none 0 0, .slice none 0 0, .slice none 0 0, .slice none 0 0] 29 (0, 0))) := x2
        have HPa' : Hid (M.checkEach parts = 0) := HPa
        clear HE1 HE2 HS hce KE x2 hin HPa
        go_upto_region 9 with (first | (go_at_call 26; refine (KW.out _).mono ?_; rintro e w1 ⟨rfl, rfl⟩) | (go_at_call 27; refine KE1.out.mono ?_; rintro e Y ⟨rfl, hbY⟩))
        have HY : Hid (Below w.heap.size w Y) := HX.out.trans (hbY.mono HX.out.size)
        have y2 := (hbY.block _ (Array.getElem?_eq_some_iff.1 Hx2.out).1).trans Hx2.out
        have HPa := HPa'.out
        obtain ⟨B, hB⟩ : ∃ B, B = w.heap.size := ⟨_, rfl⟩
        have hBY : B ≤ Y.heap.size := by rw [hB]; exact HY.out.size
        have hYA : ∀ W, Below Y.heap.size Y W → (PartsAt W (.slice a parts.length c) parts ∧ NodesAt W (.slice a' l.length c') l) ∧ B ≤ W.heap.size := fun W hW => ⟨HF.out W (HY.out.trans (hW.mono HY.out.size)), Nat.le_trans hBY hW.size⟩
        obtain ⟨N, hN⟩ : ∃ N, N = Y.heap.size := ⟨_, rfl⟩
        refine wp_region_rel 15 (fun _ W => Below Y.heap.size Y W) (fun v => ⟨#[(Value.slice a parts.length c), (Value.slice a' l.length c'), .int .i64 wks, undef, undef, undef, .pointer (some ⟨r, 0, none⟩), .int .i64 0, .int .i64 0, .int .i64 0, v 14, (Value.slice a' l.length c'), (Value.slice a parts.length c), .int .i64 parts.length, .int .i64 0, .int .i64 0, .bool false, undef, undef, .int .i64 wks, .bool true, .bool false, undef, (Value.slice a parts.length c), .int .i64 0, .int .i64 0, .bool false, undef, undef, v 0, v 1, v 2, v 3, v 4, v 5, v 6, v 7, v 8, v 9, v 10, v 11, v 12, v 13, undef, undef, undef, undef, undef, undef, undef, undef, undef, undef], []⟩) (nwR B N parts l a c a' c') nwZ (by kernel_rfl) (by kernel_rfl) (Below.refl _ _).drew ⟨fun _ => undef, rfl⟩ ?_ ?_
        · intro j op hj ho
          rcases (by omega : j = 0 ∨ j = 1 ∨ j = 2 ∨ j = 3 ∨ j = 4 ∨ j = 5 ∨ j = 6 ∨ j = 7 ∨ j = 8 ∨ j = 9 ∨ j = 10 ∨ j = 11 ∨ j = 12 ∨ j = 13 ∨ j = 14) with rfl | rfl | rfl | rfl | rfl | rfl | rfl | rfl | rfl | rfl | rfl | rfl | rfl | rfl | rfl
          all_goals cases ho
          all_goals refine relStep_of rfl rfl ?_
          all_goals rintro sd v W hC hin hsd hdep hdz
          all_goals obtain ⟨⟨hPa, hNo⟩, hBW⟩ := hYA W hC
          · exact wp_val (.slice a parts.length c) (by simp [execOp, Act.eval, go_sem]) ⟨_, rfl, hC, fun _ _ _ _ h => h, rfl, fun k hk _ hz => ⟨fun h => absurd h (by omega), fun h => absurd h (by omega)⟩⟩
          · have hv : v 0 = .slice a parts.length c := hdep ⟨0, .data⟩ (by simp) rfl
            refine wp_enter 38 #[.slice a parts.length c] (by simp [Act.eval, go_sem, hv]) ?_
            refine (copyParts_any parts _ _ W hPa (by omega) HPa).mono ?_
            rintro e W2 ⟨u, rfl, hE⟩
            obtain ⟨es, hm, hr, hp⟩ := hE.ex
            refine ⟨u, rfl, u, rfl, hC.trans (hE.below.mono hC.size), (fun k x _ _ => nwR_later hE.below k x), ⟨es, hm, row_base hr hBW, fun e he => (hp e he).base hBW⟩, fun k hk _ hz => ?_⟩
            have hap : k = 9 → (u.ownBlock = none ∨ u.ownBlock ≠ (v k).ownBlock) ∧ ((v k).ownBlock = none ∨ (v k).ownBlock ≠ u.ownBlock) := by
              intro hke
              rw [hke] at hz ⊢
              have hr2 : W.ownsRow B 44 2 (v 9) l.length ((List.replicate l.length pent0).flatMap pentCells) := hz
              cases hu : u.ownBlock with
              | none => exact ⟨.inl rfl, by cases (v 9).ownBlock <;> simp⟩
              | some g =>
                cases hz2 : (v 9).ownBlock with
                | none => exact ⟨.inr (by simp), .inl rfl⟩
                | some g2 =>
                  have := (hr.lt g hu).1
                  have := (hr2.lt g2 hz2).2
                  exact ⟨.inr (by simp; omega), .inr (by simp; omega)⟩
            exact ⟨fun h => (hap (by omega)).1, fun h => (hap (by omega)).2⟩
          · exact wp_val ((Value.slice a' l.length c')) (by simp [execOp, Act.eval, go_sem]) ⟨_, rfl, hC, fun _ _ _ _ h => h, rfl, fun k hk _ hz => ⟨fun h => absurd h (by omega), fun h => absurd h (by omega)⟩⟩
          · have hv : v 2 = Value.slice a' l.length c' := hdep ⟨2, .data⟩ (by simp) rfl
            refine wp_append_src W _ _ 23 rfl B 39 iL (.agg #[.int .i64 0, .int .i64 0, .int .i64 0]) 3 24 Try.underlying23 hiL hL0 hL1 hL2 rfl (by decide) (.slice none 0 0) 0 [] rfl (World.ownsRow_nil _ _ _ _) (.slice a' l.length c') l.length (l.flatMap encNd) hv hNo.src (flat_len' 3 encNd (fun _ => rfl) _) (fun u hu => by obtain ⟨q, _, hu⟩ := List.mem_flatMap.1 hu; simp [encNd] at hu; rcases hu with rfl | rfl | rfl <;> rfl) (by unfold maxLen; omega) (by omega) hBW ?_
            intro u W2 hr hg
            have hb2 : Below W.heap.size W W2 := (Below.refl _ _).grown hg (Nat.le_refl _) (fun k hk => by cases hk)
            rw [Nat.zero_add, List.nil_append] at hr
            exact ⟨u, rfl, hC.trans (hb2.mono hC.size), (fun k x _ _ => nwR_later hb2 k x), hr, fun k hk _ hz => ⟨fun h => absurd h (by omega), fun h => absurd h (by omega)⟩⟩
          · exact wp_val ((Value.slice a' l.length c')) (by simp [execOp, Act.eval, go_sem]) ⟨_, rfl, hC, fun _ _ _ _ h => h, rfl, fun k hk _ hz => ⟨fun h => absurd h (by omega), fun h => absurd h (by omega)⟩⟩
          · have hv : v 4 = (Value.slice a' l.length c') := hdep ⟨4, .data⟩ (by simp) rfl
            exact wp_val (.int .i64 l.length) (by simp [Act.eval, go_sem, hv]) ⟨_, rfl, hC, fun _ _ _ _ h => h, rfl, fun k hk _ hz => ⟨fun h => absurd h (by omega), fun h => absurd h (by omega)⟩⟩
          · have hv : v 5 = .int .i64 l.length := hdep ⟨5, .data⟩ (by simp) rfl
            obtain ⟨W2, hmk, hrow, hgr⟩ := run_makeSlice_full W B 24 4 iD (.bool false) 1 Try.underlying24 hiD hD0 hD1 .i64 .i64 l.length (by omega) (by rw [hD2]; omega) (by unfold maxLen; omega) hBW
            have hb2 : Below W.heap.size W W2 := (Below.refl _ _).grown hgr (Nat.le_refl _) (fun k hk => by cases hk)
            rw [show (Value.cells (.bool false)) = #[.bool false] from rfl, made_flat1 encB false (.bool false) rfl l.length] at hrow
            exact wp_valW (.slice (some ⟨W.heap.size, 0, none⟩) l.length l.length) W2 (by simp [execOp, Act.eval, hv, hmk]) ⟨_, rfl, hC.trans (hb2.mono hC.size), (fun k x _ _ => nwR_later hb2 k x), hrow, fun k hk _ hz => ⟨fun h => absurd h (by omega), fun h => absurd h (by omega)⟩⟩
          · exact wp_val ((Value.slice a' l.length c')) (by simp [execOp, Act.eval, go_sem]) ⟨_, rfl, hC, fun _ _ _ _ h => h, rfl, fun k hk _ hz => ⟨fun h => absurd h (by omega), fun h => absurd h (by omega)⟩⟩
          · have hv : v 7 = (Value.slice a' l.length c') := hdep ⟨7, .data⟩ (by simp) rfl
            exact wp_val (.int .i64 l.length) (by simp [Act.eval, go_sem, hv]) ⟨_, rfl, hC, fun _ _ _ _ h => h, rfl, fun k hk _ hz => ⟨fun h => absurd h (by omega), fun h => absurd h (by omega)⟩⟩
          · have hv : v 8 = .int .i64 l.length := hdep ⟨8, .data⟩ (by simp) rfl
            obtain ⟨W2, hmk, hrow, hgr⟩ := run_makeSlice_full W B 22 44 iP (.agg #[.slice none 0 0, .slice none 0 0]) 2 Try.underlying22 hiP hP0 hP1 .i64 .i64 l.length (by omega) (by rw [hP2]; omega) (by unfold maxLen; omega) hBW
            have hb2 : Below W.heap.size W W2 := (Below.refl _ _).grown hgr (Nat.le_refl _) (fun k hk => by cases hk)
            rw [show (Value.cells (.agg #[.slice none 0 0, .slice none 0 0])) = #[.slice none 0 0, .slice none 0 0] from rfl, made_flat2 pentCells pent0 (.slice none 0 0) (.slice none 0 0) rfl l.length] at hrow
            refine wp_valW (.slice (some ⟨W.heap.size, 0, none⟩) l.length l.length) W2 (by simp [execOp, Act.eval, hv, hmk]) ⟨_, rfl, hC.trans (hb2.mono hC.size), (fun k x _ _ => nwR_later hb2 k x), hrow, fun k hk _ hz => ?_⟩
            have hap : k = 1 → ((Value.slice (some ⟨W.heap.size, 0, none⟩) l.length l.length).ownBlock = none ∨ (Value.slice (some ⟨W.heap.size, 0, none⟩) l.length l.length).ownBlock ≠ (v k).ownBlock) ∧ ((v k).ownBlock = none ∨ (v k).ownBlock ≠ (Value.slice (some ⟨W.heap.size, 0, none⟩) l.length l.length).ownBlock) := by
              intro hke
              rw [hke] at hz ⊢
              obtain ⟨es2, _, hr2, _⟩ := hz
              cases hz2 : (v 1).ownBlock with
              | none => exact ⟨.inr (by simp [Value.ownBlock]), .inl rfl⟩
              | some g2 =>
                have := (hr2.lt g2 hz2).2
                exact ⟨.inr (by simp [Value.ownBlock]; omega), .inr (by simp [Value.ownBlock]; omega)⟩
            exact ⟨fun h => (hap (by omega)).1, fun h => (hap (by omega)).2⟩
          · exact wp_val ((Value.slice a' l.length c')) (by simp [execOp, Act.eval, go_sem]) ⟨_, rfl, hC, fun _ _ _ _ h => h, rfl, fun k hk _ hz => ⟨fun h => absurd h (by omega), fun h => absurd h (by omega)⟩⟩
          · have hv : v 10 = (Value.slice a' l.length c') := hdep ⟨10, .data⟩ (by simp) rfl
            exact wp_val (.int .i64 l.length) (by simp [Act.eval, go_sem, hv]) ⟨_, rfl, hC, fun _ _ _ _ h => h, rfl, fun k hk _ hz => ⟨fun h => absurd h (by omega), fun h => absurd h (by omega)⟩⟩
          · have hv : v 11 = .int .i64 l.length := hdep ⟨11, .data⟩ (by simp) rfl
            obtain ⟨W2, hmk, hrow, hgr⟩ := run_makeSlice_full W B 25 78 iG (.agg #[.int .i64 0, .int .i64 0]) 2 Try.underlying25 hiG hG0 hG1 .i64 .i64 l.length (by omega) (by rw [hG2]; omega) (by unfold maxLen; omega) hBW
            have hb2 : Below W.heap.size W W2 := (Below.refl _ _).grown hgr (Nat.le_refl _) (fun k hk => by cases hk)
            rw [show (Value.cells (.agg #[.int .i64 0, .int .i64 0])) = #[.int .i64 0, .int .i64 0] from rfl, made_flat2 encGrt M.grt0 (.int .i64 0) (.int .i64 0) rfl l.length] at hrow
            exact wp_valW (.slice (some ⟨W.heap.size, 0, none⟩) l.length l.length) W2 (by simp [execOp, Act.eval, hv, hmk]) ⟨_, rfl, hC.trans (hb2.mono hC.size), (fun k x _ _ => nwR_later hb2 k x), hrow, fun k hk _ hz => ⟨fun h => absurd h (by omega), fun h => absurd h (by omega)⟩⟩
          · obtain ⟨eP, mP, rP, oP⟩ : nwR B N parts l a c a' c' 1 W (v 1) := hdep ⟨1, .data⟩ (by simp) rfl
            have r3 : W.ownsRow B 39 3 (v 3) l.length (l.flatMap encNd) := hdep ⟨3, .data⟩ (by simp) rfl
            have r6 : W.ownsRow B 4 1 (v 6) l.length ((List.replicate l.length false).flatMap encB) := hdep ⟨6, .data⟩ (by simp) rfl
            have r9 : W.ownsRow B 44 2 (v 9) l.length ((List.replicate l.length pent0).flatMap pentCells) := hdep ⟨9, .data⟩ (by simp) rfl
            have r12 : W.ownsRow B 78 2 (v 12) l.length ((List.replicate l.length M.grt0).flatMap encGrt) := hdep ⟨12, .data⟩ (by simp) rfl
            have hz : nwZ 1 9 (v 1) (v 9) := hdz ⟨1, .data⟩ (by simp) ⟨9, .data⟩ (by simp) rfl rfl (by decide)
            have lP := map_len mP
            rw [← lP] at rP
            obtain ⟨yp, ypc, e1⟩ := own_len rP
            obtain ⟨yl, ylc, e3⟩ := own_len r3
            obtain ⟨yd, ydc, e6⟩ := own_len r6
            obtain ⟨yh, yhc, e9⟩ := own_len r9
            obtain ⟨yg, ygc, e12⟩ := own_len r12
            have hz' := hz (.inl ⟨rfl, rfl⟩)
            rw [e1, e9] at hz'
            rw [e1] at rP
            rw [e3] at r3
            rw [e6] at r6
            rw [e9] at r9
            rw [e12] at r12
            refine wp_val (.agg #[.slice yp parts.length ypc, .slice yl l.length ylc, .int .i64 0, .slice yd l.length ydc, .slice yh l.length yhc, .slice yg l.length ygc, .slice none 0 0, .slice none 0 0]) (by simp [execOp, Act.eval, go_sem, e1, e3, e6, e9, e12]) ⟨_, rfl, hC, fun _ _ _ _ h => h, ?_, fun k hk _ hz => ⟨fun h => absurd h (by omega), fun h => absurd h (by omega)⟩⟩
            refine ⟨⟨yp, ypc, yl, ylc, yd, ydc, yh, yhc, yg, ygc, none, 0, none, 0⟩, ⟨eP, List.replicate l.length pent0, []⟩, rfl, ⟨rP, mP, r3, ?_, ?_, ?_, ?_, World.ownsRow_nil _ _ _ _, World.ownsRow_nil _ _ _ _, rfl, oP, ?_, (fun e he => by cases he), ?_⟩⟩
            · simpa using r6
            · simpa using r9
            · simp [pent0]
            · simpa using r12
            · intro e he; rw [List.eq_of_mem_replicate he]; exact ⟨[], PR.nil _ _, rfl⟩
            · simpa using hz'
          · have hA := (Below.refl W.heap.size W).alloc (Nat.le_refl _) (.cells #[.slice none 0 0, .slice none 0 0, .int .i64 0, .slice none 0 0, .slice none 0 0, .slice none 0 0, .slice none 0 0, .slice none 0 0] 29)
            exact wp_valW (.pointer (some ⟨W.heap.size, 0, none⟩)) (W.alloc (.cells #[.slice none 0 0, .slice none 0 0, .int .i64 0, .slice none 0 0, .slice none 0 0, .slice none 0 0, .slice none 0 0, .slice none 0 0] 29)) (by simp [execOp, go_sem]) ⟨_, rfl, hC.trans (hA.mono hC.size), (fun k x _ _ => nwR_later hA k x), ⟨W.heap.size, rfl, ⟨hBW, by rw [hN]; exact hC.size⟩, heap_alloc_new W _⟩, fun k hk _ hz => ⟨fun h => absurd h (by omega), fun h => absurd h (by omega)⟩⟩
        · rintro sd v W hC hR hZ
          obtain ⟨_, hBW⟩ := hYA W hC
          obtain ⟨y, o, h13, hrows⟩ : nwR B N parts l a c a' c' 13 W (v 13) := hR 13 (by decide)
          obtain ⟨g, h14, ⟨hBg, hNg⟩, hg⟩ : nwR B N parts l a c a' c' 14 W (v 14) := hR 14 (by decide)
          have hresW := (hC.block _ (Array.getElem?_eq_some_iff.1 y2).1).trans y2
          have hrY := (Array.getElem?_eq_some_iff.1 y2).1
          obtain ⟨hs1, hs2⟩ := store8 W g (.slice none 0 0) (.slice none 0 0) (.int .i64 0) (.slice none 0 0) (.slice none 0 0) (.slice none 0 0) (.slice none 0 0) (.slice none 0 0) (.slice y.p parts.length y.pc) (.slice y.l l.length y.lc) (.int .i64 0) (.slice y.d l.length y.dc) (.slice y.h l.length y.hc) (.slice y.g l.length y.gc) (.slice none 0 0) (.slice none 0 0) 29 hg
          have hO : FmO B ((((((((W.setCell ⟨g, 0, none⟩ (.slice y.p parts.length y.pc)).setCell ⟨g, 1, none⟩ (.slice y.l l.length y.lc)).setCell ⟨g, 2, none⟩ (.int .i64 0)).setCell ⟨g, 3, none⟩ (.slice y.d l.length y.dc)).setCell ⟨g, 4, none⟩ (.slice y.h l.length y.hc)).setCell ⟨g, 5, none⟩ (.slice y.g l.length y.gc)).setCell ⟨g, 6, none⟩ (.slice none 0 0)).setCell ⟨g, 7, none⟩ (.slice none 0 0)) g ⟨parts, l, 0, List.replicate l.length false, List.replicate l.length M.nil, List.replicate l.length M.grt0, [], []⟩ { y with k := none, kc := 0, n := none, nc := 0 } o := (hrows.wr ⟨g, _, hg, hs2⟩).own hBg (by simpa using hs1)
          have hrk := (hs2.block r (Array.getElem?_eq_some_iff.1 hresW).1 (by simp; omega)).trans hresW
          have hBw : Below B w ((((((((W.setCell ⟨g, 0, none⟩ (.slice y.p parts.length y.pc)).setCell ⟨g, 1, none⟩ (.slice y.l l.length y.lc)).setCell ⟨g, 2, none⟩ (.int .i64 0)).setCell ⟨g, 3, none⟩ (.slice y.d l.length y.dc)).setCell ⟨g, 4, none⟩ (.slice y.h l.length y.hc)).setCell ⟨g, 5, none⟩ (.slice y.g l.length y.gc)).setCell ⟨g, 6, none⟩ (.slice none 0 0)).setCell ⟨g, 7, none⟩ (.slice none 0 0)) := by
            have h1 : Below w.heap.size w W := HY.out.trans (hC.mono HY.out.size)
            rw [hB]
            exact h1.grown hs2 h1.size (fun k hk => by cases hk; omega)
          simp only [List.drop_succ_cons, List.drop_zero]
          have g0 : W.cell? ⟨g, 0, none⟩ = some (.slice none 0 0) := cellB hg 0
          have g1 : W.cell? ⟨g, 1, none⟩ = some (.slice none 0 0) := cellB hg 1
          have g2 : W.cell? ⟨g, 2, none⟩ = some (.int .i64 0) := cellB hg 2
          have g3 : W.cell? ⟨g, 3, none⟩ = some (.slice none 0 0) := cellB hg 3
          have g4 : W.cell? ⟨g, 4, none⟩ = some (.slice none 0 0) := cellB hg 4
          have g5 : W.cell? ⟨g, 5, none⟩ = some (.slice none 0 0) := cellB hg 5
          have g6 : W.cell? ⟨g, 6, none⟩ = some (.slice none 0 0) := cellB hg 6
          have g7 : W.cell? ⟨g, 7, none⟩ = some (.slice none 0 0) := cellB hg 7
          have f0 : ∀ i, W.frozen? ⟨g, i, none⟩ = false := frozenB hg
          have lg : g < W.heap.size := (Array.getElem?_eq_some_iff.1 hg).1
          have HBB : Hid (B = w.heap.size) := hB
          have Hrg : Hid (r ≠ g) := by rw [Hid]; omega
          have Hh : Hid (FmO B ((((((((W.setCell ⟨g, 0, none⟩ (.slice y.p parts.length y.pc)).setCell ⟨g, 1, none⟩ (.slice y.l l.length y.lc)).setCell ⟨g, 2, none⟩ (.int .i64 0)).setCell ⟨g, 3, none⟩ (.slice y.d l.length y.dc)).setCell ⟨g, 4, none⟩ (.slice y.h l.length y.hc)).setCell ⟨g, 5, none⟩ (.slice y.g l.length y.gc)).setCell ⟨g, 6, none⟩ (.slice none 0 0)).setCell ⟨g, 7, none⟩ (.slice none 0 0)) g ⟨parts, l, 0, List.replicate l.length false, List.replicate l.length M.nil, List.replicate l.length M.grt0, [], []⟩ { y with k := none, kc := 0, n := none, nc := 0 } o ∧ ((((((((W.setCell ⟨g, 0, none⟩ (.slice y.p parts.length y.pc)).setCell ⟨g, 1, none⟩ (.slice y.l l.length y.lc)).setCell ⟨g, 2, none⟩ (.int .i64 0)).setCell ⟨g, 3, none⟩ (.slice y.d l.length y.dc)).setCell ⟨g, 4, none⟩ (.slice y.h l.length y.hc)).setCell ⟨g, 5, none⟩ (.slice y.g l.length y.gc)).setCell ⟨g, 6, none⟩ (.slice none 0 0)).setCell ⟨g, 7, none⟩ (.slice none 0 0)).heap[r]? = some (.cells #[.slice none 0 0, .slice none 0 0, .int .i64 0, .slice none 0 0, .slice none 0 0, .slice none 0 0, .slice none 0 0, .slice none 0 0] 29 (0, 0)) ∧ Below B w ((((((((W.setCell ⟨g, 0, none⟩ (.slice y.p parts.length y.pc)).setCell ⟨g, 1, none⟩ (.slice y.l l.length y.lc)).setCell ⟨g, 2, none⟩ (.int .i64 0)).setCell ⟨g, 3, none⟩ (.slice y.d l.length y.dc)).setCell ⟨g, 4, none⟩ (.slice y.h l.length y.hc)).setCell ⟨g, 5, none⟩ (.slice y.g l.length y.gc)).setCell ⟨g, 6, none⟩ (.slice none 0 0)).setCell ⟨g, 7, none⟩ (.slice none 0 0))) := ⟨hO, hrk, hBw⟩
          rw [h13, h14]
          clear hR hZ h13 h14 hresW hrows hs1 hs2 hYA hC hg HPa hB hN hBY y2 hO hrk hBw
          go_upto_region 10 with fail
          clear g0 g1 g2 g3 g4 g5 g6 g7 f0
          generalize ((((((((W.setCell ⟨g, 0, none⟩ (.slice y.p parts.length y.pc)).setCell ⟨g, 1, none⟩ (.slice y.l l.length y.lc)).setCell ⟨g, 2, none⟩ (.int .i64 0)).setCell ⟨g, 3, none⟩ (.slice y.d l.length y.dc)).setCell ⟨g, 4, none⟩ (.slice y.h l.length y.hc)).setCell ⟨g, 5, none⟩ (.slice y.g l.length y.gc)).setCell ⟨g, 6, none⟩ (.slice none 0 0)).setCell ⟨g, 7, none⟩ (.slice none 0 0)) = X0 at *
          obtain ⟨wn, rfl⟩ : ∃ m : Nat, wks = m := ⟨wks.toNat, by omega⟩
          have hw4 : wn ≤ 4 := by omega
          clear hin'
          go_upto_region 11 with fail
          go_loopw [44] (fun s44 wr => ∃ (k : Nat) (xk : Fd), k ≤ wn ∧ s44 = .int .i64 k ∧ Hid (∃ ok, FmO B wr g ⟨parts, l, 0, List.replicate l.length false, List.replicate l.length M.nil, List.replicate l.length M.grt0, List.replicate k (-1), []⟩ xk ok) ∧ Hid (Below B w wr) ∧ Hid (wr.heap[r]? = some (.cells #[.slice none 0 0, .slice none 0 0, .int .i64 0, .slice none 0 0, .slice none 0 0, .slice none 0 0, .slice none 0 0, .slice none 0 0] 29 (0, 0)))) (fun s44 _ => wn - (intOf s44).toNat)
          case atStart => exact ⟨0, { y with k := none, kc := 0, n := none, nc := 0 }, Nat.zero_le _, rfl, ⟨o, Hh.out.1⟩, Hh.out.2.2, Hh.out.2.1⟩
          case round =>
            obtain ⟨k, xk, hk, rfl, HO, HB, Hz⟩ := hrel
            clear Hh
            obtain ⟨ok, hO⟩ := HO.out
            have hsw : B ≤ wr.heap.size := by rw [HBB.out]; exact HB.out.size
            obtain ⟨nk, hnk⟩ : ∃ nk, (List.replicate k (-1 : Int)).length = nk := ⟨_, rfl⟩
            have Hnk : Hid (nk = k) := by rw [Hid, ← hnk, List.length_replicate]
            have hnk4 : nk ≤ 4 := by have := Hnk.out; omega
            have hgb := hO.blk
            simp only [List.length_replicate, List.length_nil] at hgb
            rw [show k = nk from Hnk.out.symm] at hgb
            have hrow := hO.rowW
            simp only at hrow
            rw [hnk] at hrow
            by_cases hlt : k < wn
            · have hkl : (k : Int) < (wn : Int) := by omega
              have c6 : wr.cell? ⟨g, 6, none⟩ = some (.slice xk.k nk xk.kc) := cellB hgb 6
              have lgw : g < wr.heap.size := (Array.getElem?_eq_some_iff.1 hgb).1
              have hnews : ∀ j u, (#[.int .i64 (-1)] : Array Value).toList[j]? = some u → (wr.alloc (.cells #[.int .i64 (-1)] 3)).cell? ((⟨wr.heap.size, 0, none⟩ : Addr).add j) = some u := World.news_of_block (heap_alloc_new wr _)
              have HAp : Hid (∀ v' w3, (wr.alloc (.cells #[.int .i64 (-1)] 3)).grownBy w3 (Value.slice xk.k nk xk.kc).ownBlock → w3.ownsRow B 3 1 v' (nk + 1) ((List.replicate k (-1 : Int)).flatMap encI ++ (#[.int .i64 (-1)] : Array Value).toList) → ∃ a8 c8, v' = .slice a8 (nk + 1) c8 ∧ g < w3.heap.size ∧ w3.cell? ⟨g, 6, none⟩ = some (.slice xk.k nk xk.kc) ∧ w3.frozen? ⟨g, 6, none⟩ = false ∧
                  Hid (∃ ok, FmO B (w3.setCell ⟨g, 6, none⟩ (.slice a8 (nk + 1) c8)) g ⟨parts, l, 0, List.replicate l.length false, List.replicate l.length M.nil, List.replicate l.length M.grt0, List.replicate (k + 1) (-1), []⟩ { xk with k := a8, kc := c8 } ok) ∧ Hid (Below B w (w3.setCell ⟨g, 6, none⟩ (.slice a8 (nk + 1) c8))) ∧ Hid ((w3.setCell ⟨g, 6, none⟩ (.slice a8 (nk + 1) c8)).heap[r]? = some (.cells #[.slice none 0 0, .slice none 0 0, .int .i64 0, .slice none 0 0, .slice none 0 0, .slice none 0 0, .slice none 0 0, .slice none 0 0] 29 (0, 0)))) := fun v' w3 hgr ho => by
                have hb3 := (Below.refl wr.heap.size wr).alloc (Nat.le_refl _) (.cells #[.int .i64 (-1)] 3)
                have hO3 := hO.later hb3
                have hrow3 := hrow.alloc (.cells #[.int .i64 (-1)] 3)
                have hg3 := block_keptP hrow3 hgr ((hb3.block _ lgw).trans hgb) (by decide)
                have hz3 := block_keptP hrow3 hgr ((hb3.block _ (Array.getElem?_eq_some_iff.1 Hz.out).1).trans Hz.out) (by decide)
                obtain ⟨a8, c8, rfl⟩ := own_len ho
                have hl1 : (List.replicate (k + 1) (-1 : Int)).length = nk + 1 := by rw [List.length_replicate, Hnk.out]
                refine ⟨a8, c8, rfl, (Array.getElem?_eq_some_iff.1 hg3).1, cellB hg3 6, frozenB hg3 6, ?_, ?_, ?_⟩
                · have := hO3.setWorkRow (List.replicate (k + 1) (-1 : Int)) a8 c8 (X := w3) (by simp only; rw [hnk]; exact hgr) (by rw [hl1, List.replicate_succ', List.flatMap_append]; simpa [List.flatMap_cons, encI] using ho)
                  rw [hl1] at this
                  exact ⟨_, this⟩
                · exact ((HB.out.trans (hb3.mono hsw)).grown hgr (Nat.le_trans hsw hb3.size) (fun k hk => (hrow3.lt k hk).1)).setCell hBg _
                · exact (Below.heap_setCell _ _ _ _ Hrg.out).trans hz3
              clear hO HO hgb Hz HB
              go_wp2_with (at_builtin; refine wpList_append_own _ rfl _ _ 26 rfl B 3 iK (.int .i64 0) 1 8 Try.underlying26 hiK hK0 hK1 hK2 rfl (by decide) _ _ _ rfl (hrow.alloc _) ⟨wr.heap.size, 0, none⟩ 1 1 (#[.int .i64 (-1)] : Array Value).toList rfl rfl hnews (fun u hu => by simp at hu; rcases hu with rfl; rfl) (by unfold maxLen; omega) (by omega) (by simp; omega) ?_; intro v' w3 hown' hgrow3 hnil3; obtain ⟨a8, c8, rfl, q1, q2, q3, q4, q5, q6⟩ := HAp.out _ _ hgrow3 hown'; refine Hid.out ?_)
              clear hown' hgrow3 hnil3 hrow hnews c6 HAp
              refine Lib.hid ?_
              go_wp2_with fail
              go_roundw
              case rel => exact ⟨k + 1, { xk with k := a8, kc := c8 }, by omega, by go_num, q4, q5, q6⟩
              case measure => simp [intOf]; omega
            · have hkl : k = wn := by omega
              have HS3 : Hid (R = ⟨parts, l, 0, List.replicate l.length false, List.replicate l.length M.nil, List.replicate l.length M.grt0, List.replicate k (-1), []⟩) := by rw [Hid, HS2.out, hkl, M.newF, Int.toNat_natCast]
              subst hkl
              have v2 := Hz.out
              obtain ⟨hs1, hs2⟩ := store8 wr r (.slice none 0 0) (.slice none 0 0) (.int .i64 0) (.slice none 0 0) (.slice none 0 0) (.slice none 0 0) (.slice none 0 0) (.slice none 0 0) (.slice xk.p parts.length xk.pc) (.slice xk.l l.length xk.lc) (.int .i64 0) (.slice xk.d l.length xk.dc) (.slice xk.h l.length xk.hc) (.slice xk.g l.length xk.gc) (.slice xk.k nk xk.kc) (.slice xk.n 0 xk.nc) 29 v2
              have HFA : Hid (FmR w.heap.size ((((((((wr.setCell ⟨r, 0, none⟩ (.slice xk.p parts.length xk.pc)).setCell ⟨r, 1, none⟩ (.slice xk.l l.length xk.lc)).setCell ⟨r, 2, none⟩ (.int .i64 0)).setCell ⟨r, 3, none⟩ (.slice xk.d l.length xk.dc)).setCell ⟨r, 4, none⟩ (.slice xk.h l.length xk.hc)).setCell ⟨r, 5, none⟩ (.slice xk.g l.length xk.gc)).setCell ⟨r, 6, none⟩ (.slice xk.k nk xk.kc)).setCell ⟨r, 7, none⟩ (.slice xk.n 0 xk.nc)) ⟨parts, l, 0, List.replicate l.length false, List.replicate l.length M.nil, List.replicate l.length M.grt0, List.replicate k (-1), []⟩ xk ok) := (hO.rows.wr ⟨r, _, v2, hs2⟩).base (Nat.le_of_eq HBB.out.symm)
              have HBV : Hid (Below w.heap.size w ((((((((wr.setCell ⟨r, 0, none⟩ (.slice xk.p parts.length xk.pc)).setCell ⟨r, 1, none⟩ (.slice xk.l l.length xk.lc)).setCell ⟨r, 2, none⟩ (.int .i64 0)).setCell ⟨r, 3, none⟩ (.slice xk.d l.length xk.dc)).setCell ⟨r, 4, none⟩ (.slice xk.h l.length xk.hc)).setCell ⟨r, 5, none⟩ (.slice xk.g l.length xk.gc)).setCell ⟨r, 6, none⟩ (.slice xk.k nk xk.kc)).setCell ⟨r, 7, none⟩ (.slice xk.n 0 xk.nc))) := by
                have h1 : Below w.heap.size w wr := by rw [← HBB.out]; exact HB.out
                exact h1.grown hs2 h1.size (fun k hk => by cases hk; exact Hr.out)
              have k0 : wr.cell? ⟨g, 0, none⟩ = some (.slice xk.p parts.length xk.pc) := cellB hgb 0
              have k1 : wr.cell? ⟨g, 1, none⟩ = some (.slice xk.l l.length xk.lc) := cellB hgb 1
              have k2 : wr.cell? ⟨g, 2, none⟩ = some (.int .i64 0) := cellB hgb 2
              have k3 : wr.cell? ⟨g, 3, none⟩ = some (.slice xk.d l.length xk.dc) := cellB hgb 3
              have k4 : wr.cell? ⟨g, 4, none⟩ = some (.slice xk.h l.length xk.hc) := cellB hgb 4
              have k5 : wr.cell? ⟨g, 5, none⟩ = some (.slice xk.g l.length xk.gc) := cellB hgb 5
              have k6 : wr.cell? ⟨g, 6, none⟩ = some (.slice xk.k nk xk.kc) := cellB hgb 6
              have k7 : wr.cell? ⟨g, 7, none⟩ = some (.slice xk.n 0 xk.nc) := cellB hgb 7
              have lgw : g < wr.heap.size := (Array.getElem?_eq_some_iff.1 hgb).1
              have r0 : wr.cell? ⟨r, 0, none⟩ = some (.slice none 0 0) := cellB v2 0
              have r1 : wr.cell? ⟨r, 1, none⟩ = some (.slice none 0 0) := cellB v2 1
              have r2 : wr.cell? ⟨r, 2, none⟩ = some (.int .i64 0) := cellB v2 2
              have r3 : wr.cell? ⟨r, 3, none⟩ = some (.slice none 0 0) := cellB v2 3
              have r4 : wr.cell? ⟨r, 4, none⟩ = some (.slice none 0 0) := cellB v2 4
              have r5 : wr.cell? ⟨r, 5, none⟩ = some (.slice none 0 0) := cellB v2 5
              have r6 : wr.cell? ⟨r, 6, none⟩ = some (.slice none 0 0) := cellB v2 6
              have r7 : wr.cell? ⟨r, 7, none⟩ = some (.slice none 0 0) := cellB v2 7
              have rf : ∀ i, wr.frozen? ⟨r, i, none⟩ = false := frozenB v2
              have lr : r < wr.heap.size := (Array.getElem?_eq_some_iff.1 v2).1
              have hrg := Hrg.out
              clear HS2 hO v2 hs2 HO HB Hz hgb hrow hnk
              go_wp2_with fail
              have e0 : ((((((((wr.setCell ⟨r, 0, none⟩ (.slice xk.p parts.length xk.pc)).setCell ⟨r, 1, none⟩ (.slice xk.l l.length xk.lc)).setCell ⟨r, 2, none⟩ (.int .i64 0)).setCell ⟨r, 3, none⟩ (.slice xk.d l.length xk.dc)).setCell ⟨r, 4, none⟩ (.slice xk.h l.length xk.hc)).setCell ⟨r, 5, none⟩ (.slice xk.g l.length xk.gc)).setCell ⟨r, 6, none⟩ (.slice xk.k nk xk.kc)).setCell ⟨r, 7, none⟩ (.slice xk.n 0 xk.nc)).cell? ⟨r, 0, none⟩ = some (.slice xk.p parts.length xk.pc) := cellB hs1 0
              have e1 : ((((((((wr.setCell ⟨r, 0, none⟩ (.slice xk.p parts.length xk.pc)).setCell ⟨r, 1, none⟩ (.slice xk.l l.length xk.lc)).setCell ⟨r, 2, none⟩ (.int .i64 0)).setCell ⟨r, 3, none⟩ (.slice xk.d l.length xk.dc)).setCell ⟨r, 4, none⟩ (.slice xk.h l.length xk.hc)).setCell ⟨r, 5, none⟩ (.slice xk.g l.length xk.gc)).setCell ⟨r, 6, none⟩ (.slice xk.k nk xk.kc)).setCell ⟨r, 7, none⟩ (.slice xk.n 0 xk.nc)).cell? ⟨r, 1, none⟩ = some (.slice xk.l l.length xk.lc) := cellB hs1 1
              have e2 : ((((((((wr.setCell ⟨r, 0, none⟩ (.slice xk.p parts.length xk.pc)).setCell ⟨r, 1, none⟩ (.slice xk.l l.length xk.lc)).setCell ⟨r, 2, none⟩ (.int .i64 0)).setCell ⟨r, 3, none⟩ (.slice xk.d l.length xk.dc)).setCell ⟨r, 4, none⟩ (.slice xk.h l.length xk.hc)).setCell ⟨r, 5, none⟩ (.slice xk.g l.length xk.gc)).setCell ⟨r, 6, none⟩ (.slice xk.k nk xk.kc)).setCell ⟨r, 7, none⟩ (.slice xk.n 0 xk.nc)).cell? ⟨r, 2, none⟩ = some (.int .i64 0) := cellB hs1 2
              have e3 : ((((((((wr.setCell ⟨r, 0, none⟩ (.slice xk.p parts.length xk.pc)).setCell ⟨r, 1, none⟩ (.slice xk.l l.length xk.lc)).setCell ⟨r, 2, none⟩ (.int .i64 0)).setCell ⟨r, 3, none⟩ (.slice xk.d l.length xk.dc)).setCell ⟨r, 4, none⟩ (.slice xk.h l.length xk.hc)).setCell ⟨r, 5, none⟩ (.slice xk.g l.length xk.gc)).setCell ⟨r, 6, none⟩ (.slice xk.k nk xk.kc)).setCell ⟨r, 7, none⟩ (.slice xk.n 0 xk.nc)).cell? ⟨r, 3, none⟩ = some (.slice xk.d l.length xk.dc) := cellB hs1 3
              have e4 : ((((((((wr.setCell ⟨r, 0, none⟩ (.slice xk.p parts.length xk.pc)).setCell ⟨r, 1, none⟩ (.slice xk.l l.length xk.lc)).setCell ⟨r, 2, none⟩ (.int .i64 0)).setCell ⟨r, 3, none⟩ (.slice xk.d l.length xk.dc)).setCell ⟨r, 4, none⟩ (.slice xk.h l.length xk.hc)).setCell ⟨r, 5, none⟩ (.slice xk.g l.length xk.gc)).setCell ⟨r, 6, none⟩ (.slice xk.k nk xk.kc)).setCell ⟨r, 7, none⟩ (.slice xk.n 0 xk.nc)).cell? ⟨r, 4, none⟩ = some (.slice xk.h l.length xk.hc) := cellB hs1 4
              have e5 : ((((((((wr.setCell ⟨r, 0, none⟩ (.slice xk.p parts.length xk.pc)).setCell ⟨r, 1, none⟩ (.slice xk.l l.length xk.lc)).setCell ⟨r, 2, none⟩ (.int .i64 0)).setCell ⟨r, 3, none⟩ (.slice xk.d l.length xk.dc)).setCell ⟨r, 4, none⟩ (.slice xk.h l.length xk.hc)).setCell ⟨r, 5, none⟩ (.slice xk.g l.length xk.gc)).setCell ⟨r, 6, none⟩ (.slice xk.k nk xk.kc)).setCell ⟨r, 7, none⟩ (.slice xk.n 0 xk.nc)).cell? ⟨r, 5, none⟩ = some (.slice xk.g l.length xk.gc) := cellB hs1 5
              have e6 : ((((((((wr.setCell ⟨r, 0, none⟩ (.slice xk.p parts.length xk.pc)).setCell ⟨r, 1, none⟩ (.slice xk.l l.length xk.lc)).setCell ⟨r, 2, none⟩ (.int .i64 0)).setCell ⟨r, 3, none⟩ (.slice xk.d l.length xk.dc)).setCell ⟨r, 4, none⟩ (.slice xk.h l.length xk.hc)).setCell ⟨r, 5, none⟩ (.slice xk.g l.length xk.gc)).setCell ⟨r, 6, none⟩ (.slice xk.k nk xk.kc)).setCell ⟨r, 7, none⟩ (.slice xk.n 0 xk.nc)).cell? ⟨r, 6, none⟩ = some (.slice xk.k nk xk.kc) := cellB hs1 6
              have e7 : ((((((((wr.setCell ⟨r, 0, none⟩ (.slice xk.p parts.length xk.pc)).setCell ⟨r, 1, none⟩ (.slice xk.l l.length xk.lc)).setCell ⟨r, 2, none⟩ (.int .i64 0)).setCell ⟨r, 3, none⟩ (.slice xk.d l.length xk.dc)).setCell ⟨r, 4, none⟩ (.slice xk.h l.length xk.hc)).setCell ⟨r, 5, none⟩ (.slice xk.g l.length xk.gc)).setCell ⟨r, 6, none⟩ (.slice xk.k nk xk.kc)).setCell ⟨r, 7, none⟩ (.slice xk.n 0 xk.nc)).cell? ⟨r, 7, none⟩ = some (.slice xk.n 0 xk.nc) := cellB hs1 7
              refine bodyPost_ret (v := .tuple #[.agg #[.slice xk.p parts.length xk.pc, .slice xk.l l.length xk.lc, .int .i64 0, .slice xk.d l.length xk.dc, .slice xk.h l.length xk.hc, .slice xk.g l.length xk.gc, .slice xk.k nk xk.kc, .slice xk.n 0 xk.nc], .int .i64 0]) (by simp [results, Try.results14, go_sem, e0, e1, e2, e3, e4, e5, e6, e7]) rfl ?_
              rw [HS3.out, HE3.out]
              refine ⟨HBV.out, xk, ?_, HFA.out.at, fun _ => ⟨ok, HFA.out⟩⟩
              have h1 := Hnk.out
              subst h1
              simp
      · have HE3 : Hid (E = M.checkEach parts) := HE2
        have HS2 : Hid (R = M.farm0) := by rw [Hid, HS.out, HE3.out, if_neg hce]
        have hne : (M.checkEach parts != 0) = true := by simpa using hce
        have Hx2 : Hid (X.heap[r]? = some (.cells #[.slice none 0 0, .slice none 0 0, .int .i64 0, .slice none 0 0, .slice none 0 0, .slice none 0 0, .slice none 0 0, .slice none 0 0] 29 (0, 0))) := x2
        clear HE1 HE2 HS hce KE x2 hin
        generalize M.checkEach parts = e' at *
        go_upto_region 8 with (first | (go_at_call 26; refine (KW.out _).mono ?_; rintro e w1 ⟨rfl, rfl⟩) | (go_at_call 27; refine KE1.out.mono ?_; rintro e V ⟨rfl, hbY⟩))
        have HV : Hid (Below w.heap.size w V) := HX.out.trans (hbY.mono HX.out.size)
        have v2 := (hbY.block _ (Array.getElem?_eq_some_iff.1 Hx2.out).1).trans Hx2.out
        obtain ⟨hs1, hs2⟩ := store8 V r (.slice none 0 0) (.slice none 0 0) (.int .i64 0) (.slice none 0 0) (.slice none 0 0) (.slice none 0 0) (.slice none 0 0) (.slice none 0 0) (.slice none 0 0) (.slice none 0 0) (.int .i64 0) (.slice none 0 0) (.slice none 0 0) (.slice none 0 0) (.slice none 0 0) (.slice none 0 0) 29 v2
        have HBV : Hid (Below w.heap.size w ((((((((V.setCell ⟨r, 0, none⟩ (.slice none 0 0)).setCell ⟨r, 1, none⟩ (.slice none 0 0)).setCell ⟨r, 2, none⟩ (.int .i64 0)).setCell ⟨r, 3, none⟩ (.slice none 0 0)).setCell ⟨r, 4, none⟩ (.slice none 0 0)).setCell ⟨r, 5, none⟩ (.slice none 0 0)).setCell ⟨r, 6, none⟩ (.slice none 0 0)).setCell ⟨r, 7, none⟩ (.slice none 0 0))) := HV.out.grown hs2 HV.out.size (fun k hk => by cases hk; exact Hr.out)
        have r0 : V.cell? ⟨r, 0, none⟩ = some (.slice none 0 0) := cellB v2 0
        have r1 : V.cell? ⟨r, 1, none⟩ = some (.slice none 0 0) := cellB v2 1
        have r2 : V.cell? ⟨r, 2, none⟩ = some (.int .i64 0) := cellB v2 2
        have r3 : V.cell? ⟨r, 3, none⟩ = some (.slice none 0 0) := cellB v2 3
        have r4 : V.cell? ⟨r, 4, none⟩ = some (.slice none 0 0) := cellB v2 4
        have r5 : V.cell? ⟨r, 5, none⟩ = some (.slice none 0 0) := cellB v2 5
        have r6 : V.cell? ⟨r, 6, none⟩ = some (.slice none 0 0) := cellB v2 6
        have r7 : V.cell? ⟨r, 7, none⟩ = some (.slice none 0 0) := cellB v2 7
        have rf : ∀ i, V.frozen? ⟨r, i, none⟩ = false := frozenB v2
        have lr : r < V.heap.size := (Array.getElem?_eq_some_iff.1 v2).1
        clear v2 hs2 KW KE1 hbY
        go_wp2_with fail
        have e0 : ((((((((V.setCell ⟨r, 0, none⟩ (.slice none 0 0)).setCell ⟨r, 1, none⟩ (.slice none 0 0)).setCell ⟨r, 2, none⟩ (.int .i64 0)).setCell ⟨r, 3, none⟩ (.slice none 0 0)).setCell ⟨r, 4, none⟩ (.slice none 0 0)).setCell ⟨r, 5, none⟩ (.slice none 0 0)).setCell ⟨r, 6, none⟩ (.slice none 0 0)).setCell ⟨r, 7, none⟩ (.slice none 0 0)).cell? ⟨r, 0, none⟩ = some (.slice none 0 0) := cellB hs1 0
        have e1 : ((((((((V.setCell ⟨r, 0, none⟩ (.slice none 0 0)).setCell ⟨r, 1, none⟩ (.slice none 0 0)).setCell ⟨r, 2, none⟩ (.int .i64 0)).setCell ⟨r, 3, none⟩ (.slice none 0 0)).setCell ⟨r, 4, none⟩ (.slice none 0 0)).setCell ⟨r, 5, none⟩ (.slice none 0 0)).setCell ⟨r, 6, none⟩ (.slice none 0 0)).setCell ⟨r, 7, none⟩ (.slice none 0 0)).cell? ⟨r, 1, none⟩ = some (.slice none 0 0) := cellB hs1 1
        have e2 : ((((((((V.setCell ⟨r, 0, none⟩ (.slice none 0 0)).setCell ⟨r, 1, none⟩ (.slice none 0 0)).setCell ⟨r, 2, none⟩ (.int .i64 0)).setCell ⟨r, 3, none⟩ (.slice none 0 0)).setCell ⟨r, 4, none⟩ (.slice none 0 0)).setCell ⟨r, 5, none⟩ (.slice none 0 0)).setCell ⟨r, 6, none⟩ (.slice none 0 0)).setCell ⟨r, 7, none⟩ (.slice none 0 0)).cell? ⟨r, 2, none⟩ = some (.int .i64 0) := cellB hs1 2
        have e3 : ((((((((V.setCell ⟨r, 0, none⟩ (.slice none 0 0)).setCell ⟨r, 1, none⟩ (.slice none 0 0)).setCell ⟨r, 2, none⟩ (.int .i64 0)).setCell ⟨r, 3, none⟩ (.slice none 0 0)).setCell ⟨r, 4, none⟩ (.slice none 0 0)).setCell ⟨r, 5, none⟩ (.slice none 0 0)).setCell ⟨r, 6, none⟩ (.slice none 0 0)).setCell ⟨r, 7, none⟩ (.slice none 0 0)).cell? ⟨r, 3, none⟩ = some (.slice none 0 0) := cellB hs1 3
        have e4 : ((((((((V.setCell ⟨r, 0, none⟩ (.slice none 0 0)).setCell ⟨r, 1, none⟩ (.slice none 0 0)).setCell ⟨r, 2, none⟩ (.int .i64 0)).setCell ⟨r, 3, none⟩ (.slice none 0 0)).setCell ⟨r, 4, none⟩ (.slice none 0 0)).setCell ⟨r, 5, none⟩ (.slice none 0 0)).setCell ⟨r, 6, none⟩ (.slice none 0 0)).setCell ⟨r, 7, none⟩ (.slice none 0 0)).cell? ⟨r, 4, none⟩ = some (.slice none 0 0) := cellB hs1 4
        have e5 : ((((((((V.setCell ⟨r, 0, none⟩ (.slice none 0 0)).setCell ⟨r, 1, none⟩ (.slice none 0 0)).setCell ⟨r, 2, none⟩ (.int .i64 0)).setCell ⟨r, 3, none⟩ (.slice none 0 0)).setCell ⟨r, 4, none⟩ (.slice none 0 0)).setCell ⟨r, 5, none⟩ (.slice none 0 0)).setCell ⟨r, 6, none⟩ (.slice none 0 0)).setCell ⟨r, 7, none⟩ (.slice none 0 0)).cell? ⟨r, 5, none⟩ = some (.slice none 0 0) := cellB hs1 5
        have e6 : ((((((((V.setCell ⟨r, 0, none⟩ (.slice none 0 0)).setCell ⟨r, 1, none⟩ (.slice none 0 0)).setCell ⟨r, 2, none⟩ (.int .i64 0)).setCell ⟨r, 3, none⟩ (.slice none 0 0)).setCell ⟨r, 4, none⟩ (.slice none 0 0)).setCell ⟨r, 5, none⟩ (.slice none 0 0)).setCell ⟨r, 6, none⟩ (.slice none 0 0)).setCell ⟨r, 7, none⟩ (.slice none 0 0)).cell? ⟨r, 6, none⟩ = some (.slice none 0 0) := cellB hs1 6
        have e7 : ((((((((V.setCell ⟨r, 0, none⟩ (.slice none 0 0)).setCell ⟨r, 1, none⟩ (.slice none 0 0)).setCell ⟨r, 2, none⟩ (.int .i64 0)).setCell ⟨r, 3, none⟩ (.slice none 0 0)).setCell ⟨r, 4, none⟩ (.slice none 0 0)).setCell ⟨r, 5, none⟩ (.slice none 0 0)).setCell ⟨r, 6, none⟩ (.slice none 0 0)).setCell ⟨r, 7, none⟩ (.slice none 0 0)).cell? ⟨r, 7, none⟩ = some (.slice none 0 0) := cellB hs1 7
        refine bodyPost_ret (v := .tuple #[.agg #[.slice none 0 0, .slice none 0 0, .int .i64 0, .slice none 0 0, .slice none 0 0, .slice none 0 0, .slice none 0 0, .slice none 0 0], .int .i64 e']) (by simp [results, Try.results14, go_sem, e0, e1, e2, e3, e4, e5, e6, e7]) rfl ?_
        rw [HS2.out, HE3.out]
        exact ⟨HBV.out, fd0, rfl, farm0_at _, fun h => absurd h (by simpa using hne)⟩
  · have HE3 : Hid (E = M.checkPlan l parts.length) := by rw [Hid, HE.out, M.orE, if_neg hck]
    have HS2 : Hid (R = M.farm0) := by rw [Hid, HS.out, HE3.out, if_neg hck]
    have hne : (M.checkPlan l parts.length != 0) = true := by simpa using hck
    clear HE HS hck KE KW
    generalize M.checkPlan l parts.length = e' at *
    go_upto_region 3 with (go_at_call 25; refine KP.out.mono ?_; rintro e V ⟨rfl, hbY⟩)
    have HV : Hid (Below w.heap.size w V) := HA.out.trans (hbY.mono HA.out.size)
    have v2 := (hbY.block _ (Array.getElem?_eq_some_iff.1 Hh2.out).1).trans Hh2.out
    obtain ⟨hs1, hs2⟩ := store8 V r (.slice none 0 0) (.slice none 0 0) (.int .i64 0) (.slice none 0 0) (.slice none 0 0) (.slice none 0 0) (.slice none 0 0) (.slice none 0 0) (.slice none 0 0) (.slice none 0 0) (.int .i64 0) (.slice none 0 0) (.slice none 0 0) (.slice none 0 0) (.slice none 0 0) (.slice none 0 0) 29 v2
    have HBV : Hid (Below w.heap.size w ((((((((V.setCell ⟨r, 0, none⟩ (.slice none 0 0)).setCell ⟨r, 1, none⟩ (.slice none 0 0)).setCell ⟨r, 2, none⟩ (.int .i64 0)).setCell ⟨r, 3, none⟩ (.slice none 0 0)).setCell ⟨r, 4, none⟩ (.slice none 0 0)).setCell ⟨r, 5, none⟩ (.slice none 0 0)).setCell ⟨r, 6, none⟩ (.slice none 0 0)).setCell ⟨r, 7, none⟩ (.slice none 0 0))) := HV.out.grown hs2 HV.out.size (fun k hk => by cases hk; exact Hr.out)
    have r0 : V.cell? ⟨r, 0, none⟩ = some (.slice none 0 0) := cellB v2 0
    have r1 : V.cell? ⟨r, 1, none⟩ = some (.slice none 0 0) := cellB v2 1
    have r2 : V.cell? ⟨r, 2, none⟩ = some (.int .i64 0) := cellB v2 2
    have r3 : V.cell? ⟨r, 3, none⟩ = some (.slice none 0 0) := cellB v2 3
    have r4 : V.cell? ⟨r, 4, none⟩ = some (.slice none 0 0) := cellB v2 4
    have r5 : V.cell? ⟨r, 5, none⟩ = some (.slice none 0 0) := cellB v2 5
    have r6 : V.cell? ⟨r, 6, none⟩ = some (.slice none 0 0) := cellB v2 6
    have r7 : V.cell? ⟨r, 7, none⟩ = some (.slice none 0 0) := cellB v2 7
    have rf : ∀ i, V.frozen? ⟨r, i, none⟩ = false := frozenB v2
    have lr : r < V.heap.size := (Array.getElem?_eq_some_iff.1 v2).1
    clear v2 hs2 KP hbY
    go_wp2_with fail
    have e0 : ((((((((V.setCell ⟨r, 0, none⟩ (.slice none 0 0)).setCell ⟨r, 1, none⟩ (.slice none 0 0)).setCell ⟨r, 2, none⟩ (.int .i64 0)).setCell ⟨r, 3, none⟩ (.slice none 0 0)).setCell ⟨r, 4, none⟩ (.slice none 0 0)).setCell ⟨r, 5, none⟩ (.slice none 0 0)).setCell ⟨r, 6, none⟩ (.slice none 0 0)).setCell ⟨r, 7, none⟩ (.slice none 0 0)).cell? ⟨r, 0, none⟩ = some (.slice none 0 0) := cellB hs1 0
    have e1 : ((((((((V.setCell ⟨r, 0, none⟩ (.slice none 0 0)).setCell ⟨r, 1, none⟩ (.slice none 0 0)).setCell ⟨r, 2, none⟩ (.int .i64 0)).setCell ⟨r, 3, none⟩ (.slice none 0 0)).setCell ⟨r, 4, none⟩ (.slice none 0 0)).setCell ⟨r, 5, none⟩ (.slice none 0 0)).setCell ⟨r, 6, none⟩ (.slice none 0 0)).setCell ⟨r, 7, none⟩ (.slice none 0 0)).cell? ⟨r, 1, none⟩ = some (.slice none 0 0) := cellB hs1 1
    have e2 : ((((((((V.setCell ⟨r, 0, none⟩ (.slice none 0 0)).setCell ⟨r, 1, none⟩ (.slice none 0 0)).setCell ⟨r, 2, none⟩ (.int .i64 0)).setCell ⟨r, 3, none⟩ (.slice none 0 0)).setCell ⟨r, 4, none⟩ (.slice none 0 0)).setCell ⟨r, 5, none⟩ (.slice none 0 0)).setCell ⟨r, 6, none⟩ (.slice none 0 0)).setCell ⟨r, 7, none⟩ (.slice none 0 0)).cell? ⟨r, 2, none⟩ = some (.int .i64 0) := cellB hs1 2
    have e3 : ((((((((V.setCell ⟨r, 0, none⟩ (.slice none 0 0)).setCell ⟨r, 1, none⟩ (.slice none 0 0)).setCell ⟨r, 2, none⟩ (.int .i64 0)).setCell ⟨r, 3, none⟩ (.slice none 0 0)).setCell ⟨r, 4, none⟩ (.slice none 0 0)).setCell ⟨r, 5, none⟩ (.slice none 0 0)).setCell ⟨r, 6, none⟩ (.slice none 0 0)).setCell ⟨r, 7, none⟩ (.slice none 0 0)).cell? ⟨r, 3, none⟩ = some (.slice none 0 0) := cellB hs1 3
    have e4 : ((((((((V.setCell ⟨r, 0, none⟩ (.slice none 0 0)).setCell ⟨r, 1, none⟩ (.slice none 0 0)).setCell ⟨r, 2, none⟩ (.int .i64 0)).setCell ⟨r, 3, none⟩ (.slice none 0 0)).setCell ⟨r, 4, none⟩ (.slice none 0 0)).setCell ⟨r, 5, none⟩ (.slice none 0 0)).setCell ⟨r, 6, none⟩ (.slice none 0 0)).setCell ⟨r, 7, none⟩ (.slice none 0 0)).cell? ⟨r, 4, none⟩ = some (.slice none 0 0) := cellB hs1 4
    have e5 : ((((((((V.setCell ⟨r, 0, none⟩ (.slice none 0 0)).setCell ⟨r, 1, none⟩ (.slice none 0 0)).setCell ⟨r, 2, none⟩ (.int .i64 0)).setCell ⟨r, 3, none⟩ (.slice none 0 0)).setCell ⟨r, 4, none⟩ (.slice none 0 0)).setCell ⟨r, 5, none⟩ (.slice none 0 0)).setCell ⟨r, 6, none⟩ (.slice none 0 0)).setCell ⟨r, 7, none⟩ (.slice none 0 0)).cell? ⟨r, 5, none⟩ = some (.slice none 0 0) := cellB hs1 5
    have e6 : ((((((((V.setCell ⟨r, 0, none⟩ (.slice none 0 0)).setCell ⟨r, 1, none⟩ (.slice none 0 0)).setCell ⟨r, 2, none⟩ (.int .i64 0)).setCell ⟨r, 3, none⟩ (.slice none 0 0)).setCell ⟨r, 4, none⟩ (.slice none 0 0)).setCell ⟨r, 5, none⟩ (.slice none 0 0)).setCell ⟨r, 6, none⟩ (.slice none 0 0)).setCell ⟨r, 7, none⟩ (.slice none 0 0)).cell? ⟨r, 6, none⟩ = some (.slice none 0 0) := cellB hs1 6
    have e7 : ((((((((V.setCell ⟨r, 0, none⟩ (.slice none 0 0)).setCell ⟨r, 1, none⟩ (.slice none 0 0)).setCell ⟨r, 2, none⟩ (.int .i64 0)).setCell ⟨r, 3, none⟩ (.slice none 0 0)).setCell ⟨r, 4, none⟩ (.slice none 0 0)).setCell ⟨r, 5, none⟩ (.slice none 0 0)).setCell ⟨r, 6, none⟩ (.slice none 0 0)).setCell ⟨r, 7, none⟩ (.slice none 0 0)).cell? ⟨r, 7, none⟩ = some (.slice none 0 0) := cellB hs1 7
    refine bodyPost_ret (v := .tuple #[.agg #[.slice none 0 0, .slice none 0 0, .int .i64 0, .slice none 0 0, .slice none 0 0, .slice none 0 0, .slice none 0 0, .slice none 0 0], .int .i64 e']) (by simp [results, Try.results14, go_sem, e0, e1, e2, e3, e4, e5, e6, e7]) rfl ?_
    rw [HS2.out, HE3.out]
    exact ⟨HBV.out, fd0, rfl, farm0_at _, fun h => absurd h (by simpa using hne)⟩

end Go.Proofs.Ytmlojlbmfceogaa
