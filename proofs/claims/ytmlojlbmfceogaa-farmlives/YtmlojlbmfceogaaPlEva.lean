/-
  Parts of one's own in a row of one's own. The contract of plan.Eval.
-/
import Derived.Test.YtmlojlbmfceogaaPrtMem
import Derived.Test.YtmlojlbmfceogaaPlReady
import Derived.Test.YtmlojlbmfceogaaPlMa
import Derived.Test.YtmlojlbmfceogaaPrtA
import Derived.BigRegion

namespace Go.Proofs.Ytmlojlbmfceogaa
open Go Go.RowKit
set_option linter.unusedVariables false

/-- a part that was taken, with the two slices that it holds -/
structure PEnt where
  p : M.Prt
  vF : Value
  vD : Value
def pentCells (e : PEnt) : List Value := [e.vF, e.vD]

/-- a part of one's own -/
def POwn (W : World) (B : Nat) (e : PEnt) : Prop := ∃ ents, PR W B ents e.p.defs e.vF e.vD ∧ ents.map (·.f) = e.p.frags

theorem PR.keptR {w w' : World} {B B' n : Nat} {es : List Ent} {ds : List M.Dfn} {vF vD v : Value} {xs : List Value} (h : PR w B es ds vF vD) (hr : w.ownsRow B' 44 2 v n xs) (hg : w.grownBy w' v.ownBlock) : PR w' B es ds vF vD :=
  ⟨h.rowF.kept hg (own_apart h.rowF hr (by decide)), h.rowD.kept hg (own_apart h.rowD hr (by decide)), fun e he => (h.bytes e he).kept hg (own_apart (h.bytes e he) hr (by decide)), h.small, h.smallD, fun e he => (h.rels e he).kept hg (own_apart (h.rels e he) hr (by decide))⟩


end Go.Proofs.Ytmlojlbmfceogaa

namespace Go.Proofs.Ytmlojlbmfceogaa
open Go Go.RowKit
set_option linter.unusedVariables false

/-- what Eval gives -/
structure EvOut (w0 w' : World) (v : Value) (ps : List M.Prt) : Prop where
  below : Below w0.heap.size w0 w'
  ex : ∃ es : List PEnt, es.map (·.p) = ps ∧ w'.ownsRow w0.heap.size 44 2 v es.length (es.flatMap pentCells) ∧ ∀ e ∈ es, POwn w' w0.heap.size e

/-- what Eval has in memory -/
structure EvI (w W : World) (v : Value) (es : List PEnt) : Prop where
  below : Below w.heap.size w W
  row : W.ownsRow w.heap.size 44 2 v es.length (es.flatMap pentCells)
  parts : ∀ e ∈ es, POwn W w.heap.size e

theorem EvI.later {w W X : World} {v : Value} {es : List PEnt} (h : EvI w W v es) (hb : Below W.heap.size W X) : EvI w X v es :=
  ⟨h.below.trans (hb.mono h.below.size), h.row.kept (grown_of_below hb none) own_self, fun e he => let ⟨en, h1, h2⟩ := h.parts e he; ⟨en, h1.later hb, h2⟩⟩

theorem EvI.push {w W X : World} {v v' : Value} {es : List PEnt} {e : PEnt} (h : EvI w W v es) (he : POwn W w.heap.size e) (hg : W.grownBy X v.ownBlock) (hr : X.ownsRow w.heap.size 44 2 v' (es.length + 1) (es.flatMap pentCells ++ pentCells e)) : EvI w X v' (es ++ [e]) := by
  refine ⟨h.below.grown hg h.below.size (fun k hk => (h.row.lt k hk).1), ?_, fun x hx => ?_⟩
  · rw [List.length_append, List.flatMap_append]
    simpa [List.flatMap_cons] using hr
  · have hx' : POwn W w.heap.size x := by
      rcases List.mem_append.1 hx with hx | hx
      · exact h.parts x hx
      · rw [List.mem_singleton.1 hx]; exact he
    obtain ⟨en, h1, h2⟩ := hx'
    exact ⟨en, h1.keptR h.row hg, h2⟩

def pent0 : PEnt := ⟨M.nil, .slice none 0 0, .slice none 0 0⟩
theorem POwn.at {W : World} {B : Nat} {e : PEnt} (h : POwn W B e) : ∃ a1 c1 a2 c2, e.vF = .slice a1 e.p.frags.length c1 ∧ e.vD = .slice a2 e.p.defs.length c2 ∧ FragsAt W (.slice a1 e.p.frags.length c1) e.p.frags ∧ DefsAt W (.slice a2 e.p.defs.length c2) e.p.defs := by
  obtain ⟨en, h1, h2⟩ := h
  have hF := h1.fragsAt
  rw [h2] at hF
  obtain ⟨a1, c1, e1⟩ := hF.form
  obtain ⟨a2, c2, e2⟩ := h1.defsAt.form
  exact ⟨a1, c1, a2, c2, e1, e2, e1 ▸ hF, e2 ▸ h1.defsAt⟩

/-- the cells of one of the parts -/
theorem EvI.cells {w W : World} {ad : Option Addr} {cc : Nat} {es : List PEnt} (h : EvI w W (.slice ad es.length cc) es) (k : Nat) (hk : k < es.length) :
    ∃ b off a1 c1 a2 c2, ad = some ⟨b, off, none⟩ ∧ W.cell? ⟨b, off + k * 2, none⟩ = some (.slice a1 (es.getD k pent0).p.frags.length c1) ∧ W.cell? ⟨b, off + k * 2 + 1, none⟩ = some (.slice a2 (es.getD k pent0).p.defs.length c2)
      ∧ FragsAt W (.slice a1 (es.getD k pent0).p.frags.length c1) (es.getD k pent0).p.frags ∧ DefsAt W (.slice a2 (es.getD k pent0).p.defs.length c2) (es.getD k pent0).p.defs := by
  obtain ⟨a1, c1, a2, c2, e1, e2, hF, hD⟩ := (h.parts _ (getD_mem es pent0 k hk)).at
  obtain ⟨b, off, rfl, hc⟩ := (row_slice (k := 2) pent0 pentCells (fun _ => rfl) es h.row).at k hk
  have g0 := hc 0 (by decide)
  have g1 := hc 1 (by decide)
  refine ⟨b, off, a1, c1, a2, c2, rfl, ?_, ?_, hF, hD⟩
  · rw [Nat.add_zero] at g0; rw [g0]; exact congrArg some e1
  · rw [g1]; exact congrArg some e2

theorem checkEach_step (ps : List M.Prt) (k : Nat) (h : k < ps.length) : M.checkEach (ps.drop k) = if M.checkPart (ps.getD k M.nil) = 0 then M.checkEach (ps.drop (k + 1)) else M.checkPart (ps.getD k M.nil) := by
  rw [drop_getD ps M.nil k h]; rfl

theorem evalGo_step (parts out : List M.Prt) (l : List M.Nd) (k : Nat) (h : k < l.length) : M.evalGo parts out (l.drop k) = if (M.join (M.evalLeft out (l.getD k M.nd0)) (M.evalRight parts out (l.getD k M.nd0))).2 = 0 then M.evalGo parts (out ++ [(M.join (M.evalLeft out (l.getD k M.nd0)) (M.evalRight parts out (l.getD k M.nd0))).1]) (l.drop (k + 1)) else ([], (M.join (M.evalLeft out (l.getD k M.nd0)) (M.evalRight parts out (l.getD k M.nd0))).2) := by
  rw [drop_getD l M.nd0 k h]; rfl

set_option maxHeartbeats 8000000 in
set_option maxRecDepth 100000 in
theorem eval_any (l : List M.Nd) (parts : List M.Prt) (a a' : Option Addr) (c c' : Nat) (w : World) (hn : NodesAt w (.slice a l.length c) l) (hp : PartsAt w (.slice a' parts.length c') parts) :
    Calls Try.prog 19 #[.slice a l.length c, .slice a' parts.length c'] w fun e w' => ∃ v, e = .returned (.tuple #[v, .int .i64 (M.eval l parts).2]) ∧ EvOut w w' v (M.eval l parts).1 := by
  obtain ⟨i0, hi0, hz0, hz1, hz2⟩ := info_parts (P := Try.prog) (e := 44) (z := .agg #[.slice none 0 0, .slice none 0 0]) (size := 2) (bytes := 48) (by kernel_rfl)
  have KC : Hid (Calls Try.prog 25 #[.slice a l.length c, .int .i64 parts.length] w fun e w' => e = .returned (.int .i64 (M.checkPlan l parts.length)) ∧ Below w.heap.size w w') := planCheck_any l parts.length a c w hn
  have hpl : parts.length ≤ maxLen := by obtain ⟨_, h, _⟩ := hp; obtain ⟨_, _, _, h⟩ := h.form; exact h
  unfold maxLen at hpl
  have hnil : ∀ W, Below w.heap.size w W → EvOut w W (.slice none 0 0) [] := fun W hW => ⟨hW, [], rfl, World.ownsRow_nil _ _ _ _, fun e he => by cases he⟩
  have HX : Hid (M.eval l parts = if M.checkPlan l parts.length = 0 then (if M.checkEach parts = 0 then M.evalGo parts [] l else ([], M.checkEach parts)) else ([], M.checkPlan l parts.length)) := rfl
  generalize M.eval l parts = R at *
  by_cases hck : M.checkPlan l parts.length = 0
  · obtain ⟨hfew, h23, h0, hfit, _, _⟩ := check_ok hck
    have h12 := (M.fewParts_iff _).1 hfew
    have hbe := behind_of hfit
    have HX1 : Hid (R = if M.checkEach parts = 0 then M.evalGo parts [] l else ([], M.checkEach parts)) := by rw [Hid, HX.out, if_pos hck]
    have HFit : Hid (M.fitsFrom parts.length 0 l = true) := hfit
    have HNP : Hid (∀ W, Below w.heap.size w W → NodesAt W (.slice a l.length c) l ∧ PartsAt W (.slice a' parts.length c') parts) := fun W hW => ⟨hn.later hW, hp.later hW⟩
    rw [hck] at KC
    clear HX hck hn hp hfit hfew
    go_enter Try.func19, Try.ntmps19
    go_wp2_with (go_at_call 25; refine KC.out.mono ?_; rintro e w1 ⟨rfl, hb1⟩)
    have HB1 : Hid (Below w.heap.size w w1) := hb1
    clear hb1 KC
    go_loopw [26] (fun s26 wr => ∃ (k : Nat), k ≤ parts.length ∧ s26 = .int .i64 k ∧ Hid (M.checkEach parts = M.checkEach (parts.drop k)) ∧ Hid (Below w.heap.size w wr)) (fun s26 _ => parts.length - (intOf s26).toNat)
    case atStart => exact ⟨0, Nat.zero_le _, rfl, rfl, HB1⟩
    case round =>
      obtain ⟨k, hk, rfl, HE, HB⟩ := hrel
      clear HB1
      have hw0 : w.heap.size ≤ wr.heap.size := HB.out.size
      by_cases hlt : k < parts.length
      · obtain ⟨cell, hs, hc⟩ := (HNP.out wr HB.out).2
        obtain ⟨b, off, rfl, hce⟩ := hs.at k hlt
        obtain ⟨hF', hD'⟩ := hc k hlt
        have e0 := hce 0 (by decide)
        have e1 := hce 1 (by decide)
        rw [Nat.add_zero] at e0
        obtain ⟨x3, y3, hx3⟩ := hF'.form
        obtain ⟨x4, y4, hx4⟩ := hD'.form
        rw [hx3] at e0 hF'
        rw [hx4] at e1 hD'
        have hbr : b < wr.heap.size := World.block_lt_of_cell? _ _ e0
        have hkl : (k : Int) < (parts.length : Int) := by omega
        have HE1 : Hid (M.checkEach parts = if M.checkPart (parts.getD k M.nil) = 0 then M.checkEach (parts.drop (k + 1)) else M.checkPart (parts.getD k M.nil)) := by rw [Hid, HE.out, checkEach_step parts k hlt]
        clear HE hs hc hce hx3 hx4
        generalize parts.getD k M.nil = q at *
        have HA : Hid (Below wr.heap.size wr (wr.alloc (.cells #[.slice x3 q.frags.length y3, .slice x4 q.defs.length y4] 44))) := (Below.refl _ _).alloc (Nat.le_refl _) _
        have HBA : Hid (Below w.heap.size w (wr.alloc (.cells #[.slice x3 q.frags.length y3, .slice x4 q.defs.length y4] 44))) := HB.out.trans (HA.out.mono hw0)
        have KP : Hid (Calls Try.prog 39 #[.agg #[.slice x3 q.frags.length y3, .slice x4 q.defs.length y4]] (wr.alloc (.cells #[.slice x3 q.frags.length y3, .slice x4 q.defs.length y4] 44)) fun e w' => e = .returned (.int .i64 (M.checkPart q)) ∧ Below (wr.alloc (.cells #[.slice x3 q.frags.length y3, .slice x4 q.defs.length y4] 44)).heap.size (wr.alloc (.cells #[.slice x3 q.frags.length y3, .slice x4 q.defs.length y4] 44)) w') := check_any q.frags q.defs _ _ _ _ _ (hF'.later HA.out) (hD'.later HA.out)
        by_cases hq : M.checkPart q = 0
        · have HE2 : Hid (M.checkEach parts = M.checkEach (parts.drop (k + 1))) := by rw [Hid, HE1.out, if_pos hq]
          rw [hq] at KP
          clear HE1 hF' hD' hq
          go_wp2_with (go_at_call 39; refine KP.out.mono ?_; rintro e x1 ⟨rfl, hx1⟩)
          go_roundw
          case rel => exact ⟨k + 1, by omega, by go_num, HE2, HBA.out.trans (hx1.mono HBA.out.size)⟩
          case measure => simp [intOf]; omega
        · have HR : Hid (R = ([], M.checkPart q)) := by
            have h1 : M.checkEach parts = M.checkPart q := by rw [HE1.out, if_neg hq]
            rw [Hid, HX1.out, h1, if_neg hq]
          have hne : (M.checkPart q != 0) = true := by simpa using hq
          clear HE1 hF' hD' hq HX1
          generalize M.checkPart q = er at *
          go_wp2_with (go_at_call 39; refine KP.out.mono ?_; rintro e x1 ⟨rfl, hx1⟩)
          go_ret2
          exact ⟨.slice none 0 0, by rw [HR.out]; rfl, by rw [HR.out]; exact hnil _ (HBA.out.trans (hx1.mono HBA.out.size))⟩
      · have hkl : k = parts.length := by omega
        have HE1 : M.checkEach parts = 0 := by rw [HE.out, hkl, List.drop_eq_nil_of_le (Nat.le_refl _)]; rfl
        have HX2 : Hid (R = M.evalGo parts [] l) := by rw [Hid, HX1.out, if_pos HE1]
        clear HE HE1 HX1
        subst hkl
        have HBk : Hid (Below w.heap.size w wr) := HB
        go_upto_region 13 with fail
        go_loopw [10, 38] (fun s10 s38 wq => ∃ (k : Nat) (es : List PEnt), k ≤ l.length ∧ s38 = .int .i64 k ∧ Hid (es.length = k) ∧ Hid (EvI w wq s10 es) ∧ Hid (R = M.evalGo parts (es.map (·.p)) (l.drop k))) (fun _ s38 _ => l.length - (intOf s38).toNat)
        case atStart => exact ⟨0, [], Nat.zero_le _, rfl, rfl, ⟨HBk.out, World.ownsRow_nil _ _ _ _, fun e he => by cases he⟩, HX2⟩
        case round =>
          obtain ⟨k, es, hk, rfl, HEl, HI, HG⟩ := hrel
          have hwI := HI.out.below
          have hw0 : w.heap.size ≤ wr.heap.size := hwI.size
          obtain ⟨ad, nn, cc, rfl⟩ := own_form HI.out.row
          have hnn : nn = es.length := by obtain ⟨_, _, e⟩ := own_len HI.out.row; cases e; rfl
          by_cases hlt : k < l.length
          · obtain ⟨b, off, ha, e0, e1, e2⟩ := (HNP.out wr hwI).1.cells k hlt
            have hbk := hbe k hlt
            have hft := fits_at parts.length l 0 k HFit.out hlt
            have HG1 := HG.out
            rw [evalGo_step _ _ _ _ hlt] at HG1
            have hkl : (k : Int) < (l.length : Int) := by omega
            have hbr : b < wr.heap.size := World.block_lt_of_cell? _ _ e0
            subst ha
            unfold M.fits at hft
            generalize l.getD k M.nd0 = n at *
            obtain ⟨x, y, z⟩ := n
            simp only at e0 e1 e2 hbk hft
            clear HG
            have Hnn : Hid (nn = es.length) := hnn
            clear hnn
            go_upto_region 16 with fail
            have hA1 : Below wr.heap.size wr (((wr.alloc (.cells #[.int .i64 x, .int .i64 y, .int .i64 z] 39)).alloc (.cells #[.slice none 0 0, .slice none 0 0] 44)).alloc (.cells #[.slice none 0 0, .slice none 0 0] 44)) := (((Below.refl _ _).alloc (Nat.le_refl _) _).alloc (by simp) _).alloc (by simp; omega) _
            have pn : (((wr.alloc (.cells #[.int .i64 x, .int .i64 y, .int .i64 z] 39)).alloc (.cells #[.slice none 0 0, .slice none 0 0] 44)).alloc (.cells #[.slice none 0 0, .slice none 0 0] 44)).heap[wr.heap.size]? = some (.cells #[.int .i64 x, .int .i64 y, .int .i64 z] 39 (0, 0)) := (heap_alloc_old _ _ (by simp; omega)).trans ((heap_alloc_old _ _ (by simp)).trans (heap_alloc_new _ _))
            have pl : (((wr.alloc (.cells #[.int .i64 x, .int .i64 y, .int .i64 z] 39)).alloc (.cells #[.slice none 0 0, .slice none 0 0] 44)).alloc (.cells #[.slice none 0 0, .slice none 0 0] 44)).heap[wr.heap.size + 1]? = some (.cells #[.slice none 0 0, .slice none 0 0] 44 (0, 0)) := (heap_alloc_old _ _ (by simp)).trans (by
              have := heap_alloc_new (wr.alloc (.cells #[.int .i64 x, .int .i64 y, .int .i64 z] 39)) (.cells #[.slice none 0 0, .slice none 0 0] 44)
              simpa using this)
            have pr : (((wr.alloc (.cells #[.int .i64 x, .int .i64 y, .int .i64 z] 39)).alloc (.cells #[.slice none 0 0, .slice none 0 0] 44)).alloc (.cells #[.slice none 0 0, .slice none 0 0] 44)).heap[wr.heap.size + 1 + 1]? = some (.cells #[.slice none 0 0, .slice none 0 0] 44 (0, 0)) := by
              have := heap_alloc_new ((wr.alloc (.cells #[.int .i64 x, .int .i64 y, .int .i64 z] 39)).alloc (.cells #[.slice none 0 0, .slice none 0 0] 44)) (.cells #[.slice none 0 0, .slice none 0 0] 44)
              simpa using this
            have HY : Hid (Below wr.heap.size wr (((wr.alloc (.cells #[.int .i64 x, .int .i64 y, .int .i64 z] 39)).alloc (.cells #[.slice none 0 0, .slice none 0 0] 44)).alloc (.cells #[.slice none 0 0, .slice none 0 0] 44))) := hA1
            clear e0 e1 e2 hA1
            generalize ((wr.alloc (.cells #[.int .i64 x, .int .i64 y, .int .i64 z] 39)).alloc (.cells #[.slice none 0 0, .slice none 0 0] 44)).alloc (.cells #[.slice none 0 0, .slice none 0 0] 44) = Y at *
            obtain ⟨nl, hnl⟩ : ∃ nl, nl = wr.heap.size + 1 := ⟨_, rfl⟩
            obtain ⟨nr, hnr⟩ : ∃ nr, nr = wr.heap.size + 1 + 1 := ⟨_, rfl⟩
            rw [← hnr] at pr ⊢
            rw [← hnl] at pl ⊢
            have hnb1 : wr.heap.size < nl := by omega
            have hnb2 : wr.heap.size < nr := by omega
            have hlr : nl ≠ nr := by omega
            have hlr' : nr ≠ nl := by omega
            have ln : wr.heap.size < Y.heap.size := (Array.getElem?_eq_some_iff.1 pn).1
            have ll0 : nl < Y.heap.size := (Array.getElem?_eq_some_iff.1 pl).1
            have lr0 : nr < Y.heap.size := (Array.getElem?_eq_some_iff.1 pr).1
            have c0 : Y.cell? ⟨wr.heap.size, 0, none⟩ = some (.int .i64 x) := cellB pn 0
            have c1 : Y.cell? ⟨wr.heap.size, 1, none⟩ = some (.int .i64 y) := cellB pn 1
            have c2 : Y.cell? ⟨wr.heap.size, 2, none⟩ = some (.int .i64 z) := cellB pn 2
            have dl0 : Y.cell? ⟨nl, 0, none⟩ = some (.slice none 0 0) := cellB pl 0
            have dl1 : Y.cell? ⟨nl, 1, none⟩ = some (.slice none 0 0) := cellB pl 1
            have dr0 : Y.cell? ⟨nr, 0, none⟩ = some (.slice none 0 0) := cellB pr 0
            have dr1 : Y.cell? ⟨nr, 1, none⟩ = some (.slice none 0 0) := cellB pr 1
            have fl0 := frozenB pl 0
            have fl1 := frozenB pl 1
            have fr0 := frozenB pr 0
            have fr1 := frozenB pr 1
            have hbn : b < wr.heap.size := hbr
            clear hnl hnr hbr
            cases hx : (x == -1)
            · rw [hx] at hft
              simp only [cond_false, Bool.and_eq_true, decide_eq_true_eq] at hft
              obtain ⟨t, rfl⟩ : ∃ t : Nat, x = (t : Int) := ⟨x.toNat, by omega⟩
              have htl : t < parts.length := by omega
              obtain ⟨cell, hs, hc⟩ := (HNP.out wr hwI).2
              obtain ⟨b2, off2, rfl, hce⟩ := hs.at t htl
              obtain ⟨hF', hD'⟩ := hc t htl
              have e0 := hce 0 (by decide)
              have e1 := hce 1 (by decide)
              rw [Nat.add_zero] at e0
              obtain ⟨r1, s1, hx3⟩ := hF'.form
              obtain ⟨r2, s2, hx4⟩ := hD'.form
              rw [hx3] at e0 hF'
              rw [hx4] at e1 hD'
              have lb2' : b2 < wr.heap.size := World.block_lt_of_cell? _ _ e0
              have lb2 : b2 < Y.heap.size := by omega
              replace e0 := cell_later HY.out e0
              replace e1 := cell_later HY.out e1
              have HLR : M.evalLeft (es.map (·.p)) ⟨(t : Int), y, z⟩ = M.nil ∧ M.evalRight parts (es.map (·.p)) ⟨(t : Int), y, z⟩ = parts.getD t M.nil := ⟨by simp only [M.evalLeft, hx, cond_false], by simp only [M.evalRight, hx, cond_false, Int.toNat_natCast]⟩
              rw [HLR.1, HLR.2] at HG1
              have ht0 : (0 : Int) ≤ (t : Int) := by omega
              have htl' : (t : Int) < (parts.length : Int) := by omega
              clear hs hc hce hx3 hx4 HLR hft hbk
              generalize parts.getD t M.nil = Rt at *
              go_upto_region 19 with fail
              have ql : ((Y.setCell ⟨nr, 0, none⟩ (.slice r1 Rt.frags.length s1)).setCell ⟨nr, 1, none⟩ (.slice r2 Rt.defs.length s2)).heap[nl]? = some (.cells #[.slice none 0 0, .slice none 0 0] 44 (0, 0)) := (Below.heap_setCell _ _ _ _ hlr).trans ((Below.heap_setCell _ _ _ _ hlr).trans pl)
              have qr : ((Y.setCell ⟨nr, 0, none⟩ (.slice r1 Rt.frags.length s1)).setCell ⟨nr, 1, none⟩ (.slice r2 Rt.defs.length s2)).heap[nr]? = some (.cells #[.slice r1 Rt.frags.length s1, .slice r2 Rt.defs.length s2] 44 (0, 0)) := setB' (setB' pr _) _
              have hZ : Below wr.heap.size wr ((Y.setCell ⟨nr, 0, none⟩ (.slice r1 Rt.frags.length s1)).setCell ⟨nr, 1, none⟩ (.slice r2 Rt.defs.length s2)) := (HY.out.setCell (by show wr.heap.size ≤ nr; omega) _).setCell (by show wr.heap.size ≤ nr; omega) _
              have HIZ : Hid (EvI w ((Y.setCell ⟨nr, 0, none⟩ (.slice r1 Rt.frags.length s1)).setCell ⟨nr, 1, none⟩ (.slice r2 Rt.defs.length s2)) (.slice ad nn cc) es) := HI.out.later hZ
              have hR := And.intro (hF'.later hZ) (hD'.later hZ)
              have hL0 : FragsAt ((Y.setCell ⟨nr, 0, none⟩ (.slice r1 Rt.frags.length s1)).setCell ⟨nr, 1, none⟩ (.slice r2 Rt.defs.length s2)) (.slice none M.nil.frags.length 0) M.nil.frags ∧ DefsAt ((Y.setCell ⟨nr, 0, none⟩ (.slice r1 Rt.frags.length s1)).setCell ⟨nr, 1, none⟩ (.slice r2 Rt.defs.length s2)) (.slice none M.nil.defs.length 0) M.nil.defs := ⟨⟨fun _ _ => undef, ⟨none, 0, rfl, Nat.zero_le _, .inl rfl⟩, fun j hj => absurd hj (Nat.not_lt_zero _)⟩, ⟨none, 0, rfl, Nat.zero_le _, .inl rfl⟩, fun d hd => by cases hd⟩
              clear e0 e1 hF' hD' HY HI c0 c1 c2 dl0 dl1 dr0 dr1 fl0 fl1 fr0 fr1 pn pl pr lb2 hZ
              generalize (Y.setCell ⟨nr, 0, none⟩ (.slice r1 Rt.frags.length s1)).setCell ⟨nr, 1, none⟩ (.slice r2 Rt.defs.length s2) = Z at *
              -- what is joined
              have KJ : Hid (∀ W, Below Z.heap.size Z W → Calls Try.prog 16 #[.agg #[.slice none M.nil.frags.length 0, .slice none M.nil.defs.length 0], .agg #[.slice r1 Rt.frags.length s1, .slice r2 Rt.defs.length s2]] W fun e w' =>
                  Below W.heap.size W w' ∧ ∃ es vF vD, e = .returned (.tuple #[.agg #[vF, vD], .int .i64 (M.join M.nil Rt).2]) ∧ PR w' W.heap.size es (M.join M.nil Rt).1.defs vF vD ∧ es.map (·.f) = (M.join M.nil Rt).1.frags) := fun W hW => join_any M.nil Rt _ _ _ _ _ _ _ _ W (hL0.1.later hW) (hL0.2.later hW) (hR.1.later hW) (hR.2.later hW)
              have cl0 : Z.cell? ⟨nl, 0, none⟩ = some (.slice none M.nil.frags.length 0) := cellB ql 0
              have cl1 : Z.cell? ⟨nl, 1, none⟩ = some (.slice none M.nil.defs.length 0) := cellB ql 1
              have cr0 : Z.cell? ⟨nr, 0, none⟩ = some (.slice r1 Rt.frags.length s1) := cellB qr 0
              have cr1 : Z.cell? ⟨nr, 1, none⟩ = some (.slice r2 Rt.defs.length s2) := cellB qr 1
              have ll : nl < Z.heap.size := (Array.getElem?_eq_some_iff.1 ql).1
              have lr : nr < Z.heap.size := (Array.getElem?_eq_some_iff.1 qr).1
              clear hR hL0 ql qr
              generalize M.join M.nil Rt = jn at *
              obtain ⟨jp, je⟩ := jn
              simp only at KJ HG1
              go_upto_region 20 with (go_at_call 16; refine (KJ.out _ (Below.refl _ _)).mono ?_; rintro e x5 ⟨hx5, es5, vF5, vD5, rfl, hP5, hes5⟩; obtain ⟨z1, z2, rfl⟩ := own_len hP5.rowF; obtain ⟨z3, z4, rfl⟩ := own_len hP5.rowD)
              have HI5 : Hid (EvI w x5 (.slice ad nn cc) es) := HIZ.out.later hx5
              have HP5 : Hid (POwn x5 w.heap.size ⟨jp, .slice z1 es5.length z2, .slice z3 jp.defs.length z4⟩) := ⟨es5, hP5.base (Nat.le_trans HIZ.out.below.size (Nat.le_refl _)), hes5⟩
              have hA5 : Below x5.heap.size x5 (x5.alloc (.cells #[.slice z1 es5.length z2, .slice z3 jp.defs.length z4] 44)) := (Below.refl _ _).alloc (Nat.le_refl _) _
              have HI6 : Hid (EvI w (x5.alloc (.cells #[.slice z1 es5.length z2, .slice z3 jp.defs.length z4] 44)) (.slice ad nn cc) es) := HI5.out.later hA5
              have HP6 : Hid (POwn (x5.alloc (.cells #[.slice z1 es5.length z2, .slice z3 jp.defs.length z4] 44)) w.heap.size ⟨jp, .slice z1 es5.length z2, .slice z3 jp.defs.length z4⟩) := by
                obtain ⟨en, h1, h2⟩ := HP5.out
                exact ⟨en, h1.later hA5, h2⟩
              have p6 := heap_alloc_new x5 (.cells #[.slice z1 es5.length z2, .slice z3 jp.defs.length z4] 44)
              clear KJ cl0 cl1 cr0 cr1 ll lr hx5 hP5 hes5 HI5 HP5 hA5 HIZ
              generalize x5.alloc (.cells #[.slice z1 es5.length z2, .slice z3 jp.defs.length z4] 44) = X6 at *
              generalize x5.heap.size = n6 at *
              generalize es5.length = m5 at *
              have k0 : X6.cell? ⟨n6, 0, none⟩ = some (.slice z1 m5 z2) := cellB p6 0
              have k1 : X6.cell? ⟨n6, 1, none⟩ = some (.slice z3 jp.defs.length z4) := cellB p6 1
              have l6 : n6 < X6.heap.size := (Array.getElem?_eq_some_iff.1 p6).1
              by_cases hje : je = 0
              · subst hje
                rw [if_pos rfl] at HG1
                have HG2 : Hid (R = M.evalGo parts ((es ++ [(⟨jp, .slice z1 m5 z2, .slice z3 jp.defs.length z4⟩ : PEnt)]).map (·.p)) (l.drop (k + 1))) := by rw [Hid, List.map_append]; exact HG1
                have hrow := HI6.out.row
                have hwX : w.heap.size ≤ X6.heap.size := HI6.out.below.size
                have hes : es.length ≤ 23 := by have := HEl.out; omega
                generalize hdl : jp.defs.length = md at *
                have HAp : Hid (∀ v' w3, (X6.alloc (.cells #[.slice z1 m5 z2, .slice z3 md z4] 44)).grownBy w3 (Value.slice ad nn cc).ownBlock → w3.ownsRow w.heap.size 44 2 v' (es.length + 1) (es.flatMap pentCells ++ (#[.slice z1 m5 z2, .slice z3 md z4] : Array Value).toList) → EvI w w3 v' (es ++ [⟨jp, .slice z1 m5 z2, .slice z3 md z4⟩])) := fun v' w3 hg ho => by
                  have hb := (Below.refl X6.heap.size X6).alloc (Nat.le_refl _) (.cells #[.slice z1 m5 z2, .slice z3 md z4] 44)
                  obtain ⟨en, h1, h2⟩ := HP6.out
                  exact (HI6.out.later hb).push ⟨en, h1.later hb, h2⟩ hg ho
                have hnews : ∀ j u, (#[.slice z1 m5 z2, .slice z3 md z4] : Array Value).toList[j]? = some u → (X6.alloc (.cells #[.slice z1 m5 z2, .slice z3 md z4] 44)).cell? ((⟨X6.heap.size, 0, none⟩ : Addr).add j) = some u := World.news_of_block (heap_alloc_new X6 _)
                have HEl2 : Hid ((es ++ [(⟨jp, .slice z1 m5 z2, .slice z3 md z4⟩ : PEnt)]).length = k + 1) := by have := HEl.out; simp [Hid, this]
                clear HG1 HI6 HP6 p6
                go_wp2_with (at_builtin; refine wpList_append_own _ rfl _ _ 22 rfl w.heap.size 44 i0 (.agg #[.slice none 0 0, .slice none 0 0]) 2 48 Try.underlying22 hi0 hz0 hz1 hz2 rfl (by decide) _ _ _ rfl (hrow.alloc _) ⟨X6.heap.size, 0, none⟩ 1 1 (#[.slice z1 m5 z2, .slice z3 md z4] : Array Value).toList rfl rfl hnews (fun u hu => by simp at hu; rcases hu with rfl | rfl <;> rfl) (by unfold maxLen; omega) (by omega) (by simp; omega) ?_; intro v' w3 hown' hgrow3 hnil3)
                go_roundw
                case rel => exact ⟨k + 1, _, by omega, by go_num, HEl2, HAp.out _ _ hgrow3 hown', HG2⟩
                case measure => simp [intOf]; omega
              · rw [if_neg hje] at HG1
                have HG2 : Hid (R = ([], je)) := HG1
                have hne : (je != 0) = true := by simpa using hje
                clear HG1 hje
                have HB6 : Hid (Below w.heap.size w X6) := HI6.out.below
                clear HI6 HP6 p6 k0 k1
                go_wp2_with fail
                go_ret2
                exact ⟨.slice none 0 0, by rw [HG2.out]; rfl, by rw [HG2.out]; exact hnil _ HB6.out⟩
            · obtain ⟨⟨hy0', hy1'⟩, hz0', hz1'⟩ := hbk hx
              obtain ⟨p, rfl⟩ : ∃ p : Nat, y = (p : Int) := ⟨y.toNat, by omega⟩
              obtain ⟨q, rfl⟩ : ∃ q : Nat, z = (q : Int) := ⟨z.toNat, by omega⟩
              have hel := HEl.out
              have hnn := Hnn.out
              subst hnn
              obtain ⟨bo, oo, f1, g1, f2, g2, rfl, u0, u1, hF1, hD1⟩ := HI.out.cells p (by omega)
              obtain ⟨bo2, oo2, r1, s1, r2, s2, hoe, v0, v1, hF2, hD2⟩ := HI.out.cells q (by omega)
              cases hoe
              have HLR : M.evalLeft (es.map (·.p)) ⟨x, (p : Int), (q : Int)⟩ = (es.getD p pent0).p ∧ M.evalRight parts (es.map (·.p)) ⟨x, (p : Int), (q : Int)⟩ = (es.getD q pent0).p := by
                have hm : ∀ i, i < es.length → (es.map (·.p)).getD i M.nil = (es.getD i pent0).p := fun i hi => by
                  rw [List.getD_eq_getElem?_getD, List.getD_eq_getElem?_getD, List.getElem?_map, List.getElem?_eq_getElem hi]; rfl
                exact ⟨by simp only [M.evalLeft, hx, cond_true, Int.toNat_natCast]; exact hm p (by omega), by simp only [M.evalRight, hx, cond_true, Int.toNat_natCast]; exact hm q (by omega)⟩
              rw [HLR.1, HLR.2] at HG1
              have lbo : bo < wr.heap.size := World.block_lt_of_cell? _ _ u0
              have lbo' : bo < Y.heap.size := by omega
              replace u0 := cell_later HY.out u0
              replace u1 := cell_later HY.out u1
              replace v0 := cell_later HY.out v0
              replace v1 := cell_later HY.out v1
              have hpl' : (p : Int) < (es.length : Int) := by omega
              have hql' : (q : Int) < (es.length : Int) := by omega
              have hbl : bo ≠ nl := by omega
              have hbr' : bo ≠ nr := by omega
              clear HLR hbk hft hel
              generalize (es.getD p pent0).p = Lt at *
              generalize (es.getD q pent0).p = Rt at *
              have HELn : Hid (es.length ≤ 23) := by have := HEl.out; rw [Hid]; omega
              obtain ⟨nn, hnne⟩ : ∃ nn, es.length = nn := ⟨_, rfl⟩
              have Hnne : Hid (es.length = nn) := hnne
              rw [hnne] at hpl' hql' ⊢
              clear hnne
              go_upto_region 17 with fail
              go_big_region
              have ql : (((((Y.setCell ⟨nl, 0, none⟩ (.slice f1 Lt.frags.length g1)).setCell ⟨nl, 1, none⟩ (.slice f2 Lt.defs.length g2)).setCell ⟨nr, 0, none⟩ (.slice r1 Rt.frags.length s1)).setCell ⟨nr, 1, none⟩ (.slice r2 Rt.defs.length s2)).drew).heap[nl]? = some (.cells #[.slice f1 Lt.frags.length g1, .slice f2 Lt.defs.length g2] 44 (0, 0)) := (Below.heap_setCell _ _ _ _ hlr).trans ((Below.heap_setCell _ _ _ _ hlr).trans (setB' (setB' pl _) _))
              have qr : (((((Y.setCell ⟨nl, 0, none⟩ (.slice f1 Lt.frags.length g1)).setCell ⟨nl, 1, none⟩ (.slice f2 Lt.defs.length g2)).setCell ⟨nr, 0, none⟩ (.slice r1 Rt.frags.length s1)).setCell ⟨nr, 1, none⟩ (.slice r2 Rt.defs.length s2)).drew).heap[nr]? = some (.cells #[.slice r1 Rt.frags.length s1, .slice r2 Rt.defs.length s2] 44 (0, 0)) := setB' (setB' ((Below.heap_setCell _ _ _ _ hlr').trans ((Below.heap_setCell _ _ _ _ hlr').trans pr)) _) _
              have hZ : Below wr.heap.size wr ((((Y.setCell ⟨nl, 0, none⟩ (.slice f1 Lt.frags.length g1)).setCell ⟨nl, 1, none⟩ (.slice f2 Lt.defs.length g2)).setCell ⟨nr, 0, none⟩ (.slice r1 Rt.frags.length s1)).setCell ⟨nr, 1, none⟩ (.slice r2 Rt.defs.length s2)).drew := ((((HY.out.setCell (by show wr.heap.size ≤ nl; omega) _).setCell (by show wr.heap.size ≤ nl; omega) _).setCell (by show wr.heap.size ≤ nr; omega) _).setCell (by show wr.heap.size ≤ nr; omega) _).drew
              have HIZ : Hid (EvI w ((((Y.setCell ⟨nl, 0, none⟩ (.slice f1 Lt.frags.length g1)).setCell ⟨nl, 1, none⟩ (.slice f2 Lt.defs.length g2)).setCell ⟨nr, 0, none⟩ (.slice r1 Rt.frags.length s1)).setCell ⟨nr, 1, none⟩ (.slice r2 Rt.defs.length s2)).drew (.slice (some ⟨bo, oo, none⟩) nn cc) es) := by
                have := HI.out.later hZ
                rwa [Hnne.out] at this
              have hR := And.intro (hF2.later hZ) (hD2.later hZ)
              have hL0 := And.intro (hF1.later hZ) (hD1.later hZ)
              clear u0 u1 v0 v1 hF1 hD1 hF2 hD2 HY HI c0 c1 c2 dl0 dl1 dr0 dr1 fl0 fl1 fr0 fr1 pn pl pr hZ
              generalize ((((Y.setCell ⟨nl, 0, none⟩ (.slice f1 Lt.frags.length g1)).setCell ⟨nl, 1, none⟩ (.slice f2 Lt.defs.length g2)).setCell ⟨nr, 0, none⟩ (.slice r1 Rt.frags.length s1)).setCell ⟨nr, 1, none⟩ (.slice r2 Rt.defs.length s2)).drew = Z at *
              obtain ⟨ad, had⟩ : ∃ ad, ad = some (⟨bo, oo, none⟩ : Addr) := ⟨_, rfl⟩
              rw [← had] at HIZ ⊢
              clear had
              -- what is joined
              have KJ : Hid (∀ W, Below Z.heap.size Z W → Calls Try.prog 16 #[.agg #[.slice f1 Lt.frags.length g1, .slice f2 Lt.defs.length g2], .agg #[.slice r1 Rt.frags.length s1, .slice r2 Rt.defs.length s2]] W fun e w' =>
                  Below W.heap.size W w' ∧ ∃ es vF vD, e = .returned (.tuple #[.agg #[vF, vD], .int .i64 (M.join Lt Rt).2]) ∧ PR w' W.heap.size es (M.join Lt Rt).1.defs vF vD ∧ es.map (·.f) = (M.join Lt Rt).1.frags) := fun W hW => join_any Lt Rt _ _ _ _ _ _ _ _ W (hL0.1.later hW) (hL0.2.later hW) (hR.1.later hW) (hR.2.later hW)
              have cl0 : Z.cell? ⟨nl, 0, none⟩ = some (.slice f1 Lt.frags.length g1) := cellB ql 0
              have cl1 : Z.cell? ⟨nl, 1, none⟩ = some (.slice f2 Lt.defs.length g2) := cellB ql 1
              have cr0 : Z.cell? ⟨nr, 0, none⟩ = some (.slice r1 Rt.frags.length s1) := cellB qr 0
              have cr1 : Z.cell? ⟨nr, 1, none⟩ = some (.slice r2 Rt.defs.length s2) := cellB qr 1
              have ll : nl < Z.heap.size := (Array.getElem?_eq_some_iff.1 ql).1
              have lr : nr < Z.heap.size := (Array.getElem?_eq_some_iff.1 qr).1
              clear hR hL0 ql qr
              generalize M.join Lt Rt = jn at *
              obtain ⟨jp, je⟩ := jn
              simp only at KJ HG1
              go_upto_region 20 with (go_at_call 16; refine (KJ.out _ (Below.refl _ _)).mono ?_; rintro e x5 ⟨hx5, es5, vF5, vD5, rfl, hP5, hes5⟩; obtain ⟨z1, z2, rfl⟩ := own_len hP5.rowF; obtain ⟨z3, z4, rfl⟩ := own_len hP5.rowD)
              have HI5 : Hid (EvI w x5 (.slice ad nn cc) es) := HIZ.out.later hx5
              have HP5 : Hid (POwn x5 w.heap.size ⟨jp, .slice z1 es5.length z2, .slice z3 jp.defs.length z4⟩) := ⟨es5, hP5.base (Nat.le_trans HIZ.out.below.size (Nat.le_refl _)), hes5⟩
              have hA5 : Below x5.heap.size x5 (x5.alloc (.cells #[.slice z1 es5.length z2, .slice z3 jp.defs.length z4] 44)) := (Below.refl _ _).alloc (Nat.le_refl _) _
              have HI6 : Hid (EvI w (x5.alloc (.cells #[.slice z1 es5.length z2, .slice z3 jp.defs.length z4] 44)) (.slice ad nn cc) es) := HI5.out.later hA5
              have HP6 : Hid (POwn (x5.alloc (.cells #[.slice z1 es5.length z2, .slice z3 jp.defs.length z4] 44)) w.heap.size ⟨jp, .slice z1 es5.length z2, .slice z3 jp.defs.length z4⟩) := by
                obtain ⟨en, h1, h2⟩ := HP5.out
                exact ⟨en, h1.later hA5, h2⟩
              have p6 := heap_alloc_new x5 (.cells #[.slice z1 es5.length z2, .slice z3 jp.defs.length z4] 44)
              clear KJ cl0 cl1 cr0 cr1 ll lr hx5 hP5 hes5 HI5 HP5 hA5 HIZ
              generalize x5.alloc (.cells #[.slice z1 es5.length z2, .slice z3 jp.defs.length z4] 44) = X6 at *
              generalize x5.heap.size = n6 at *
              generalize es5.length = m5 at *
              have k0 : X6.cell? ⟨n6, 0, none⟩ = some (.slice z1 m5 z2) := cellB p6 0
              have k1 : X6.cell? ⟨n6, 1, none⟩ = some (.slice z3 jp.defs.length z4) := cellB p6 1
              have l6 : n6 < X6.heap.size := (Array.getElem?_eq_some_iff.1 p6).1
              by_cases hje : je = 0
              · subst hje
                rw [if_pos rfl] at HG1
                have HG2 : Hid (R = M.evalGo parts ((es ++ [(⟨jp, .slice z1 m5 z2, .slice z3 jp.defs.length z4⟩ : PEnt)]).map (·.p)) (l.drop (k + 1))) := by rw [Hid, List.map_append]; exact HG1
                have hrow := HI6.out.row
                have hwX : w.heap.size ≤ X6.heap.size := HI6.out.below.size
                have hes : es.length ≤ 23 := by have := HEl.out; omega
                generalize hdl : jp.defs.length = md at *
                have HAp : Hid (∀ v' w3, (X6.alloc (.cells #[.slice z1 m5 z2, .slice z3 md z4] 44)).grownBy w3 (Value.slice ad nn cc).ownBlock → w3.ownsRow w.heap.size 44 2 v' (es.length + 1) (es.flatMap pentCells ++ (#[.slice z1 m5 z2, .slice z3 md z4] : Array Value).toList) → EvI w w3 v' (es ++ [⟨jp, .slice z1 m5 z2, .slice z3 md z4⟩])) := fun v' w3 hg ho => by
                  have hb := (Below.refl X6.heap.size X6).alloc (Nat.le_refl _) (.cells #[.slice z1 m5 z2, .slice z3 md z4] 44)
                  obtain ⟨en, h1, h2⟩ := HP6.out
                  exact (HI6.out.later hb).push ⟨en, h1.later hb, h2⟩ hg ho
                have hnews : ∀ j u, (#[.slice z1 m5 z2, .slice z3 md z4] : Array Value).toList[j]? = some u → (X6.alloc (.cells #[.slice z1 m5 z2, .slice z3 md z4] 44)).cell? ((⟨X6.heap.size, 0, none⟩ : Addr).add j) = some u := World.news_of_block (heap_alloc_new X6 _)
                have HEl2 : Hid ((es ++ [(⟨jp, .slice z1 m5 z2, .slice z3 md z4⟩ : PEnt)]).length = k + 1) := by have := HEl.out; simp [Hid, this]
                clear HG1 HI6 HP6 p6
                go_wp2_with (at_builtin; refine wpList_append_own _ rfl _ _ 22 rfl w.heap.size 44 i0 (.agg #[.slice none 0 0, .slice none 0 0]) 2 48 Try.underlying22 hi0 hz0 hz1 hz2 rfl (by decide) _ _ _ rfl (hrow.alloc _) ⟨X6.heap.size, 0, none⟩ 1 1 (#[.slice z1 m5 z2, .slice z3 md z4] : Array Value).toList rfl rfl hnews (fun u hu => by simp at hu; rcases hu with rfl | rfl <;> rfl) (by unfold maxLen; omega) (by omega) (by simp; omega) ?_; intro v' w3 hown' hgrow3 hnil3)
                go_roundw
                case rel => exact ⟨k + 1, _, by omega, by go_num, HEl2, HAp.out _ _ hgrow3 hown', HG2⟩
                case measure => simp [intOf]; omega
              · rw [if_neg hje] at HG1
                have HG2 : Hid (R = ([], je)) := HG1
                have hne : (je != 0) = true := by simpa using hje
                clear HG1 hje
                have HB6 : Hid (Below w.heap.size w X6) := HI6.out.below
                clear HI6 HP6 p6 k0 k1
                go_wp2_with fail
                go_ret2
                exact ⟨.slice none 0 0, by rw [HG2.out]; rfl, by rw [HG2.out]; exact hnil _ HB6.out⟩
          · have hkl : k = l.length := by omega
            have HG1 : Hid (R = (es.map (·.p), 0)) := by rw [Hid, HG.out, hkl, List.drop_eq_nil_of_le (Nat.le_refl _)]; rfl
            have HO : Hid (EvOut w wr (.slice ad nn cc) (es.map (·.p))) := ⟨hwI, es, rfl, HI.out.row, HI.out.parts⟩
            clear HG hnn
            subst hkl
            go_wp2
            go_ret2
            exact ⟨.slice ad nn cc, by rw [HG1.out]; rfl, by rw [HG1.out]; exact HO.out⟩
  · have HR : Hid (R = ([], M.checkPlan l parts.length)) := by rw [Hid, HX.out, if_neg hck]
    have hne : (M.checkPlan l parts.length != 0) = true := by simpa using hck
    clear HX hck
    generalize M.checkPlan l parts.length = er at *
    go_enter Try.func19, Try.ntmps19
    go_wp2_with (go_at_call 25; refine KC.out.mono ?_; rintro e w1 ⟨rfl, hb1⟩)
    go_ret2
    exact ⟨.slice none 0 0, by rw [HR.out]; rfl, by rw [HR.out]; exact hnil _ hb1⟩

end Go.Proofs.Ytmlojlbmfceogaa
