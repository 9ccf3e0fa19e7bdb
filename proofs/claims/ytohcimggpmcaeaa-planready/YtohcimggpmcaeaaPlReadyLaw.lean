/-
  The law PlanReady: whatever the number of parts, the picks and the order, it returns true.
-/
import Derived.Test.YtohcimggpmcaeaaPlMakesLaw
import Derived.Test.YtohcimggpmcaeaaPlRdMath
namespace Go.Proofs.Ytohcimggpmcaeaa
open Go Go.RowKit
set_option linter.unusedVariables false

theorem lawAt_any (n m : Int) (w : World) (h1 : 1 ≤ m) (h2 : m ≤ 1000) :
    Calls Try.prog 13 #[.int .i64 n, .int .i64 m] w fun e w' => e = .returned (.int .i64 (n % m)) ∧ w = w' := by
  have hn0 : (m == 0) = false := by rw [beq_eq_false_iff_ne]; omega
  have HM : Hid (n % m = if n.tmod m < 0 then n.tmod m + m else n.tmod m) := tmod_emod n m (by omega)
  have hr : -1000 ≤ n.tmod m ∧ n.tmod m ≤ 1000 := by
    have h2 : (n.tmod m).natAbs < m.natAbs := by
      rw [Int.natAbs_tmod]
      exact Nat.mod_lt _ (by omega)
    omega
  by_cases hneg : n.tmod m < 0
  · have HV : Hid (n.tmod m + m = n % m) := by rw [Hid, HM.out, if_pos hneg]
    clear HM
    go_enter Try.func13, Try.ntmps13
    go_wp2_with fail
    go_ret
    exact ⟨ret_int HV.out, rfl⟩
  · have HV : Hid (n.tmod m = n % m) := by rw [Hid, HM.out, if_neg hneg]
    clear HM
    go_enter Try.func13, Try.ntmps13
    go_wp2_with fail
    go_ret
    exact ⟨ret_int HV.out, rfl⟩

theorem ready_v (l : List M.Nd) (parts : Int) (d : List Bool) (a a' : Option Addr) (c c' : Nat) (w : World) (hn : NodesAt w (.slice a l.length c) l) (hd : BoolsAt w (.slice a' l.length c') d) (hl : d.length = l.length) (hck : M.checkPlan l parts = 0) :
    Calls Try.prog 11 #[.slice a l.length c, .int .i64 parts, .slice a' l.length c'] w fun e w' => Below w.heap.size w w' ∧ ∃ b k, e = .returned (.tuple #[.slice b (M.ready l d).length k, .int .i64 0]) ∧ IntsAt w' (.slice b (M.ready l d).length k) (M.ready l d) := by
  have hE : M.readyE l parts d = 0 := by rw [M.readyE, if_pos hck, if_pos hl]
  have := ready_any l parts d a a' c c' w hn (by rw [hl]; exact hd)
  rw [hl] at this
  refine this.mono fun e w' ⟨h1, v, h2, h3⟩ => ?_
  rw [hE, if_pos rfl] at h3
  rw [hE] at h2
  obtain ⟨b, k, rfl⟩ := own_len h3
  exact ⟨h1, b, k, h2, row_ints h3⟩

def encTP (l : List Bool) : List Value := l.map Value.bool
theorem made_boolsP (n : Nat) : (madeCells (Value.bool false).cells (n * 1)).toList = encTP (List.replicate n false) := by
  refine List.ext_getElem (by simp [madeCells, encTP]) fun i h1 h2 => ?_
  simp [madeCells, Value.cells, Nat.mod_one, encTP]
theorem encTP_set (l : List Bool) (k : Nat) (b : Bool) : (encTP l).toArray.setIfInBounds k (Value.bool b) = (encTP (l.set k b)).toArray := by
  unfold encTP
  rw [List.map_set]; simp
theorem encTP_cell {w : World} {G : Nat} {l : List Bool} {t : TypeId} (h : w.heap[G]? = some (.cells (encTP l).toArray t (0, 0))) {k : Nat} (hk : k < l.length) : w.cell? ⟨G, k, none⟩ = some (.bool (l.getD k false)) := by
  rw [cellB h]
  simp [encTP, hk]

theorem leaf_of {l : List M.Nd} {parts : Int} (h : M.fitsFrom parts 0 l = true) {q : Nat} (hq : q < l.length) (hx : ((l.getD q M.nd0).leaf == -1) = false) : 0 ≤ (l.getD q M.nd0).leaf := by
  have := fits_at parts l 0 q h hq
  unfold M.fits at this
  rw [hx] at this
  simp only [cond_false, Bool.and_eq_true, decide_eq_true_eq] at this
  exact this.1.1.1

set_option maxHeartbeats 8000000 in
set_option maxRecDepth 100000 in
theorem ready_law (n : Int) (picks order : List Int) (a1 a2 : Option Addr) (c1 c2 : Nat) (w : World) (h1 : IntsAt w (.slice a1 picks.length c1) picks) (h2 : IntsAt w (.slice a2 order.length c2) order) :
    Calls Try.prog 4 #[.int .i64 n, .slice a1 picks.length c1, .slice a2 order.length c2] w fun e w' => e = .returned (.bool true) ∧ Below w.heap.size w w' := by
  have KM := make_v n picks a1 c1 w h1
  have hol : order.length ≤ maxLen := by obtain ⟨_, _, _, h⟩ := SlAt.form h2; exact h
  unfold maxLen at hol
  by_cases hE : M.makeE n picks = 0
  · obtain ⟨k, rfl, hk1, hk12, hp23, hmk⟩ := make_ok hE
    rw [hE, hmk] at KM
    have HT : Hid (M.IsT k (M.makeL k picks) 0 (M.rise 0 k)) := M.makeL_t k picks hk1
    have hsz := M.t_size HT.out
    generalize hL : M.makeL k picks = l at *
    have KM : Hid (Calls Try.prog 6 #[.int .i64 k, .slice a1 picks.length c1] w fun e w' => Below w.heap.size w w' ∧ ∃ a c, e = .returned (.tuple #[.slice a l.length c, .int .i64 0]) ∧ NodesAt w' (.slice a l.length c) l ∧ l.length ≤ c) := KM
    have HK1 : Hid (M.checkPlan l k = 0) := M.t_check HT.out hk1 hk12
    have HFt : Hid (M.fitsFrom k 0 l = true) := (check_ok HK1.out).2.2.2.1
    have HBe : Hid (Behind l) := behind_of HFt.out
    have HI : Hid (∀ W, Below w.heap.size w W → IntsAt W (.slice a2 order.length c2) order) := fun W hW => h2.later hW
    have hl23 : l.length ≤ 23 := by omega
    have hl1 : 1 ≤ l.length := by omega
    clear h1 h2 hE hmk HT hL hsz
    go_enter Try.func4, Try.ntmps4
    go_upto_region 2 with (go_at_call 6; refine KM.out.mono ?_; rintro e w1 ⟨hb1, a3, c3, rfl, hN, hc3⟩)
    have HB1 : Hid (Below w.heap.size w w1) := hb1
    have HN1 : Hid (NodesAt w1 (.slice a3 l.length c3) l) := hN
    clear hb1 hN KM
    have KP : Hid (∀ W, Calls Try.prog 7 #[] W fun e w' => e = .returned (.bool true) ∧ Below W.heap.size W w') := fun W => planned_true W
    go_upto_region 4 with (go_at_call 7; refine (KP.out _).mono ?_; rintro e w2 ⟨rfl, hb2⟩)
    have HB2 : Hid (Below w.heap.size w w2) := HB1.out.trans (hb2.mono HB1.out.size)
    have HN2 : Hid (NodesAt w2 (.slice a3 l.length c3) l) := HN1.out.later hb2
    clear hb2 HB1 HN1 KP
    obtain ⟨i1, hi1, hy0, hy1, hy2⟩ := info_parts (P := Try.prog) (e := 4) (z := .bool false) (size := 1) (bytes := 1) (by kernel_rfl)
    obtain ⟨Z1, hmk, hrow, hgr⟩ := run_makeSlice_full w2 w2.heap.size 34 4 i1 (.bool false) 1 Try.underlying34 hi1 hy0 hy1 .i64 .i64 l.length (by omega) (by rw [hy2]; omega) (by unfold maxLen; omega) (Nat.le_refl _)
    have hB1 : Below w2.heap.size w2 Z1 := (Below.refl _ _).grown hgr (Nat.le_refl _) (fun k hk => by cases hk)
    have hG1 : Z1.heap[w2.heap.size]? = some (.cells (encTP (List.replicate l.length false)).toArray 4 (0, 0)) := by
      rcases hrow.2 with ⟨h1, _⟩ | ⟨g', cap, cur, h1, _, h2, _, _, h5, h6⟩
      · cases h1
      · cases h1
        rw [made_boolsP] at h6
        have : cur.toList = encTP (List.replicate l.length false) := by
          have hcl : cur.toList.length = l.length := by simpa using h5
          rw [List.take_of_length_le (by rw [hcl]; simp)] at h6
          exact h6
        rw [← this]
        exact h2
    have HG1 : Hid (Z1.heap[w2.heap.size]? = some (.cells (encTP (List.replicate l.length false)).toArray 4 (0, 0))) := hG1
    have HB1 : Hid (Below w2.heap.size w2 Z1) := hB1
    clear hrow hgr hB1 hG1
    go_upto_region 6 with fail
    clear hmk hi1 hy0 hy1 hy2
    go_loopw [34] (fun s34 wr => ∃ (j : Nat) (d : List Bool), j ≤ l.length ∧ s34 = .int .i64 j ∧ d.length = l.length ∧ Hid (d.count true = j) ∧ Hid (Below w2.heap.size w2 wr) ∧ Hid (wr.heap[w2.heap.size]? = some (.cells (encTP d).toArray 4 (0, 0)))) (fun s34 _ => l.length - (intOf s34).toNat)
    case atStart => exact ⟨0, _, Nat.zero_le _, rfl, List.length_replicate .., (by show List.count true (List.replicate l.length false) = 0; rw [List.count_replicate]; rfl), HB1, HG1⟩
    case round =>
      obtain ⟨j, d, hj, rfl, hdl0, HCt, HBr, HG⟩ := hrel
      clear HB1 HG1
      have Hdl : Hid (d.length = l.length) := hdl0
      have HD : Hid (BoolsAt wr (.slice (some ⟨w2.heap.size, 0, none⟩) l.length l.length) d) := by
        have := bools_block (l := d) (c := l.length) HG.out rfl (by omega)
        rwa [hdl0] at this
      have KR : Hid (Calls Try.prog 11 #[.slice a3 l.length c3, .int .i64 k, .slice (some ⟨w2.heap.size, 0, none⟩) l.length l.length] wr fun e w' => Below wr.heap.size wr w' ∧ ∃ b k, e = .returned (.tuple #[.slice b (M.ready l d).length k, .int .i64 0]) ∧ IntsAt w' (.slice b (M.ready l d).length k) (M.ready l d)) := ready_v l k d a3 _ c3 l.length wr (HN2.out.later HBr.out) HD.out hdl0 HK1.out
      clear HD
      by_cases hlt : j < l.length
      · have hrne := ready_some HBe.out hdl0 (by rw [HCt.out]; exact hlt)
        have hrl : (M.ready l d).length ≤ l.length := readyUpto_len l d l.length
        have HRise : Hid (∀ k, k + 1 < (M.ready l d).length → (M.ready l d).getD k 0 ≤ (M.ready l d).getD (k + 1) 0) := ready_rises l d
        have HRm : Hid (∀ t, t < (M.ready l d).length → ∃ q : Nat, (M.ready l d).getD t 0 = (q : Int) ∧ q < l.length ∧ M.readyAt l d q = true) := fun t ht => ready_mem (getD_mem _ 0 t ht)
        have hr1 : 1 ≤ (M.ready l d).length := by
          cases h : M.ready l d with
          | nil => exact absurd h hrne
          | cons x xs => simp
        clear hrne hdl0
        generalize M.ready l d = r at *
        have hjl : (j : Int) < (l.length : Int) := by omega
        go_upto_region 9 with (go_at_call 11; refine KR.out.mono ?_; rintro e w3 ⟨hb3, b4, c4, rfl, hi3⟩)
        have KS : Hid (Calls Try.prog 12 #[.slice b4 r.length c4] w3 fun e w' => e = .returned (.bool true) ∧ Below w3.heap.size w3 w') := sortedI_any r b4 c4 w3 hi3 HRise.out
        have hr0 : ((r.length : Int) == 0) = false := by rw [beq_eq_false_iff_ne]; omega
        have Hb3 : Hid (Below wr.heap.size wr w3) := hb3
        have Hi3 : Hid (IntsAt w3 (.slice b4 r.length c4) r) := hi3
        clear KR HRise hb3 hi3
        go_upto_region 12 with (go_at_call 12; refine KS.out.mono ?_; rintro e w4 ⟨rfl, hb4⟩)
        have hb4r : Below wr.heap.size wr w4 := Hb3.out.trans (hb4.mono Hb3.out.size)
        have hi4 : IntsAt w4 (.slice b4 r.length c4) r := Hi3.out.later hb4
        have HNr : Hid (∀ W, Below wr.heap.size wr W → NodesAt W (.slice a3 l.length c3) l) := fun W hW => HN2.out.later (HBr.out.trans (hW.mono HBr.out.size))
        have hdl : d.length = l.length := Hdl.out
        clear KS Hb3 Hi3 hb4
        have Hdl2 : Hid (d.length = l.length) := hdl
        by_cases hor : 0 < order.length
        · have hor' : (0 : Int) < (order.length : Int) := by omega
          obtain ⟨p2, hp2, hp2l⟩ : ∃ p2 : Nat, (j : Int).tmod (order.length : Int) = (p2 : Int) ∧ p2 < order.length := ⟨j % order.length, by rw [Int.tmod_eq_emod_of_nonneg (by omega)]; omega, Nat.mod_lt _ hor⟩
          have hp3 : (j : Int) % (order.length : Int) = (p2 : Int) := by rw [← hp2, Int.tmod_eq_emod_of_nonneg (by omega)]
          have ho0 : ((order.length : Int) == 0) = false := by rw [beq_eq_false_iff_ne]; omega
          have hbw4 : Below w.heap.size w w4 := HB2.out.trans ((HBr.out.trans (hb4r.mono HBr.out.size)).mono HB2.out.size)
          obtain ⟨b6, o6, rfl, e6, lb6⟩ := (HI.out w4 hbw4).cell p2 hp2l
          have hp20 : (0 : Int) ≤ (p2 : Int) := by omega
          have hp2i : (p2 : Int) < (order.length : Int) := by omega
          generalize order.getD p2 0 = ox at *
          obtain ⟨t, ht, htl⟩ : ∃ t : Nat, ox % (r.length : Int) = (t : Int) ∧ t < r.length := ⟨(ox % (r.length : Int)).toNat, by have := Int.emod_nonneg ox (show (r.length : Int) ≠ 0 by omega); omega, by have := Int.emod_nonneg ox (show (r.length : Int) ≠ 0 by omega); have := Int.emod_lt_of_pos ox (show (0 : Int) < (r.length : Int) by omega); omega⟩
          have KA : Hid (Calls Try.prog 13 #[.int .i64 ox, .int .i64 r.length] w4 fun e w' => e = .returned (.int .i64 t) ∧ w4 = w') := (lawAt_any ox r.length w4 (by omega) (by omega)).mono fun e w' ⟨g1, g2⟩ => ⟨by rw [g1, ht], g2⟩
          clear ht hbw4 hdl
          go_upto_region 14 with (go_at_call 13; refine KA.out.mono ?_; rintro e w5 ⟨rfl, rfl⟩)
          have hdl : d.length = l.length := Hdl2.out
          obtain ⟨b4', o4, hb4e, e4, _⟩ := hi4.cell t htl
          subst hb4e
          clear KA hp2 hp3 e6 lb6
          have ht0 : (0 : Int) ≤ (t : Int) := by omega
          have htl' : (t : Int) < (r.length : Int) := by omega
          -- the node that is done
          obtain ⟨q, hxq, hql, hrq⟩ := HRm.out t (by omega)
          have g4 := e4
          rw [hxq] at g4
          clear hxq
          obtain ⟨b5, o5, ha3, n0, n1, n2⟩ := (HNr.out w4 hb4r).cells q hql
          subst ha3
          have hlf := leaf_of HFt.out hql
          have hbk := HBe.out q hql
          unfold M.readyAt at hrq
          have dq : d.getD q false = false := by
            cases h : d.getD q false
            · rfl
            · rw [h] at hrq; simp at hrq
          rw [dq] at hrq
          have G4 := (hb4r.block _ (Array.getElem?_eq_some_iff.1 HG.out).1).trans HG.out
          have dcq : w4.cell? ⟨w2.heap.size, q, none⟩ = some (.bool false) := by rw [encTP_cell G4 (by omega), dq]
          have dfq := frozenB G4 q
          have hDc : ∀ i, i < l.length → w4.cell? ⟨w2.heap.size, i, none⟩ = some (.bool (d.getD i false)) := fun i hi => encTP_cell G4 (by omega)
          have HEnd : Hid (Below w2.heap.size w2 (w4.setCell ⟨w2.heap.size, q, none⟩ (.bool true)) ∧ (w4.setCell ⟨w2.heap.size, q, none⟩ (.bool true)).heap[w2.heap.size]? = some (.cells (encTP (d.set q true)).toArray 4 (0, 0))) :=
            ⟨(HBr.out.trans (hb4r.mono HBr.out.size)).setCell (Nat.le_refl _) _, by rw [setB' G4, encTP_set]⟩
          have HCn : Hid ((d.set q true).count true = j + 1) := by rw [Hid, count_done (by omega) dq, HCt.out]
          have lG : w2.heap.size < w4.heap.size := (Array.getElem?_eq_some_iff.1 G4).1
          have lb5 : b5 < w4.heap.size := World.block_lt_of_cell? _ _ n0
          have lb4 : b4' < w4.heap.size := World.block_lt_of_cell? _ _ e4
          have hq0 : (0 : Int) ≤ (q : Int) := by omega
          have hq1 : (q : Int) < (l.length : Int) := by omega
          have hqn : ¬ (q : Int) < 0 := by omega
          have hqg : ¬ (l.length : Int) ≤ (q : Int) := by omega
          clear e4 HG G4 HRm HNr HBr hi4 hb4r HCt
          generalize l.getD q M.nd0 = nd at *
          obtain ⟨x, y, z⟩ := nd
          simp only at n0 n1 n2 hlf hbk hrq
          cases hx : (x == -1)
          · have hxn : ¬ x < 0 := by have := hlf hx; omega
            clear hDc hbk hlf hrq
            go_wp2_with fail
            go_roundw
            case rel => exact ⟨j + 1, d.set q true, by omega, by go_num, by simp [hdl], HCn, HEnd.out.1, HEnd.out.2⟩
            case measure => simp [intOf]; omega
          · have hxn : x < 0 := by have h := beq_iff_eq.1 hx; omega
            obtain ⟨⟨hy0', hy1'⟩, hz0', hz1'⟩ := hbk hx
            obtain ⟨p, rfl⟩ : ∃ p : Nat, y = (p : Int) := ⟨y.toNat, by omega⟩
            obtain ⟨q', rfl⟩ : ∃ q' : Nat, z = (q' : Int) := ⟨z.toNat, by omega⟩
            rw [hx] at hrq
            simp only [Int.toNat_natCast, Bool.not_true, Bool.false_or, Bool.not_false, Bool.true_and, Bool.and_eq_true] at hrq
            have gp := hDc p (by omega)
            have gq := hDc q' (by omega)
            rw [hrq.1] at gp
            rw [hrq.2] at gq
            have hpl : (p : Int) < (l.length : Int) := by omega
            have hql' : (q' : Int) < (l.length : Int) := by omega
            clear hDc hbk hlf hrq hx
            go_wp2_with fail
            go_roundw
            case rel => exact ⟨j + 1, d.set q true, by omega, by go_num, by simp [hdl], HCn, HEnd.out.1, HEnd.out.2⟩
            case measure => simp [intOf]; omega
        · have hor' : ¬ (0 : Int) < (order.length : Int) := by omega
          clear hdl
          go_upto_region 14 with fail
          have hdl : d.length = l.length := Hdl2.out
          obtain ⟨b4', o4, hb4e, e4, _⟩ := hi4.cell 0 (by omega)
          subst hb4e
          rw [Nat.add_zero] at e4
          have htl' : (0 : Int) < (r.length : Int) := by omega
          -- the node that is done
          obtain ⟨q, hxq, hql, hrq⟩ := HRm.out 0 (by omega)
          have g4 := e4
          rw [hxq] at g4
          clear hxq
          obtain ⟨b5, o5, ha3, n0, n1, n2⟩ := (HNr.out w4 hb4r).cells q hql
          subst ha3
          have hlf := leaf_of HFt.out hql
          have hbk := HBe.out q hql
          unfold M.readyAt at hrq
          have dq : d.getD q false = false := by
            cases h : d.getD q false
            · rfl
            · rw [h] at hrq; simp at hrq
          rw [dq] at hrq
          have G4 := (hb4r.block _ (Array.getElem?_eq_some_iff.1 HG.out).1).trans HG.out
          have dcq : w4.cell? ⟨w2.heap.size, q, none⟩ = some (.bool false) := by rw [encTP_cell G4 (by omega), dq]
          have dfq := frozenB G4 q
          have hDc : ∀ i, i < l.length → w4.cell? ⟨w2.heap.size, i, none⟩ = some (.bool (d.getD i false)) := fun i hi => encTP_cell G4 (by omega)
          have HEnd : Hid (Below w2.heap.size w2 (w4.setCell ⟨w2.heap.size, q, none⟩ (.bool true)) ∧ (w4.setCell ⟨w2.heap.size, q, none⟩ (.bool true)).heap[w2.heap.size]? = some (.cells (encTP (d.set q true)).toArray 4 (0, 0))) :=
            ⟨(HBr.out.trans (hb4r.mono HBr.out.size)).setCell (Nat.le_refl _) _, by rw [setB' G4, encTP_set]⟩
          have HCn : Hid ((d.set q true).count true = j + 1) := by rw [Hid, count_done (by omega) dq, HCt.out]
          have lG : w2.heap.size < w4.heap.size := (Array.getElem?_eq_some_iff.1 G4).1
          have lb5 : b5 < w4.heap.size := World.block_lt_of_cell? _ _ n0
          have lb4 : b4' < w4.heap.size := World.block_lt_of_cell? _ _ e4
          have hq0 : (0 : Int) ≤ (q : Int) := by omega
          have hq1 : (q : Int) < (l.length : Int) := by omega
          have hqn : ¬ (q : Int) < 0 := by omega
          have hqg : ¬ (l.length : Int) ≤ (q : Int) := by omega
          clear e4 HG G4 HRm HNr HBr hi4 hb4r HCt
          generalize l.getD q M.nd0 = nd at *
          obtain ⟨x, y, z⟩ := nd
          simp only at n0 n1 n2 hlf hbk hrq
          cases hx : (x == -1)
          · have hxn : ¬ x < 0 := by have := hlf hx; omega
            clear hDc hbk hlf hrq
            go_wp2_with fail
            go_roundw
            case rel => exact ⟨j + 1, d.set q true, by omega, by go_num, by simp [hdl], HCn, HEnd.out.1, HEnd.out.2⟩
            case measure => simp [intOf]; omega
          · have hxn : x < 0 := by have h := beq_iff_eq.1 hx; omega
            obtain ⟨⟨hy0', hy1'⟩, hz0', hz1'⟩ := hbk hx
            obtain ⟨p, rfl⟩ : ∃ p : Nat, y = (p : Int) := ⟨y.toNat, by omega⟩
            obtain ⟨q', rfl⟩ : ∃ q' : Nat, z = (q' : Int) := ⟨z.toNat, by omega⟩
            rw [hx] at hrq
            simp only [Int.toNat_natCast, Bool.not_true, Bool.false_or, Bool.not_false, Bool.true_and, Bool.and_eq_true] at hrq
            have gp := hDc p (by omega)
            have gq := hDc q' (by omega)
            rw [hrq.1] at gp
            rw [hrq.2] at gq
            have hpl : (p : Int) < (l.length : Int) := by omega
            have hql' : (q' : Int) < (l.length : Int) := by omega
            clear hDc hbk hlf hrq hx
            go_wp2_with fail
            go_roundw
            case rel => exact ⟨j + 1, d.set q true, by omega, by go_num, by simp [hdl], HCn, HEnd.out.1, HEnd.out.2⟩
            case measure => simp [intOf]; omega
      · have hjl : j = l.length := by omega
        subst hjl
        have hre : M.ready l d = [] := ready_all hdl0 HCt.out
        rw [hre] at KR
        clear hre
        go_upto_region 20 with (go_at_call 11; refine KR.out.mono ?_; rintro e w3 ⟨hb3, b4, c4, rfl, hi3⟩)
        go_wp2_with fail
        go_ret
        exact ⟨rfl, HB2.out.trans ((HBr.out.trans (hb3.mono HBr.out.size)).mono HB2.out.size)⟩
  · have hne : (M.makeE n picks != 0) = true := by simpa using hE
    generalize M.makeE n picks = er at *
    generalize M.make n picks = l at *
    have KM : Hid (Calls Try.prog 6 #[.int .i64 n, .slice a1 picks.length c1] w fun e w' => Below w.heap.size w w' ∧ ∃ a c, e = .returned (.tuple #[.slice a l.length c, .int .i64 er]) ∧ NodesAt w' (.slice a l.length c) l ∧ l.length ≤ c) := KM
    have KP : Hid (∀ W, Calls Try.prog 7 #[] W fun e w' => e = .returned (.bool true) ∧ Below W.heap.size W w') := fun W => planned_true W
    clear h1 h2 hE
    go_enter Try.func4, Try.ntmps4
    go_upto_region 2 with (go_at_call 6; refine KM.out.mono ?_; rintro e w1 ⟨hb1, a3, c3, rfl, hN, hc3⟩)
    have HB1 : Hid (Below w.heap.size w w1) := hb1
    clear hb1 hN KM
    go_upto_region 3 with (go_at_call 7; refine (KP.out _).mono ?_; rintro e w2 ⟨rfl, hb2⟩)
    go_wp2_with (go_at_call 7; refine (KP.out _).mono ?_; rintro e w3 ⟨rfl, hb3⟩)
    go_ret
    exact ⟨rfl, HB1.out.trans ((hb2.trans (hb3.mono hb2.size)).mono HB1.out.size)⟩

end Go.Proofs.Ytohcimggpmcaeaa
